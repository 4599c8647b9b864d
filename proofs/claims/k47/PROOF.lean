import PyProof.Rows.All
import Wide.All
import OpenK.AllK
import Wide.FinOn
import KE.KStateDown
import HandS.Head0
import HandS.Head1
import HandS.Head2
import HandS.Head3
import PySem.Challenge.RW_labelmoves_k47_texts_told_surely
import KE.RegKIsAll
import HandS.ForMost
import HandS.ForExc
import HandS.ExcInit
import HandS.Wide
import HandS.WideMore
import HandS.WideBits
import HandS.IsInst
import HandS.Defaults
import HandS.FStr
import HandS.Property
import HandS.ClsMeth
import HandS.OwnEq
import HandS.Flow
import HandS.Style
import HandS.Conv
import HandS.Evl
import HandS.Codes
import HandS.StrMore
import HandS.DeepEq
import HandS.TryMany
import HandS.CallLocal
import HandS.EndBits
import HandS.MakeKw
import HandS.NoneIn
import HandS.RaiseMore
import KE.GoesEnum
import KE.KEqDeep
import KE.KMathG
import HandS.Gcd
import HandS.Rev
import PyProof.ReprRoads
import PyProof.ReprText
import HandS.FStrTup
import PyProof.JoinWalk
import PyProof.Rows.StrJoin2
import HandS.RevTup
import HandS.MapJoin
import HandS.Zip
import HandS.Walk
import PyProof.StrBlock2
import KE.GoesNew
import KE.GoesMore
import OpenK.KOps
import KE.KCallOwn
import KE.KUnpackStar
import PyProof.InstNe
import HandS.TryOnly
import KE.KIntText
import KE.IntTextText
import PyProof.StrLawsTight
import PyProof.StrLawsChain
import PyProof.Rows.StrItems
import HandS.Replace
import HandS.ReplaceLit
import HandS.ExcField
import HandS.ExcOwn
import HandS.WordsExc
import HandS.SetBool
import HandS.SetTxt0
import HandS.SetFor
import HandS.Strs
import HandS.Sort
import PyProof.Rows.SortShellAny
import HandS.TupAny
import HandS.ReplaceList
set_option Elab.async false
set_option linter.all false
set_option maxRecDepth 100000
/-! an end's top, run by the kernel in three equations of their own -/
namespace LM
open PySem PySem.W PySem.Calls PyProof.Rows HandSHeadRun
/-- the whole run at a world -/
noncomputable def topW (p : Program) (M : Nat) (w : World) : Option (Shared × SharedT) := wholeF (fun p => stepQ (denQ tabQ) p w) fenceQ M p
theorem top3 {α β γ δ : Type} {o : Option α} {f : α → β} {g : α → γ} {h : α → δ} {b : β} {c : γ} {d : δ} (e1 : o.map f = some b) (e2 : o.map g = some c) (e3 : o.map h = some d) : o.map (fun x => (f x, g x, h x)) = some (b, c, d) := by
  cases o with
  | none => cases e1
  | some x =>
    have e1' : f x = b := Option.some.inj e1
    have e2' : g x = c := Option.some.inj e2
    have e3' : h x = d := Option.some.inj e3
    show some (f x, g x, h x) = _
    rw [e1', e2', e3']
/-- the three ends of a run -/
structure Top3 (r : OpenRow) (q : Program) (H : Hook) (M : Nat) (loose : List PySem.Str) (w : World) : Prop where
  looks : (topW r.prog M w).map (fun x => looksF r.prog x.1.heap x.2.abs) = some true
  seen : (topW r.prog M w).map (fun x => seenQ q loose (importedModules r.prog.main.body) (fun s => xlAt q [] s && recOk r.toRowW.records s) x.2.abs) = some (openGood q loose)
  obs : (topW r.prog M w).map (fun x => H.obs x.2.abs) = some (H.val w)
theorem obsK {K : Params → PySem.W.Frag} {as : List Addr} {e : ∀ P, as = (K P).map (·.1)} {w : World} {o : Option (Shared × SharedT)} (h : o.map (fun x => as.map (getT x.2)) = some ((K w.params).map fun p => some p.2)) :
    o.map (fun x => (PySem.W.kHook K as e).obs x.2.abs) = some ((PySem.W.kHook K as e).val w) := by
  have z : (fun x : Shared × SharedT => (PySem.W.kHook K as e).obs x.2.abs) = fun x => as.map (getT x.2) := funext fun x => by
    show as.map x.2.abs.heap.get? = _
    exact congrArg (fun f => as.map f) (funext fun a => (getT_eq x.2 a).symm)
  rw [z]
  exact h
theorem Top3.run {r : OpenRow} {q : Program} {H : Hook} {M : Nat} {loose : List PySem.Str} {w : World} (t : Top3 r q H M loose w) : RunEqI r q H (fun s => H.obs s.abs) M loose w := top3 t.looks t.seen t.obs
/-- what a row asks of its text, the law's def as d -/
structure RowSaid (r : OpenRow) (q : Program) (d : DefRec) : Prop where
  inView : defOf q r.name = some (d, [])
  inText : r.prog.theDef r.name = some (d.params, d.body, d.scope)
  noKw : kwWritten? d.params.kwonlyargs d.params.kw_defaults = some []
  noDf : d.params.defaults = []
  tame : (!r.writes || r.records.isEmpty) = true
  opens : (chainsOk q && opensWell r.prog && (frees r.toRowW && r.within.isEmpty)) = true
  bare : r.prog.bare
theorem head_top3 {r : OpenRow} {q : Program} {H : Hook} {M : Nat} {loose : List PySem.Str} {d : DefRec} (sd : RowSaid r q d) (run : ∀ w, Top3 r q H M loose w) (said : r.wellSaid = true) (wit : r.toRowW.promised)
    (walk : WalkO q loose (XL q []) H.says r.toRowW d [] fun f vs => PySem.call f vs) : r.Holds :=
  head_imp (ob := fun s => H.obs s.abs) (fun _ => rfl) (fun w => (run w).run) sd.inView sd.inText sd.noKw sd.tame said sd.opens sd.bare wit walk
/-- a world's row, both ways -/
theorem byRow {P : World → Prop} (row : String) (t : ∀ w : World, P (w.withFollow row true)) (f : ∀ w : World, P (w.withFollow row false)) (w : World) : P w := by
  have e := World.withFollow_self w row
  cases hb : w.params.followText row <;> rw [hb] at e
  · rw [← e]; exact f w
  · rw [← e]; exact t w
end LM

set_option Elab.async false
set_option linter.all false
set_option maxRecDepth 100000
set_option maxHeartbeats 0
/-! the run of the top -/
namespace LM.HX
open PySem PySem.Spec PySem.W PyProof.Rows HandSHeadRun
abbrev R : PySem.W.OpenRow := PySem.W.OpenLaw.row PySem.Challenge.rw_labelmoves_k47_texts_told_surely
def q : Program := PySem.W.view R.prog [0, 83]
def loose : List PySem.Str := (["_wall", "__name__", "WrongValue", "InvalidLabel", "InvalidText", "InvalidNumber", "InvalidWay", "InvalidBases", "InvalidRows", "InvalidSeen", "InvalidMenu", "NoAnswer", "TooLong", "is_integer", "is_integer_within", "is_number", "check_number", "is_way", "check_way", "written_number", "has_figures_alone", "worth", "read_number", "is_label", "place_of", "label_at", "written_label", "MOST_BASES", "MOST_ROWS", "MOST_GROUPS"] : List PySem.Str) ++ (["groups_in_unit", "groups_to_repeat", "fitted_groups", "skipped_counts", "least_repeat", "sums_ahead", "last_not_above", "LEAST_BASE", "GREATEST_BASE", "GREATEST_EVERY", "check_bases", "is_row", "check_rows", "spaced", "house_text", "numbers_behind", "House", "MOST_IN_MENU", "check_menu", "is_sight", "check_seen", "fits", "fitting", "told_surely", "_law_vase", "_law_pour", "_law_pluck", "_law_divisor", "_law_multiple", "_law_ground"] : List PySem.Str) ++ (["_law_lanes", "_law_gap", "_law_place_house", "_law_house", "_law_spot", "_law_numbers", "_law_worded", "_law_built", "_law_again", "_law_written", "_law_shelf", "_law_sight", "_law_fits", "_law_due", "_law_right"] : List PySem.Str)
theorem looks_true (w : World) : (LM.topW R.prog 20000 (w.withFollow "special-get-raises" true)).map (fun x => looksF R.prog x.1.heap x.2.abs) = some true := by
  unfold LM.topW
  kernel_rfl
theorem looks_false (w : World) : (LM.topW R.prog 20000 (w.withFollow "special-get-raises" false)).map (fun x => looksF R.prog x.1.heap x.2.abs) = some true := by
  unfold LM.topW
  kernel_rfl
theorem looks (w : World) : (LM.topW R.prog 20000 w).map (fun x => looksF R.prog x.1.heap x.2.abs) = some true := LM.byRow (P := fun w => (LM.topW R.prog 20000 w).map (fun x => looksF R.prog x.1.heap x.2.abs) = some true) "special-get-raises" looks_true looks_false w
theorem seen_true (w : World) : (LM.topW R.prog 20000 (w.withFollow "special-get-raises" true)).map (fun x => seenQ q loose (importedModules R.prog.main.body) (fun s => xlAt q [] s && recOk R.toRowW.records s) x.2.abs) = some (openGood q loose) := by
  unfold LM.topW
  kernel_rfl
theorem seen_false (w : World) : (LM.topW R.prog 20000 (w.withFollow "special-get-raises" false)).map (fun x => seenQ q loose (importedModules R.prog.main.body) (fun s => xlAt q [] s && recOk R.toRowW.records s) x.2.abs) = some (openGood q loose) := by
  unfold LM.topW
  kernel_rfl
theorem seen (w : World) : (LM.topW R.prog 20000 w).map (fun x => seenQ q loose (importedModules R.prog.main.body) (fun s => xlAt q [] s && recOk R.toRowW.records s) x.2.abs) = some (openGood q loose) := LM.byRow (P := fun w => (LM.topW R.prog 20000 w).map (fun x => seenQ q loose (importedModules R.prog.main.body) (fun s => xlAt q [] s && recOk R.toRowW.records s) x.2.abs) = some (openGood q loose)) "special-get-raises" seen_true seen_false w
def dL : DefRec := topDef R.prog 83
abbrev dR : DefRec := ⟨("law" : PySem.Str), dL.params, dL.body, dL.scope, dL.pos⟩
theorem said : LM.RowSaid R q dR := ⟨by kernel_rfl, by kernel_rfl, by kernel_rfl, by kernel_rfl, by kernel_rfl, by kernel_rfl, ⟨by kernel_rfl, by kernel_rfl, by kernel_rfl, by kernel_rfl, by kernel_rfl, by decide +kernel⟩⟩
end LM.HX

set_option Elab.async false
set_option linter.all false
set_option maxRecDepth 100000
set_option maxHeartbeats 0
open PySem PySem.W PyProof.Rows
namespace LM.HX
noncomputable section
@[reducible] def HW (_ : Hook) : Prop := LM.HX.R.Holds
theorem HW.mk (H : Hook) (h : LM.HX.R.Holds) : HW H := h
section
set_option hygiene false in
local macro_rules | `(tactic| o_head $H) => `(tactic| exact HW.mk $H h)
def HP : {H : Hook // LM.HX.R.Holds → HW H} := by
  refine ⟨?a, fun h => ?b⟩
  case b => k_head
end
abbrev H : Hook := HP.1
theorem ob_true (w : World) : (LM.topW R.prog 20000 (w.withFollow "special-get-raises" true)).map (fun x => H.obs x.2.abs) = some (H.val (w.withFollow "special-get-raises" true)) := by
  refine LM.obsK (e := fun _ => by kernel_rfl) ?_
  unfold LM.topW
  kernel_rfl
theorem ob_false (w : World) : (LM.topW R.prog 20000 (w.withFollow "special-get-raises" false)).map (fun x => H.obs x.2.abs) = some (H.val (w.withFollow "special-get-raises" false)) := by
  refine LM.obsK (e := fun _ => by kernel_rfl) ?_
  unfold LM.topW
  kernel_rfl
theorem ob (w : World) : (LM.topW R.prog 20000 w).map (fun x => H.obs x.2.abs) = some (H.val w) := LM.byRow (P := fun w => (LM.topW R.prog 20000 w).map (fun x => H.obs x.2.abs) = some (H.val w)) "special-get-raises" ob_true ob_false w
end
end LM.HX

set_option Elab.async false
set_option linter.all false
set_option maxRecDepth 100000
set_option maxHeartbeats 4000000
namespace LM
open PySem PySem.Spec PyProof.Rows L2

/-- a def of the text that stands at its name and keeps its promise, nothing leaving it -/
structure DefK (P : Program) (w : World) (K : PySem.W.Frag) (mg : Str → Option Value) (base : Heap) (x : Str) (ps : List Str) (k : Nat) (sp : Sp) : Prop where
  all : ∃ (f : Addr) (fd : FuncData), FnOk P w K mg base CX0 k f fd ps sp ∧ mg x = some (.ref f) ∧ PySem.W.keepIn K (.ref f) = true ∧ Binds K fd ps []
theorem pe_d {X : Cx} {x : Str} {p pos : Pos} {e : Expr} {es : List Expr} {t : TA} {ps : List Str} {k : Nat} {sp : Sp} (D : DefK X.prog X.w X.K X.mg X.base x ps k sp) (hr : Room k X.A) (hg : Gl X x) (ha : PA X (e :: es) t)
    (hdb : (x == ("__debug__" : Str)) = false := by decide) (he : starEach (e :: es) X.env = (false, eval e X.env) :: starEach es X.env := by rfl) (hpl : (backTo pos (starEach es X.env)).any (·.1) = false := by rfl) :
    PE X (.Call (.Name x p) (e :: es) [] pos) (tCall sp [] E0 t) := by
  obtain ⟨f, fd, F, m, kp, b⟩ := D.all
  exact pe_call F hr hg m kp b .nil pass0 ha hdb he hpl
/-- a new thing leaves the rest as it was -/
theorem same_new {H : Hp} {p : Addr} {o : HO} (h : H p = none) : Same H (upd H p o) := fun b x e => by
  rw [upd_ne (ne_of_none e h)]
  exact e
theorem same_mut {H H' : Hp} {p : Addr} {o : HO} (s : Same H H') (h : H p = none) : Same H (upd H' p o) := fun b x e => by
  rw [upd_ne (ne_of_none e h)]
  exact s b x e
end LM
namespace LM
open PySem PySem.Spec PyProof.Rows L2
theorem ifD {p A B : Prop} [Decidable p] (h1 : p → A) (h2 : ¬ p → B) : if decide p = true then A else B := by
  by_cases h : p
  · rw [decide_eq_true h]
    exact iteT (h1 h)
  · rw [decide_eq_false h]
    exact iteF (h2 h)
theorem ifN {p A B : Prop} [Decidable p] (h1 : ¬ p → A) (h2 : p → B) : if (!decide p) = true then A else B := by
  by_cases h : p
  · rw [decide_eq_true h]
    exact iteF (h2 h)
  · rw [decide_eq_false h]
    exact iteT (h1 h)
theorem ifB {b : Bool} {A B : Prop} (h1 : b = true → A) (h2 : b = false → B) : if b = true then A else B := by
  cases b with
  | true => exact iteT (h1 rfl)
  | false => exact iteF (h2 rfl)
end LM
namespace LM
open PySem PySem.Spec PyProof.Rows L2
/-- both ways of a conditional expression hand on a value with P, the heap as it was -/
theorem if_join {p : Prop} [Decidable p] {ta tb : TE} {σ : L2.St} {H : Hp} {Q : VK} (P : V → Prop) (h1 : p → ∀ Q' : VK, (∀ v, P v → Q' v H) → ta σ H Q') (h2 : ¬ p → ∀ Q' : VK, (∀ v, P v → Q' v H) → tb σ H Q') (k : ∀ v, P v → Q v H) :
    if decide p = true then ta σ H Q else tb σ H Q := ifD (fun h => h1 h Q k) (fun h => h2 h Q k)
theorem Same.of_new {H H' : Hp} {p : Addr} {o : HO} (s : Same H H') (h : H' p = none) : Same H (upd H' p o) := s.trans (same_new h)
theorem nat_of {i : Int} (h : 0 ≤ i) : ∃ j : Nat, i = (j : Int) := ⟨i.toNat, by omega⟩
theorem map_get {ns : List Int} {j : Nat} (h : j < ns.length) : (ns.map V.int)[j]? = some (V.int ns[j]) := by
  rw [List.getElem?_map, List.getElem?_eq_getElem h]
  rfl
/-- the vase stands at p, the rest is as it was -/
def Else (p : Addr) (H H' : Hp) : Prop := ∀ b o, b ≠ p → H b = some o → H' b = some o
theorem Else.refl (p : Addr) (H : Hp) : Else p H H := fun _ _ _ h => h
theorem Else.trans {p : Addr} {H H1 H2 : Hp} (a : Else p H H1) (b : Else p H1 H2) : Else p H H2 := fun c o n h => b c o n (a c o n h)
theorem Same.els {p : Addr} {H H' : Hp} (s : Same H H') : Else p H H' := fun c o _ h => s c o h
theorem Else.seq {K : PySem.W.Frag} {p : Addr} {H H' : Hp} {a : Addr} {xs : List V} (e : Else p H H') (n : a ≠ p) (h : SqL K H a xs) : SqL K H' a xs := by
  rcases h with (h | ⟨o, h⟩) | h
  · exact .inl (.inl (e _ _ n h))
  · exact .inl (.inr ⟨o, e _ _ n h⟩)
  · exact .inr h
theorem Same.seqT {K : PySem.W.Frag} {H H' : Hp} {a : Addr} {xs : List V} (e : Same H H') (h : SqT K H a xs) : SqT K H' a xs := by
  rcases h with (h | ⟨o, h⟩) | h
  · exact .inl (.inl (e _ _ h))
  · exact .inl (.inr ⟨o, e _ _ h⟩)
  · exact .inr h
theorem divW {n : Int} (h0 : 0 < n) (h1 : n < 2 ^ 220) (i : Int) : CDivP i n := by
  refine ⟨h0, ?_⟩
  have hl : n.natAbs.log2 < 220 := (Nat.log2_lt (by omega)).mpr (by
    have : ((2 : Int) ^ 220) = ((2 ^ 220 : Nat) : Int) := by decide
    omega)
  unfold Builtin.divisionGoesByPylong
  simp only [Bool.and_eq_false_imp, decide_eq_true_eq]
  intro h
  exfalso
  split at h <;> omega
end LM
namespace LM
open PySem PySem.Spec PyProof.Rows L2
theorem cut_to (xs : List V) (n : Nat) : cutV xs none (some (n : Int)) = xs.take n := by
  unfold cutV
  rw [HT.sIx_none, HT.sIx_nat, List.drop_zero, Nat.sub_zero]
  by_cases h : n ≤ xs.length
  · rw [Nat.min_eq_left h]
  · rw [Nat.min_eq_right (by omega), List.take_of_length_le (Nat.le_refl _), List.take_of_length_le (by omega)]
theorem cut_from (xs : List V) (n : Nat) : cutV xs (some (n : Int)) none = xs.drop n := by
  unfold cutV
  rw [HT.sIx_none, HT.sIx_nat]
  by_cases h : n ≤ xs.length
  · rw [Nat.min_eq_left h, List.take_of_length_le (by rw [List.length_drop]; exact Nat.le_refl _)]
  · rw [Nat.min_eq_right (by omega), List.drop_eq_nil_of_le (Nat.le_refl _), List.drop_eq_nil_of_le (by omega), List.take_nil]
theorem sIx_last (n d : Nat) : HT.sIx n d (some (-1)) = n - 1 := by
  show (if (-1 : Int) < 0 then (-1 + (n : Int)).toNat else min (-1 : Int).toNat n) = n - 1
  rw [if_pos (by decide)]
  omega
theorem cut_but (xs : List V) : cutV xs none (some (-1)) = xs.dropLast := by
  unfold cutV
  rw [HT.sIx_none, sIx_last, List.drop_zero, Nat.sub_zero, List.dropLast_eq_take]
theorem cut_fb (xs : List V) (n : Nat) (h : n + 1 ≤ xs.length) : cutV xs (some (n : Int)) (some (-1)) = xs.dropLast.drop n := by
  unfold cutV
  rw [HT.sIx_nat, sIx_last, Nat.min_eq_left (by omega), List.dropLast_eq_take, List.drop_take]
theorem cut_ft (xs : List V) (a b : Nat) (hb : b ≤ xs.length) (hab : a ≤ b) : cutV xs (some (a : Int)) (some (b : Int)) = (xs.drop a).take (b - a) := by
  unfold cutV
  rw [HT.sIx_nat, HT.sIx_nat, Nat.min_eq_left hb, Nat.min_eq_left (by omega)]
/-- a new list, what is known of it -/
theorem lst_new {H : Hp} {xs : List V} {Q : V → Hp → Prop} (h : ∀ p H', H p = none → Same H H' → H' p = some (.lst xs) → Q (.ref p) H') : ∀ p, H p = none → Q (.ref p) (upd H p (.lst xs)) := fun p n => h p _ n (same_new n) upd_same
theorem tup_new {H : Hp} {xs : List V} {Q : V → Hp → Prop} (h : ∀ p H', H p = none → Same H H' → H' p = some (.tup xs) → Q (.ref p) H') : ∀ p, H p = none → Q (.ref p) (upd H p (.tup xs)) := fun p n => h p _ n (same_new n) upd_same
theorem small {n : Nat} (h : n ≤ 1000000) : n ≤ sizeLine := Nat.le_trans h (by decide)
theorem smallLt {n : Nat} (h : n ≤ 1000000) : n < sizeLine := Nat.lt_of_le_of_lt h (by decide)
theorem SqL.lst {K : PySem.W.Frag} {H : Hp} {a : Addr} {xs : List V} (h : H a = some (.lst xs)) : SqL K H a xs := .inl (.inl h)
theorem SqT.tup {K : PySem.W.Frag} {H : Hp} {a : Addr} {xs : List V} (h : H a = some (.tup xs)) : SqT K H a xs := .inl (.inl h)
end LM
namespace LM
theorem idP {p : Prop} (h : p) : p := h
end LM
namespace LM
open PySem PySem.Spec PyProof.Rows L2
theorem pe_const {X : Cx} {x : Str} {pos : Pos} {i : Int} (hg : Gl X x) (h : ∃ t, X.mg x = some (.int i t)) (hdb : (x == ("__debug__" : Str)) = false := by decide) : PE X (.Name x pos) (tC (.int i)) := by
  obtain ⟨t, e⟩ := h
  exact pe_glob hg e ⟨t, rfl⟩ hdb
theorem pe_ty {X : Cx} {x : Str} {pos : Pos} (T : String) (hg : Gl X x) (hm : X.mg x = none) (hv : bootBuiltins x = some (.type T)) (hn : x ≠ "__name__" := by decide) (hdb : (x == ("__debug__" : Str)) = false := by decide) : PE X (.Name x pos) (tC (.ty T)) :=
  pe_bltn hg hm hv rfl hn hdb
end LM

set_option Elab.async false
set_option linter.all false
set_option maxRecDepth 100000
set_option maxHeartbeats 4000000
namespace LM
open PySem PySem.Spec PyProof.Rows L2

/-! ### any(xs) of a list of ints -/
theorem nz_range : ∀ ks : List Int, (List.range ks.length).any (fun j => decide (ks.getD j 0 ≠ 0)) = ks.any (fun k => decide (k ≠ 0))
  | [] => rfl
  | k :: ks => by
    rw [List.length_cons, List.range_succ_eq_map, List.any_cons, List.any_map, List.any_cons, ← nz_range ks]
    all_goals rfl
theorem truth_nums {prog : Program} {w : World} {A : Around} {ks : List Int} {vs : List Value} (e : Vals (ks.map V.int) vs) :
    TruthOf prog w A (fun j v => vs.toArray[j]? = some v) (fun j => decide (ks.getD j 0 ≠ 0)) := fun j v s Q E hv hq => by
  have hv' : vs[j]? = some v := by simpa using hv
  have hl : (ks.map V.int).length = vs.length := e.length
  have hj : j < ks.length := by
    have := (List.getElem?_eq_some_iff.mp hv').1
    rw [← hl, List.length_map] at this
    exact this
  have hk : (ks.map V.int)[j]? = some (V.int ks[j]) := by rw [List.getElem?_map, List.getElem?_eq_getElem hj]; rfl
  obtain ⟨u, hu, ru⟩ := e.get hk
  rw [hv'] at hu
  cases hu
  obtain ⟨t, rfl⟩ := ru
  have hg : ks.getD j 0 = ks[j] := by rw [List.getD_eq_getElem?_getD, List.getElem?_eq_getElem hj]; rfl
  have hq' : Q (decide (ks.getD j 0 ≠ 0)) s := hq
  rw [hg] at hq'
  have eb : decide (ks[j] ≠ 0) = (ks[j] != 0) := by
    by_cases z : ks[j] = 0
    · rw [z]; rfl
    · rw [decide_eq_true z]; exact (bne_iff_ne.mpr z).symm
  rw [eb] at hq'
  first | exact PyProof.Rows.truthy_int hq' | exact PySem.P.truthy_int hq'
def rAnyI (K : PySem.W.Frag) : List V → Hp → VK → Prop := fun vs H Q => ∃ (a : Addr) (ks : List Int), vs = [V.ref a] ∧ SqL K H a (ks.map V.int) ∧ Q (.bl (ks.any fun k => decide (k ≠ 0))) H
theorem cr_anyI {X : Cx} (hc : X.calm = true) : CallR X (.builtin "any") (rAnyI X.K) := by
  intro pins s σ H vs us Q I r h
  obtain ⟨a, ks, rfl, hs, q⟩ := h
  obtain ⟨its, rv, hl, _⟩ := I.list hs
  rw [Vals.ref1 r]
  have hlen : (ks.map V.int).length = its.length := rv.length
  refine call_any_walk (iter_any hl.isList fun s2 e2 st hne => ?_)
  subst e2
  refine ⟨_, _, _, _, _, _, _, rfl, Walks.list (A := X.A.in1) (I.ok.hd hc) _ a hne its.toArray, st, truth_nums rv, fun h' tk hk => ?_⟩
  refine ⟨.bl _, H, I.kept fun b o eo => hk b o (fun hm => ?_) (Heap.get?_push_of_some _ eo), ?_, q⟩
  · rcases List.mem_cons.mp hm with z | hm
    · exact absurd (z ▸ Heap.lt_size eo) (Nat.lt_irrefl _)
    · cases hm
  · show Value.bool _ = Value.bool _
    rw [← nz_range, List.size_toArray, ← hlen, List.length_map]

/-! ### math.lcm -/
def rLcm : List V → Hp → VK → Prop := fun vs H Q => ∃ a b : Int, vs = [.int a, .int b] ∧ a.natAbs < 2 ^ 30 ∧ b.natAbs < 2 ^ 30 ∧ Q (.int ((Nat.lcm a.natAbs b.natAbs : Nat) : Int)) H
theorem lcm_small {a b : Nat} (ha : a < 2 ^ 30) (hb : b < 2 ^ 30) : (Nat.lcm a b).log2 < 60 := by
  have h1 : Nat.lcm a b ≤ a * b := by
    rcases Nat.eq_zero_or_pos (a * b) with z | z
    · have e : Nat.lcm a b = 0 := by
        unfold Nat.lcm
        rw [z, Nat.zero_div]
      omega
    · exact Nat.le_of_dvd z (Nat.lcm_dvd (Nat.dvd_mul_right a b) (Nat.dvd_mul_left b a))
  have h2 : a * b < 2 ^ 30 * 2 ^ 30 := Nat.lt_of_le_of_lt (Nat.mul_le_mul_right b (Nat.le_of_lt ha)) (Nat.mul_lt_mul_of_pos_left hb (by decide))
  have h3 : Nat.lcm a b < 2 ^ 60 := by
    have : (2 : Nat) ^ 30 * 2 ^ 30 = 2 ^ 60 := by decide
    omega
  rcases Nat.eq_zero_or_pos (Nat.lcm a b) with z | z
  · rw [z]; decide
  · exact (Nat.log2_lt (by omega)).mpr h3
theorem cr_lcm {X : Cx} : CallR X (.builtin "math.lcm") rLcm := by
  intro pins s σ H vs us Q I r h
  obtain ⟨a, b, rfl, ha, hb, q⟩ := h
  obtain ⟨t, u, rfl⟩ := Vals.int2 r
  have e1 : (Nat.lcm 1 a.natAbs) = a.natAbs := Nat.lcm_one_left _
  have hs : (((((Nat.lcm 1 a.natAbs).lcm b.natAbs : Nat) : Int)).natAbs).log2 < bitsLine := by
    rw [e1, Int.natAbs_natCast]
    exact Nat.lt_trans (lcm_small ha hb) (by decide)
  refine PySem.W.mg_lcm (Nat.lt_trans ha (by decide)) (Nat.lt_trans hb (by decide)) hs ?_
  rw [e1]
  exact ⟨.int _, H, I.tok _, ⟨_, rfl⟩, q⟩

/-! ### a *= b -/
theorem ip_mul {X : Cx} : PIp X .Mult (rI CMul fun i j => .int (i * j)) := fun pins s σ H x y v u Q I rx ry h => iop_mul pins s σ H x y v u Q I rx ry h

/-! ### enumerate(t), t a tuple -/
theorem enumT_new {v : Value} {o : Obj} {J : Heap → Prop} (B : Begins v o J) :
    Meets (Builtin.«enumerate.__new__» ⟨[.type "enumerate", v], []⟩) (fun _ R s => J s.heap ∧
      R (.ok (.ret (.ref (s.heap.push o).objs.size))) { s with heap := (s.heap.push o).push { cls := .type "enumerate", data := .fields #[.none, .bool false, .ref s.heap.objs.size, rawInt 0, .none, .none] } }) :=
  .of_wp fun prog w A R s h => by
    obtain ⟨hp, gs, dr, tk, os⟩ := s
    obtain ⟨hj, hr⟩ := h
    have hsub := sub_enumerate
    have go : ∀ {A' : Around} {E Q : Value → Shared → Prop}, Q (.ref hp.objs.size) ⟨hp.push o, gs, dr, tk, os⟩ → wpAny (model prog w) A' (pyIter v) Q E ⟨hp, gs, dr, tk, os⟩ :=
      fun q => B.iter prog w _ _ ⟨hp, gs, dr, tk, os⟩ _ hj q
    wp_walk using go
    refine wpAny_stack_any fun st => wpAny_pure ?_
    split
    · rename_i c _ _ _ _ _
      cases (c == Value.type "enumerate") <;> (wp_walk using go; exact ⟨_, rfl, hr⟩)
    · wp_walk using go
      exact ⟨_, rfl, hr⟩
theorem enumT_call {prog : Program} {w : World} {A : Around} {E : Value → Shared → Prop} {s : Shared} {v : Value} {o : Obj} {J : Heap → Prop} {Q : Value → Shared → Prop} (B : Begins v o J) (hj : J s.heap)
    (h : ∀ h', IsEnum h' (s.heap.objs.size + 1) s.heap.objs.size 0 .none → h'.get? s.heap.objs.size = some o → (∀ b u, s.heap.get? b = some u → h'.get? b = some u) → Q (.ref (s.heap.objs.size + 1)) { s with heap := h' }) :
    wpAny (model prog w) A (call (.type "enumerate") [v]) Q E s := by
  refine callType_new F.called_enumerate (by decide) (F.typeCall_enumerate_1 _) (F.newCall_enumerate_1 _) (fun obj => F.args_object_init_2 obj _) F.entry_enumerate_new (enumT_new B) ⟨hj, ?_⟩
  have z : (s.heap.push o).objs.size = s.heap.objs.size + 1 := Heap.size_push ..
  show _ ∧ _
  rw [z]
  have he : IsEnum ((s.heap.push o).push { cls := .type "enumerate", data := .fields #[.none, .bool false, .ref s.heap.objs.size, rawInt 0, .none, .none] }) (s.heap.objs.size + 1) s.heap.objs.size 0 .none := by
    have y := Heap.get?_push_size (s.heap.push o) (o := { cls := .type "enumerate", data := .fields #[.none, .bool false, .ref s.heap.objs.size, rawInt 0, .none, .none] }) rfl
    rw [z] at y
    exact y
  exact ⟨⟨_, he, rfl⟩, h _ he (Heap.get?_push_of_some _ (Heap.get?_push_size _ B.free)) fun b u x => Heap.get?_push_of_some _ (Heap.get?_push_of_some _ x)⟩
/-- the tuple at a, each item in a new pair with its index -/
def IteT (K : PySem.W.Frag) (a : Addr) : It :=
  ⟨fun i H => ∃ (xs : List V) (x : V), SqT K H a xs ∧ xs[i]? = some x,
   fun i H v H' => ∃ T x, v = .ref T ∧ H T = none ∧ H' = upd H T (.tup [.int (i : Nat), x]) ∧ ∀ xs, SqT K H a xs → xs[i]? = some x,
   fun i H => ∃ xs : List V, SqT K H a xs ∧ xs.length ≤ i⟩
theorem turn_enumT {P : Program} {w : World} {K : PySem.W.Frag} {elts : List Expr} {kk : Nat} {tpos : Pos} (a e it : Addr) (hai : a ≠ it) (hae : a ≠ e) :
    Turn P w K (.Tuple elts kk tpos) (IteT K a) [e, it] e (fun i h => (∃ old, IsEnum h e it ((i : Nat) : Int) old) ∧ h.IsTupleIter it a i ∧ e ≠ it) where
  mem := by simp
  obj := fun i h st b hb => by
    obtain ⟨⟨old, he⟩, ⟨o, ho, hc, hd⟩, _⟩ := st
    rcases (show b = e ∨ b = it by simpa using hb) with z | z
    · rw [z]
      exact ⟨_, he, fun v q => nomatch q⟩
    · rw [z]
      exact ⟨o, ho, fun v q => by rw [hd] at q; cases q⟩
  keep := fun i h h' st k => by
    obtain ⟨⟨old, he⟩, hi, hne⟩ := st
    exact ⟨⟨old, k e (by simp) _ he⟩, hi.at fun o q => k it (by simp) o q, hne⟩
  item := by
    intro X hP hw hK hc i pins s σ H E I hf st hg
    subst hP hw hK
    obtain ⟨⟨old, he⟩, hit, hne⟩ := st
    obtain ⟨xs, x, hq, hx⟩ := hg
    obtain ⟨its, rv, p, hz⟩ := I.tuple hq
    obtain ⟨u, hu, ru⟩ := rv.get hx
    have hel : e < s.heap.objs.size := Heap.lt_size he
    have hil : it < s.heap.objs.size := by obtain ⟨_, q, _⟩ := hit; exact Heap.lt_size q
    have D := Draws.tuple (prog := X.prog) (w := X.w) (A := X.A.in1) (I.ok.hd hc) it a hai its.toArray
    have hlt : i < its.toArray.size := by
      have := (List.getElem?_eq_some_iff.mp hu).1
      simpa using this
    refine wpAny_pyNext_enum_itemD D he ⟨hit, show s.heap.IsTuple a its.toArray from p⟩ hlt hne (fun hm => ?_) fun y h' tk hy ho hst hT hsz hk => ?_
    · rcases (show e = it ∨ e = a by simpa using hm) with z | z
      · exact hne z
      · exact hae z.symm
    have ey : y = u := by
      have h1 : its.toArray[i]? = some y := hy
      have h2 : its[i]? = some y := by simpa using h1
      exact Option.some.inj (h2.symm.trans hu)
    subst ey
    refine ⟨_, rfl, wpAny_letOwnedTupleGo_enum (s := { s with heap := h', toks := tk + 1 }) ho fun h2 he2 sb => ?_⟩
    have hT2 : h2.get? s.heap.objs.size = some { cls := .type "tuple", data := .seq #[.int i tk, y] } := (sb.2 _ (Nat.ne_of_gt hel)).trans hT
    have new : ObjOk X.prog X.w (upd H s.heap.objs.size (.tup [.int (i : Nat), x])) h2 s.heap.objs.size (.tup [.int (i : Nat), x]) :=
      ⟨by show 2 ≤ sizeLine; decide, [.int i tk, y], .cons ⟨_, rfl⟩ (.cons ru .nil), ⟨_, hT2, rfl, _, rfl⟩⟩
    have J : Inv X pins σ (upd H s.heap.objs.size (.tup [.int (i : Nat), x])) { s with heap := h2, toks := tk + 1 } :=
      I.turnedNew (ch := [e, it]) (fun b ob hb q => (sb.2 b (fun z => hb (by simp [z]))).trans (hk b ob (fun z => hb (by simp [z])) (fun z => hb (by simp [z])) q)) hf (Nat.le_refl _) new
    refine ⟨.ref s.heap.objs.size, _, J, rfl, ⟨_, x, rfl, I.hok.fresh (Nat.le_refl _), rfl, fun ys hys => by rw [I.tuple_inj hys hq]; exact hx⟩, ⟨⟨y, ?_⟩, hst.1.at fun o q => (sb.2 it (Ne.symm hne)).trans q, hne⟩, fun b hb => ?_⟩
    · have e1 : ((i + 1 : Nat) : Int) = (i : Int) + 1 := by omega
      rw [e1]
      exact he2
    · have hb' : b < s.heap.objs.size := by
        rcases (show b = e ∨ b = it by simpa using hb) with z | z
        · rw [z]; exact hel
        · rw [z]; exact hil
      rw [upd_ne (Nat.ne_of_lt hb')]
      exact (hf b hb).1
  done := by
    intro X hP hw hK hc i pins s σ H E I hf st hg
    subst hP hw hK
    obtain ⟨⟨old, he⟩, hit, hne⟩ := st
    obtain ⟨xs, hq, hx⟩ := hg
    obtain ⟨its, rv, p, hz⟩ := I.tuple hq
    obtain ⟨f0, f1, f2, f3, f4, f5⟩ := hf it (by simp)
    have hl := rv.length
    have D := Draws.tuple (prog := X.prog) (w := X.w) (A := X.A.in1) (I.ok.hd hc) it a hai its.toArray
    have hT : s.TypeIs (.ref e) "enumerate" := ⟨_, he, rfl⟩
    unfold pyNext
    refine wpAny_bind (wpAny_attempt (wpAny_callSpecial?_slot (name := Str.ofString "__next__") hT F.slot_enumerate_next
      (wpAny_call_entry F.slot_enumerate_next hT F.entry_enumerate_next ?_ (F.args_enumerate_next_1 _))))
    show wpAny _ _ (field (.ref e) 2 >>= _) _ _ _
    refine wpAny_bind (wpAny_field he rfl (x := .ref it) rfl ?_)
    refine wpAny_bind (wpAny_nextOf_tuple_end (I.ok.hd hc) hit (show s.heap.IsTuple a its.toArray from p) (by simp; omega) fun h' y hy hy' => ?_)
    obtain ⟨o, ho, hcl⟩ := hy'
    refine wpAny_bind (wpAny_isInstance (T := "StopIteration") (b := true) ⟨o, ho, hcl⟩ isSubtype_stop ?_)
    exact wpAny_pure ⟨rfl, I.turned (t' := s.toks) (fun b o hb q => hy b o hb q) f0 f1 f3 f4 f5⟩
  self := fun A i s Q E st h => by
    obtain ⟨⟨_, he⟩, _⟩ := st
    exact wpAny_pyIter_enum he h
def iEnumT (K : PySem.W.Frag) (ta : TA) : TI := fun σ H R => ta σ H fun vs H1 => ∃ a xs, vs = [.ref a] ∧ SqT K H1 a xs ∧ R (IteT K a) H1
theorem pi_enumT {X : Cx} {e : Expr} {ta : TA} {p pos tpos : Pos} {elts : List Expr} {kk : Nat} (hg : Gl X "enumerate") (hm : X.mg "enumerate" = none) (ha : PA X [e] ta) (hs : starEach [e] X.env = [(false, eval e X.env)] := by rfl) :
    PI X (.Tuple elts kk tpos) (.Call (.Name "enumerate" p) [e] [] pos) (iEnumT X.K ta) := by
  refine ⟨fun pins s σ H R I h => ?_⟩
  refine Call_ (ld_blt I hg hm boot_enumerate (PyProof.Rows.callWith_type1 (thn (ha.run pos pins s σ H _ I h) fun us s1 ⟨vs, H1, I1, r1, q1⟩ => ?_) hs rfl))
  obtain ⟨a, xs, ex, hq, q⟩ := q1
  subst ex
  rw [Vals.ref1 r1]
  obtain ⟨its, rv, tp, hz⟩ := I1.tuple hq
  have hla : a < s1.heap.objs.size := by obtain ⟨o, ho, _⟩ := tp; exact Heap.lt_size ho
  refine enumT_call (begins_tuple a its.toArray) (show s1.heap.IsTuple a its.toArray from tp) fun h' he hit hk => wpAny_pyIter_enum he ?_
  have I2 : Inv X pins σ H1 { s1 with heap := h' } := I1.kept (t' := s1.toks) hk
  refine ⟨s1.heap.objs.size + 1, [s1.heap.objs.size + 1, s1.heap.objs.size], _, _, H1, rfl, I2, turn_enumT a (s1.heap.objs.size + 1) s1.heap.objs.size (Nat.ne_of_lt hla) (Nat.ne_of_lt (Nat.lt_succ_of_lt hla)), ⟨⟨.none, he⟩, ⟨_, hit, rfl, rfl⟩, Nat.succ_ne_self _⟩, fun b hb => ?_, q⟩
  have hle : s1.heap.objs.size ≤ b := by
    rcases (show b = s1.heap.objs.size + 1 ∨ b = s1.heap.objs.size by simpa using hb) with z | z
    · rw [z]; exact Nat.le_add_right _ _
    · rw [z]; exact Nat.le_refl _
  exact I1.fpOk hle (I1.hok.fresh hle)
theorem for_enumT {K : PySem.W.Frag} {a : Addr} {xs : List V} {g : TG} {tb : TS} {D : Ends} {σ : L2.St} {H : Hp} (Pv : Nat → L2.St → Hp → Prop) (h0 : Pv 0 σ H) (hl : ∀ i σ H, i ≤ xs.length → Pv i σ H → SqT K H a xs)
    (hs : ∀ i x T σ H, xs[i]? = some x → H T = none → Pv i σ H → g (.ref T) σ (upd H T (.tup [.int (i : Nat), x])) fun σ2 H2 => tb { D with nx := Pv (i + 1), ct := Pv (i + 1), bk := D.nx } σ2 H2) (hd : ∀ σ H, Pv xs.length σ H → D.nx σ H) :
    ∃ W : Nat → Nat → L2.St → Hp → Prop, (∃ m, W 0 m σ H) ∧ ∀ i m σ H, W i m σ H →
      ((IteT K a).stop i H ∧ D.nx σ H) ∨ ((IteT K a).go i H ∧ ∃ N : L2.St → Hp → Prop, (∀ σ' H', N σ' H' → ∃ m', m' < m ∧ W (i + 1) m' σ' H') ∧ ∀ x H', (IteT K a).yld i H x H' → g x σ H' fun σ2 H2 => tb { D with nx := N, ct := N, bk := D.nx } σ2 H2) := by
  refine ⟨fun i m σ H => m = xs.length - i ∧ i ≤ xs.length ∧ Pv i σ H, ⟨xs.length, by simp, Nat.zero_le _, h0⟩, ?_⟩
  rintro i m σ H ⟨rfl, hi, p⟩
  have q := hl i σ H hi p
  by_cases hlt : i < xs.length
  · refine .inr ⟨⟨xs, xs[i], q, by simp [hlt]⟩, Pv (i + 1), fun σ' H' p' => ⟨xs.length - (i + 1), by omega, rfl, hlt, p'⟩, fun v H' y => ?_⟩
    obtain ⟨T, x, rfl, nT, rfl, f⟩ := y
    exact hs i x T σ H (f xs q) nT p
  · have e : i = xs.length := by omega
    subst e
    exact .inl ⟨⟨xs, q, Nat.le_refl _⟩, hd σ H p⟩
end LM
namespace LM
open PySem PySem.Spec PyProof.Rows L2
theorem hu64 {k : Nat} {A : Around} (hr : Room k A) : A.units + 64 < cLine := by
  have := hr.units
  omega
theorem dp_ints {K : PySem.W.Frag} {H : Hp} : ∀ ns : List Int, DpAll K H (ns.map V.int) (ns.map PyData.int)
  | [] => .nil
  | n :: ns => .cons (.int n) (dp_ints ns)
theorem lay_ints : ∀ ns : List Int, PyData.canLayAll0 (ns.map PyData.int) = true
  | [] => by simp [PyData.canLayAll0]
  | n :: ns => by simp [PyData.canLayAll0, PyData.canLay0, lay_ints ns]
theorem dep_ints : ∀ ns : List Int, PyData.depthAll (ns.map PyData.int) = 0
  | [] => by simp [PyData.depthAll]
  | n :: ns => by simp [PyData.depthAll, PyData.depth, dep_ints ns]
theorem shaped_ints (ns : List Int) : SeqAt.shaped (.list (ns.map PyData.int)) = true := by
  unfold SeqAt.shaped
  rw [PyData.canLay0, lay_ints, PyData.depth, dep_ints]
  rfl
theorem shaped_intsT (ns : List Int) : SeqAt.shaped (.tuple (ns.map PyData.int)) = true := by
  unfold SeqAt.shaped
  rw [PyData.canLay0, lay_ints, PyData.depth, dep_ints]
  rfl
/-- two lists of ints, two tuples of ints compared -/
def rEqIs (K : PySem.W.Frag) : R2 := fun x y H Q => ∃ (a b : Addr) (ns ms : List Int), x = .ref a ∧ y = .ref b ∧ ((SqL K H a (ns.map V.int) ∧ SqL K H b (ms.map V.int)) ∨ (SqT K H a (ns.map V.int) ∧ SqT K H b (ms.map V.int))) ∧ Q (.bl (decide (ns = ms))) H
theorem op_eqIs {X : Cx} (hu : X.A.units + 64 < cLine) : OpR X (compareOp .Eq) (rEqIs X.K) := by
  intro pins s σ H x y v u Q I rx ry h
  obtain ⟨a, b, ns, ms, rfl, rfl, h1, q⟩ := h
  rcases h1 with ⟨h1, h2⟩ | ⟨h1, h2⟩
  · refine op_eqD hu pins s σ H _ _ v u Q I rx ry ⟨.list (ns.map .int), .list (ms.map .int), .lst h1 (dp_ints ns), .lst h2 (dp_ints ms), shaped_ints ns, shaped_ints ms, ?_⟩
    rw [PyData.eqv, PySem.W.ked_eqvAll]
    exact q
  · refine op_eqD hu pins s σ H _ _ v u Q I rx ry ⟨.tuple (ns.map .int), .tuple (ms.map .int), .tup h1 (dp_ints ns), .tup h2 (dp_ints ms), shaped_intsT ns, shaped_intsT ms, ?_⟩
    rw [PyData.eqv, PySem.W.ked_eqvAll]
    exact q
def rNeIs (K : PySem.W.Frag) : R2 := fun x y H Q => ∃ (a b : Addr) (ns ms : List Int), x = .ref a ∧ y = .ref b ∧ ((SqL K H a (ns.map V.int) ∧ SqL K H b (ms.map V.int)) ∨ (SqT K H a (ns.map V.int) ∧ SqT K H b (ms.map V.int))) ∧ Q (.bl (!decide (ns = ms))) H
theorem op_neIs {X : Cx} (hu : X.A.units + 64 < cLine) : OpR X (compareOp .NotEq) (rNeIs X.K) := by
  intro pins s σ H x y v u Q I rx ry h
  obtain ⟨a, b, ns, ms, rfl, rfl, h1, q⟩ := h
  rcases h1 with ⟨h1, h2⟩ | ⟨h1, h2⟩
  · refine op_neD hu pins s σ H _ _ v u Q I rx ry ⟨.list (ns.map .int), .list (ms.map .int), .lst h1 (dp_ints ns), .lst h2 (dp_ints ms), shaped_ints ns, shaped_ints ms, ?_⟩
    rw [PyData.eqv, PySem.W.ked_eqvAll]
    exact q
  · refine op_neD hu pins s σ H _ _ v u Q I rx ry ⟨.tuple (ns.map .int), .tuple (ms.map .int), .tup h1 (dp_ints ns), .tup h2 (dp_ints ms), shaped_intsT ns, shaped_intsT ms, ?_⟩
    rw [PyData.eqv, PySem.W.ked_eqvAll]
    exact q
end LM

set_option Elab.async false
set_option linter.all false
set_option maxRecDepth 100000
set_option maxHeartbeats 4000000
namespace LM
open PySem PySem.Spec PyProof.Rows L2
local macro_rules | `(tactic| walk_at "hp") => `(tactic| first | assumption | exact upd_same | (rw [upd_ne (by assumption)]; assumption) | (rw [upd_ne (Ne.symm (by assumption))]; assumption) | (rw [upd_ne (by assumption)]; exact upd_same) | (rw [upd_ne (Ne.symm (by assumption))]; exact upd_same))
local macro_rules | `(tactic| walk_at "sq") => `(tactic| first | assumption | exact Or.inl (Or.inl (by assumption)) | exact Or.inl (Or.inl upd_same) | exact Or.inl (Or.inl (by walk_at "hp")))
local macro_rules | `(tactic| walk_at "ixl") => `(tactic| refine ⟨_, _, _, _, rfl, rfl, (by walk_at "sq"), (by rfl), ?_⟩)
local macro_rules | `(tactic| walk_at "setl") => `(tactic| refine ⟨_, _, _, _, rfl, rfl, (by walk_at "hp"), (by rfl), ?_⟩)
local macro_rules | `(tactic| walk_at "side") => `(tactic| refine idP ?_; first | omega | (show (0 : Int) < _; omega) | (show (0 : Int) < _ ∧ _ < _; omega) | (refine Or.inr ?_; show (-(2 ^ 64) : Int) < _ ∧ _ < _; omega) | (refine Or.inl ?_; show (-(2 ^ 64) : Int) < _ ∧ _ < _; omega) | exact divW (by omega) (by omega) _ | (refine ⟨by decide, by decide, ?_⟩; decide))
local macro_rules | `(tactic| walk_at "go1") => `(tactic| first
  | refine ⟨_, rfl, ?_⟩
  | refine ⟨_, _, rfl, rfl, (by walk_at "side"), ?_⟩
  | refine ⟨_, _, rfl, (by walk_at "side"), ?_⟩
  | refine ⟨_, _, rfl, rfl, ?_⟩
  | refine Or.inl ⟨_, rfl, ?_⟩
  | refine ⟨_, _, rfl, Or.inl (by walk_at "sq"), ?_⟩
  | walk_at "ixl"
  | walk_at "setl"
  | refine ⟨_, _, rfl, (by walk_at "sq"), rfl, ?_⟩
  | refine ⟨_, _, rfl, (by walk_at "sq"), ?_⟩
  | refine ⟨_, _, rfl, ?_⟩
  | refine ⟨rfl, ?_⟩
  | refine ⟨small (Nat.le_of_ble_eq_true rfl), ?_⟩)
local macro_rules | `(tactic| walk_at "go") => `(tactic| repeat walk_at "go1")

def topS (i : Nat) : Stmt := PySem.Challenge.pw_labelmoves_k47_texts_told_surely.main.body.getD i (.Pass ⟨0, 0, 0, 0⟩)
/-- the names of the built-ins that no def of the text takes -/
structure Names (mg : Str → Option Value) : Prop where
  len : mg "len" = none
  int : mg "int" = none
  str : mg "str" = none
  abs : mg "abs" = none
  divmod : mg "divmod" = none
  range : mg "range" = none
  any : mg "any" = none
  all : mg "all" = none
  sum : mg "sum" = none
  min : mg "min" = none
  max : mg "max" = none
  list : mg "list" = none
  tuple : mg "tuple" = none
  enumerate : mg "enumerate" = none
  reversed : mg "reversed" = none
  isinstance : mg "isinstance" = none
  bool : mg "bool" = none
  repr : mg "repr" = none
  zip : mg "zip" = none
  sorted : mg "sorted" = none
  set : mg "set" = none
  lcm : mg "lcm" = some (.builtin "math.lcm")
abbrev s_law_vase : Stmt := topS 62
theorem sc_law_vase : FnScope ["_law_cells", "_law_turn", "_law_cell", "_law_blend", "_law_each"] ["_law_cells", "_law_turn"] (defScope s_law_vase) := ⟨rfl, rfl, rfl, by decide +kernel, rfl, by decide +kernel, by decide +kernel⟩
abbrev s_law_pour : Stmt := topS 63
theorem sc_law_pour : FnScope ["_law_vase_here", "_law_top", "_law_digit"] ["_law_vase_here", "_law_top"] (defScope s_law_pour) := ⟨rfl, rfl, rfl, by decide +kernel, rfl, by decide +kernel, by decide +kernel⟩
abbrev s_law_pluck : Stmt := topS 64
theorem sc_law_pluck : FnScope ["_law_vase_here", "_law_things"] ["_law_vase_here", "_law_things"] (defScope s_law_pluck) := ⟨rfl, rfl, rfl, by decide +kernel, rfl, by decide +kernel, by decide +kernel⟩
/-- a vase at p: two numbers from 0 on, and a count -/
def VaseAt (H : Hp) (p : Addr) : Prop := ∃ a b c : Int, 0 ≤ a ∧ 0 ≤ b ∧ 0 ≤ c ∧ H p = some (.lst [.int a, .int b, .int c])
def spVase (K : PySem.W.Frag) : Sp := fun vs H Q _ => ∃ (a : Addr) (ns : List Int) (t : Nat), vs = [.ref a, .int t] ∧ SqL K H a (ns.map V.int) ∧ ns.length ≤ 63 ∧
  ∀ H' p, Same H H' → H p = none → VaseAt H' p → Q (.ref p) H'
def spPour : Sp := fun vs H Q _ => ∃ (p : Addr) (n : Int), vs = [.ref p, .int n] ∧ VaseAt H p ∧ 0 < n ∧ n < 2 ^ 220 ∧ ∀ (d : Int) H', 0 ≤ d → d < n → VaseAt H' p → Else p H H' → Q (.int d) H'
def spPluck (K : PySem.W.Frag) : Sp := fun vs H Q _ => ∃ (p m : Addr) (ys : List V), vs = [.ref p, .ref m] ∧ VaseAt H p ∧ m ≠ p ∧ SqL K H m ys ∧ 0 < ys.length ∧ ys.length ≤ 20000 ∧
  ∀ v H', v ∈ ys → VaseAt H' p → Else p H H' → Q v H'
section
variable {P : Program} {w : World} {K : PySem.W.Frag} {mg : Str → Option Value} {base : Heap}
theorem ok_vase {f : Addr} {fd : FuncData} (F : Fun K "_law_vase" "_law_vase" s_law_vase f fd) (N : Names mg) : FnOk P w K mg base CX0 1 f fd ["_law_cells", "_law_turn"] (spVase K) := by
  have sc := sc_law_vase
  refine F.ok sc (fun vs H Q E h => ?_) (fun cdv A outer s H vs Q E hr h => ?_)
  · obtain ⟨a, ns, t, rfl, _⟩ := h
    rfl
  · obtain ⟨a, ns, t, rfl, hS, hl, k⟩ := h
    have hu := hu_of hr
    refine ⟨_, (pss_cons (ps_set (i := 2) sc.nd rfl (Or.inl rfl) (pe_ifExp (pt_cmpR op_lt (pv 1) (pe_callB call_len_seq (by rfl) N.len (by decide +kernel) (pa_cons (pv 0) pa_nil)) (nomark _)) (pe_ix ix_list (pv 0) (pv 1) (fun _ _ => rfl)) (pe_op op_add (pe_op op_mul pe_int (pv 1)) pe_int)))
      (pss_cons (ps_set (i := 3) sc.nd rfl (Or.inl rfl) (pe_op op_add pe_int (pe_op op_mul pe_int (pv 1))))
      (pss_cons (ps_for PassesOwn.never rfl (pi_list (pe_op op_cat (pe_slice sl_list (pv 0) po_none (po_some pe_int)) (pe_lst (pa_cons (pv 2) pa_nil)))) (pg_name (i := 4) sc.nd rfl (Or.inl rfl)) (pss_one (ps_set (i := 3) sc.nd rfl (Or.inl rfl) (pe_op op_mod (pe_callTy (T := "int") call_int1 (by rfl) N.int (by decide +kernel) (pa_cons (pe_op op_add (pe_op op_mul (pv 3) pe_int) (pv 4)) pa_nil)) pe_int))))
      (pss_one (ps_ret (pe_lst (pa_cons (pe_ifExp (PW.pt (pw_or (pt_cmpR op_lt (pv 2) pe_int (nomark _)) (pw_or1 (pt_cmpR op_ge (pv 2) (pe_op op_pow pe_int pe_int) (nomark _))))) (pe_callB call_abs (by rfl) N.abs (by decide +kernel) (pa_cons (pv 2) pa_nil)) pe_int) (pa_cons (pv 3) (pa_cons pe_int pa_nil))))))))), ?_⟩
    walk_at "go"
    refine if_join (fun v => ∃ c : Int, v = .int c) (fun hd Q' k' => ?_) (fun hd Q' k' => ?_) ?_
    · have ht : t < ns.length := by
        rw [List.length_map] at hd
        omega
      exact ⟨_, rfl, _, rfl, _, _, _, _, rfl, rfl, hS, atI_nat (map_get ht), k' _ ⟨_, rfl⟩⟩
    · walk_at "go"
      exact k' _ ⟨_, rfl⟩
    rintro v ⟨c, rfl⟩
    walk_at "go"
    (intro p1 n1; generalize e_p1 : upd H p1 _ = H1; have s1 : Same H H1 := fun b x hb => (congrFun e_p1 b).symm.trans (same_new n1 b x hb); have h1 := (congrFun e_p1 p1).symm.trans upd_same; clear e_p1)
    walk_at "go"
    (intro p2 n2; generalize e_p2 : upd H1 p2 _ = H2; have s2 : Same H1 H2 := fun b x hb => (congrFun e_p2 b).symm.trans (same_new n2 b x hb); have h2 := (congrFun e_p2 p2).symm.trans upd_same; clear e_p2)
    have h12 : H2 p1 = some (.lst ((ns.take 6).map V.int)) := by
      rw [s2 _ _ h1]
      exact congrArg (fun l => some (HO.lst l)) ((cut_to _ 6).trans List.map_take.symm)
    refine ⟨p1, p2, _, _, rfl, rfl, h12, h2, ?_, ?_⟩
    · exact small (by simp; omega)
    (intro p3 n3; generalize e_p3 : upd H2 p3 _ = H3; have s3 : Same H2 H3 := fun b x hb => (congrFun e_p3 b).symm.trans (same_new n3 b x hb); have h3 := (congrFun e_p3 p3).symm.trans upd_same; clear e_p3)
    have h3' : H3 p3 = some (.lst ((ns.take 6 ++ [c]).map V.int)) := by
      rw [h3, List.map_append]
      rfl
    have sa : Same H H3 := (s1.trans s2).trans s3
    refine ⟨p3, rfl, ⟨_, SqL.lst h3'⟩, for_list (K := K) (xs := (ns.take 6 ++ [c]).map V.int) (fun i σ H' => ∃ (b : Int) (v : Option V), 0 ≤ b ∧ σ = [some (.ref a), some (.int t), some (.int c), some (.int b), v] ∧ Same H H' ∧ H' p3 = some (.lst ((ns.take 6 ++ [c]).map V.int)))
      ⟨70003 + 7919 * (t : Int), none, by omega, rfl, sa, h3'⟩ (fun i σ H' _ ⟨b, v, _, _, _, e⟩ => SqL.lst e) ?_ ?_⟩
    · rintro i x σ H' hx ⟨b, v, hb, rfl, sm, e⟩
      obtain ⟨z, hz, rfl⟩ : ∃ z, (ns.take 6 ++ [c])[i]? = some z ∧ x = V.int z := by
        rw [List.getElem?_map] at hx
        obtain ⟨z, hz, e⟩ := Option.map_eq_some_iff.mp hx
        exact ⟨z, hz, e.symm⟩
      walk_at "go"
      exact ⟨_, _, Int.emod_nonneg _ (by decide), rfl, sm, e⟩
    · rintro σ H' ⟨b, v, hb, rfl, sm, e⟩
      have fin : ∀ x : Int, 0 ≤ x → ∀ p, H' p = none → Q (.ref p) (upd H' p (.lst [.int x, .int b, .int 0])) := fun x hx p n => k _ p (Same.of_new sm n) (sm.free n) ⟨x, b, 0, hx, hb, by omega, upd_same⟩
      walk_at "go"
      refine ifD (fun h1 => iteT ?_) (fun h1 => ?_)
      · walk_at "go"
        exact fin _ (by split <;> omega)
      · walk_at "go"
        refine ifD (fun h2 => ?_) (fun h2 => ?_)
        · walk_at "go"
          refine fin _ (by split <;> omega)
        · walk_at "go"
          refine fin _ (by omega)
theorem ok_pour {f : Addr} {fd : FuncData} (F : Fun K "_law_pour" "_law_pour" s_law_pour f fd) (N : Names mg) : FnOk P w K mg base CX0 1 f fd ["_law_vase_here", "_law_top"] spPour := by
  have sc := sc_law_pour
  refine F.ok sc (fun vs H Q E h => ?_) (fun cdv A outer s H vs Q E hr h => ?_)
  · obtain ⟨p, n, rfl, _⟩ := h
    rfl
  · obtain ⟨p, n, rfl, ⟨a, b, c, ha, hb, hc, hp⟩, h0, h1, k⟩ := h
    have hu := hu_of hr
    refine ⟨_, (pss_cons (ps_asg (pe_op op_add (pe_ix ix_list (pv 0) pe_int (fun _ _ => rfl)) pe_int) (pg_sub (pv 0) pe_int set_list))
      (pss_cons (ps_if (pt_cmpR op_gt (pe_ix ix_list (pv 0) pe_int (fun _ _ => rfl)) pe_int (nomark _)) (pss_cons (ps_asg (pe_callB call_divmodW (by rfl) N.divmod (by decide +kernel) (pa_cons (pe_ix ix_list (pv 0) pe_int (fun _ _ => rfl)) (pa_cons (pv 1) pa_nil))) (pg_tup rfl (pgs_cons (pg_sub (pv 0) pe_int set_list) (pgs_cons (pg_name (i := 2) sc.nd rfl (Or.inl rfl)) pgs_nil))))
      (pss_one (ps_ret (pv 2)))) pss_nil)
      (pss_cons (ps_asg (pe_op op_mod (pe_callTy (T := "int") call_int1 (by rfl) N.int (by decide +kernel) (pa_cons (pe_op op_add (pe_op op_mul (pe_ix ix_list (pv 0) pe_int (fun _ _ => rfl)) pe_int) (pe_op op_mul pe_int (pe_ix ix_list (pv 0) pe_int (fun _ _ => rfl)))) pa_nil)) pe_int) (pg_sub (pv 0) pe_int set_list))
      (pss_one (ps_ret (pe_op op_mod (pe_callTy (T := "int") call_int1 (by rfl) N.int (by decide +kernel) (pa_cons (pe_op op_fdiv (pe_ix ix_list (pv 0) pe_int (fun _ _ => rfl)) pe_int) pa_nil)) (pv 1))))))), ?_⟩
    walk_at "go"
    refine ifD (fun hd => ?_) (fun hd => ?_)
    · walk_at "go"
      intro t ht
      have htp : t ≠ p := fun e => by rw [e, upd_same] at ht; cases ht
      have hbp : ∀ {x : Addr} {o : HO}, x ≠ p → H x = some o → x ≠ t := fun hx e => ne_of_none (by rw [upd_ne hx]; exact e) ht
      walk_at "go"
      refine k (a % n) _ (Int.emod_nonneg _ (by omega)) (Int.emod_lt_of_pos _ h0) ⟨a / n, b, c + 1, Int.ediv_nonneg ha (by omega), hb, by omega, upd_same⟩ (fun x o hx e => ?_)
      rw [upd_ne hx, upd_ne (hbp hx e), upd_ne hx]
      exact e
    · walk_at "go"
      refine k _ _ (Int.emod_nonneg _ (by omega)) (Int.emod_lt_of_pos _ h0) ⟨a, _, c + 1, ha, Int.emod_nonneg _ (by omega), by omega, upd_same⟩ (fun x o hx e => ?_)
      rw [upd_ne hx, upd_ne hx]
      exact e
theorem ok_pluck {f : Addr} {fd : FuncData} (F : Fun K "_law_pluck" "_law_pluck" s_law_pluck f fd) (N : Names mg) (D_law_pour : DefK P w K mg base "_law_pour" ["_law_vase_here", "_law_top"] 1 spPour) : FnOk P w K mg base CX0 2 f fd ["_law_vase_here", "_law_things"] (spPluck K) := by
  have sc := sc_law_pluck
  refine F.ok sc (fun vs H Q E h => ?_) (fun cdv A outer s H vs Q E hr h => ?_)
  · obtain ⟨p, m, ys, rfl, _⟩ := h
    rfl
  · obtain ⟨p, m, ys, rfl, hv, hmp, hm, h0, h1, k⟩ := h
    refine ⟨_, (pss_one (ps_ret (pe_ix ix_list (pv 1) (pe_d D_law_pour (hr.mono (by decide)) rfl (pa_cons (pv 0) (pa_cons (pe_callB call_len_seq (by rfl) N.len (by decide +kernel) (pa_cons (pv 1) pa_nil)) pa_nil))) (fun _ _ => rfl)))), ?_⟩
    refine ⟨_, rfl, _, rfl, _, rfl, _, _, rfl, .inl hm, _, _, rfl, hv, by omega, by omega, fun d H' hd0 hd1 hv' he => ?_⟩
    obtain ⟨j, rfl⟩ := nat_of hd0
    have hj : j < ys.length := by omega
    exact ⟨_, _, _, _, rfl, rfl, he.seq hmp hm, atI_nat (List.getElem?_eq_getElem hj), k _ _ (List.getElem_mem hj) hv' he⟩
end
end LM

set_option Elab.async false
set_option linter.all false
set_option maxRecDepth 100000
set_option maxHeartbeats 4000000
namespace LM
open PySem PySem.Spec PyProof.Rows L2
local macro_rules | `(tactic| walk_at "hp") => `(tactic| first | assumption | exact upd_same | (rw [upd_ne (by assumption)]; assumption) | (rw [upd_ne (Ne.symm (by assumption))]; assumption) | (rw [upd_ne (by assumption)]; exact upd_same) | (rw [upd_ne (Ne.symm (by assumption))]; exact upd_same))
local macro_rules | `(tactic| walk_at "sq") => `(tactic| first | assumption | exact Or.inl (Or.inl (by assumption)) | exact Or.inl (Or.inl upd_same) | exact Or.inl (Or.inl (by walk_at "hp")))
local macro_rules | `(tactic| walk_at "ixl") => `(tactic| refine ⟨_, _, _, _, rfl, rfl, (by walk_at "sq"), (by rfl), ?_⟩)
local macro_rules | `(tactic| walk_at "setl") => `(tactic| refine ⟨_, _, _, _, rfl, rfl, (by walk_at "hp"), (by rfl), ?_⟩)
local macro_rules | `(tactic| walk_at "side") => `(tactic| refine idP ?_; first | omega | (show (0 : Int) < _; omega) | (show (0 : Int) < _ ∧ _ < _; omega) | (refine Or.inr ?_; show (-(2 ^ 64) : Int) < _ ∧ _ < _; omega) | (refine Or.inl ?_; show (-(2 ^ 64) : Int) < _ ∧ _ < _; omega) | exact divW (by omega) (by omega) _ | (refine ⟨by decide, by decide, ?_⟩; decide))
local macro_rules | `(tactic| walk_at "go1") => `(tactic| first
  | refine ⟨_, rfl, ?_⟩
  | refine ⟨_, _, rfl, rfl, (by walk_at "side"), ?_⟩
  | refine ⟨_, _, rfl, (by walk_at "side"), ?_⟩
  | refine ⟨_, _, rfl, rfl, ?_⟩
  | refine Or.inl ⟨_, rfl, ?_⟩
  | refine ⟨_, _, rfl, Or.inl (by walk_at "sq"), ?_⟩
  | walk_at "ixl"
  | walk_at "setl"
  | refine ⟨_, _, rfl, (by walk_at "sq"), rfl, ?_⟩
  | refine ⟨_, _, rfl, (by walk_at "sq"), ?_⟩
  | refine ⟨_, _, rfl, ?_⟩
  | refine ⟨rfl, ?_⟩
  | refine ⟨small (Nat.le_of_ble_eq_true rfl), ?_⟩)
local macro_rules | `(tactic| walk_at "go") => `(tactic| repeat walk_at "go1")

abbrev s_law_ground : Stmt := topS 67
theorem sc_law_ground : FnScope ["_law_vase_here", "_law_most", "_law_turn"] ["_law_vase_here", "_law_most"] (defScope s_law_ground) := ⟨rfl, rfl, rfl, by decide +kernel, rfl, by decide +kernel, by decide +kernel⟩
abbrev s_law_lanes : Stmt := topS 68
theorem sc_law_lanes : FnScope ["_law_vase_here", "_law_ground_here", "_law_found", "_law_turn", "_law_field", "_law_every"] ["_law_vase_here", "_law_ground_here"] (defScope s_law_lanes) := ⟨rfl, rfl, rfl, by decide +kernel, rfl, by decide +kernel, by decide +kernel⟩
abbrev R3 := Int × Int × Int
/-- at l a list of rows, each a list of three ints, none of it at p -/
def LanesAt (p : Addr) (H : Hp) (l : Addr) (rows : List R3) : Prop :=
  ∃ as : List Addr, l ≠ p ∧ (∀ a ∈ as, a ≠ p) ∧ H l = some (.lst (as.map V.ref)) ∧ Paired (fun a (r : R3) => H a = some (.lst [.int r.1, .int r.2.1, .int r.2.2])) as rows
theorem paired_imp {α β : Type} {F G : α → β → Prop} : ∀ {as : List α} {bs : List β}, Paired F as bs → (∀ a ∈ as, ∀ b, F a b → G a b) → Paired G as bs
  | _, _, .nil, _ => .nil
  | _, _, .cons r t, f => .cons (f _ List.mem_cons_self _ r) (paired_imp t fun a h => f a (List.mem_cons_of_mem _ h))
theorem paired_app {α β : Type} {F : α → β → Prop} : ∀ {as : List α} {bs : List β} {a : α} {b : β}, Paired F as bs → F a b → Paired F (as ++ [a]) (bs ++ [b])
  | _, _, _, _, .nil, h => .cons h .nil
  | _, _, _, _, .cons r t, h => .cons r (paired_app t h)
theorem paired_left {α β : Type} {F : α → β → Prop} : ∀ {as : List α} {bs : List β} {a : α}, Paired F as bs → a ∈ as → ∃ b, b ∈ bs ∧ F a b
  | _, _, _, .cons r t, h => by
    rcases List.mem_cons.mp h with e | h
    · exact ⟨_, List.mem_cons_self, e ▸ r⟩
    · obtain ⟨b, hb, f⟩ := paired_left t h
      exact ⟨b, List.mem_cons_of_mem _ hb, f⟩
theorem paired_at {α β : Type} {F : α → β → Prop} : ∀ {as : List α} {bs : List β} {i : Nat} {a : α}, Paired F as bs → as[i]? = some a → ∃ b, bs[i]? = some b ∧ F a b
  | _, _, 0, _, .cons r _, h => by
    simp at h
    exact ⟨_, rfl, h ▸ r⟩
  | _, _, i + 1, _, .cons _ t, h => by
    obtain ⟨b, hb, f⟩ := paired_at (i := i) t (by simpa using h)
    exact ⟨b, by simpa using hb, f⟩
theorem LanesAt.els {p l : Addr} {H H' : Hp} {rows : List R3} (h : LanesAt p H l rows) (e : Else p H H') : LanesAt p H' l rows := by
  obtain ⟨as, hl, ha, e1, e2⟩ := h
  exact ⟨as, hl, ha, e _ _ hl e1, paired_imp e2 fun a m r q => e _ _ (ha a m) q⟩
theorem LanesAt.same {p l : Addr} {H H' : Hp} {rows : List R3} (h : LanesAt p H l rows) (e : Same H H') : LanesAt p H' l rows := h.els (Same.els e)
/-- a row of a house with these bases, its every at most m -/
def RowOk (m : Int) (gs : List Int) (r : R3) : Prop := 0 ≤ r.1 ∧ r.1 < gs.length ∧ 1 ≤ r.2.1 ∧ r.2.1 ≤ m ∧ 0 ≤ r.2.2 ∧ r.2.2 < gs.getLastD 1
def spGround (K : PySem.W.Frag) : Sp := fun vs H Q _ => ∃ (p : Addr) (most : Int), vs = [.ref p, .int most] ∧ VaseAt H p ∧ 3 ≤ most ∧ most ≤ 100 ∧
  ∀ (g : Addr) (gs : List Int) (H' : Hp), H g = none → H' g = some (.lst (gs.map V.int)) → 1 ≤ gs.length → gs.length ≤ 3 → (∀ x ∈ gs, 2 ≤ x ∧ x ≤ most) → VaseAt H' p → Else p H H' → Q (.ref g) H'
section
variable {P : Program} {w : World} {K : PySem.W.Frag} {mg : Str → Option Value} {base : Heap}
theorem VaseAt.same {H H' : Hp} {p : Addr} (h : VaseAt H p) (s : Same H H') : VaseAt H' p := by
  obtain ⟨a, b, c, h1, h2, h3, e⟩ := h
  exact ⟨a, b, c, h1, h2, h3, s _ _ e⟩
theorem VaseAt.ne {H : Hp} {p q : Addr} (h : VaseAt H p) (n : H q = none) : q ≠ p := by
  obtain ⟨a, b, c, h1, h2, h3, e⟩ := h
  exact fun z => by rw [z, e] at n; cases n
theorem ok_ground {f : Addr} {fd : FuncData} (F : Fun K "_law_ground" "_law_ground" s_law_ground f fd) (N : Names mg) (D_law_pour : DefK P w K mg base "_law_pour" ["_law_vase_here", "_law_top"] 1 spPour)
    (D_law_pluck : DefK P w K mg base "_law_pluck" ["_law_vase_here", "_law_things"] 2 (spPluck K)) : FnOk P w K mg base CX0 3 f fd ["_law_vase_here", "_law_most"] (spGround K) := by
  have sc := sc_law_ground
  refine F.ok sc (fun vs H Q E h => ?_) (fun cdv A outer s H vs Q E hr h => ?_)
  · obtain ⟨p, m, rfl, _⟩ := h
    rfl
  · obtain ⟨p, most, rfl, hv, hm0, hm1, k⟩ := h
    refine ⟨_, (pss_one (ps_ret (pe_lc (own := [("_law_turn", 2)]) rfl sc.nd (pi_range1 rfl N.range (pa_cons (pe_d D_law_pluck (hr.mono (by decide)) rfl (pa_cons (pv 0) (pa_cons (pe_lst (pa_cons pe_int (pa_cons pe_int (pa_cons pe_int (pa_cons pe_int pa_nil))))) pa_nil))) pa_nil)) (blkOk_by (own := [("_law_turn", 2)]) (N := ["_law_vase_here", "_law_most", "_law_turn"]) (sc := defScope (topS 67)) (by decide +kernel)) (fun _ _ _ _ _ => (pg_name (i := 2) sc.nd rfl (Or.inl rfl))) (fun _ _ _ _ _ => pts_nil) (fun _ _ _ _ _ => (pe_op op_add pe_int (pe_d D_law_pour (hr.mono (by decide)) rfl (pa_cons (pv 0) (pa_cons (pe_op op_sub (pv 1) pe_int) pa_nil)))))))), ?_⟩
    walk_at "go"
    (intro m nm; generalize e_m : upd H m _ = H1; have s1 : Same H H1 := fun b x hb => (congrFun e_m b).symm.trans (same_new nm b x hb); have h1 := (congrFun e_m m).symm.trans upd_same; clear e_m)
    have hv1 := hv.same s1
    refine ⟨p, m, _, rfl, hv1, hv.ne nm, SqL.lst h1, (by decide), (by decide), fun v H2 hm hv2 e2 => ?_⟩
    obtain ⟨n, rfl, n0, n1⟩ : ∃ n : Nat, v = .int (n : Int) ∧ 1 ≤ n ∧ n ≤ 3 := by
      simp at hm
      rcases hm with rfl | rfl | rfl
      · exact ⟨1, rfl, by decide, by decide⟩
      · exact ⟨2, rfl, by decide, by decide⟩
      · exact ⟨3, rfl, by decide, by decide⟩
    refine ⟨_, rfl, by omega, by omega, ?_⟩
    intro D nD
    have hDp : D ≠ p := hv2.ne nD
    refine lc_range (n := n) (fun i H' => VaseAt H' p ∧ (∀ b o, b ≠ p → H b = some o → H' b = some o) ∧ ∃ gs : List Int, H' D = some (.lst (gs.map V.int)) ∧ gs.length = i ∧ ∀ x ∈ gs, 2 ≤ x ∧ x ≤ most)
      ⟨hv2.same (same_new nD), fun b o nb e => ?_, [], upd_same, rfl, fun x hx => nomatch hx⟩ ?_ ?_
    · have e' := e2 b o nb (s1 b o e)
      exact same_new nD b o e'
    · rintro i H' hi ⟨hv', ee, gs, eD, hl, hg⟩
      refine ⟨rfl, ?_⟩
      refine ⟨_, rfl, _, rfl, _, _, rfl, rfl, ?_⟩
      refine ⟨p, _, rfl, hv', by omega, by omega, fun d H4 d0 d1 hv4 e4 => ?_⟩
      refine ⟨_, _, rfl, rfl, ?_⟩
      have e4D := e4 _ _ hDp eD
      refine ⟨_, e4D, smallLt (by rw [List.length_map]; omega), ?_, fun b o nb eb => ?_, gs ++ [2 + d], ?_, by simp [hl], fun x hx => ?_⟩
      · obtain ⟨a, b, c, h1, h2, h3, eb⟩ := hv4
        exact ⟨a, b, c, h1, h2, h3, by rw [upd_ne hDp.symm]; exact eb⟩
      · have nbD : b ≠ D := fun z => by
          have e' := e2 b o nb (s1 b o eb)
          rw [z, nD] at e'
          cases e'
        rw [upd_ne nbD]
        exact e4 b o nb (ee b o nb eb)
      · rw [upd_same, List.map_append]
        rfl
      · rcases List.mem_append.mp hx with hx | hx
        · exact hg x hx
        · simp at hx
          omega
    · rintro H' ⟨hv', ee, gs, eD, hl, hg⟩
      refine k D gs H' ?_ eD (by omega) (by omega) hg hv' ee
      cases q : H D with
      | none => rfl
      | some o =>
        have e' := e2 D o hDp (s1 D o q)
        rw [nD] at e'
        cases e'
def spLanes (K : PySem.W.Frag) : Sp := fun vs H Q _ => ∃ (p g : Addr) (gs : List Int), vs = [.ref p, .ref g] ∧ VaseAt H p ∧ g ≠ p ∧ SqL K H g (gs.map V.int) ∧ 1 ≤ gs.length ∧ gs.length ≤ 3 ∧ (∀ x ∈ gs, 2 ≤ x ∧ x ≤ 60) ∧
  ∀ (l : Addr) (rows : List R3) (H' : Hp), H l = none → LanesAt p H' l rows → rows.length ≤ 3 → (∀ r ∈ rows, RowOk 4 gs r) → VaseAt H' p → Else p H H' → Q (.ref l) H'
theorem getLastD_map (gs : List Int) (h : 1 ≤ gs.length) : atI (gs.map V.int) (-1) = some (V.int (gs.getLastD 1)) := by
  have hne : gs ≠ [] := fun e => by rw [e] at h; exact absurd h (by decide)
  have e : gs = gs.dropLast ++ [gs.getLastD 1] := by
    rw [List.getLastD_eq_getLast?, List.getLast?_eq_some_getLast hne]
    exact (List.dropLast_concat_getLast hne).symm
  have e2 : gs.map V.int = (gs.dropLast.map V.int) ++ [V.int (gs.getLastD 1)] := by
    conv => lhs; rw [e]
    rw [List.map_append]
    rfl
  rw [e2]
  exact atI_last _ _
theorem lastD_mem {gs : List Int} (h : 1 ≤ gs.length) : gs.getLastD 1 ∈ gs := by
  have hne : gs ≠ [] := fun e => by rw [e] at h; exact absurd h (by decide)
  rw [List.getLastD_eq_getLast?, List.getLast?_eq_some_getLast hne]
  exact List.getLast_mem hne
theorem ok_lanes {f : Addr} {fd : FuncData} (F : Fun K "_law_lanes" "_law_lanes" s_law_lanes f fd) (N : Names mg) (D_law_pour : DefK P w K mg base "_law_pour" ["_law_vase_here", "_law_top"] 1 spPour)
    (D_law_pluck : DefK P w K mg base "_law_pluck" ["_law_vase_here", "_law_things"] 2 (spPluck K)) : FnOk P w K mg base CX0 3 f fd ["_law_vase_here", "_law_ground_here"] (spLanes K) := by
  have sc := sc_law_lanes
  refine F.ok sc (fun vs H Q E h => ?_) (fun cdv A outer s H vs Q E hr h => ?_)
  · obtain ⟨p, g, gs, rfl, _⟩ := h
    rfl
  · obtain ⟨p, g, gs, rfl, hv, hgp, hg, g0, g1, gb, k⟩ := h
    refine ⟨_, (pss_cons (ps_set (i := 2) sc.nd rfl (Or.inl rfl) (pe_lst pa_nil))
      (pss_cons (ps_for PassesOwn.never rfl (pi_range1 rfl N.range (pa_cons (pe_d D_law_pluck (hr.mono (by decide)) rfl (pa_cons (pv 0) (pa_cons (pe_lst (pa_cons pe_int (pa_cons pe_int (pa_cons pe_int (pa_cons pe_int (pa_cons pe_int (pa_cons pe_int pa_nil))))))) pa_nil))) pa_nil)) (pg_name (i := 3) sc.nd rfl (Or.inl rfl)) (pss_cons (ps_par (i := 4) (j := 5) rfl sc.nd rfl rfl (by decide) rfl rfl (pa_cons (pe_d D_law_pour (hr.mono (by decide)) rfl (pa_cons (pv 0) (pa_cons (pe_callB call_len_seq (by rfl) N.len (by decide +kernel) (pa_cons (pv 1) pa_nil)) pa_nil))) (pa_cons (pe_d D_law_pluck (hr.mono (by decide)) rfl (pa_cons (pv 0) (pa_cons (pe_lst (pa_cons pe_int (pa_cons pe_int (pa_cons pe_int (pa_cons pe_int (pa_cons pe_int pa_nil)))))) pa_nil))) pa_nil)) (by rfl))
      (pss_one (ps_expr (pe_bm PySem.F.plainAttrs_list PySem.F.slot_list_append PySem.F.type_list_append mt_append (pv 2) (pa_cons (pe_lst (pa_cons (pv 4) (pa_cons (pv 5) (pa_cons (pe_d D_law_pour (hr.mono (by decide)) rfl (pa_cons (pv 0) (pa_cons (pe_ix ix_list (pv 1) (pe_un un_neg pe_int) (fun _ _ => rfl)) pa_nil))) pa_nil)))) pa_nil))))))
      (pss_one (ps_ret (pv 2))))), ?_⟩
    walk_at "go"
    (intro l nl; generalize e_l : upd H l _ = H1; have s1 : Same H H1 := fun b x hb => (congrFun e_l b).symm.trans (same_new nl b x hb); have h1 := (congrFun e_l l).symm.trans upd_same; clear e_l)
    refine ⟨_, rfl, Nat.le_of_ble_eq_true rfl, ?_⟩
    (intro m nm; generalize e_m : upd H1 m _ = H2; have s2 : Same H1 H2 := fun b x hb => (congrFun e_m b).symm.trans (same_new nm b x hb); have h2 := (congrFun e_m m).symm.trans upd_same; clear e_m)
    refine ⟨p, m, _, rfl, (hv.same s1).same s2, (hv.same s1).ne nm, SqL.lst h2, (by decide), (by decide), fun v H3 hm hv3 e3 => ?_⟩
    obtain ⟨n, rfl, n1⟩ : ∃ n : Nat, v = .int (n : Int) ∧ n ≤ 3 := by
      simp at hm
      rcases hm with rfl | rfl | rfl | rfl
      · exact ⟨0, rfl, by decide⟩
      · exact ⟨1, rfl, by decide⟩
      · exact ⟨2, rfl, by decide⟩
      · exact ⟨3, rfl, by decide⟩
    have hlp : l ≠ p := hv.ne nl
    have hH3 : Else p H H3 := (Same.els (s1.trans s2)).trans e3
    have hl3 : H3 l = some (.lst []) := e3 _ _ hlp (s2 _ _ h1)
    refine ⟨_, rfl, by omega, by omega, ?_⟩
    refine for_range (n := n) (fun i σ H' => ∃ v3 v4 v5 : Option V, σ = [some (.ref p), some (.ref g), some (.ref l), v3, v4, v5] ∧ VaseAt H' p ∧ Else p H H' ∧
        ∃ (as : List Addr) (rows : List R3), H' l = some (.lst (as.map V.ref)) ∧ (∀ a ∈ as, a ≠ p) ∧ Paired (fun a (r : R3) => H' a = some (.lst [.int r.1, .int r.2.1, .int r.2.2])) as rows ∧ rows.length = i ∧ ∀ r ∈ rows, RowOk 4 gs r)
      ⟨none, none, none, rfl, hv3, hH3, [], [], hl3, (fun a h => nomatch h), .nil, rfl, (fun r h => nomatch h)⟩ ?_ ?_
    · rintro i σ H' hi ⟨v3, v4, v5, rfl, hv', he, as, rows, el, ha, pr, hlen, hok⟩
      have hg' : SqL K H' g (gs.map V.int) := he.seq hgp hg
      refine ⟨_, rfl, _, rfl, _, _, rfl, .inl hg', ?_⟩
      refine ⟨p, _, rfl, hv', by rw [List.length_map]; omega, by rw [List.length_map]; omega, fun d H4 d0 d1 hv4 e4 => ?_⟩
      rw [List.length_map] at d1
      refine ⟨_, rfl, Nat.le_of_ble_eq_true rfl, ?_⟩
      (intro q nq; generalize e_q : upd H4 q _ = H5; have s5 : Same H4 H5 := fun b x hb => (congrFun e_q b).symm.trans (same_new nq b x hb); have h5 := (congrFun e_q q).symm.trans upd_same; clear e_q)
      refine ⟨p, q, _, rfl, hv4.same s5, hv4.ne nq, SqL.lst h5, (by decide), (by decide), fun v H6 hm hv6 e6 => ?_⟩
      obtain ⟨ev, rfl, ev0, ev1⟩ : ∃ n : Int, v = .int n ∧ 1 ≤ n ∧ n ≤ 4 := by
        simp at hm
        rcases hm with rfl | rfl | rfl | rfl
        · exact ⟨1, rfl, by decide, by decide⟩
        · exact ⟨2, rfl, by decide, by decide⟩
        · exact ⟨3, rfl, by decide, by decide⟩
        · exact ⟨4, rfl, by decide, by decide⟩
      have e06 : Else p H' H6 := (e4.trans (Same.els s5)).trans e6
      have hg6 : SqL K H6 g (gs.map V.int) := (he.trans e06).seq hgp hg
      have el6 := e06 _ _ hlp el
      refine ⟨_, _, rfl, ?_⟩
      refine ⟨_, rfl, .inl ⟨rfl, _, SqL.lst el6⟩, _, rfl, _, rfl, _, rfl, _, rfl, _, rfl, ?_⟩
      refine ⟨g, _, _, _, rfl, rfl, hg6, getLastD_map gs g0, ?_⟩
      have hb := gb _ (lastD_mem g0)
      refine ⟨p, _, rfl, hv6, by omega, by omega, fun c H7 c0 c1 hv7 e7 => ?_⟩
      refine ⟨Nat.le_of_ble_eq_true rfl, ?_⟩
      (intro r nr; generalize e_r : upd H7 r _ = H8; have s8 : Same H7 H8 := fun b x hb => (congrFun e_r b).symm.trans (same_new nr b x hb); have h8 := (congrFun e_r r).symm.trans upd_same; clear e_r)
      have e08 : Else p H' H8 := (e06.trans e7).trans (Same.els s8)
      have el8 := e08 _ _ hlp el
      refine ⟨l, _, _, rfl, rfl, el8, smallLt (by have := pr.length; rw [List.length_map]; omega), ?_⟩
      have hrp : r ≠ p := hv7.ne nr
      have hal : ∀ a ∈ as ++ [r], a ≠ l := fun a hm z => by
        rcases List.mem_append.mp hm with hm | hm
        · obtain ⟨y, hy, fy⟩ := paired_left pr hm
          rw [z, el] at fy
          cases as with
          | nil => cases hm
          | cons a0 as => cases fy
        · simp at hm
          rw [← z, hm, h8] at el8
          cases as <;> cases el8
      refine ⟨_, _, _, rfl, ?_, fun b o nb eb => ?_, as ++ [r], rows ++ [(d, ev, c)], ?_, fun a hm => ?_, paired_app (paired_imp pr fun a hm x hx => ?_) ?_, by simp [hlen], fun x hx => ?_⟩
      · obtain ⟨a, b, c, h1, h2, h3, eb⟩ := hv7.same s8
        exact ⟨a, b, c, h1, h2, h3, by rw [upd_ne hlp.symm]; exact eb⟩
      · have nbl : b ≠ l := ne_of_none eb nl
        rw [upd_ne nbl]
        exact e08 _ _ nb (he _ _ nb eb)
      · rw [upd_same, List.map_append]
        rfl
      · rcases List.mem_append.mp hm with hm | hm
        · exact ha a hm
        · simp at hm
          rw [hm]
          exact hrp
      · rw [upd_ne (hal a (List.mem_append_left _ hm))]
        exact e08 _ _ (ha a hm) hx
      · rw [upd_ne (hal r (by simp))]
        exact h8
      · rcases List.mem_append.mp hx with hx | hx
        · exact hok x hx
        · simp at hx
          rw [hx]
          exact ⟨d0, d1, ev0, ev1, c0, c1⟩
    · rintro σ H' ⟨v3, v4, v5, rfl, hv', he, as, rows, el, ha, pr, hlen, hok⟩
      exact ⟨_, rfl, k l rows H' nl ⟨as, hlp, ha, el, pr⟩ (by omega) hok hv' he⟩
end
end LM

set_option Elab.async false
set_option linter.all false
set_option maxRecDepth 100000
set_option maxHeartbeats 4000000
namespace LM
open PySem PySem.Spec PyProof.Rows L2
local macro_rules | `(tactic| walk_at "hp") => `(tactic| first | assumption | exact upd_same | (rw [upd_ne (by assumption)]; assumption) | (rw [upd_ne (Ne.symm (by assumption))]; assumption) | (rw [upd_ne (by assumption)]; exact upd_same) | (rw [upd_ne (Ne.symm (by assumption))]; exact upd_same))
local macro_rules | `(tactic| walk_at "sq") => `(tactic| first | assumption | exact Or.inl (Or.inl (by assumption)) | exact Or.inl (Or.inl upd_same) | exact Or.inl (Or.inl (by walk_at "hp")))
local macro_rules | `(tactic| walk_at "ixl") => `(tactic| refine ⟨_, _, _, _, rfl, rfl, (by walk_at "sq"), (by rfl), ?_⟩)
local macro_rules | `(tactic| walk_at "setl") => `(tactic| refine ⟨_, _, _, _, rfl, rfl, (by walk_at "hp"), (by rfl), ?_⟩)
local macro_rules | `(tactic| walk_at "side") => `(tactic| refine idP ?_; first | omega | (show (0 : Int) < _; omega) | (show (0 : Int) < _ ∧ _ < _; omega) | (refine Or.inr ?_; show (-(2 ^ 64) : Int) < _ ∧ _ < _; omega) | (refine Or.inl ?_; show (-(2 ^ 64) : Int) < _ ∧ _ < _; omega) | exact divW (by omega) (by omega) _ | (refine ⟨by decide, by decide, ?_⟩; decide))
local macro_rules | `(tactic| walk_at "go1") => `(tactic| first
  | refine ⟨_, rfl, ?_⟩
  | refine ⟨_, _, rfl, rfl, (by walk_at "side"), ?_⟩
  | refine ⟨_, _, rfl, (by walk_at "side"), ?_⟩
  | refine ⟨_, _, rfl, rfl, ?_⟩
  | refine Or.inl ⟨_, rfl, ?_⟩
  | refine ⟨_, _, rfl, Or.inl (by walk_at "sq"), ?_⟩
  | walk_at "ixl"
  | walk_at "setl"
  | refine ⟨_, _, rfl, (by walk_at "sq"), rfl, ?_⟩
  | refine ⟨_, _, rfl, (by walk_at "sq"), ?_⟩
  | refine ⟨_, _, rfl, ?_⟩
  | refine ⟨rfl, ?_⟩
  | refine ⟨small (Nat.le_of_ble_eq_true rfl), ?_⟩)
local macro_rules | `(tactic| walk_at "go") => `(tactic| repeat walk_at "go1")

abbrev s_law_gap : Stmt := topS 69
theorem sc_law_gap : FnScope ["_law_ground_here", "_law_lanes_here", "_law_group", "_law_numbers_here", "_law_base", "_law_rest", "_law_found", "_law_field", "_law_every", "_law_count"] ["_law_ground_here", "_law_lanes_here", "_law_group"] (defScope s_law_gap) := ⟨rfl, rfl, rfl, by decide +kernel, rfl, by decide +kernel, by decide +kernel⟩
abbrev s_law_divisor : Stmt := topS 65
theorem sc_law_divisor : FnScope ["_law_high", "_law_low"] ["_law_high", "_law_low"] (defScope s_law_divisor) := ⟨rfl, rfl, rfl, by decide +kernel, rfl, by decide +kernel, by decide +kernel⟩
abbrev s_law_multiple : Stmt := topS 66
theorem sc_law_multiple : FnScope ["_law_high", "_law_low"] ["_law_high", "_law_low"] (defScope s_law_multiple) := ⟨rfl, rfl, rfl, by decide +kernel, rfl, by decide +kernel, by decide +kernel⟩
abbrev s_law_again : Stmt := topS 76
theorem sc_law_again : FnScope ["_law_gaps", "_law_size"] ["_law_gaps", "_law_size"] (defScope s_law_again) := ⟨rfl, rfl, rfl, by decide +kernel, rfl, by decide +kernel, by decide +kernel⟩
/-- at l a list of rows, to be read -/
def LanesIn (K : PySem.W.Frag) (H : Hp) (l : Addr) (rows : List R3) : Prop :=
  ∃ as : List Addr, SqL K H l (as.map V.ref) ∧ Paired (fun a (r : R3) => H a = some (.lst [.int r.1, .int r.2.1, .int r.2.2])) as rows
theorem LanesAt.in {K : PySem.W.Frag} {p l : Addr} {H : Hp} {rows : List R3} (h : LanesAt p H l rows) : LanesIn K H l rows := by
  obtain ⟨as, _, _, e, r⟩ := h
  exact ⟨as, SqL.lst e, r⟩
theorem LanesIn.same {K : PySem.W.Frag} {l : Addr} {H H' : Hp} {rows : List R3} (h : LanesIn K H l rows) (s : Same H H') : LanesIn K H' l rows := by
  obtain ⟨as, e, r⟩ := h
  exact ⟨as, s.seq e, paired_imp r fun a _ x q => s _ _ q⟩
def digStep (s : Int × List Int) (b : Int) : Int × List Int := (s.1 / b, s.1 % b :: s.2)
/-- the numbers of a group, number 0 first -/
def digs (gs : List Int) (g : Int) : List Int := (gs.dropLast.reverse.foldl digStep (g, [])).1 :: (gs.dropLast.reverse.foldl digStep (g, [])).2
def fitL (ds : List Int) (r : R3) : Bool := decide (ds.getD r.1.toNat 0 % r.2.1 = 0) && !((ds.drop (r.1.toNat + 1)).any fun k => decide (k ≠ 0))
def gapStep (ds : List Int) (acc : Int) (r : R3) : Int := if fitL ds r = true then r.2.2 else acc
/-- how many labels this group skips, by the law's own numbers -/
def gapL (gs : List Int) (rows : List R3) (g : Int) : Int := rows.foldl (gapStep (digs gs g)) 0
theorem digStep_len : ∀ (l : List Int) (s : Int × List Int), (l.foldl digStep s).2.length = s.2.length + l.length
  | [], s => rfl
  | b :: l, s => by
    rw [List.foldl_cons, digStep_len l, List.length_cons]
    show (s.1 % b :: s.2).length + l.length = _
    rw [List.length_cons]
    omega
theorem digs_len (gs : List Int) (g : Int) (h : 1 ≤ gs.length) : (digs gs g).length = gs.length := by
  unfold digs
  rw [List.length_cons, digStep_len, List.length_reverse, List.length_dropLast]
  simp
  omega
theorem take_fold {α β : Type} (f : β → α → β) (s : β) (l : List α) (i : Nat) (x : α) (h : l[i]? = some x) : (l.take (i + 1)).foldl f s = f ((l.take i).foldl f s) x := by
  rw [List.take_add_one, h, List.foldl_append]
  rfl
theorem atI_getD {ns : List Int} {i : Int} (h0 : 0 ≤ i) (h1 : i < ns.length) : atI (ns.map V.int) i = some (V.int (ns.getD i.toNat 0)) := by
  obtain ⟨j, rfl⟩ := nat_of h0
  have hj : j < ns.length := by omega
  rw [atI_nat (map_get hj), Int.toNat_natCast, List.getD_eq_getElem?_getD, List.getElem?_eq_getElem hj]
  rfl
def spGap (K : PySem.W.Frag) : Sp := fun vs H Q _ => ∃ (g l : Addr) (gs : List Int) (rows : List R3) (n : Int) (m : Int), vs = [.ref g, .ref l, .int n] ∧ SqL K H g (gs.map V.int) ∧ LanesIn K H l rows ∧ 1 ≤ gs.length ∧ gs.length ≤ 3 ∧ (∀ x ∈ gs, 2 ≤ x ∧ x ≤ 60) ∧ rows.length ≤ 20 ∧ (∀ r ∈ rows, RowOk m gs r) ∧
  ∀ H', Same H H' → Q (.int (gapL gs rows n)) H'
section
variable {P : Program} {w : World} {K : PySem.W.Frag} {mg : Str → Option Value} {base : Heap}
theorem ok_gap {f : Addr} {fd : FuncData} (F : Fun K "_law_gap" "_law_gap" s_law_gap f fd) (N : Names mg) : FnOk P w K mg base CX0 1 f fd ["_law_ground_here", "_law_lanes_here", "_law_group"] (spGap K) := by
  have sc := sc_law_gap
  refine F.ok sc (fun vs H Q E h => ?_) (fun cdv A outer s H vs Q E hr h => ?_)
  · obtain ⟨g, l, gs, rows, n, m, rfl, _⟩ := h
    rfl
  · obtain ⟨g, l, gs, rows, n, m, rfl, hg, hL, g0, g1, gb, hrl, hro, k⟩ := h
    refine ⟨_, (pss_cons (ps_set (i := 3) sc.nd rfl (Or.inl rfl) (pe_lst pa_nil))
      (pss_cons (ps_for PassesOwn.never rfl (pi_list (pe_revL (pe_slice sl_list (pv 0) po_none (po_some (pe_un un_neg pe_int))))) (pg_name (i := 4) sc.nd rfl (Or.inl rfl)) (pss_cons (ps_asg (pe_callB call_divmod (by rfl) N.divmod (by decide +kernel) (pa_cons (pv 2) (pa_cons (pv 4) pa_nil))) (pg_tup rfl (pgs_cons (pg_name (i := 2) sc.nd rfl (Or.inl rfl)) (pgs_cons (pg_name (i := 5) sc.nd rfl (Or.inl rfl)) pgs_nil))))
      (pss_one (ps_set (i := 3) sc.nd rfl (Or.inl rfl) (pe_op op_cat (pe_lst (pa_cons (pv 5) pa_nil)) (pv 3))))))
      (pss_cons (ps_par (i := 3) (j := 6) rfl sc.nd rfl rfl (by decide) rfl rfl (pa_cons (pe_op op_cat (pe_lst (pa_cons (pv 2) pa_nil)) (pv 3)) (pa_cons pe_int pa_nil)) (by rfl))
      (pss_cons (ps_for PassesOwn.never rfl (pi_list (pv 1)) (pg_unl rfl (pgs_cons (pg_name (i := 7) sc.nd rfl (Or.inl rfl)) (pgs_cons (pg_name (i := 8) sc.nd rfl (Or.inl rfl)) (pgs_cons (pg_name (i := 9) sc.nd rfl (Or.inl rfl)) pgs_nil)))) (pss_one (ps_if (PW.pt (pw_and (pt_cmpR op_eq (pe_op op_mod (pe_callTy (T := "int") call_int1 (by rfl) N.int (by decide +kernel) (pa_cons (pe_ix ix_list (pv 3) (pv 7) (fun _ _ => rfl)) pa_nil)) (pv 8)) pe_int (nomark _)) (pw_and1 (pt_not (pt_val (pe_callB (cr_anyI rfl) (by rfl) N.any (by decide +kernel) (pa_cons (pe_slice sl_list (pv 3) (po_some (pe_op op_add (pv 7) pe_int)) po_none) pa_nil))))))) (pss_one (ps_set (i := 6) sc.nd rfl (Or.inl rfl) (pv 9))) pss_nil)))
      (pss_one (ps_ret (pv 6))))))), ?_⟩
    walk_at "go"
    (intro z nz; generalize e_z : upd H z _ = H1; have s1 : Same H H1 := fun b x hb => (congrFun e_z b).symm.trans (same_new nz b x hb); have h1 := (congrFun e_z z).symm.trans upd_same; clear e_z)
    have hg1 := s1.seq hg
    walk_at "go"
    (intro d nd; generalize e_d : upd H1 d _ = H2; have s2 : Same H1 H2 := fun b x hb => (congrFun e_d b).symm.trans (same_new nd b x hb); have h2 := (congrFun e_d d).symm.trans upd_same; clear e_d)
    walk_at "go"
    (intro e ne; generalize e_e : upd H2 e _ = H3; have s3 : Same H2 H3 := fun b x hb => (congrFun e_e b).symm.trans (same_new ne b x hb); have h3 := (congrFun e_e e).symm.trans upd_same; clear e_e)
    have h3' : H3 e = some (.lst (gs.dropLast.reverse.map V.int)) := by
      rw [h3, cut_but, List.map_reverse, List.map_dropLast]
    have s03 : Same H H3 := (s1.trans s2).trans s3
    refine ⟨e, rfl, ⟨_, SqL.lst h3'⟩, for_list (K := K) (xs := gs.dropLast.reverse.map V.int) (fun i σ H' => ∃ (q : Addr) (v4 v5 v6 v7 v8 v9 : Option V), σ = [some (.ref g), some (.ref l), some (.int ((gs.dropLast.reverse.take i).foldl digStep (n, [])).1), some (.ref q), v4, v5, v6, v7, v8, v9] ∧ Same H H' ∧ H' e = some (.lst (gs.dropLast.reverse.map V.int)) ∧
        H' q = some (.lst (((gs.dropLast.reverse.take i).foldl digStep (n, [])).2.map V.int)))
      ⟨z, none, none, none, none, none, none, rfl, s03, h3', s3 _ _ (s2 _ _ h1)⟩ (fun i σ H' _ ⟨q, _, _, _, _, _, _, _, _, e, _⟩ => SqL.lst e) ?_ ?_⟩
    · rintro i x σ H' hx ⟨q, v4, v5, v6, v7, v8, v9, rfl, sm, he, hq⟩
      obtain ⟨b, hb, rfl⟩ : ∃ b, (gs.dropLast.reverse)[i]? = some b ∧ x = V.int b := by
        rw [List.getElem?_map] at hx
        obtain ⟨z, hz, e⟩ := Option.map_eq_some_iff.mp hx
        exact ⟨z, hz, e.symm⟩
      have hbm : b ∈ gs := (List.dropLast_sublist gs).subset (List.mem_reverse.mp (List.mem_of_getElem? hb))
      have hbb := gb b hbm
      walk_at "go"
      (intro t nt; generalize e_t : upd H' t _ = H4; have s4 : Same H' H4 := fun b x hb => (congrFun e_t b).symm.trans (same_new nt b x hb); have h4 := (congrFun e_t t).symm.trans upd_same; clear e_t)
      walk_at "go"
      (intro r nr; generalize e_r : upd H4 r _ = H5; have s5 : Same H4 H5 := fun b x hb => (congrFun e_r b).symm.trans (same_new nr b x hb); have h5 := (congrFun e_r r).symm.trans upd_same; clear e_r)
      have hq5 := s5 _ _ (s4 _ _ hq)
      have hlen : ((gs.dropLast.reverse.take i).foldl digStep (n, [])).2.length ≤ 3 := by
        rw [digStep_len, List.length_take, List.length_reverse, List.length_dropLast]
        simp
        omega
      refine ⟨_, rfl, r, q, _, _, rfl, rfl, h5, hq5, small (by simp; omega), ?_⟩
      (intro u nu; generalize e_u : upd H5 u _ = H6; have s6 : Same H5 H6 := fun b x hb => (congrFun e_u b).symm.trans (same_new nu b x hb); have h6 := (congrFun e_u u).symm.trans upd_same; clear e_u)
      have st := take_fold digStep (n, []) _ i b hb
      refine ⟨u, _, _, _, _, _, _, (by rw [st]; rfl), sm.trans ((s4.trans s5).trans s6), s6 _ _ (s5 _ _ (s4 _ _ he)), ?_⟩
      rw [st, h6]
      rfl
    · rintro σ H' ⟨q, v4, v5, v6, v7, v8, v9, rfl, sm, he, hq⟩
      rw [List.take_of_length_le (by rw [List.length_map]; exact Nat.le_refl _)] at hq
      rw [List.take_of_length_le (by rw [List.length_map]; exact Nat.le_refl _)]
      walk_at "go"
      (intro t nt; generalize e_t : upd H' t _ = H4; have s4 : Same H' H4 := fun b x hb => (congrFun e_t b).symm.trans (same_new nt b x hb); have h4 := (congrFun e_t t).symm.trans upd_same; clear e_t)
      have hlen : (gs.dropLast.reverse.foldl digStep (n, [])).2.length ≤ 3 := by
        rw [digStep_len, List.length_reverse, List.length_dropLast]
        simp
        omega
      refine ⟨_, rfl, t, q, _, _, rfl, rfl, h4, s4 _ _ hq, small (by simp only [List.length_append, List.length_cons, List.length_nil, List.length_map]; omega), ?_⟩
      (intro u nu; generalize e_u : upd H4 u _ = H5; have s5 : Same H4 H5 := fun b x hb => (congrFun e_u b).symm.trans (same_new nu b x hb); have h5 := (congrFun e_u u).symm.trans upd_same; clear e_u)
      have h5' : H5 u = some (.lst ((digs gs n).map V.int)) := h5
      obtain ⟨as, hl, pr⟩ := hL
      have s05 : Same H H5 := sm.trans (s4.trans s5)
      walk_at "go"
      refine ⟨⟨_, s05.seq hl⟩, for_list (K := K) (xs := as.map V.ref) (fun i σ H' => ∃ (w2 : Int) (w4 w5 w7 w8 w9 : Option V), σ = [some (.ref g), some (.ref l), some (.int w2), some (.ref u), w4, w5, some (.int ((rows.take i).foldl (gapStep (digs gs n)) 0)), w7, w8, w9] ∧ Same H H' ∧ H' u = some (.lst ((digs gs n).map V.int)))
        ⟨_, _, _, _, _, _, rfl, s05, h5'⟩ (fun i σ H' _ ⟨_, _, _, _, _, _, _, e, _⟩ => e.seq hl) ?_ ?_⟩
      · rintro i x σ H6 hx ⟨w2, w4, w5, w7, w8, w9, rfl, sm6, hu6⟩
        obtain ⟨a, ha, rfl⟩ : ∃ b, as[i]? = some b ∧ x = V.ref b := by
          rw [List.getElem?_map] at hx
          obtain ⟨z, hz, e⟩ := Option.map_eq_some_iff.mp hx
          exact ⟨z, hz, e.symm⟩
        obtain ⟨r, hr, hra⟩ := paired_at pr ha
        have hra6 := sm6 _ _ hra
        obtain ⟨o1, o2, o3, o4, o5, o6⟩ := hro r (List.mem_of_getElem? hr)
        have hdl := digs_len gs n g0
        have st := take_fold (gapStep (digs gs n)) 0 rows i r hr
        walk_at "go"
        refine ⟨u, _, _, _, rfl, rfl, SqL.lst hu6, atI_getD o1 (by omega), ?_⟩
        walk_at "go"
        refine ifD (fun hd => ?_) (fun hd => ?_)
        · walk_at "go"
          (intro t nt; generalize e_t : upd H6 t _ = H7; have s7 : Same H6 H7 := fun b x hb => (congrFun e_t b).symm.trans (same_new nt b x hb); have h7 := (congrFun e_t t).symm.trans upd_same; clear e_t)
          have h7' : H7 t = some (.lst (((digs gs n).drop (r.1.toNat + 1)).map V.int)) := by
            obtain ⟨j, hj⟩ := nat_of o1
            have ej : r.1 + 1 = ((j + 1 : Nat) : Int) := by omega
            rw [h7]
            show some (HO.lst (cutV _ (some (r.1 + 1)) none)) = _
            rw [ej, cut_from, hj, Int.toNat_natCast, List.map_drop]
          refine ⟨_, _, rfl, SqL.lst h7', _, rfl, ?_⟩
          have hf : fitL (digs gs n) r = !((digs gs n).drop (r.1.toNat + 1)).any fun k => decide (k ≠ 0) := by
            unfold fitL
            rw [decide_eq_true (V.int.inj hd), Bool.true_and]
          refine ifB (fun hb => ?_) (fun hb => ?_)
          · have e6 : gapStep (digs gs n) ((rows.take i).foldl (gapStep (digs gs n)) 0) r = r.2.2 := by
              unfold gapStep
              rw [if_pos (hf.trans hb)]
            exact ⟨_, rfl, _, _, _, _, _, _, (by rw [st, e6]; rfl), sm6.trans s7, s7 _ _ hu6⟩
          · have e6 : gapStep (digs gs n) ((rows.take i).foldl (gapStep (digs gs n)) 0) r = (rows.take i).foldl (gapStep (digs gs n)) 0 := by
              unfold gapStep
              rw [if_neg (by rw [hf, hb]; exact Bool.false_ne_true)]
            exact ⟨_, _, _, _, _, _, (by rw [st, e6]; rfl), sm6.trans s7, s7 _ _ hu6⟩
        · have hf : fitL (digs gs n) r = false := by
            unfold fitL
            rw [decide_eq_false (fun z => hd (congrArg V.int z)), Bool.false_and]
          have e6 : gapStep (digs gs n) ((rows.take i).foldl (gapStep (digs gs n)) 0) r = (rows.take i).foldl (gapStep (digs gs n)) 0 := by
            unfold gapStep
            rw [if_neg (by rw [hf]; exact Bool.false_ne_true)]
          refine iteF ?_
          exact ⟨_, _, _, _, _, _, (by rw [st, e6]; rfl), sm6, hu6⟩
      · rintro σ H6 ⟨w2, w4, w5, w7, w8, w9, rfl, sm6, hu6⟩
        have hpl := pr.length
        rw [List.take_of_length_le (by rw [List.length_map]; omega)]
        exact ⟨_, rfl, k _ sm6⟩
/-! ### the greatest common divisor, the least common multiple -/
def spGcd : Sp := fun vs H Q _ => ∃ (a b : Nat), vs = [.int (a : Int), .int (b : Int)] ∧ Q (.int ((Nat.gcd a b : Nat) : Int)) H
theorem ok_divisor {f : Addr} {fd : FuncData} (F : Fun K "_law_divisor" "_law_divisor" s_law_divisor f fd) (N : Names mg) : FnOk P w K mg base CX0 1 f fd ["_law_high", "_law_low"] spGcd := by
  have sc := sc_law_divisor
  refine F.ok sc (fun vs H Q E h => ?_) (fun cdv A outer s H vs Q E hr h => ?_)
  · obtain ⟨a, b, rfl, _⟩ := h
    rfl
  · obtain ⟨a, b, rfl, k⟩ := h
    refine ⟨_, (pss_cons (ps_while PassesOwn.never (pt_cmpR op_gt (pv 1) pe_int (nomark _)) (pss_one (ps_par (i := 0) (j := 1) rfl sc.nd rfl rfl (by decide) rfl rfl (pa_cons (pv 1) (pa_cons (pe_op op_mod (pe_callTy (T := "int") call_int1 (by rfl) N.int (by decide +kernel) (pa_cons (pv 0) pa_nil)) (pv 1)) pa_nil)) (by rfl))))
      (pss_one (ps_ret (pv 0)))), ?_⟩
    refine while_by (fun σ H' => ∃ x y : Nat, σ = [some (.int (x : Int)), some (.int (y : Int))] ∧ Nat.gcd x y = Nat.gcd a b ∧ H' = H) (fun σ _ => match σ with | [_, some (.int y)] => y.toNat | _ => 0) ⟨a, b, rfl, rfl, rfl⟩ ?_ ?_
    · rintro σ H' ⟨x, y, rfl, hg, rfl⟩
      walk_at "go"
      refine ifD (fun hd => ?_) (fun hd => ?_)
      · walk_at "go"
        have hy : 0 < y := by omega
        have hlt := Nat.mod_lt x hy
        refine ⟨⟨y, x % y, ?_, ?_, rfl⟩, ?_⟩
        · rw [Int.natCast_emod]
          rfl
        · rw [← hg, Nat.gcd_comm x y, Nat.gcd_rec y x, Nat.gcd_comm]
        · show ((x : Int) % (y : Int)).toNat < (y : Int).toNat
          rw [← Int.natCast_emod, Int.toNat_natCast, Int.toNat_natCast]
          exact hlt
      · have hy : y = 0 := by omega
        rw [hy, Nat.gcd_zero_right] at hg
        refine ⟨_, rfl, ?_⟩
        rw [hg]
        exact k
    · intro σ H' Q1 Q2 hm h
      obtain ⟨v, hv, i, j, e1, e2, b, e3, q⟩ := h
      exact ⟨v, hv, i, j, e1, e2, b, e3, hm _ _ q⟩
def spLcm : Sp := fun vs H Q _ => ∃ (a b : Nat), vs = [.int (a : Int), .int (b : Int)] ∧ 0 < a ∧ a < 2 ^ 29 ∧ 0 < b ∧ b < 2 ^ 29 ∧ Q (.int ((Nat.lcm a b : Nat) : Int)) H
theorem ok_multiple {f : Addr} {fd : FuncData} (F : Fun K "_law_multiple" "_law_multiple" s_law_multiple f fd) (D_law_divisor : DefK P w K mg base "_law_divisor" ["_law_high", "_law_low"] 1 spGcd) : FnOk P w K mg base CX0 2 f fd ["_law_high", "_law_low"] spLcm := by
  have sc := sc_law_multiple
  refine F.ok sc (fun vs H Q E h => ?_) (fun cdv A outer s H vs Q E hr h => ?_)
  · obtain ⟨a, b, rfl, _⟩ := h
    rfl
  · obtain ⟨a, b, rfl, ha, ha2, hb, hb2, k⟩ := h
    refine ⟨_, (pss_one (ps_ret (pe_op op_mul (pe_op op_fdiv (pv 0) (pe_d D_law_divisor (hr.mono (by decide)) rfl (pa_cons (pv 0) (pa_cons (pv 1) pa_nil)))) (pv 1)))), ?_⟩
    walk_at "go"
    have hg0 : 0 < Nat.gcd a b := Nat.gcd_pos_of_pos_left b ha
    have hg1 : Nat.gcd a b ≤ a := Nat.gcd_le_left b ha
    refine ⟨⟨by omega, by omega⟩, _, rfl, _, _, rfl, rfl, .inr ⟨by omega, by omega⟩, ?_⟩
    have e : ((a : Int) / (Nat.gcd a b : Nat)) * (b : Int) = ((Nat.lcm a b : Nat) : Int) := by
      unfold Nat.lcm
      rw [← Nat.div_mul_right_comm (Nat.gcd_dvd_left a b), Int.natCast_mul, Int.natCast_ediv]
    show Q (.int _) H
    rw [e]
    exact k
/-! ### whether a list goes on the same behind so many items -/
def againL (cs : List Int) (k : Nat) : Bool := decide (cs.length / k * k = cs.length) && decide (cs.drop k = cs.take (cs.length - k))
def spAgain (K : PySem.W.Frag) : Sp := fun vs H Q _ => ∃ (a : Addr) (cs : List Int) (k : Nat), vs = [.ref a, .int (k : Int)] ∧ SqL K H a (cs.map V.int) ∧ cs.length ≤ 100000 ∧ 0 < k ∧ k ≤ cs.length ∧ ∀ H', Same H H' → Q (.bl (againL cs k)) H'
theorem ok_again {f : Addr} {fd : FuncData} (F : Fun K "_law_again" "_law_again" s_law_again f fd) (N : Names mg) : FnOk P w K mg base CX0 1 f fd ["_law_gaps", "_law_size"] (spAgain K) := by
  have sc := sc_law_again
  refine F.ok sc (fun vs H Q E h => ?_) (fun cdv A outer s H vs Q E hr h => ?_)
  · obtain ⟨a, cs, k, rfl, _⟩ := h
    rfl
  · obtain ⟨a, cs, k, rfl, hc, hl, k0, k1, kk⟩ := h
    have hu := hu_of hr
    refine ⟨_, (pss_one (ps_ret (pe_and (pe_cmpR op_eq (pe_op op_mul (pe_op op_fdiv (pe_callB call_len_seq (by rfl) N.len (by decide +kernel) (pa_cons (pv 0) pa_nil)) (pv 1)) (pv 1)) (pe_callB call_len_seq (by rfl) N.len (by decide +kernel) (pa_cons (pv 0) pa_nil)) (nomark _)) (pe_one (pe_cmpR (op_eqIs (hu64 hr)) (pe_slice sl_list (pv 0) (po_some (pv 1)) po_none) (pe_slice sl_list (pv 0) po_none (po_some (pe_op op_sub (pe_callB call_len_seq (by rfl) N.len (by decide +kernel) (pa_cons (pv 0) pa_nil)) (pv 1)))) (nomark _)))))), ?_⟩
    walk_at "go"
    have eL : (cs.map V.int).length = cs.length := List.length_map ..
    refine ifD (fun hd => ?_) (fun hd => ?_)
    · have hdd : cs.length / k * k = cs.length := by
        have z := V.int.inj hd
        rw [eL] at z
        have z' : (((cs.length / k * k : Nat)) : Int) = (cs.length : Int) := by
          rw [Int.natCast_mul, Int.natCast_ediv]
          exact z
        exact Int.ofNat.inj z'
      walk_at "go"
      (intro t nt; generalize e_t : upd H t _ = H1; have s1 : Same H H1 := fun b x hb => (congrFun e_t b).symm.trans (same_new nt b x hb); have h1 := (congrFun e_t t).symm.trans upd_same; clear e_t)
      have hc1 := s1.seq hc
      have h1' : H1 t = some (.lst ((cs.drop k).map V.int)) := by rw [h1, cut_from, List.map_drop]
      walk_at "go"
      (intro u nu; generalize e_u : upd H1 u _ = H2; have s2 : Same H1 H2 := fun b x hb => (congrFun e_u b).symm.trans (same_new nu b x hb); have h2 := (congrFun e_u u).symm.trans upd_same; clear e_u)
      have h2' : H2 u = some (.lst ((cs.take (cs.length - k)).map V.int)) := by
        rw [h2]
        show some (HO.lst (cutV _ none (some (((cs.map V.int).length : Int) - (k : Int))))) = _
        rw [eL, show ((cs.length : Int) - (k : Int)) = ((cs.length - k : Nat) : Int) by omega, cut_to, List.map_take]
      refine ⟨t, u, _, _, rfl, rfl, .inl ⟨SqL.lst (s2 _ _ h1'), SqL.lst h2'⟩, ?_⟩
      have e : againL cs k = decide (cs.drop k = cs.take (cs.length - k)) := by
        unfold againL
        rw [decide_eq_true hdd, Bool.true_and]
      rw [← e]
      exact kk _ (s1.trans s2)
    · refine kk H (Same.refl H) |> fun q => ?_
      have e : againL cs k = false := by
        unfold againL
        rw [decide_eq_false (fun z => hd ?_), Bool.false_and]
        rw [eL]
        exact congrArg V.int (by show ((cs.length : Int) / (k : Int)) * (k : Int) = _; rw [← Int.natCast_ediv, ← Int.natCast_mul, z])
      rw [e] at q
      exact q
end
end LM

set_option Elab.async false
set_option linter.all false
set_option maxRecDepth 100000
set_option maxHeartbeats 4000000
set_option pp.maxSteps 600
set_option pp.deepTerms false
namespace LM
open PySem PySem.Spec PyProof.Rows L2
local macro_rules | `(tactic| walk_at "hp") => `(tactic| first | assumption | exact upd_same | (rw [upd_ne (by assumption)]; assumption) | (rw [upd_ne (Ne.symm (by assumption))]; assumption) | (rw [upd_ne (by assumption)]; exact upd_same) | (rw [upd_ne (Ne.symm (by assumption))]; exact upd_same))
local macro_rules | `(tactic| walk_at "sq") => `(tactic| first | assumption | exact Or.inl (Or.inl (by assumption)) | exact Or.inl (Or.inl upd_same) | exact Or.inl (Or.inl (by walk_at "hp")))
local macro_rules | `(tactic| walk_at "ixl") => `(tactic| refine ⟨_, _, _, _, rfl, rfl, (by walk_at "sq"), (by rfl), ?_⟩)
local macro_rules | `(tactic| walk_at "setl") => `(tactic| refine ⟨_, _, _, _, rfl, rfl, (by walk_at "hp"), (by rfl), ?_⟩)
local macro_rules | `(tactic| walk_at "side") => `(tactic| refine idP ?_; first | omega | (show (0 : Int) < _; omega) | (show (0 : Int) < _ ∧ _ < _; omega) | (refine Or.inr ?_; show (-(2 ^ 64) : Int) < _ ∧ _ < _; omega) | (refine Or.inl ?_; show (-(2 ^ 64) : Int) < _ ∧ _ < _; omega) | exact divW (by omega) (by omega) _ | (refine ⟨by decide, by decide, ?_⟩; decide))
local macro_rules | `(tactic| walk_at "go1") => `(tactic| first
  | refine ⟨_, rfl, ?_⟩
  | refine ⟨_, _, rfl, rfl, (by walk_at "side"), ?_⟩
  | refine ⟨_, _, rfl, (by walk_at "side"), ?_⟩
  | refine ⟨_, _, rfl, rfl, ?_⟩
  | refine Or.inl ⟨_, rfl, ?_⟩
  | refine ⟨_, _, rfl, Or.inl (by walk_at "sq"), ?_⟩
  | walk_at "ixl"
  | walk_at "setl"
  | refine ⟨_, _, rfl, (by walk_at "sq"), rfl, ?_⟩
  | refine ⟨_, _, rfl, (by walk_at "sq"), ?_⟩
  | refine ⟨_, _, rfl, ?_⟩
  | refine ⟨rfl, ?_⟩
  | refine ⟨small (Nat.le_of_ble_eq_true rfl), ?_⟩)
local macro_rules | `(tactic| walk_at "go") => `(tactic| repeat walk_at "go1")

abbrev s_law_place_house : Stmt := topS 70
theorem sc_law_place_house : FnScope ["_law_ground_here", "_law_lanes_here", "_law_groups", "_law_every", "_law_base", "_law_lane", "_law_gaps", "_law_size", "_law_spots", "_law_below", "_law_spot_at", "_law_group", "_law_k"] ["_law_ground_here", "_law_lanes_here"] (defScope s_law_place_house) := ⟨rfl, rfl, rfl, by decide +kernel, rfl, by decide +kernel, by decide +kernel⟩
abbrev s_law_house : Stmt := topS 71
theorem sc_law_house : FnScope ["_law_vase_here", "_law_ground_here"] ["_law_vase_here", "_law_ground_here"] (defScope s_law_house) := ⟨rfl, rfl, rfl, by decide +kernel, rfl, by decide +kernel, by decide +kernel⟩
/-- how many groups there are in a unit of field 0; the least common multiple of the everys of field 0 -/
def unitL (gs : List Int) : Nat := gs.dropLast.foldl (fun a b => a * b.toNat) 1
def everyStep (e : Nat) (r : R3) : Nat := if r.1 = 0 then Nat.lcm e r.2.1.toNat else e
def everyL (rows : List R3) : Nat := rows.foldl everyStep 1
def gapsL (gs : List Int) (rows : List R3) (n : Nat) : List Int := (List.range n).map fun i => gapL gs rows ((i : Nat) : Int)
def sizesL (cs : List Int) (n : Nat) : List Nat := ((List.range n).filter fun j => againL cs (j + 1)).map (· + 1)
def sizeL (cs : List Int) : Nat := (sizesL cs cs.length).headD 0
def spotOk (cs : List Int) (b : Nat) (s : Nat) : Bool := decide (cs.getD (s / b) 0 ≤ ((s % b : Nat) : Int))
def spotsL (cs : List Int) (b n : Nat) : List Nat := (List.range n).filter (spotOk cs b)
def belowL (cs : List Int) (b n : Nat) : List Nat := (List.range n).map fun i => (spotsL cs b i).length
/-- the law's own house at d -/
def HomeAt (old : Addr → Prop) (H : Hp) (d g l : Addr) (gs : List Int) (rows : List R3) : Prop :=
  ∃ (s b : Addr) (cs : List Int) (n : Nat), H d = some (.dK [(Sum.inr "ground", .ref g), (Sum.inr "lanes", .ref l), (Sum.inr "groups", .int ((sizeL cs : Nat) : Int)), (Sum.inr "spots", .ref s), (Sum.inr "below", .ref b)]) ∧
    n = unitL gs * everyL rows ∧ cs = gapsL gs rows n ∧
    H s = some (.lst ((spotsL cs (gs.getLastD 1).toNat (sizeL cs * (gs.getLastD 1).toNat)).map fun k => V.int ((k : Nat) : Int))) ∧
    H b = some (.lst ((belowL cs (gs.getLastD 1).toNat (sizeL cs * (gs.getLastD 1).toNat)).map fun k => V.int ((k : Nat) : Int))) ∧ ¬ old s ∧ ¬ old b
theorem HomeAt.weak {o1 o2 : Addr → Prop} {H : Hp} {d g l : Addr} {gs : List Int} {rows : List R3} (h : HomeAt o1 H d g l gs rows) (i : ∀ q, o2 q → o1 q) : HomeAt o2 H d g l gs rows := by
  obtain ⟨s, b, cs, n, e1, e2, e3, e4, e5, e6, e7⟩ := h
  exact ⟨s, b, cs, n, e1, e2, e3, e4, e5, fun z => e6 (i _ z), fun z => e7 (i _ z)⟩
def spPlace (K : PySem.W.Frag) : Sp := fun vs H Q _ => ∃ (g l : Addr) (gs : List Int) (rows : List R3) (m : Int), vs = [.ref g, .ref l] ∧ SqL K H g (gs.map V.int) ∧ LanesIn K H l rows ∧ 1 ≤ gs.length ∧ gs.length ≤ 3 ∧ (∀ x ∈ gs, 2 ≤ x ∧ x ≤ 60) ∧ rows.length ≤ 20 ∧ m ≤ 60 ∧ (∀ r ∈ rows, RowOk m gs r) ∧ unitL gs * everyL rows ≤ 7200 ∧
  ∀ (d : Addr) (H' : Hp), Same H H' → H d = none → HomeAt (fun q => H q ≠ none) H' d g l gs rows → Q (.ref d) H'
theorem foldl_mul_pos : ∀ (bs : List Int) (a : Nat), 0 < a → (∀ x ∈ bs, 2 ≤ x) → a ≤ bs.foldl (fun a b => a * b.toNat) a
  | [], a, _, _ => Nat.le_refl _
  | b :: bs, a, ha, h => by
    have hb := h b List.mem_cons_self
    have h1 : a ≤ a * b.toNat := Nat.le_mul_of_pos_right a (by omega)
    exact Nat.le_trans h1 (foldl_mul_pos bs _ (by omega) fun x hx => h x (List.mem_cons_of_mem _ hx))
theorem everyStep_pos {e : Nat} {r : R3} (he : 0 < e) (hr : 1 ≤ r.2.1) : 0 < everyStep e r := by
  unfold everyStep
  split
  · exact Nat.lcm_pos he (by omega)
  · exact he
theorem every_mono : ∀ (rows : List R3) (e : Nat), 0 < e → (∀ r ∈ rows, 1 ≤ r.2.1) → e ≤ rows.foldl everyStep e
  | [], e, _, _ => Nat.le_refl _
  | r :: rows, e, he, h => by
    have hr := h r List.mem_cons_self
    have h1 : e ≤ everyStep e r := by
      unfold everyStep
      split
      · exact Nat.le_of_dvd (Nat.lcm_pos he (by omega)) (Nat.dvd_lcm_left _ _)
      · exact Nat.le_refl _
    exact Nat.le_trans h1 (every_mono rows _ (everyStep_pos he hr) fun x hx => h x (List.mem_cons_of_mem _ hx))
section
variable {P : Program} {w : World} {K : PySem.W.Frag} {mg : Str → Option Value} {base : Heap}
theorem ok_place {f : Addr} {fd : FuncData} (F : Fun K "_law_place_house" "_law_place_house" s_law_place_house f fd) (N : Names mg) (D_law_gap : DefK P w K mg base "_law_gap" ["_law_ground_here", "_law_lanes_here", "_law_group"] 1 (spGap K)) (D_law_multiple : DefK P w K mg base "_law_multiple" ["_law_high", "_law_low"] 2 spLcm)
    (D_law_again : DefK P w K mg base "_law_again" ["_law_gaps", "_law_size"] 1 (spAgain K)) : FnOk P w K mg base CX0 3 f fd ["_law_ground_here", "_law_lanes_here"] (spPlace K) := by
  have sc := sc_law_place_house
  refine F.ok sc (fun vs H Q E h => ?_) (fun cdv A outer s H vs Q E hr h => ?_)
  · obtain ⟨g, l, gs, rows, m, rfl, _⟩ := h
    rfl
  · obtain ⟨g, l, gs, rows, m, rfl, hg, hL, g0, g1, gb, hrl, hm, hro, hn, k⟩ := h
    refine ⟨_, (pss_cons (ps_asg (pe_tup (pa_cons pe_int (pa_cons pe_int pa_nil))) (pg_tup rfl (pgs_cons (pg_name (i := 2) sc.nd rfl (Or.inl rfl)) (pgs_cons (pg_name (i := 3) sc.nd rfl (Or.inl rfl)) pgs_nil))))
      (pss_cons (ps_for PassesOwn.never rfl (pi_list (pe_slice sl_list (pv 0) po_none (po_some (pe_un un_neg pe_int)))) (pg_name (i := 4) sc.nd rfl (Or.inl rfl)) (pss_one (ps_set (i := 2) sc.nd rfl (Or.inl rfl) (pe_op op_mul (pv 2) (pv 4)))))
      (pss_cons (ps_for PassesOwn.never rfl (pi_list (pv 1)) (pg_name (i := 5) sc.nd rfl (Or.inl rfl)) (pss_one (ps_set (i := 3) sc.nd rfl (Or.inl rfl) (pe_ifExp (pt_cmpR op_eq (pe_ix ix_list (pv 5) pe_int (fun _ _ => rfl)) pe_int (nomark _)) (pe_d D_law_multiple (hr.mono (by decide)) rfl (pa_cons (pv 3) (pa_cons (pe_ix ix_list (pv 5) pe_int (fun _ _ => rfl)) pa_nil))) (pv 3)))))
      (pss_cons (ps_set (i := 6) sc.nd rfl (Or.inr rfl) (pe_lc (own := [("_law_group", 11)]) rfl sc.nd (pi_range1 rfl N.range (pa_cons (pe_op op_mul (pv 2) (pv 3)) pa_nil)) (blkOk_by (own := [("_law_group", 11)]) (N := ["_law_ground_here", "_law_lanes_here", "_law_groups", "_law_every", "_law_base", "_law_lane", "_law_gaps", "_law_size", "_law_spots", "_law_below", "_law_spot_at", "_law_group", "_law_k"]) (sc := defScope (topS 70)) (by decide +kernel)) (fun _ _ _ _ _ => (pg_name (i := 11) sc.nd rfl (Or.inl rfl))) (fun _ _ _ _ _ => pts_nil) (fun _ _ _ _ _ => (pe_d D_law_gap (hr.mono (by decide)) rfl (pa_cons (pv 0) (pa_cons (pv 1) (pa_cons (pv 11) pa_nil)))))))
      (pss_cons (ps_set (i := 7) sc.nd rfl (Or.inl rfl) (pe_ix ix_list (pe_lc (own := [("_law_k", 12)]) rfl sc.nd (pi_range2 rfl N.range (pa_cons pe_int (pa_cons (pe_op op_add (pe_callB call_len_seq (by rfl) N.len (by decide +kernel) (pa_cons (pv 6) pa_nil)) pe_int) pa_nil))) (blkOk_by (own := [("_law_k", 12)]) (N := ["_law_ground_here", "_law_lanes_here", "_law_groups", "_law_every", "_law_base", "_law_lane", "_law_gaps", "_law_size", "_law_spots", "_law_below", "_law_spot_at", "_law_group", "_law_k"]) (sc := defScope (topS 70)) (by decide +kernel)) (fun _ _ _ _ _ => (pg_name (i := 12) sc.nd rfl (Or.inl rfl))) (fun _ _ _ _ _ => (pts_one (pt_val (pe_d D_law_again (hr.mono (by decide)) rfl (pa_cons (pv 6) (pa_cons (pv 12) pa_nil)))))) (fun _ _ _ _ _ => (pv 12))) pe_int (fun _ _ => rfl)))
      (pss_cons (ps_par (i := 8) (j := 9) rfl sc.nd rfl rfl (by decide) rfl rfl (pa_cons (pe_lst pa_nil) (pa_cons (pe_lst pa_nil) pa_nil)) (by rfl))
      (pss_cons (ps_for PassesOwn.never rfl (pi_range1 rfl N.range (pa_cons (pe_op op_mul (pv 7) (pe_ix ix_list (pv 0) (pe_un un_neg pe_int) (fun _ _ => rfl))) pa_nil)) (pg_name (i := 10) sc.nd rfl (Or.inl rfl)) (pss_cons (ps_expr (pe_bm PySem.F.plainAttrs_list PySem.F.slot_list_append PySem.F.type_list_append mt_append (pv 9) (pa_cons (pe_callB call_len_seq (by rfl) N.len (by decide +kernel) (pa_cons (pv 8) pa_nil)) pa_nil)))
      (pss_one (ps_if (pt_cmpR op_ge (pe_op op_mod (pe_callTy (T := "int") call_int1 (by rfl) N.int (by decide +kernel) (pa_cons (pv 10) pa_nil)) (pe_ix ix_list (pv 0) (pe_un un_neg pe_int) (fun _ _ => rfl))) (pe_ix ix_list (pv 6) (pe_op op_fdiv (pv 10) (pe_ix ix_list (pv 0) (pe_un un_neg pe_int) (fun _ _ => rfl))) (fun _ _ => rfl)) (nomark _)) (pss_one (ps_expr (pe_bm PySem.F.plainAttrs_list PySem.F.slot_list_append PySem.F.type_list_append mt_append (pv 8) (pa_cons (pv 10) pa_nil)))) pss_nil))))
      (pss_one (ps_ret (pe_disp (pps_cons pe_str (pv 0) (pps_cons pe_str (pv 1) (pps_cons pe_str (pv 7) (pps_cons pe_str (pv 8) (pps_cons pe_str (pv 9) pps_nil))))) (by rfl) (by rfl) (fun z => by cases z) (by decide))))))))))), ?_⟩
    have hb := gb _ (lastD_mem g0)
    walk_at "go"
    (intro t nt; generalize e_t : upd H t _ = H1; have s1 : Same H H1 := fun b x hb => (congrFun e_t b).symm.trans (same_new nt b x hb); have h1 := (congrFun e_t t).symm.trans upd_same; clear e_t)
    have hg1 := s1.seq hg
    walk_at "go"
    (intro d0 nd0; generalize e_d0 : upd H1 d0 _ = H2; have s2 : Same H1 H2 := fun b x hb => (congrFun e_d0 b).symm.trans (same_new nd0 b x hb); have h2 := (congrFun e_d0 d0).symm.trans upd_same; clear e_d0)
    have h2' : H2 d0 = some (.lst (gs.dropLast.map V.int)) := by rw [h2, cut_but, List.map_dropLast]
    have s02 := s1.trans s2
    -- groups
    refine ⟨d0, rfl, ⟨_, SqL.lst h2'⟩, for_list (K := K) (xs := gs.dropLast.map V.int) (fun i σ H' => ∃ (v4 v5 v6 v7 v8 v9 v10 v11 v12 : Option V), σ = [some (.ref g), some (.ref l), some (.int (((gs.dropLast.take i).foldl (fun a b => a * b.toNat) 1 : Nat) : Int)), some (.int 1), v4, v5, v6, v7, v8, v9, v10, v11, v12] ∧ H2 = H')
      ⟨none, none, none, none, none, none, none, none, none, rfl, rfl⟩ (fun i σ H' _ ⟨_, _, _, _, _, _, _, _, _, _, e⟩ => by rw [← e]; exact SqL.lst h2') ?_ ?_⟩
    · rintro i x σ H' hx ⟨v4, v5, v6, v7, v8, v9, v10, v11, v12, rfl, rfl⟩
      obtain ⟨b, hb', rfl⟩ : ∃ b, (gs.dropLast)[i]? = some b ∧ x = V.int b := by
        rw [List.getElem?_map] at hx
        obtain ⟨z, hz, e⟩ := Option.map_eq_some_iff.mp hx
        exact ⟨z, hz, e.symm⟩
      have hbb := gb b ((List.dropLast_sublist gs).subset (List.mem_of_getElem? hb'))
      have st := take_fold (fun (a : Nat) (b : Int) => a * b.toNat) 1 _ i b hb'
      refine ⟨_, rfl, _, rfl, _, _, rfl, rfl, .inr ⟨by omega, by omega⟩, ?_⟩
      have e6 : ((((gs.dropLast.take i).foldl (fun a b => a * b.toNat) 1 : Nat) : Int)) * b = (((gs.dropLast.take (i + 1)).foldl (fun a b => a * b.toNat) 1 : Nat) : Int) := by
        rw [st, Int.natCast_mul, Int.toNat_of_nonneg (by omega)]
      exact ⟨_, _, _, _, _, _, _, _, _, (by rw [← e6]; rfl), rfl⟩
    rintro σ H' ⟨v4, v5, v6, v7, v8, v9, v10, v11, v12, rfl, rfl⟩
    rw [List.take_of_length_le (by rw [List.length_map]; exact Nat.le_refl _)]
    obtain ⟨as, hl, pr⟩ := id hL
    have hpl := pr.length
    have hr1 : ∀ r ∈ rows, 1 ≤ r.2.1 := fun r hm => (hro r hm).2.2.1
    have hU1 : 1 ≤ unitL gs := foldl_mul_pos _ 1 (by decide) fun x hx => (gb x ((List.dropLast_sublist gs).subset hx)).1
    have hE1 : 1 ≤ everyL rows := every_mono rows 1 (by decide) hr1
    have hE2 : everyL rows ≤ 7200 := Nat.le_trans (Nat.le_mul_of_pos_left _ hU1) hn
    -- every
    refine ⟨_, rfl, l, rfl, ⟨_, s02.seq hl⟩, for_list (K := K) (xs := as.map V.ref) (fun i σ H' => ∃ (v4 v5 v6 v7 v8 v9 v10 v11 v12 : Option V), σ = [some (.ref g), some (.ref l), some (.int ((unitL gs : Nat) : Int)), some (.int (((rows.take i).foldl everyStep 1 : Nat) : Int)), v4, v5, v6, v7, v8, v9, v10, v11, v12] ∧ H2 = H')
      ⟨_, _, _, _, _, _, _, _, _, rfl, rfl⟩ (fun i σ H' _ ⟨_, _, _, _, _, _, _, _, _, _, e⟩ => by rw [← e]; exact s02.seq hl) ?_ ?_⟩
    · rintro i x σ H' hx ⟨v4, v5, v6, v7, v8, v9, v10, v11, v12, rfl, rfl⟩
      obtain ⟨a, ha, rfl⟩ : ∃ b, as[i]? = some b ∧ x = V.ref b := by
        rw [List.getElem?_map] at hx
        obtain ⟨z, hz, e⟩ := Option.map_eq_some_iff.mp hx
        exact ⟨z, hz, e.symm⟩
      obtain ⟨r, hr', hra⟩ := paired_at pr ha
      have hra2 := s02 _ _ hra
      have st := take_fold everyStep 1 rows i r hr'
      obtain ⟨o1, o2, o3, o4, o5, o6⟩ := hro r (List.mem_of_getElem? hr')
      have hei1 : 1 ≤ (rows.take i).foldl everyStep 1 := every_mono _ 1 (by decide) fun r hm => hr1 r (List.mem_of_mem_take hm)
      have hei2 : (rows.take i).foldl everyStep 1 ≤ 7200 := by
        refine Nat.le_trans ?_ hE2
        have e : everyL rows = (rows.drop i).foldl everyStep ((rows.take i).foldl everyStep 1) := by
          unfold everyL
          rw [← List.foldl_append, List.take_append_drop]
        rw [e]
        exact every_mono _ _ (by omega) fun r hm => hr1 r (List.mem_of_mem_drop hm)
      walk_at "go"
      refine ifD (fun hd => ?_) (fun hd => ?_)
      · have hz : r.1 = 0 := V.int.inj hd
        walk_at "go"
        have e6 : everyStep ((rows.take i).foldl everyStep 1) r = Nat.lcm ((rows.take i).foldl everyStep 1) r.2.1.toNat := by
          unfold everyStep
          rw [if_pos hz]
        refine ⟨(rows.take i).foldl everyStep 1, r.2.1.toNat, (by rw [Int.toNat_of_nonneg (show 0 ≤ r.2.1 by omega)]; rfl), by omega, by omega, by omega, by omega, ?_⟩
        exact ⟨_, _, _, _, _, _, _, _, _, (by rw [st, e6]; rfl), rfl⟩
      · have hz : r.1 ≠ 0 := fun z => hd (congrArg V.int z)
        have e6 : everyStep ((rows.take i).foldl everyStep 1) r = (rows.take i).foldl everyStep 1 := by
          unfold everyStep
          rw [if_neg hz]
        exact ⟨_, rfl, _, _, _, _, _, _, _, _, _, (by rw [st, e6]; rfl), rfl⟩
    rintro σ H' ⟨v4, v5, v6, v7, v8, v9, v10, v11, v12, rfl, rfl⟩
    rw [List.take_of_length_le (by rw [List.length_map, hpl]; exact Nat.le_refl _)]
    walk_at "go"
    have hE : ((rows.foldl everyStep 1 : Nat) : Int) = ((everyL rows : Nat) : Int) := rfl
    refine ⟨.inr ⟨by omega, by omega⟩, _, rfl, ?_, ?_, ?_⟩
    · show (-(2 ^ 62) : Int) ≤ ((unitL gs : Nat) : Int) * ((everyL rows : Nat) : Int)
      rw [← Int.natCast_mul]
      omega
    · show ((unitL gs : Nat) : Int) * ((everyL rows : Nat) : Int) < 2 ^ 62
      rw [← Int.natCast_mul]
      omega
    have en : (((unitL gs : Nat) : Int) * ((rows.foldl everyStep 1 : Nat) : Int)).toNat = unitL gs * everyL rows := by
      rw [hE, ← Int.natCast_mul, Int.toNat_natCast]
    generalize hnn : unitL gs * everyL rows = n at *
    rw [en]
    -- gaps
    intro D nD
    refine lc_range (n := n) (fun i H' => Same H2 H' ∧ H' D = some (.lst ((List.range i).map fun j => V.int (gapL gs rows ((j : Nat) : Int))))) ⟨same_new nD, upd_same⟩ ?_ ?_
    · rintro i H' hi ⟨sm, eD⟩
      refine ⟨rfl, ?_⟩
      walk_at "go"
      have s0 := s02.trans sm
      refine ⟨g, l, gs, rows, _, m, rfl, s0.seq hg, hL.same s0, g0, g1, gb, hrl, hro, fun H4 s4 => ?_⟩
      refine ⟨_, s4 _ _ eD, smallLt (by rw [List.length_map, List.length_range]; omega), same_mut (sm.trans s4) nD, ?_⟩
      rw [upd_same, List.range_succ, List.map_append, Int.zero_add]
      rfl
    rintro H3 ⟨s3, eD⟩
    have hgap : H3 D = some (.lst ((gapsL gs rows n).map V.int)) := by
      rw [eD]
      unfold gapsL
      rw [List.map_map]
      rfl
    generalize hcs : gapsL gs rows n = cs at *
    have hcl : cs.length = n := by
      rw [← hcs]
      unfold gapsL
      rw [List.length_map, List.length_range]
    have hn1 : 1 ≤ n := by rw [← hnn]; exact Nat.mul_pos hU1 hE1
    walk_at "go"
    refine ⟨⟨by decide, by decide, by omega, by rw [List.length_map]; omega⟩, ?_⟩
    have en2 : ((((cs.map V.int).length : Nat) : Int) + 1 - 1).toNat = n := by rw [List.length_map]; omega
    rw [en2]
    intro D2 nD2
    refine lc_range (lo := 1) (n := n) (fun i H' => Same H3 H' ∧ H' D2 = some (.lst (((List.range i).filter fun j => againL cs (j + 1)).map fun j => V.int (1 + ((j : Nat) : Int))))) ⟨same_new nD2, upd_same⟩ ?_ ?_
    · rintro i H' hi ⟨sm, eD⟩
      refine ⟨rfl, ?_⟩
      walk_at "go"
      refine ⟨D, cs, i + 1, (by rw [Int.natCast_add, Int.add_comm]; rfl), SqL.lst (sm _ _ hgap), by omega, by omega, by omega, fun H4 s4 => ?_⟩
      refine ⟨_, rfl, ?_⟩
      refine ifB (fun hb => ?_) (fun hb => ?_)
      · refine ⟨_, rfl, _, s4 _ _ eD, smallLt (by rw [List.length_map]; exact Nat.le_trans (List.length_filter_le _ _) (by rw [List.length_range]; omega)), same_mut (sm.trans s4) nD2, ?_⟩
        rw [upd_same, List.range_succ, List.filter_append, List.map_append]
        simp [hb]
      · refine ⟨sm.trans s4, ?_⟩
        rw [s4 _ _ eD, List.range_succ, List.filter_append, List.map_append]
        simp [hb]
    rintro H5 ⟨s5, eD2⟩
    have hag : againL cs n = true := by
      unfold againL
      rw [hcl, Nat.div_self (by omega), Nat.one_mul, decide_eq_true rfl, Bool.true_and, Nat.sub_self, List.take_zero, List.drop_eq_nil_of_le (by omega)]
      rfl
    obtain ⟨z, rest, hz⟩ : ∃ z rest, ((List.range n).filter fun j => againL cs (j + 1)) = z :: rest := by
      cases q : ((List.range n).filter fun j => againL cs (j + 1)) with
      | nil =>
        have hm : n - 1 ∈ ((List.range n).filter fun j => againL cs (j + 1)) := List.mem_filter.mpr ⟨List.mem_range.mpr (by omega), by rw [show n - 1 + 1 = n by omega]; exact hag⟩
        rw [q] at hm
        cases hm
      | cons z rest => exact ⟨z, rest, rfl⟩
    have hzm : z ∈ ((List.range n).filter fun j => againL cs (j + 1)) := by rw [hz]; exact List.mem_cons_self
    have hzn : z < n := List.mem_range.mp (List.mem_filter.mp hzm).1
    have hsz : sizeL cs = z + 1 := by
      unfold sizeL sizesL
      rw [hcl, hz]
      rfl
    rw [hz] at eD2
    refine ⟨D2, _, 0, .int ((sizeL cs : Nat) : Int), rfl, rfl, SqL.lst eD2, (atI_nat (j := 0) (by show some (V.int (1 + ((z : Nat) : Int))) = _; rw [hsz, Int.natCast_add, Int.add_comm]; rfl)), ?_⟩
    walk_at "go"
    (intro sp nsp; generalize e_sp : upd H5 sp _ = H6; have s6 : Same H5 H6 := fun b x hb => (congrFun e_sp b).symm.trans (same_new nsp b x hb); have h6 := (congrFun e_sp sp).symm.trans upd_same; clear e_sp)
    refine ⟨Nat.le_of_ble_eq_true rfl, ?_⟩
    (intro be nbe; generalize e_be : upd H6 be _ = H7; have s7 : Same H6 H7 := fun b x hb => (congrFun e_be b).symm.trans (same_new nbe b x hb); have h7 := (congrFun e_be be).symm.trans upd_same; clear e_be)
    obtain ⟨b, hb2⟩ := nat_of (i := gs.getLastD 1) (by omega)
    have s07 : Same H H7 := (((s02.trans s3).trans s5).trans s6).trans s7
    have hgap7 : H7 D = some (.lst (cs.map V.int)) := s7 _ _ (s6 _ _ (s5 _ _ hgap))
    refine ⟨_, _, rfl, ?_⟩
    refine ⟨_, rfl, _, rfl, _, rfl, g, _, _, _, rfl, rfl, s07.seq hg, getLastD_map gs g0, _, _, rfl, rfl, .inr ⟨by omega, by omega⟩, _, rfl, ?_, ?_, ?_⟩
    · rw [hb2, ← Int.natCast_mul]
      omega
    · rw [hb2, ← Int.natCast_mul]
      have : sizeL cs * b ≤ 7200 * 60 := Nat.mul_le_mul (by omega) (by omega)
      omega
    have en3 : (((sizeL cs : Nat) : Int) * gs.getLastD 1).toNat = sizeL cs * b := by rw [hb2, ← Int.natCast_mul, Int.toNat_natCast]
    rw [en3]
    have hmax : sizeL cs * b ≤ 7200 * 60 := Nat.mul_le_mul (by omega) (by omega)
    have hspl : ∀ i, (spotsL cs b i).length ≤ i := fun i => by
      unfold spotsL
      exact Nat.le_trans (List.length_filter_le _ _) (by rw [List.length_range]; exact Nat.le_refl _)
    have hspbe : sp ≠ be := ne_of_none h6 nbe
    have nsp3 : H3 sp = none := s5.free nsp
    have nbe3 : H3 be = none := (s5.trans s6).free nbe
    have h6' : H7 sp = some (.lst []) := s7 _ _ h6
    refine for_range (n := sizeL cs * b) (fun i σ H' => ∃ (v4 v5 v10 v11 v12 : Option V), σ = [some (.ref g), some (.ref l), some (.int ((unitL gs : Nat) : Int)), some (.int ((everyL rows : Nat) : Int)), v4, v5, some (.ref D), some (.int ((sizeL cs : Nat) : Int)), some (.ref sp), some (.ref be), v10, v11, v12] ∧ Same H3 H' ∧
        H' sp = some (.lst ((spotsL cs b i).map fun k => V.int ((k : Nat) : Int))) ∧ H' be = some (.lst ((belowL cs b i).map fun k => V.int ((k : Nat) : Int))))
      ⟨_, _, _, _, _, rfl, (s5.trans s6).trans s7, h6', h7⟩ ?_ ?_
    · rintro i σ H' hi ⟨v4, v5, v10, v11, v12, rfl, sm, esp, ebe⟩
      rw [Int.zero_add]
      refine ⟨_, rfl, .inl ⟨rfl, _, SqL.lst ebe⟩, _, rfl, _, _, rfl, .inl (SqL.lst esp), be, _, _, rfl, rfl, ebe, ?_, ?_⟩
      · refine smallLt ?_
        rw [List.length_map]
        unfold belowL
        rw [List.length_map, List.length_range]
        omega
      generalize eH8 : upd H' be _ = H8
      have s8 : Same H3 H8 := by rw [← eH8]; exact same_mut sm nbe3
      have e8be : H8 be = some (.lst ((belowL cs b (i + 1)).map fun k => V.int ((k : Nat) : Int))) := by
        rw [← eH8, upd_same, List.length_map]
        unfold belowL
        rw [List.range_succ, List.map_append, List.map_append]
        rfl
      have e8sp : H8 sp = some (.lst ((spotsL cs b i).map fun k => V.int ((k : Nat) : Int))) := by rw [← eH8, upd_ne hspbe]; exact esp
      clear eH8
      have s08 : Same H H8 := (s02.trans s3).trans s8
      have hg8 := s08.seq hg
      have hlt : i / b < cs.length := by
        have h1 : i / b < sizeL cs := Nat.div_lt_of_lt_mul (by rw [Nat.mul_comm]; exact hi)
        omega
      have hat : atI (cs.map V.int) (((i / b : Nat)) : Int) = some (V.int (cs.getD (i / b) 0)) := by
        rw [atI_nat (map_get hlt), List.getD_eq_getElem?_getD, List.getElem?_eq_getElem hlt]
        rfl
      refine ⟨_, rfl, .inl ⟨_, rfl, _, rfl, _, rfl, g, _, _, _, rfl, rfl, hg8, getLastD_map gs g0, _, _, rfl, rfl, (by show (0 : Int) < _; omega), ?_⟩⟩
      refine ⟨_, rfl, _, rfl, _, rfl, _, rfl, g, _, _, _, rfl, rfl, hg8, getLastD_map gs g0, _, _, rfl, rfl, (by show (0 : Int) < _ ∧ _ < _; omega), ?_⟩
      refine ⟨D, _, _, .int (cs.getD (i / b) 0), rfl, rfl, SqL.lst (s8 _ _ hgap), (by rw [hb2, ← Int.natCast_ediv]; exact hat), _, _, rfl, rfl, _, rfl, ?_⟩
      have hspot : (decide (cs.getD (i / b) 0 ≤ (i : Int) % gs.getLastD 1)) = spotOk cs b i := by
        rw [hb2, ← Int.natCast_emod]
        rfl
      have hnext : spotsL cs b (i + 1) = spotsL cs b i ++ (if spotOk cs b i = true then [i] else []) := by
        unfold spotsL
        rw [List.range_succ, List.filter_append]
        congr 1
        cases q : spotOk cs b i <;> simp [q]
      refine ifD (fun hd => ?_) (fun hd => ?_)
      · have hq : spotOk cs b i = true := by rw [← hspot]; exact decide_eq_true hd
        refine ⟨_, rfl, .inl ⟨rfl, _, SqL.lst e8sp⟩, _, rfl, sp, _, _, rfl, rfl, e8sp, ?_, ?_⟩
        · refine smallLt ?_
          rw [List.length_map]
          exact Nat.le_trans (hspl i) (by omega)
        refine ⟨_, _, _, _, _, rfl, same_mut s8 nsp3, ?_, ?_⟩
        · rw [upd_same, hnext, if_pos hq, List.map_append]
          rfl
        · rw [upd_ne hspbe.symm]
          exact e8be
      · have hq : spotOk cs b i = false := by rw [← hspot]; exact decide_eq_false hd
        refine ⟨_, _, _, _, _, rfl, s8, ?_, e8be⟩
        rw [hnext, if_neg (by rw [hq]; exact Bool.false_ne_true), List.append_nil]
        exact e8sp
    rintro σ H8 ⟨v4, v5, v10, v11, v12, rfl, s8, esp, ebe⟩
    have s08 : Same H H8 := (s02.trans s3).trans s8
    intro d nd
    refine ⟨_, rfl, _, rfl, _, rfl, _, rfl, _, rfl, upd_same, [(Sum.inr "ground", .ref g), (Sum.inr "lanes", .ref l), (Sum.inr "groups", .int ((sizeL cs : Nat) : Int)), (Sum.inr "spots", .ref sp), (Sum.inr "below", .ref be)], rfl, Nat.le_of_ble_eq_true rfl, ?_⟩
    have hmk : mergeK [] [((Sum.inr "ground" : Key), V.ref g), (Sum.inr "lanes", .ref l), (Sum.inr "groups", .int ((sizeL cs : Nat) : Int)), (Sum.inr "spots", .ref sp), (Sum.inr "below", .ref be)] = [((Sum.inr "ground" : Key), V.ref g), (Sum.inr "lanes", .ref l), (Sum.inr "groups", .int ((sizeL cs : Nat) : Int)), (Sum.inr "spots", .ref sp), (Sum.inr "below", .ref be)] := by rfl
    rw [hmk, upd_upd]
    have hds : sp ≠ d := ne_of_none esp nd
    have hdb : be ≠ d := ne_of_none ebe nd
    have hbt : (gs.getLastD 1).toNat = b := by omega
    refine k d _ (s08.trans (same_new nd)) (s08.free nd) ⟨sp, be, cs, n, upd_same, hnn.symm, hcs.symm, ?_, ?_, fun z => z ((s02.trans s3).free nsp3), fun z => z ((s02.trans s3).free nbe3)⟩
    · rw [upd_ne hds, hbt]
      exact esp
    · rw [upd_ne hdb, hbt]
      exact ebe
def spHouse (K : PySem.W.Frag) : Sp := fun vs H Q _ => ∃ (p : Addr), vs = [.ref p, .non] ∧ VaseAt H p ∧
  ∀ (d g l : Addr) (gs : List Int) (rows : List R3) (H' : Hp), H d = none → H g = none → H l = none → H' g = some (.lst (gs.map V.int)) → LanesAt p H' l rows → HomeAt (fun q => H q ≠ none) H' d g l gs rows → 1 ≤ gs.length → gs.length ≤ 3 → (∀ x ∈ gs, 2 ≤ x ∧ x ≤ 4) →
    rows.length ≤ 3 → (∀ r ∈ rows, RowOk 4 gs r) → VaseAt H' p → Else p H H' → Q (.ref d) H'
theorem lcm_12 : ∀ a ∈ [1, 2, 3, 4, 6, 12], ∀ b ∈ [1, 2, 3, 4], Nat.lcm a b ∈ [1, 2, 3, 4, 6, 12] := by decide
theorem every_12 : ∀ (rows : List R3) (e : Nat), e ∈ [1, 2, 3, 4, 6, 12] → (∀ r ∈ rows, 1 ≤ r.2.1 ∧ r.2.1 ≤ 4) → rows.foldl everyStep e ∈ [1, 2, 3, 4, 6, 12]
  | [], e, he, _ => he
  | r :: rows, e, he, h => by
    rw [List.foldl_cons]
    refine every_12 rows _ ?_ fun x hx => h x (List.mem_cons_of_mem _ hx)
    unfold everyStep
    split
    · refine lcm_12 e he _ ?_
      have := h r List.mem_cons_self
      have h4 : r.2.1.toNat = 1 ∨ r.2.1.toNat = 2 ∨ r.2.1.toNat = 3 ∨ r.2.1.toNat = 4 := by omega
      simp
      omega
    · exact he
theorem every_12' {rows : List R3} (h : ∀ r ∈ rows, 1 ≤ r.2.1 ∧ r.2.1 ≤ 4) : everyL rows ≤ 12 := by
  have := every_12 rows 1 (by decide) h
  simp at this
  unfold everyL
  omega
theorem unit_16 {gs : List Int} (h1 : gs.length ≤ 3) (h : ∀ x ∈ gs, 2 ≤ x ∧ x ≤ 4) : unitL gs ≤ 16 := by
  unfold unitL
  match gs, h1, h with
  | [], _, _ => decide
  | [a], _, _ => exact (by decide : 1 ≤ 16)
  | [a, b], _, h =>
    have := h a (by simp)
    show 1 * a.toNat ≤ 16
    omega
  | [a, b, c], _, h =>
    have h1 := h a (by simp)
    have h2 := h b (by simp)
    show 1 * a.toNat * b.toNat ≤ 16
    have : 1 * a.toNat * b.toNat ≤ 4 * 4 := Nat.mul_le_mul (by omega) (by omega)
    omega
  | _ :: _ :: _ :: _ :: _, h1, _ => exact absurd h1 (by simp)
theorem ok_house {f : Addr} {fd : FuncData} (F : Fun K "_law_house" "_law_house" s_law_house f fd) (D_law_ground : DefK P w K mg base "_law_ground" ["_law_vase_here", "_law_most"] 3 (spGround K)) (D_law_lanes : DefK P w K mg base "_law_lanes" ["_law_vase_here", "_law_ground_here"] 3 (spLanes K))
    (D_law_place_house : DefK P w K mg base "_law_place_house" ["_law_ground_here", "_law_lanes_here"] 3 (spPlace K)) : FnOk P w K mg base CX0 4 f fd ["_law_vase_here", "_law_ground_here"] (spHouse K) := by
  have sc := sc_law_house
  refine F.ok sc (fun vs H Q E h => ?_) (fun cdv A outer s H vs Q E hr h => ?_)
  · obtain ⟨p, rfl, _⟩ := h
    rfl
  · obtain ⟨p, rfl, hv, k⟩ := h
    refine ⟨_, (pss_cons (ps_set (i := 1) sc.nd rfl (Or.inl rfl) (pe_ifExp (pt_cmpR op_isN (pv 1) pe_non (nomark _)) (pe_d D_law_ground (hr.mono (by decide)) rfl (pa_cons (pv 0) (pa_cons pe_int pa_nil))) (pv 1)))
      (pss_one (ps_ret (pe_d D_law_place_house (hr.mono (by decide)) rfl (pa_cons (pv 1) (pa_cons (pe_d D_law_lanes (hr.mono (by decide)) rfl (pa_cons (pv 0) (pa_cons (pv 1) pa_nil))) pa_nil)))))), ?_⟩
    refine ⟨_, rfl, rfl, _, rfl, ?_⟩
    refine ifD (fun hd => ?_) (fun hd => absurd rfl hd)
    refine ⟨_, rfl, p, _, rfl, hv, by decide, by decide, fun g gs H1 ng eg g0 g1 gb hv1 e1 => ?_⟩
    have hgp := hv.ne ng
    refine ⟨_, rfl, _, rfl, _, rfl, ?_⟩
    refine ⟨p, g, gs, rfl, hv1, hgp, SqL.lst eg, g0, g1, (fun x hx => ⟨(gb x hx).1, by have := (gb x hx).2; omega⟩), fun l rows H2 nl eL hrl hro hv2 e2 => ?_⟩
    have hg2 := e2 _ _ hgp eg
    have hE : everyL rows ≤ 12 := every_12' fun r hm => ⟨(hro r hm).2.2.1, (hro r hm).2.2.2.1⟩
    have hU := unit_16 g1 gb
    refine ⟨g, l, gs, rows, 4, rfl, SqL.lst hg2, eL.in, g0, g1, (fun x hx => ⟨(gb x hx).1, by have := (gb x hx).2; omega⟩), by omega, by decide, hro, ?_, fun d H3 s3 nd hh => ?_⟩
    · exact Nat.le_trans (Nat.mul_le_mul hU hE) (by decide)
    · have e03 : Else p H H3 := (e1.trans e2).trans (Same.els s3)
      refine k d g l gs rows H3 ?_ ng ?_ (s3 _ _ hg2) (eL.same s3) (hh.weak fun q hq => ?_) g0 g1 gb hrl hro (hv2.same s3) e03
      · cases q : H d with
        | none => rfl
        | some o =>
          have hdp : d ≠ p := hv2.ne nd
          have := (e1.trans e2) d o hdp q
          rw [nd] at this
          cases this
      · cases q : H l with
        | none => rfl
        | some o =>
          have hlp : l ≠ p := hv1.ne nl
          have := e1 l o hlp q
          rw [nl] at this
          cases this
      · intro z
        cases e : H q with
        | none => exact hq e
        | some o =>
          by_cases hqp : q = p
          · obtain ⟨_, _, _, _, _, _, w⟩ := hv2
            rw [← hqp, z] at w
            cases w
          · have := (e1.trans e2) q o hqp e
            rw [z] at this
            cases this
end
end LM

set_option Elab.async false
set_option linter.all false
set_option maxRecDepth 100000
set_option maxHeartbeats 4000000
set_option pp.maxSteps 600
set_option pp.deepTerms false
namespace LM
open PySem PySem.Spec PyProof.Rows L2
local macro_rules | `(tactic| walk_at "hp") => `(tactic| first | assumption | exact upd_same | (rw [upd_ne (by assumption)]; assumption) | (rw [upd_ne (Ne.symm (by assumption))]; assumption) | (rw [upd_ne (by assumption)]; exact upd_same) | (rw [upd_ne (Ne.symm (by assumption))]; exact upd_same))
local macro_rules | `(tactic| walk_at "sq") => `(tactic| first | assumption | exact Or.inl (Or.inl (by assumption)) | exact Or.inl (Or.inl upd_same) | exact Or.inl (Or.inl (by walk_at "hp")))
local macro_rules | `(tactic| walk_at "ixl") => `(tactic| refine ⟨_, _, _, _, rfl, rfl, (by walk_at "sq"), (by rfl), ?_⟩)
local macro_rules | `(tactic| walk_at "setl") => `(tactic| refine ⟨_, _, _, _, rfl, rfl, (by walk_at "hp"), (by rfl), ?_⟩)
local macro_rules | `(tactic| walk_at "side") => `(tactic| refine idP ?_; first | omega | (show (0 : Int) < _; omega) | (show (0 : Int) < _ ∧ _ < _; omega) | (refine Or.inr ?_; show (-(2 ^ 64) : Int) < _ ∧ _ < _; omega) | (refine Or.inl ?_; show (-(2 ^ 64) : Int) < _ ∧ _ < _; omega) | exact divW (by omega) (by omega) _ | (refine ⟨by decide, by decide, ?_⟩; decide))
local macro_rules | `(tactic| walk_at "go1") => `(tactic| first
  | refine ⟨_, rfl, ?_⟩
  | refine ⟨_, _, rfl, rfl, (by walk_at "side"), ?_⟩
  | refine ⟨_, _, rfl, (by walk_at "side"), ?_⟩
  | refine ⟨_, _, rfl, rfl, ?_⟩
  | refine Or.inl ⟨_, rfl, ?_⟩
  | refine ⟨_, _, rfl, Or.inl (by walk_at "sq"), ?_⟩
  | walk_at "ixl"
  | walk_at "setl"
  | refine ⟨_, _, rfl, (by walk_at "sq"), rfl, ?_⟩
  | refine ⟨_, _, rfl, (by walk_at "sq"), ?_⟩
  | refine ⟨_, _, rfl, ?_⟩
  | refine ⟨rfl, ?_⟩
  | refine ⟨small (Nat.le_of_ble_eq_true rfl), ?_⟩)
local macro_rules | `(tactic| walk_at "go") => `(tactic| repeat walk_at "go1")

abbrev sis_integer : Stmt := topS 15
theorem scis_integer : FnScope ["value"] ["value"] (defScope sis_integer) := ⟨rfl, rfl, rfl, by decide +kernel, rfl, by decide +kernel, by decide +kernel⟩
abbrev sis_integer_within : Stmt := topS 16
theorem scis_integer_within : FnScope ["value", "low", "high"] ["value", "low", "high"] (defScope sis_integer_within) := ⟨rfl, rfl, rfl, by decide +kernel, rfl, by decide +kernel, by decide +kernel⟩
abbrev sis_number : Stmt := topS 17
theorem scis_number : FnScope ["value"] ["value"] (defScope sis_number) := ⟨rfl, rfl, rfl, by decide +kernel, rfl, by decide +kernel, by decide +kernel⟩
abbrev scheck_number : Stmt := topS 18
theorem sccheck_number : FnScope ["given"] ["given"] (defScope scheck_number) := ⟨rfl, rfl, rfl, by decide +kernel, rfl, by decide +kernel, by decide +kernel⟩
abbrev scheck_bases : Stmt := topS 46
theorem sccheck_bases : FnScope ["bases", "index", "base"] ["bases"] (defScope scheck_bases) := ⟨rfl, rfl, rfl, by decide +kernel, rfl, by decide +kernel, by decide +kernel⟩
abbrev sis_row : Stmt := topS 47
theorem scis_row : FnScope ["bases", "value", "field", "every", "count"] ["bases", "value"] (defScope sis_row) := ⟨rfl, rfl, rfl, by decide +kernel, rfl, by decide +kernel, by decide +kernel⟩
abbrev scheck_rows : Stmt := topS 48
theorem sccheck_rows : FnScope ["bases", "rows", "index", "row"] ["bases", "rows"] (defScope scheck_rows) := ⟨rfl, rfl, rfl, by decide +kernel, rfl, by decide +kernel, by decide +kernel⟩
/-- the constants of the program's modules -/
structure Consts (mg : Str → Option Value) : Prop where
  MOST_BASES : ∃ t, mg "MOST_BASES" = some (.int 3 t)
  MOST_ROWS : ∃ t, mg "MOST_ROWS" = some (.int 6 t)
  MOST_GROUPS : ∃ t, mg "MOST_GROUPS" = some (.int 7200 t)
  LEAST_BASE : ∃ t, mg "LEAST_BASE" = some (.int 2 t)
  GREATEST_BASE : ∃ t, mg "GREATEST_BASE" = some (.int 60 t)
  GREATEST_EVERY : ∃ t, mg "GREATEST_EVERY" = some (.int 60 t)
theorem within_true {a b c : Int} (h1 : a ≤ b) (h2 : b ≤ c) : (decide (a ≤ b) && decide (b ≤ c)) = true := by
  rw [decide_eq_true h1, decide_eq_true h2]
  rfl
def spIsInt : Sp := fun vs H Q _ => ∃ n : Int, vs = [.int n] ∧ Q (.bl true) H
def spWithin : Sp := fun vs H Q _ => ∃ n lo hi : Int, vs = [.int n, .int lo, .int hi] ∧ Q (.bl (decide (lo ≤ n) && decide (n ≤ hi))) H
def spIsNum : Sp := fun vs H Q _ => ∃ n : Int, vs = [.int n] ∧ Q (.bl (decide (0 ≤ n))) H
def spChkNum : Sp := fun vs H Q _ => ∃ n : Int, vs = [.int n] ∧ 0 ≤ n ∧ Q .non H
def spChkBases (K : PySem.W.Frag) : Sp := fun vs H Q _ => ∃ (a : Addr) (bs : List Int), vs = [.ref a] ∧ SqT K H a (bs.map V.int) ∧ 1 ≤ bs.length ∧ bs.length ≤ 3 ∧ (∀ x ∈ bs, 2 ≤ x ∧ x ≤ 60) ∧ ∀ H', Same H H' → Q .non H'
def spIsRow (K : PySem.W.Frag) : Sp := fun vs H Q _ => ∃ (a r : Addr) (bs : List Int) (x : R3), vs = [.ref a, .ref r] ∧ SqT K H a (bs.map V.int) ∧ 1 ≤ bs.length ∧ SqT K H r [.int x.1, .int x.2.1, .int x.2.2] ∧ RowOk 60 bs x ∧ ∀ H', Same H H' → Q (.bl true) H'
/-- at r a tuple of rows, each a tuple of three ints -/
def RowsAt (K : PySem.W.Frag) (H : Hp) (r : Addr) (rows : List R3) : Prop := ∃ as : List Addr, SqT K H r (as.map V.ref) ∧ Paired (fun a (x : R3) => SqT K H a [.int x.1, .int x.2.1, .int x.2.2]) as rows
theorem RowsAt.same {K : PySem.W.Frag} {H H' : Hp} {r : Addr} {rows : List R3} (h : RowsAt K H r rows) (s : Same H H') : RowsAt K H' r rows := by
  obtain ⟨as, e, p⟩ := h
  exact ⟨as, Same.seqT s e, paired_imp p fun a _ x q => Same.seqT s q⟩
def spChkRows (K : PySem.W.Frag) : Sp := fun vs H Q _ => ∃ (a r : Addr) (bs : List Int) (rows : List R3), vs = [.ref a, .ref r] ∧ SqT K H a (bs.map V.int) ∧ 1 ≤ bs.length ∧ RowsAt K H r rows ∧ rows.length ≤ 6 ∧ (∀ x ∈ rows, RowOk 60 bs x) ∧ ∀ H', Same H H' → Q .non H'
theorem tyT {K : PySem.W.Frag} {H : Hp} {a : Addr} {xs : List V} (h : SqT K H a xs) : TyX K H (.ref a) (.type "tuple") := by
  rcases h with (h | ⟨o, h⟩) | h
  · exact .base (.tup h)
  · exact .fTuple h
  · obtain ⟨o, its, n, e, c, _⟩ := h
    exact .kTuple e c
section
variable {P : Program} {w : World} {K : PySem.W.Frag} {mg : Str → Option Value} {base : Heap}
theorem ok_isint {f : Addr} {fd : FuncData} (F : Fun K "is_integer" "is_integer" sis_integer f fd) (N : Names mg) : FnOk P w K mg base CX0 1 f fd ["value"] spIsInt := by
  have sc := scis_integer
  refine F.ok sc (fun vs H Q E h => ?_) (fun cdv A outer s H vs Q E hr h => ?_)
  · obtain ⟨n, rfl, _⟩ := h
    rfl
  · obtain ⟨n, rfl, k⟩ := h
    refine ⟨_, (pss_one (ps_ret (pe_and (pe_callB call_isi (by rfl) N.isinstance (by decide +kernel) (pa_cons (pv 0) (pa_cons (pe_ty "int" rfl N.int (by decide +kernel)) pa_nil))) (pe_one (pe_not (pe_callB call_isi (by rfl) N.isinstance (by decide +kernel) (pa_cons (pv 0) (pa_cons (pe_ty "bool" rfl N.bool (by decide +kernel)) pa_nil)))))))), ?_⟩
    refine ⟨_, rfl, _, _, _, _, _, rfl, .ty _, .base (.int n), kit_ty (r := true) (by decide +kernel), _, rfl, ?_⟩
    exact ⟨_, rfl, _, _, _, _, _, rfl, .ty _, .base (.int n), kit_ty (r := false) (by decide +kernel), _, rfl, k⟩
theorem ok_within {f : Addr} {fd : FuncData} (F : Fun K "is_integer_within" "is_integer_within" sis_integer_within f fd) (Dis_integer : DefK P w K mg base "is_integer" ["value"] 1 spIsInt) : FnOk P w K mg base CX0 2 f fd ["value", "low", "high"] spWithin := by
  have sc := scis_integer_within
  refine F.ok sc (fun vs H Q E h => ?_) (fun cdv A outer s H vs Q E hr h => ?_)
  · obtain ⟨n, lo, hi, rfl, _⟩ := h
    rfl
  · obtain ⟨n, lo, hi, rfl, k⟩ := h
    refine ⟨_, (pss_one (ps_ret (pe_and (pe_d Dis_integer (hr.mono (by decide)) rfl (pa_cons (pv 0) pa_nil)) (pe_one (pe_chain op_le op_le (pv 1) (pv 0) (pv 2)))))), ?_⟩
    refine ⟨_, rfl, n, rfl, _, rfl, ?_⟩
    refine ⟨_, rfl, _, rfl, _, _, rfl, rfl, _, rfl, ?_⟩
    refine ifD (fun hd => ?_) (fun hd => ?_)
    · refine ⟨_, rfl, _, _, rfl, rfl, ?_⟩
      rw [decide_eq_true hd, Bool.true_and] at k
      exact k
    · rw [decide_eq_false hd, Bool.false_and] at k
      exact k
theorem ok_isnum {f : Addr} {fd : FuncData} (F : Fun K "is_number" "is_number" sis_number f fd) (Dis_integer : DefK P w K mg base "is_integer" ["value"] 1 spIsInt) : FnOk P w K mg base CX0 2 f fd ["value"] spIsNum := by
  have sc := scis_number
  refine F.ok sc (fun vs H Q E h => ?_) (fun cdv A outer s H vs Q E hr h => ?_)
  · obtain ⟨n, rfl, _⟩ := h
    rfl
  · obtain ⟨n, rfl, k⟩ := h
    refine ⟨_, (pss_one (ps_ret (pe_and (pe_d Dis_integer (hr.mono (by decide)) rfl (pa_cons (pv 0) pa_nil)) (pe_one (pe_cmpR op_ge (pv 0) pe_int (nomark _)))))), ?_⟩
    refine ⟨_, rfl, n, rfl, _, rfl, ?_⟩
    exact ⟨_, rfl, _, _, rfl, rfl, k⟩
theorem ok_chknum {f : Addr} {fd : FuncData} (F : Fun K "check_number" "check_number" scheck_number f fd) (Dis_number : DefK P w K mg base "is_number" ["value"] 2 spIsNum) : FnOk P w K mg base CX0 3 f fd ["given"] spChkNum := by
  have sc := sccheck_number
  refine F.ok sc (fun vs H Q E h => ?_) (fun cdv A outer s H vs Q E hr h => ?_)
  · obtain ⟨n, rfl, _⟩ := h
    rfl
  · obtain ⟨n, rfl, h0, k⟩ := h
    refine ⟨_, (pss_one (ps_if (pt_not (pt_val (pe_d Dis_number (hr.mono (by decide)) rfl (pa_cons (pv 0) pa_nil)))) (pss_one ps_never) pss_nil)), ?_⟩
    refine ⟨_, rfl, n, rfl, _, rfl, ?_⟩
    rw [decide_eq_true h0]
    exact iteF k
theorem ok_chkbases {f : Addr} {fd : FuncData} (F : Fun K "check_bases" "check_bases" scheck_bases f fd) (N : Names mg) (M : Consts mg) (Dis_integer_within : DefK P w K mg base "is_integer_within" ["value", "low", "high"] 2 spWithin) : FnOk P w K mg base CX0 3 f fd ["bases"] (spChkBases K) := by
  have sc := sccheck_bases
  refine F.ok sc (fun vs H Q E h => ?_) (fun cdv A outer s H vs Q E hr h => ?_)
  · obtain ⟨a, bs, rfl, _⟩ := h
    rfl
  · obtain ⟨a, bs, rfl, hb, b0, b1, bb, k⟩ := h
    refine ⟨_, (pss_cons (ps_if (PW.pt (pw_or (pt_not (pt_val (pe_callB call_isi (by rfl) N.isinstance (by decide +kernel) (pa_cons (pv 0) (pa_cons (pe_ty "tuple" rfl N.tuple (by decide +kernel)) pa_nil))))) (pw_or1 (pt_not (pt_chain op_le op_le pe_int (pe_callB call_len_seq (by rfl) N.len (by decide +kernel) (pa_cons (pv 0) pa_nil)) (pe_const rfl M.MOST_BASES)))))) (pss_one ps_never) pss_nil)
      (pss_one (ps_for PassesOwn.never rfl (pi_enumT rfl N.enumerate (pa_cons (pv 0) pa_nil)) (pg_tup rfl (pgs_cons (pg_name (i := 1) sc.nd rfl (Or.inl rfl)) (pgs_cons (pg_name (i := 2) sc.nd rfl (Or.inl rfl)) pgs_nil))) (pss_one (ps_if (pt_not (pt_val (pe_d Dis_integer_within (hr.mono (by decide)) rfl (pa_cons (pv 2) (pa_cons (pe_const rfl M.LEAST_BASE) (pa_cons (pe_const rfl M.GREATEST_BASE) pa_nil)))))) (pss_one ps_never) pss_nil))))), ?_⟩
    refine ⟨_, rfl, _, _, _, _, _, rfl, .ty _, tyT hb, kit_ty (r := true) (by decide +kernel), _, rfl, ?_⟩
    refine iteF ?_
    refine ⟨_, rfl, a, _, rfl, .inr hb, _, _, rfl, rfl, _, rfl, ?_⟩
    rw [List.length_map]
    refine ifD (fun hd => ?_) (fun hd => absurd (by omega) hd)
    refine ⟨_, _, rfl, rfl, _, rfl, ?_⟩
    refine ifN (fun hd => absurd (by show ((bs.length : Nat) : Int) ≤ 3; omega) hd) (fun hd => ?_)
    refine ⟨_, rfl, a, _, rfl, hb, for_enumT (K := K) (xs := bs.map V.int) (fun i σ H' => ∃ v1 v2 : Option V, σ = [some (.ref a), v1, v2] ∧ Same H H') ⟨_, _, rfl, Same.refl H⟩ (fun i σ H' _ ⟨_, _, _, s⟩ => Same.seqT s hb) ?_ ?_⟩
    · rintro i x T σ H' hx nT ⟨v1, v2, rfl, sm⟩
      obtain ⟨b, hb', rfl⟩ : ∃ b, bs[i]? = some b ∧ x = V.int b := by
        rw [List.getElem?_map] at hx
        obtain ⟨z, hz, e⟩ := Option.map_eq_some_iff.mp hx
        exact ⟨z, hz, e.symm⟩
      have hbb := bb b (List.mem_of_getElem? hb')
      refine ⟨T, _, rfl, SqT.tup upd_same, rfl, _, _, rfl, _, _, rfl, rfl, ?_⟩
      refine ⟨_, rfl, b, 2, 60, rfl, _, rfl, ?_⟩
      rw [decide_eq_true hbb.1, decide_eq_true hbb.2]
      refine iteF ?_
      exact ⟨_, _, rfl, Same.of_new sm nT⟩
    · rintro σ H' ⟨v1, v2, rfl, sm⟩
      exact k H' sm
theorem ok_isrow {f : Addr} {fd : FuncData} (F : Fun K "is_row" "is_row" sis_row f fd) (N : Names mg) (M : Consts mg) (Dis_integer_within : DefK P w K mg base "is_integer_within" ["value", "low", "high"] 2 spWithin) : FnOk P w K mg base CX0 3 f fd ["bases", "value"] (spIsRow K) := by
  have sc := scis_row
  refine F.ok sc (fun vs H Q E h => ?_) (fun cdv A outer s H vs Q E hr h => ?_)
  · obtain ⟨a, r, bs, x, rfl, _⟩ := h
    rfl
  · obtain ⟨a, r, bs, x, rfl, hb, b0, hx, ⟨o1, o2, o3, o4, o5, o6⟩, k⟩ := h
    refine ⟨_, (pss_cons (ps_if (PW.pt (pw_or (pt_not (pt_val (pe_callB call_isi (by rfl) N.isinstance (by decide +kernel) (pa_cons (pv 1) (pa_cons (pe_ty "tuple" rfl N.tuple (by decide +kernel)) pa_nil))))) (pw_or1 (pt_cmpR op_ne (pe_callB call_len_seq (by rfl) N.len (by decide +kernel) (pa_cons (pv 1) pa_nil)) pe_int (nomark _))))) (pss_one (ps_ret pe_bl)) pss_nil)
      (pss_cons (ps_asg (pv 1) (pg_tup rfl (pgs_cons (pg_name (i := 2) sc.nd rfl (Or.inl rfl)) (pgs_cons (pg_name (i := 3) sc.nd rfl (Or.inl rfl)) (pgs_cons (pg_name (i := 4) sc.nd rfl (Or.inl rfl)) pgs_nil)))))
      (pss_one (ps_ret (pe_and (pe_d Dis_integer_within (hr.mono (by decide)) rfl (pa_cons (pv 2) (pa_cons pe_int (pa_cons (pe_op op_sub (pe_callB call_len_seq (by rfl) N.len (by decide +kernel) (pa_cons (pv 0) pa_nil)) pe_int) pa_nil)))) (pe_and (pe_d Dis_integer_within (hr.mono (by decide)) rfl (pa_cons (pv 3) (pa_cons pe_int (pa_cons (pe_const rfl M.GREATEST_EVERY) pa_nil)))) (pe_one (pe_d Dis_integer_within (hr.mono (by decide)) rfl (pa_cons (pv 4) (pa_cons pe_int (pa_cons (pe_op op_sub (pe_ix ix_tup (pv 0) (pe_un un_neg pe_int) (fun _ _ => rfl)) pe_int) pa_nil))))))))))), ?_⟩
    refine ⟨_, rfl, _, _, _, _, _, rfl, .ty _, tyT hx, kit_ty (r := true) (by decide +kernel), _, rfl, ?_⟩
    refine iteF ?_
    refine ⟨_, rfl, r, _, rfl, .inr hx, rfl, _, rfl, ?_⟩
    refine iteF ?_
    refine ⟨_, rfl, r, _, rfl, hx, rfl, _, _, rfl, _, _, rfl, _, _, rfl, rfl, ?_⟩
    refine ⟨_, rfl, _, rfl, a, _, rfl, .inr hb, _, _, rfl, rfl, x.1, 0, _, rfl, _, rfl, ?_⟩
    rw [within_true o1 (by rw [List.length_map]; omega)]
    refine iteT ?_
    refine ⟨_, rfl, x.2.1, 1, 60, rfl, _, rfl, ?_⟩
    rw [within_true o3 o4]
    refine iteT ?_
    refine ⟨_, rfl, _, rfl, _, rfl, a, _, _, _, rfl, rfl, hb, getLastD_map bs b0, _, _, rfl, rfl, x.2.2, 0, _, rfl, ?_⟩
    rw [within_true o5 (by omega)]
    exact k H (Same.refl H)
theorem ok_chkrows {f : Addr} {fd : FuncData} (F : Fun K "check_rows" "check_rows" scheck_rows f fd) (N : Names mg) (M : Consts mg) (Dis_row : DefK P w K mg base "is_row" ["bases", "value"] 3 (spIsRow K)) : FnOk P w K mg base CX0 4 f fd ["bases", "rows"] (spChkRows K) := by
  have sc := sccheck_rows
  refine F.ok sc (fun vs H Q E h => ?_) (fun cdv A outer s H vs Q E hr h => ?_)
  · obtain ⟨a, r, bs, rows, rfl, _⟩ := h
    rfl
  · obtain ⟨a, r, bs, rows, rfl, hb, b0, hR, r6, ro, k⟩ := h
    obtain ⟨as, hrt, pr⟩ := id hR
    have hpl := pr.length
    refine ⟨_, (pss_cons (ps_if (PW.pt (pw_or (pt_not (pt_val (pe_callB call_isi (by rfl) N.isinstance (by decide +kernel) (pa_cons (pv 1) (pa_cons (pe_ty "tuple" rfl N.tuple (by decide +kernel)) pa_nil))))) (pw_or1 (pt_cmpR op_gt (pe_callB call_len_seq (by rfl) N.len (by decide +kernel) (pa_cons (pv 1) pa_nil)) (pe_const rfl M.MOST_ROWS) (nomark _))))) (pss_one ps_never) pss_nil)
      (pss_one (ps_for PassesOwn.never rfl (pi_enumT rfl N.enumerate (pa_cons (pv 1) pa_nil)) (pg_tup rfl (pgs_cons (pg_name (i := 2) sc.nd rfl (Or.inl rfl)) (pgs_cons (pg_name (i := 3) sc.nd rfl (Or.inl rfl)) pgs_nil))) (pss_one (ps_if (pt_not (pt_val (pe_d Dis_row (hr.mono (by decide)) rfl (pa_cons (pv 0) (pa_cons (pv 3) pa_nil))))) (pss_one ps_never) pss_nil))))), ?_⟩
    refine ⟨_, rfl, _, _, _, _, _, rfl, .ty _, tyT hrt, kit_ty (r := true) (by decide +kernel), _, rfl, ?_⟩
    refine iteF ?_
    refine ⟨_, rfl, r, _, rfl, .inr hrt, _, _, rfl, rfl, _, rfl, ?_⟩
    refine ifD (fun hd => absurd hd (by rw [List.length_map]; omega)) (fun hd => ?_)
    refine ⟨_, rfl, r, _, rfl, hrt, for_enumT (K := K) (xs := as.map V.ref) (fun i σ H' => ∃ v1 v2 : Option V, σ = [some (.ref a), some (.ref r), v1, v2] ∧ Same H H') ⟨_, _, rfl, Same.refl H⟩ (fun i σ H' _ ⟨_, _, _, s⟩ => Same.seqT s hrt) ?_ ?_⟩
    · rintro i x T σ H' hx nT ⟨v1, v2, rfl, sm⟩
      obtain ⟨ra, ha, rfl⟩ : ∃ b, as[i]? = some b ∧ x = V.ref b := by
        rw [List.getElem?_map] at hx
        obtain ⟨z, hz, e⟩ := Option.map_eq_some_iff.mp hx
        exact ⟨z, hz, e.symm⟩
      obtain ⟨y, hy, hya⟩ := paired_at pr ha
      have sT : Same H (upd H' T (.tup [.int ((i : Nat) : Int), .ref ra])) := Same.of_new sm nT
      refine ⟨T, _, rfl, SqT.tup upd_same, rfl, _, _, rfl, _, _, rfl, rfl, ?_⟩
      refine ⟨_, rfl, _, rfl, a, ra, bs, y, rfl, Same.seqT sT hb, b0, Same.seqT sT hya, ro y (List.mem_of_getElem? hy), fun H5 s5 => ?_⟩
      refine ⟨_, rfl, iteF ?_⟩
      exact ⟨_, _, rfl, sT.trans s5⟩
    · rintro σ H' ⟨v1, v2, rfl, sm⟩
      exact k H' sm
end
end LM

set_option Elab.async false
set_option linter.all false
set_option maxRecDepth 100000
set_option maxHeartbeats 4000000
namespace LM
open PySem PySem.Spec PyProof.Rows L2
def rgN (i j c : Int) : Nat := if i < j then ((j - i - 1) / c + 1).toNat else 0
theorem rgN_le {i j c : Int} (hi : i ≤ j) (hc : 1 ≤ c) : (rgN i j c : Int) ≤ j - i := by
  unfold rgN
  split
  · have h1 : (j - i - 1) / c ≤ j - i - 1 := Int.ediv_le_self _ (by omega)
    omega
  · omega
theorem RgC.pos {i j c : Int} (h0 : 0 ≤ i) (h1 : i ≤ j) (h2 : j ≤ 10000000) (h3 : 1 ≤ c) (h4 : c ≤ 10000000) : RgC i j c (rgN i j c) := by
  have hs : Builtin.Range.rangeSize i j c = ((rgN i j c : Nat) : Int) := by
    unfold Builtin.Range.rangeSize rgN
    rw [if_pos (by omega)]
    by_cases h : i < j
    · rw [if_pos h, if_pos h]
      have : 0 ≤ (j - i - 1) / c := Int.ediv_nonneg (by omega) (by omega)
      omega
    · rw [if_neg h, if_neg h]
      rfl
  have hl := rgN_le h1 h3
  refine ⟨by omega, by omega, ?_, hs⟩
  unfold Builtin.Range.small
  rw [hs]
  simp only [Builtin.Range.rangeFitsLong, Bool.and_eq_true, Bool.or_eq_true, decide_eq_true_eq, beq_iff_eq]
  refine ⟨by omega, .inr ?_⟩
  rw [if_pos (by omega)]
  simp only [Bool.and_eq_true, decide_eq_true_eq]
  omega
/-- list(range(a, b, c)) -/
def rg3V (i c : Int) (n : Nat) : List V := (List.range n).map fun k => V.int (i + (k : Nat) * c)
def tLstRg3 (ta : TA) : TE := fun σ H Q => ta σ H fun vs H1 => ∃ (i j c : Int) (n : Nat), vs = [.int i, .int j, .int c] ∧ RgC i j c n ∧ n ≤ 2 ^ 24 ∧ ∀ q, H1 q = none → Q (.ref q) (upd H1 q (.lst (rg3V i c n)))
theorem vals_rg3 {i c : Int} {n : Nat} {acc : Array Value} (h : ItemsOf (fun k v => ∃ t, v = .int (i + k * c) t) acc n) : Vals (rg3V i c n) acc.toList := by
  have e : acc.toList.length = n := by rw [Array.length_toList]; exact h.1
  unfold rg3V
  rw [← e]
  refine vals_of_get acc.toList _ fun j u hj => ?_
  exact h.2 j u (by rw [← hj, Array.getElem?_toList])
theorem pe_listRg3 {X : Cx} {a b c : Expr} {ta : TA} {p pos p2 pos2 : Pos} (hc : X.calm = true) (hg : Gl X "list") (hm : X.mg "list" = none) (hg2 : Gl X "range") (hm2 : X.mg "range" = none) (ha : PA X [a, b, c] ta)
    (hs : starEach [a, b, c] X.env = (false, eval a X.env) :: starEach [b, c] X.env := by rfl) (hpl : (backTo pos2 (starEach [b, c] X.env)).any (·.1) = false := by rfl)
    (na : starEach [.Call (.Name "range" p2) [a, b, c] [] pos2] X.env = (false, eval (.Call (.Name "range" p2) [a, b, c] [] pos2) X.env) :: starEach [] X.env := by rfl) :
    PE X (.Call (.Name "list" p) [.Call (.Name "range" p2) [a, b, c] [] pos2] [] pos) (tLstRg3 ta) := by
  refine ⟨fun pins s σ H Q I h => ?_⟩
  refine Call_ (ld_blt I hg hm boot_list (PyProof.Rows.callWith_type1 (args_cons (Call_ (ld_blt I hg2 hm2 boot_range (PyProof.Rows.callWith_type1 (thn (ha.run pos2 pins s σ H _ I h) fun us s1 ⟨vs, H1, I1, r1, q1⟩ => ?_) hs hpl))) na) na))
  obtain ⟨i, j, k, n, e, ⟨c0, c1, c2, c3⟩, hn, q⟩ := q1
  subst e
  cases r1 with
  | cons r rr =>
    cases rr with
    | cons r' rr =>
      cases rr with
      | cons r'' rr =>
        cases rr
        obtain ⟨t, rfl⟩ := r
        obtain ⟨t', rfl⟩ := r'
        obtain ⟨t'', rfl⟩ := r''
        refine call_range_3 c0 ?_ (.inl (PyProof.noPylong_small c1))
        refine args_nil ?_
        have I2 : Inv X pins σ H1 { s1 with heap := s1.heap.push { cls := .type "range", data := .fields #[.int i t, .int j t', .int k t''] } } := I1.kept (t' := s1.toks) fun b o e => Heap.get?_push_of_some _ e
        refine call_list_range (n := n) (I2.ok.hd hc) (IsRange.new ..) c2 c3 hn fun h' tk acc c' hk e' hi => ?_
        have hsz : (rg3V i k n).length ≤ sizeLine := by
          unfold rg3V
          rw [List.length_map, List.length_range, sizeLine_eq]
          omega
        exact ⟨.ref _, upd H1 _ (.lst (rg3V i k n)), I2.laid hk (Nat.le_refl _) (show ObjOk X.prog X.w _ _ _ (.lst (rg3V i k n)) from ⟨hsz, acc.toList, c', vals_rg3 hi, by rw [Array.toArray_toList]; exact e'⟩), rfl, q _ (I2.hok.fresh (Nat.le_refl _))⟩
end LM
namespace LM
open PySem PySem.Spec PyProof.Rows L2
theorem if_joinH {p : Prop} [Decidable p] {ta tb : TE} {σ : L2.St} {H : Hp} {Q : VK} (P : V → Hp → Prop) (h1 : p → ∀ Q' : VK, (∀ v H', P v H' → Q' v H') → ta σ H Q') (h2 : ¬ p → ∀ Q' : VK, (∀ v H', P v H' → Q' v H') → tb σ H Q') (k : ∀ v H', P v H' → Q v H') :
    if decide p = true then ta σ H Q else tb σ H Q := ifD (fun h => h1 h Q k) (fun h => h2 h Q k)
end LM

set_option Elab.async false
set_option linter.all false
set_option maxRecDepth 100000
set_option maxHeartbeats 4000000
set_option pp.maxSteps 600
set_option pp.deepTerms false
namespace LM
open PySem PySem.Spec PyProof.Rows L2
local macro_rules | `(tactic| walk_at "hp") => `(tactic| first | assumption | exact upd_same | (rw [upd_ne (by assumption)]; assumption) | (rw [upd_ne (Ne.symm (by assumption))]; assumption) | (rw [upd_ne (by assumption)]; exact upd_same) | (rw [upd_ne (Ne.symm (by assumption))]; exact upd_same))
local macro_rules | `(tactic| walk_at "sq") => `(tactic| first | assumption | exact Or.inl (Or.inl (by assumption)) | exact Or.inl (Or.inl upd_same) | exact Or.inl (Or.inl (by walk_at "hp")))
local macro_rules | `(tactic| walk_at "ixl") => `(tactic| refine ⟨_, _, _, _, rfl, rfl, (by walk_at "sq"), (by rfl), ?_⟩)
local macro_rules | `(tactic| walk_at "setl") => `(tactic| refine ⟨_, _, _, _, rfl, rfl, (by walk_at "hp"), (by rfl), ?_⟩)
local macro_rules | `(tactic| walk_at "side") => `(tactic| refine idP ?_; first | omega | (show (0 : Int) < _; omega) | (show (0 : Int) < _ ∧ _ < _; omega) | (refine Or.inr ?_; show (-(2 ^ 64) : Int) < _ ∧ _ < _; omega) | (refine Or.inl ?_; show (-(2 ^ 64) : Int) < _ ∧ _ < _; omega) | exact divW (by omega) (by omega) _ | (refine ⟨by decide, by decide, ?_⟩; decide))
local macro_rules | `(tactic| walk_at "go1") => `(tactic| first
  | refine ⟨_, rfl, ?_⟩
  | refine ⟨_, _, rfl, rfl, (by walk_at "side"), ?_⟩
  | refine ⟨_, _, rfl, (by walk_at "side"), ?_⟩
  | refine ⟨_, _, rfl, rfl, ?_⟩
  | refine Or.inl ⟨_, rfl, ?_⟩
  | refine ⟨_, _, rfl, Or.inl (by walk_at "sq"), ?_⟩
  | walk_at "ixl"
  | walk_at "setl"
  | refine ⟨_, _, rfl, (by walk_at "sq"), rfl, ?_⟩
  | refine ⟨_, _, rfl, (by walk_at "sq"), ?_⟩
  | refine ⟨_, _, rfl, ?_⟩
  | refine ⟨rfl, ?_⟩
  | refine ⟨small (Nat.le_of_ble_eq_true rfl), ?_⟩)
local macro_rules | `(tactic| walk_at "go") => `(tactic| repeat walk_at "go1")

abbrev sspaced : Stmt := topS 49
theorem scspaced : FnScope ["parts", "part"] ["parts"] (defScope sspaced) := ⟨rfl, rfl, rfl, by decide +kernel, rfl, by decide +kernel, by decide +kernel⟩
abbrev shouse_text : Stmt := topS 50
theorem schouse_text : FnScope ["bases", "rows", "lines", "row"] ["bases", "rows"] (defScope shouse_text) := ⟨rfl, rfl, rfl, by decide +kernel, rfl, by decide +kernel, by decide +kernel⟩
abbrev sgroups_in_unit : Stmt := topS 35
theorem scgroups_in_unit : FnScope ["bases", "field", "groups", "base"] ["bases", "field"] (defScope sgroups_in_unit) := ⟨rfl, rfl, rfl, by decide +kernel, rfl, by decide +kernel, by decide +kernel⟩
abbrev sgroups_to_repeat : Stmt := topS 36
theorem scgroups_to_repeat : FnScope ["bases", "rows", "cycle", "field", "every", "_"] ["bases", "rows"] (defScope sgroups_to_repeat) := ⟨rfl, rfl, rfl, by decide +kernel, rfl, by decide +kernel, by decide +kernel⟩
abbrev sfitted_groups : Stmt := topS 37
theorem scfitted_groups : FnScope ["bases", "row", "groups", "field", "every", "_", "step", "span", "fitted", "start"] ["bases", "row", "groups"] (defScope sfitted_groups) := ⟨rfl, rfl, rfl, by decide +kernel, rfl, by decide +kernel, by decide +kernel⟩
abbrev sskipped_counts : Stmt := topS 38
theorem scskipped_counts : FnScope ["bases", "rows", "groups", "counts", "row", "group"] ["bases", "rows", "groups"] (defScope sskipped_counts) := ⟨rfl, rfl, rfl, by decide +kernel, rfl, by decide +kernel, by decide +kernel⟩
abbrev sleast_repeat : Stmt := topS 39
theorem scleast_repeat : FnScope ["counts", "many", "step"] ["counts"] (defScope sleast_repeat) := ⟨rfl, rfl, rfl, by decide +kernel, rfl, by decide +kernel, by decide +kernel⟩
abbrev ssums_ahead : Stmt := topS 40
theorem scsums_ahead : FnScope ["numbers", "total", "sums", "number"] ["numbers"] (defScope ssums_ahead) := ⟨rfl, rfl, rfl, by decide +kernel, rfl, by decide +kernel, by decide +kernel⟩
def numS (n : Int) : Str := toString n
def spacedS (ns : List Int) : Str := Txt.join " " (ns.map numS)
theorem numS_len {n : Int} (h0 : 0 ≤ n) (h1 : n ≤ 60) : (numS n).length ≤ 62 := by
  have := len_str_of_int n
  unfold numS
  omega
theorem join_le (a : Str) (ys : List Str) (m : Nat) (h : ∀ y ∈ ys, y.length ≤ m) : (ys.map (·.length)).sum + ys.length * a.length ≤ ys.length * (m + a.length) := by
  induction ys with
  | nil => simp
  | cons y ys ih =>
    have h1 := h y List.mem_cons_self
    have h2 := ih fun z hz => h z (List.mem_cons_of_mem _ hz)
    simp only [List.map_cons, List.sum_cons, List.length_cons, Nat.succ_mul]
    omega
theorem join_len (a : Str) (ys : List Str) (m : Nat) (h : ∀ y ∈ ys, y.length ≤ m) : (Txt.join a ys).length ≤ ys.length * (m + a.length) := by
  have h1 : (Txt.join a ys).length = (Str.join a ys).length := by
    show (Builtin.Str.glued a ys).length = _
    rw [StrLaws.glued_eq_join]
  rw [h1]
  exact Nat.le_trans (StrLaws.join_length_le a ys) (join_le a ys m h)
theorem spaced_len {ns : List Int} (h3 : ns.length ≤ 3) (h : ∀ x ∈ ns, 0 ≤ x ∧ x ≤ 60) : (spacedS ns).length ≤ 200 := by
  have := join_len " " (ns.map numS) 62 (fun y hy => by
    obtain ⟨x, hx, rfl⟩ := List.mem_map.mp hy
    exact numS_len (h x hx).1 (h x hx).2)
  rw [List.length_map] at this
  have e : ((" " : Str)).length = 1 := by decide
  rw [e] at this
  unfold spacedS
  omega
def spSpaced (K : PySem.W.Frag) : Sp := fun vs H Q _ => ∃ (a : Addr) (ns : List Int), vs = [.ref a] ∧ SqT K H a (ns.map V.int) ∧ ns.length ≤ 3 ∧ (∀ x ∈ ns, 0 ≤ x ∧ x ≤ 60) ∧ ∀ H', Same H H' → Q (.str (spacedS ns)) H'
section
variable {P : Program} {w : World} {K : PySem.W.Frag} {mg : Str → Option Value} {base : Heap}
theorem ok_spaced {f : Addr} {fd : FuncData} (F : Fun K "spaced" "spaced" sspaced f fd) (N : Names mg) : FnOk P w K mg base CX0 1 f fd ["parts"] (spSpaced K) := by
  have sc := scspaced
  refine F.ok sc (fun vs H Q E h => ?_) (fun cdv A outer s H vs Q E hr h => ?_)
  · obtain ⟨a, ns, rfl, _⟩ := h
    rfl
  · obtain ⟨a, ns, rfl, ha, h3, hb, k⟩ := h
    refine ⟨_, (pss_one (ps_ret (pe_join pe_str (pe_lc (own := [("part", 1)]) rfl sc.nd (pi_tup (pv 0)) (blkOk_by (own := [("part", 1)]) (N := ["parts", "part"]) (sc := defScope (topS 49)) (by decide +kernel)) (fun _ _ _ _ _ => (pg_name (i := 1) sc.nd rfl (Or.inl rfl))) (fun _ _ _ _ _ => pts_nil) (fun _ _ _ _ _ => (pe_callTy (T := "str") call_str_int (by rfl) N.str (by decide +kernel) (pa_cons (pv 1) pa_nil))))))), ?_⟩
    refine ⟨⟨_, rfl⟩, _, rfl, a, rfl, ⟨_, ha⟩, ?_⟩
    intro D nD
    refine lc_tup (K := K) (xs := ns.map V.int) (fun i H' => Same H H' ∧ H' D = some (.lst (((ns.take i).map numS).map V.str))) ⟨same_new nD, upd_same⟩ (fun i H' _ ⟨s, _⟩ => Same.seqT s ha) ?_ ?_
    · rintro i x H' hx ⟨sm, eD⟩
      obtain ⟨n, hn, rfl⟩ : ∃ b, ns[i]? = some b ∧ x = V.int b := by
        rw [List.getElem?_map] at hx
        obtain ⟨z, hz, e⟩ := Option.map_eq_some_iff.mp hx
        exact ⟨z, hz, e.symm⟩
      obtain ⟨b0, b1⟩ := hb n (List.mem_of_getElem? hn)
      have hl : n.natAbs.log2 < 1920 := by
        rcases Nat.eq_zero_or_pos n.natAbs with z | z
        · rw [z]; decide
        · exact Nat.lt_trans ((Nat.log2_lt (by omega)).mpr (show n.natAbs < 2 ^ 6 by omega)) (by decide)
      refine ⟨rfl, ?_⟩
      refine ⟨_, rfl, n, rfl, hl, _, eD, smallLt (by rw [List.length_map, List.length_map, List.length_take]; omega), same_mut sm nD, ?_⟩
      rw [upd_same, List.take_add_one, hn, List.map_append, List.map_append]
      rfl
    · rintro H' ⟨sm, eD⟩
      rw [List.take_of_length_le (by rw [List.length_map]; exact Nat.le_refl _)] at eD
      refine ⟨_, D, _, rfl, rfl, .inl (SqL.lst eD), ?_, k H' sm⟩
      refine Nat.le_trans (join_le _ _ 62 fun y hy => ?_) ?_
      · obtain ⟨x, hx, rfl⟩ := List.mem_map.mp hy
        exact numS_len (hb x hx).1 (hb x hx).2
      · rw [List.length_map]
        have e : ((" " : Str)).length = 1 := by decide
        rw [e]
        omega
def rowS (x : R3) : Str := Str.empty ++ "skip " ++ spacedS [x.1, x.2.1, x.2.2]
def houseS (bs : List Int) (rows : List R3) : Str := Txt.join "\n" ((Str.empty ++ "house " ++ spacedS bs) :: rows.map rowS)
def spHouseText (K : PySem.W.Frag) : Sp := fun vs H Q _ => ∃ (a r : Addr) (bs : List Int) (rows : List R3), vs = [.ref a, .ref r] ∧ SqT K H a (bs.map V.int) ∧ bs.length ≤ 3 ∧ (∀ x ∈ bs, 0 ≤ x ∧ x ≤ 60) ∧ RowsAt K H r rows ∧ rows.length ≤ 6 ∧ (∀ x ∈ rows, RowOk 60 bs x) ∧
  (∀ x ∈ rows, x.2.2 ≤ 60) ∧ ∀ H', Same H H' → Q (.str (houseS bs rows)) H'
theorem ok_housetext {f : Addr} {fd : FuncData} (F : Fun K "house_text" "house_text" shouse_text f fd) (Dspaced : DefK P w K mg base "spaced" ["parts"] 1 (spSpaced K)) : FnOk P w K mg base CX0 2 f fd ["bases", "rows"] (spHouseText K) := by
  have sc := schouse_text
  refine F.ok sc (fun vs H Q E h => ?_) (fun cdv A outer s H vs Q E hr h => ?_)
  · obtain ⟨a, r, bs, rows, rfl, _⟩ := h
    rfl
  · obtain ⟨a, r, bs, rows, rfl, ha, h3, hb, hR, r6, ro, rc, k⟩ := h
    refine ⟨_, (pss_cons (ps_set (i := 2) sc.nd rfl (Or.inl rfl) (pe_lst (pa_cons (pe_joined (.cons pe_str (.cons (pe_fmt (pe_d Dspaced (hr.mono (by decide)) rfl (pa_cons (pv 0) pa_nil))) .nil))) pa_nil)))
      (pss_cons (ps_for PassesOwn.never rfl (pi_tup (pv 1)) (pg_name (i := 3) sc.nd rfl (Or.inl rfl)) (pss_one (ps_expr (pe_bm PySem.F.plainAttrs_list PySem.F.slot_list_append PySem.F.type_list_append mt_append (pv 2) (pa_cons (pe_joined (.cons pe_str (.cons (pe_fmt (pe_d Dspaced (hr.mono (by decide)) rfl (pa_cons (pv 3) pa_nil))) .nil))) pa_nil)))))
      (pss_one (ps_ret (pe_join pe_str (pv 2)))))), ?_⟩
    have hls := spaced_len h3 hb
    have l0 : (Str.empty ++ ("house " : Str)).length = 6 := by decide
    have l1 : (Str.empty ++ ("skip " : Str)).length = 5 := by decide
    refine ⟨_, rfl, small (by rw [l0]; omega), _, rfl, a, bs, rfl, ha, h3, hb, fun H1 s1 => ?_⟩
    refine .inl ⟨_, rfl, small (by omega), _, rfl, small (by rw [Str.length_append, l0]; omega), ?_⟩
    refine ⟨Nat.le_of_ble_eq_true rfl, ?_⟩
    (intro l nl; generalize e_l : upd H1 l _ = H2; have s2 : Same H1 H2 := fun b x hb => (congrFun e_l b).symm.trans (same_new nl b x hb); have h2 := (congrFun e_l l).symm.trans upd_same; clear e_l)
    have s02 := s1.trans s2
    have nl0 : H l = none := s1.free nl
    obtain ⟨as, hrt, pr⟩ := id hR
    have hpl := pr.length
    refine ⟨_, rfl, r, rfl, ⟨_, Same.seqT s02 hrt⟩, for_tup (K := K) (xs := as.map V.ref) (fun i σ H' => ∃ v3 : Option V, σ = [some (.ref a), some (.ref r), some (.ref l), v3] ∧ Same H H' ∧ H' l = some (.lst (((Str.empty ++ "house " ++ spacedS bs) :: (rows.take i).map rowS).map V.str)))
      ⟨_, rfl, s02, h2⟩ (fun i σ H' _ ⟨_, _, s, _⟩ => Same.seqT s hrt) ?_ ?_⟩
    · rintro i x σ H' hx ⟨v3, rfl, sm, el⟩
      obtain ⟨ra, hra, rfl⟩ : ∃ b, as[i]? = some b ∧ x = V.ref b := by
        rw [List.getElem?_map] at hx
        obtain ⟨z, hz, e⟩ := Option.map_eq_some_iff.mp hx
        exact ⟨z, hz, e.symm⟩
      obtain ⟨y, hy, hya⟩ := paired_at pr hra
      have hym := List.mem_of_getElem? hy
      obtain ⟨o1, o2, o3, o4, o5, o6⟩ := ro y hym
      have o7 := rc y hym
      have hb3 : ∀ x ∈ [y.1, y.2.1, y.2.2], 0 ≤ x ∧ x ≤ 60 := fun x hx => by
        simp at hx
        rcases hx with rfl | rfl | rfl <;> omega
      have hl3 := spaced_len (ns := [y.1, y.2.1, y.2.2]) (Nat.le_refl 3) hb3
      refine ⟨_, rfl, .inl ⟨rfl, _, SqL.lst el⟩, _, rfl, small (by rw [l1]; omega), _, rfl, ra, [y.1, y.2.1, y.2.2], rfl, Same.seqT sm hya, Nat.le_refl 3, hb3, fun H5 s5 => ?_⟩
      refine .inl ⟨_, rfl, small (by omega), _, rfl, small (by rw [Str.length_append, l1]; omega), ?_⟩
      refine ⟨l, _, _, rfl, rfl, s5 _ _ el, smallLt (by simp only [List.length_map, List.length_cons, List.length_take]; omega), ?_⟩
      refine ⟨_, rfl, same_mut (sm.trans s5) nl0, ?_⟩
      rw [upd_same, List.take_add_one, hy]
      simp only [List.map_cons, List.map_append, List.cons_append]
      rfl
    · rintro σ H' ⟨v3, rfl, sm, el⟩
      rw [List.take_of_length_le (by rw [List.length_map, hpl]; exact Nat.le_refl _)] at el
      refine ⟨⟨_, rfl⟩, _, rfl, _, l, _, rfl, rfl, .inl (SqL.lst el), ?_, k H' sm⟩
      refine Nat.le_trans (join_le _ _ 300 fun y hy => ?_) ?_
      · rcases List.mem_cons.mp hy with rfl | hy
        · rw [Str.length_append, l0]
          omega
        · obtain ⟨x, hx, rfl⟩ := List.mem_map.mp hy
          obtain ⟨o1, o2, o3, o4, o5, o6⟩ := ro x hx
          have o7 := rc x hx
          have hb3 : ∀ z ∈ [x.1, x.2.1, x.2.2], 0 ≤ z ∧ z ≤ 60 := fun z hz => by
            simp at hz
            rcases hz with rfl | rfl | rfl <;> omega
          have hl3 := spaced_len (ns := [x.1, x.2.1, x.2.2]) (Nat.le_refl 3) hb3
          unfold rowS
          rw [Str.length_append, l1]
          omega
      · have e : (("\n" : Str)).length = 1 := by decide
        rw [List.length_cons, List.length_map, e]
        omega
def unitP (bs : List Int) (f : Nat) : Nat := (bs.dropLast.drop f).foldl (fun a b => a * b.toNat) 1
def spUnit (K : PySem.W.Frag) : Sp := fun vs H Q _ => ∃ (a : Addr) (bs : List Int) (f : Nat), vs = [.ref a, .int (f : Int)] ∧ SqT K H a (bs.map V.int) ∧ f < bs.length ∧ bs.length ≤ 3 ∧ (∀ x ∈ bs, 2 ≤ x ∧ x ≤ 60) ∧ ∀ H', Same H H' → Q (.int ((unitP bs f : Nat) : Int)) H'
theorem ok_unit {f : Addr} {fd : FuncData} (F : Fun K "groups_in_unit" "groups_in_unit" sgroups_in_unit f fd) : FnOk P w K mg base CX0 1 f fd ["bases", "field"] (spUnit K) := by
  have sc := scgroups_in_unit
  refine F.ok sc (fun vs H Q E h => ?_) (fun cdv A outer s H vs Q E hr h => ?_)
  · obtain ⟨a, bs, f, rfl, _⟩ := h
    rfl
  · obtain ⟨a, bs, f, rfl, ha, hf, h3, hb, k⟩ := h
    refine ⟨_, (pss_cons (ps_set (i := 2) sc.nd rfl (Or.inl rfl) pe_int)
      (pss_cons (ps_for PassesOwn.never rfl (pi_tup (pe_slice sl_tup (pv 0) (po_some (pv 1)) (po_some (pe_un un_neg pe_int)))) (pg_name (i := 3) sc.nd rfl (Or.inl rfl)) (pss_one (ps_aug (i := 2) sc.nd rfl (Or.inl rfl) (pv 3) ip_mul)))
      (pss_one (ps_ret (pv 2))))), ?_⟩
    walk_at "go"
    have el : (bs.map V.int).length = bs.length := List.length_map ..
    refine ⟨fun z => ?_, ?_⟩
    · have := z.2
      rw [sIx_last, el] at this
      omega
    (intro d nd; generalize e_d : upd H d _ = H1; have s1 : Same H H1 := fun b x hb => (congrFun e_d b).symm.trans (same_new nd b x hb); have h1 := (congrFun e_d d).symm.trans upd_same; clear e_d)
    have h1' : H1 d = some (.tup ((bs.dropLast.drop f).map V.int)) := by
      rw [h1, cut_fb _ _ (by rw [el]; omega), List.map_drop, List.map_dropLast]
    refine ⟨d, rfl, ⟨_, SqT.tup h1'⟩, for_tup (K := K) (xs := (bs.dropLast.drop f).map V.int) (fun i σ H' => ∃ v3 : Option V, σ = [some (.ref a), some (.int ((f : Nat) : Int)), some (.int ((((bs.dropLast.drop f).take i).foldl (fun a b => a * b.toNat) 1 : Nat) : Int)), v3] ∧ H1 = H')
      ⟨_, rfl, rfl⟩ (fun i σ H' _ ⟨_, _, e⟩ => by rw [← e]; exact SqT.tup h1') ?_ ?_⟩
    · rintro i x σ H' hx ⟨v3, rfl, rfl⟩
      obtain ⟨b, hb', rfl⟩ : ∃ b, (bs.dropLast.drop f)[i]? = some b ∧ x = V.int b := by
        rw [List.getElem?_map] at hx
        obtain ⟨z, hz, e⟩ := Option.map_eq_some_iff.mp hx
        exact ⟨z, hz, e.symm⟩
      have hbb := hb b ((List.dropLast_sublist bs).subset (List.mem_of_mem_drop (List.mem_of_getElem? hb')))
      have st := take_fold (fun (a : Nat) (b : Int) => a * b.toNat) 1 _ i b hb'
      have e6 : (((((bs.dropLast.drop f).take i).foldl (fun a b => a * b.toNat) 1 : Nat) : Int)) * b = ((((bs.dropLast.drop f).take (i + 1)).foldl (fun a b => a * b.toNat) 1 : Nat) : Int) := by
        rw [st, Int.natCast_mul, Int.toNat_of_nonneg (by omega)]
      refine ⟨_, rfl, _, rfl, _, _, rfl, rfl, .inr ⟨by omega, by omega⟩, ?_⟩
      exact ⟨_, (by rw [← e6]; rfl), rfl⟩
    · rintro σ H' ⟨v3, rfl, rfl⟩
      rw [List.take_of_length_le (by rw [List.length_map]; exact Nat.le_refl _)]
      exact ⟨_, rfl, k _ s1⟩
def spRepeat (K : PySem.W.Frag) : Sp := fun vs H Q _ => ∃ (a r : Addr) (bs : List Int) (rows : List R3), vs = [.ref a, .ref r] ∧ SqT K H a (bs.map V.int) ∧ 1 ≤ bs.length ∧ bs.length ≤ 3 ∧ (∀ x ∈ bs, 2 ≤ x ∧ x ≤ 60) ∧ RowsAt K H r rows ∧ (∀ x ∈ rows, RowOk 60 bs x) ∧ everyL rows ≤ 100000000 ∧
  ∀ H', Same H H' → Q (.int ((unitP bs 0 * everyL rows : Nat) : Int)) H'
theorem ok_repeat {f : Addr} {fd : FuncData} (F : Fun K "groups_to_repeat" "groups_to_repeat" sgroups_to_repeat f fd) (N : Names mg) (Dgroups_in_unit : DefK P w K mg base "groups_in_unit" ["bases", "field"] 1 (spUnit K)) : FnOk P w K mg base CX0 2 f fd ["bases", "rows"] (spRepeat K) := by
  have sc := scgroups_to_repeat
  refine F.ok sc (fun vs H Q E h => ?_) (fun cdv A outer s H vs Q E hr h => ?_)
  · obtain ⟨a, r, bs, rows, rfl, _⟩ := h
    rfl
  · obtain ⟨a, r, bs, rows, rfl, ha, b0, b3, hb, hR, ro, hE, k⟩ := h
    refine ⟨_, (pss_cons (ps_set (i := 2) sc.nd rfl (Or.inl rfl) pe_int)
      (pss_cons (ps_for PassesOwn.never rfl (pi_tup (pv 1)) (pg_tup rfl (pgs_cons (pg_name (i := 3) sc.nd rfl (Or.inl rfl)) (pgs_cons (pg_name (i := 4) sc.nd rfl (Or.inl rfl)) (pgs_cons (pg_name (i := 5) sc.nd rfl (Or.inl rfl)) pgs_nil)))) (pss_one (ps_if (pt_cmpR op_eq (pv 3) pe_int (nomark _)) (pss_one (ps_set (i := 2) sc.nd rfl (Or.inl rfl) (pe_callBfun cr_lcm (by rfl) N.lcm (pa_cons (pv 2) (pa_cons (pv 4) pa_nil))))) pss_nil)))
      (pss_one (ps_ret (pe_op op_mul (pe_d Dgroups_in_unit (hr.mono (by decide)) rfl (pa_cons (pv 0) (pa_cons pe_int pa_nil))) (pv 2)))))), ?_⟩
    obtain ⟨as, hrt, pr⟩ := id hR
    have hpl := pr.length
    have hr1 : ∀ r ∈ rows, 1 ≤ r.2.1 := fun r hm => (ro r hm).2.2.1
    refine ⟨_, rfl, r, rfl, ⟨_, hrt⟩, for_tup (K := K) (xs := as.map V.ref) (fun i σ H' => ∃ v3 v4 v5 : Option V, σ = [some (.ref a), some (.ref r), some (.int (((rows.take i).foldl everyStep 1 : Nat) : Int)), v3, v4, v5] ∧ H = H')
      ⟨_, _, _, rfl, rfl⟩ (fun i σ H' _ ⟨_, _, _, _, e⟩ => by rw [← e]; exact hrt) ?_ ?_⟩
    · rintro i x σ H' hx ⟨v3, v4, v5, rfl, rfl⟩
      obtain ⟨ra, hra, rfl⟩ : ∃ b, as[i]? = some b ∧ x = V.ref b := by
        rw [List.getElem?_map] at hx
        obtain ⟨z, hz, e⟩ := Option.map_eq_some_iff.mp hx
        exact ⟨z, hz, e.symm⟩
      obtain ⟨y, hy, hya⟩ := paired_at pr hra
      obtain ⟨o1, o2, o3, o4, o5, o6⟩ := ro y (List.mem_of_getElem? hy)
      have st := take_fold everyStep 1 rows i y hy
      have hei1 : 1 ≤ (rows.take i).foldl everyStep 1 := every_mono _ 1 (by decide) fun r hm => hr1 r (List.mem_of_mem_take hm)
      have hei2 : (rows.take i).foldl everyStep 1 ≤ 100000000 := by
        refine Nat.le_trans ?_ hE
        have e : everyL rows = (rows.drop i).foldl everyStep ((rows.take i).foldl everyStep 1) := by
          unfold everyL
          rw [← List.foldl_append, List.take_append_drop]
        rw [e]
        exact every_mono _ _ (by omega) fun r hm => hr1 r (List.mem_of_mem_drop hm)
      refine ⟨ra, _, rfl, hya, rfl, _, _, rfl, _, _, rfl, _, _, rfl, rfl, ?_⟩
      refine ⟨_, rfl, rfl, _, rfl, ?_⟩
      refine ifD (fun hd => ?_) (fun hd => ?_)
      · have hz : y.1 = 0 := V.int.inj hd
        have e6 : everyStep ((rows.take i).foldl everyStep 1) y = Nat.lcm ((rows.take i).foldl everyStep 1) y.2.1.toNat := by
          unfold everyStep
          rw [if_pos hz]
        have e7 : y.2.1.natAbs = y.2.1.toNat := by omega
        refine ⟨_, rfl, _, rfl, _, _, rfl, by omega, by omega, ?_⟩
        exact ⟨_, _, _, (by rw [st, e6, Int.natAbs_natCast, e7]; rfl), rfl⟩
      · have hz : y.1 ≠ 0 := fun z => hd (congrArg V.int z)
        have e6 : everyStep ((rows.take i).foldl everyStep 1) y = (rows.take i).foldl everyStep 1 := by
          unfold everyStep
          rw [if_neg hz]
        exact ⟨_, _, _, (by rw [st, e6]; rfl), rfl⟩
    · rintro σ H' ⟨v3, v4, v5, rfl, rfl⟩
      rw [List.take_of_length_le (by rw [List.length_map, hpl]; exact Nat.le_refl _)]
      refine ⟨_, rfl, a, bs, 0, rfl, ha, by omega, b3, hb, fun H1 s1 => ?_⟩
      refine ⟨_, rfl, _, _, rfl, rfl, .inr ⟨?_, ?_⟩, ?_⟩
      · omega
      · show ((everyL rows : Nat) : Int) < 2 ^ 64
        omega
      · have := k H1 s1
        rw [Int.natCast_mul] at this
        exact this
end
end LM

set_option Elab.async false
set_option linter.all false
set_option maxRecDepth 100000
set_option maxHeartbeats 4000000
set_option pp.maxSteps 600
set_option pp.deepTerms false
namespace LM
open PySem PySem.Spec PyProof.Rows L2
local macro_rules | `(tactic| walk_at "hp") => `(tactic| first | assumption | exact upd_same | (rw [upd_ne (by assumption)]; assumption) | (rw [upd_ne (Ne.symm (by assumption))]; assumption) | (rw [upd_ne (by assumption)]; exact upd_same) | (rw [upd_ne (Ne.symm (by assumption))]; exact upd_same))
local macro_rules | `(tactic| walk_at "sq") => `(tactic| first | assumption | exact Or.inl (Or.inl (by assumption)) | exact Or.inl (Or.inl upd_same) | exact Or.inl (Or.inl (by walk_at "hp")))
local macro_rules | `(tactic| walk_at "ixl") => `(tactic| refine ⟨_, _, _, _, rfl, rfl, (by walk_at "sq"), (by rfl), ?_⟩)
local macro_rules | `(tactic| walk_at "setl") => `(tactic| refine ⟨_, _, _, _, rfl, rfl, (by walk_at "hp"), (by rfl), ?_⟩)
local macro_rules | `(tactic| walk_at "side") => `(tactic| refine idP ?_; first | omega | (show (0 : Int) < _; omega) | (show (0 : Int) < _ ∧ _ < _; omega) | (refine Or.inr ?_; show (-(2 ^ 64) : Int) < _ ∧ _ < _; omega) | (refine Or.inl ?_; show (-(2 ^ 64) : Int) < _ ∧ _ < _; omega) | exact divW (by omega) (by omega) _ | (refine ⟨by decide, by decide, ?_⟩; decide))
local macro_rules | `(tactic| walk_at "go1") => `(tactic| first
  | refine ⟨_, rfl, ?_⟩
  | refine ⟨_, _, rfl, rfl, (by walk_at "side"), ?_⟩
  | refine ⟨_, _, rfl, (by walk_at "side"), ?_⟩
  | refine ⟨_, _, rfl, rfl, ?_⟩
  | refine Or.inl ⟨_, rfl, ?_⟩
  | refine ⟨_, _, rfl, Or.inl (by walk_at "sq"), ?_⟩
  | walk_at "ixl"
  | walk_at "setl"
  | refine ⟨_, _, rfl, (by walk_at "sq"), rfl, ?_⟩
  | refine ⟨_, _, rfl, (by walk_at "sq"), ?_⟩
  | refine ⟨_, _, rfl, ?_⟩
  | refine ⟨rfl, ?_⟩
  | refine ⟨small (Nat.le_of_ble_eq_true rfl), ?_⟩)
local macro_rules | `(tactic| walk_at "go") => `(tactic| repeat walk_at "go1")

/-- the groups from start on by step below start + span -/
def segN (span step start : Nat) : List Nat := (List.range (rgN (start : Int) ((start : Int) + (span : Int)) (step : Int))).map fun j => start + j * step
def fitsP (span step n : Nat) : List Nat := ((List.range (rgN 0 (n : Int) (span : Int))).map fun k => segN span step (k * span)).flatten
def stepP (bs : List Int) (r : R3) : Nat := unitP bs r.1.toNat * r.2.1.toNat
def spanP (bs : List Int) (r : R3) (n : Nat) : Nat := if r.1 = 0 then n else unitP bs (r.1.toNat - 1)
def castL (ns : List Nat) : List Int := ns.map fun k => ((k : Nat) : Int)
theorem castL_app (a b : List Nat) : castL (a ++ b) = castL a ++ castL b := List.map_append ..
def spFitted (K : PySem.W.Frag) : Sp := fun vs H Q _ => ∃ (a r : Addr) (bs : List Int) (x : R3) (n : Nat), vs = [.ref a, .ref r, .int (n : Int)] ∧ SqT K H a (bs.map V.int) ∧ 1 ≤ bs.length ∧ bs.length ≤ 3 ∧ (∀ x ∈ bs, 2 ≤ x ∧ x ≤ 60) ∧ SqT K H r [.int x.1, .int x.2.1, .int x.2.2] ∧ RowOk 60 bs x ∧
  1 ≤ n ∧ n ≤ 7200 ∧ spanP bs x n ∣ n ∧ ∀ (l : Addr) H', Same H H' → H l = none → H' l = some (.lst ((castL (fitsP (spanP bs x n) (stepP bs x) n)).map V.int)) → Q (.ref l) H'
theorem rgN_nat (a b c : Nat) : rgN (a : Int) (b : Int) (c : Int) = if a < b then (b - a - 1) / c + 1 else 0 := by
  unfold rgN
  by_cases h : a < b
  · rw [if_pos h, if_pos (by omega), show ((b : Int) - (a : Int) - 1) = ((b - a - 1 : Nat) : Int) by omega, ← Int.natCast_ediv]
    generalize (b - a - 1) / c = z
    omega
  · rw [if_neg h, if_neg (by omega)]
theorem segN_len (span step start : Nat) (hs : 1 ≤ step) : (segN span step start).length ≤ span := by
  unfold segN
  rw [List.length_map, List.length_range, show ((start : Int) + (span : Int)) = ((start + span : Nat) : Int) by omega, rgN_nat]
  split
  · have := Nat.div_le_self (start + span - start - 1) step
    omega
  · omega
theorem flat_len (f : Nat → List Nat) (m : Nat) (h : ∀ k, (f k).length ≤ m) : ∀ i, (((List.range i).map f).flatten).length ≤ i * m
  | 0 => by simp
  | i + 1 => by
    have h1 := flat_len f m h i
    have h2 := h i
    rw [List.range_succ, List.map_append, List.flatten_append, List.length_append, Nat.add_mul, Nat.one_mul]
    simp only [List.map_cons, List.map_nil, List.flatten_cons, List.flatten_nil, List.append_nil]
    omega
theorem rg_count {n span : Nat} (h1 : 1 ≤ n) (hd : span ∣ n) : rgN 0 (n : Int) (span : Int) * span = n := by
  have e : rgN 0 (n : Int) (span : Int) = rgN ((0 : Nat) : Int) (n : Int) (span : Int) := rfl
  rw [e, rgN_nat, if_pos (by omega)]
  obtain ⟨q, rfl⟩ := hd
  have hs : 0 < span := Nat.pos_of_mul_pos_right (by omega : 0 < span * q)
  have hq : 0 < q := Nat.pos_of_mul_pos_left (by omega : 0 < span * q)
  have e2 : (span * q - 0 - 1) / span = q - 1 := by
    refine Nat.div_eq_of_lt_le ?_ ?_
    · rw [Nat.mul_comm, Nat.mul_sub_one]
      omega
    · rw [Nat.sub_add_cancel hq, Nat.mul_comm q span]
      omega
  rw [e2, Nat.sub_add_cancel hq, Nat.mul_comm]
theorem foldl_mul_le : ∀ (bs : List Int) (a : Nat), (∀ x ∈ bs, 2 ≤ x ∧ x ≤ 60) → bs.foldl (fun a b => a * b.toNat) a ≤ a * 60 ^ bs.length
  | [], a, _ => by simp
  | b :: bs, a, h => by
    have hb := h b List.mem_cons_self
    refine Nat.le_trans (foldl_mul_le bs _ fun x hx => h x (List.mem_cons_of_mem _ hx)) ?_
    rw [List.length_cons, Nat.pow_succ, Nat.mul_comm (60 ^ bs.length) 60, ← Nat.mul_assoc]
    exact Nat.mul_le_mul_right _ (Nat.mul_le_mul_left _ (by omega))
theorem unitP_le {bs : List Int} (h3 : bs.length ≤ 3) (h : ∀ x ∈ bs, 2 ≤ x ∧ x ≤ 60) (f : Nat) : unitP bs f ≤ 3600 := by
  unfold unitP
  refine Nat.le_trans (foldl_mul_le _ 1 fun x hx => h x ((List.dropLast_sublist bs).subset (List.mem_of_mem_drop hx))) ?_
  have hl : (bs.dropLast.drop f).length ≤ 2 := by rw [List.length_drop, List.length_dropLast]; omega
  have : 60 ^ (bs.dropLast.drop f).length ≤ 60 ^ 2 := Nat.pow_le_pow_right (by decide) hl
  omega
theorem unitP_pos {bs : List Int} (h : ∀ x ∈ bs, 2 ≤ x ∧ x ≤ 60) (f : Nat) : 1 ≤ unitP bs f :=
  foldl_mul_pos _ 1 (by decide) fun x hx => (h x ((List.dropLast_sublist bs).subset (List.mem_of_mem_drop hx))).1
section
variable {P : Program} {w : World} {K : PySem.W.Frag} {mg : Str → Option Value} {base : Heap}
theorem ok_fitted {f : Addr} {fd : FuncData} (F : Fun K "fitted_groups" "fitted_groups" sfitted_groups f fd) (N : Names mg) (Dgroups_in_unit : DefK P w K mg base "groups_in_unit" ["bases", "field"] 1 (spUnit K)) : FnOk P w K mg base CX0 2 f fd ["bases", "row", "groups"] (spFitted K) := by
  have sc := scfitted_groups
  refine F.ok sc (fun vs H Q E h => ?_) (fun cdv A outer s H vs Q E hr h => ?_)
  · obtain ⟨a, r, bs, x, n, rfl, _⟩ := h
    rfl
  · obtain ⟨a, r, bs, x, n, rfl, ha, b0, b3, hb, hx, ⟨o1, o2, o3, o4, o5, o6⟩, n1, n2, hdv, k⟩ := h
    refine ⟨_, (pss_cons (ps_asg (pv 1) (pg_tup rfl (pgs_cons (pg_name (i := 3) sc.nd rfl (Or.inl rfl)) (pgs_cons (pg_name (i := 4) sc.nd rfl (Or.inl rfl)) (pgs_cons (pg_name (i := 5) sc.nd rfl (Or.inl rfl)) pgs_nil)))))
      (pss_cons (ps_set (i := 6) sc.nd rfl (Or.inl rfl) (pe_op op_mul (pe_d Dgroups_in_unit (hr.mono (by decide)) rfl (pa_cons (pv 0) (pa_cons (pv 3) pa_nil))) (pv 4)))
      (pss_cons (ps_set (i := 7) sc.nd rfl (Or.inl rfl) (pe_ifExp (pt_cmpR op_eq (pv 3) pe_int (nomark _)) (pv 2) (pe_d Dgroups_in_unit (hr.mono (by decide)) rfl (pa_cons (pv 0) (pa_cons (pe_op op_sub (pv 3) pe_int) pa_nil)))))
      (pss_cons (ps_set (i := 8) sc.nd rfl (Or.inl rfl) (pe_lst pa_nil))
      (pss_cons (ps_for PassesOwn.never rfl (pi_range3 rfl N.range (pa_cons pe_int (pa_cons (pv 2) (pa_cons (pv 7) pa_nil)))) (pg_name (i := 9) sc.nd rfl (Or.inl rfl)) (pss_one (ps_expr (pe_bm PySem.F.plainAttrs_list PySem.F.slot_list_extend PySem.F.type_list_extend mt_extend (pv 8) (pa_cons (pe_listRg3 rfl (by rfl) N.list (by rfl) N.range (pa_cons (pv 9) (pa_cons (pe_op op_add (pv 9) (pv 7)) (pa_cons (pv 6) pa_nil)))) pa_nil)))))
      (pss_one (ps_ret (pv 8)))))))), ?_⟩
    obtain ⟨fi, hfi⟩ := nat_of o1
    have ef : x.1.toNat = fi := by omega
    refine ⟨_, rfl, r, _, rfl, hx, rfl, _, _, rfl, _, _, rfl, _, _, rfl, rfl, ?_⟩
    refine ⟨_, rfl, _, rfl, a, bs, fi, (by rw [← hfi]; rfl), ha, by omega, b3, hb, fun H1 s1 => ?_⟩
    have hU1 := unitP_pos hb fi
    have hU2 := unitP_le b3 hb fi
    refine ⟨_, rfl, _, _, rfl, rfl, .inr ⟨by omega, by omega⟩, ?_⟩
    have hst : ((unitP bs fi : Nat) : Int) * x.2.1 = ((stepP bs x : Nat) : Int) := by
      unfold stepP
      rw [ef, Int.natCast_mul, Int.toNat_of_nonneg (by omega)]
    have hst1 : 1 ≤ stepP bs x := by
      unfold stepP
      rw [ef]
      exact Nat.mul_pos hU1 (by omega)
    have hst2 : stepP bs x ≤ 3600 * 60 := by
      unfold stepP
      rw [ef]
      exact Nat.mul_le_mul hU2 (by omega)
    -- span
    refine ⟨_, rfl, rfl, _, rfl, ?_⟩
    refine if_joinH (fun v H' => v = .int ((spanP bs x n : Nat) : Int) ∧ Same H H') (fun hd Q' k' => ?_) (fun hd Q' k' => ?_) ?_
    · have hz : x.1 = 0 := V.int.inj hd
      refine ⟨_, rfl, k' _ _ ⟨?_, s1⟩⟩
      unfold spanP
      rw [if_pos hz]
    · have hz : x.1 ≠ 0 := fun z => hd (congrArg V.int z)
      refine ⟨_, rfl, _, rfl, _, _, rfl, rfl, a, bs, fi - 1, (by show [V.ref a, V.int (x.1 - 1)] = _; rw [hfi, show ((fi : Int) - 1) = ((fi - 1 : Nat) : Int) by omega]), Same.seqT s1 ha, by omega, b3, hb, fun H2 s2 => k' _ _ ⟨?_, s1.trans s2⟩⟩
      unfold spanP
      rw [if_neg hz, ef]
    rintro v H2 ⟨rfl, s2⟩
    generalize hsp : spanP bs x n = span at *
    generalize hstp : stepP bs x = step at *
    have hspan1 : 1 ≤ span := by
      rcases Nat.eq_zero_or_pos span with z | z
      · rw [z] at hdv
        have := Nat.eq_zero_of_zero_dvd hdv
        omega
      · exact z
    have hspan2 : span ≤ n := Nat.le_of_dvd (by omega) hdv
    have hcnt := rg_count n1 hdv
    refine ⟨Nat.le_of_ble_eq_true rfl, ?_⟩
    (intro l nl; generalize e_l : upd H2 l _ = H3; have s3 : Same H2 H3 := fun b x hb => (congrFun e_l b).symm.trans (same_new nl b x hb); have h3 := (congrFun e_l l).symm.trans upd_same; clear e_l)
    have s03 := s2.trans s3
    have nl0 : H l = none := s2.free nl
    have hgcd : RgC 0 (n : Int) (span : Int) (rgN 0 (n : Int) (span : Int)) := RgC.pos (by omega) (by omega) (by omega) (by omega) (by omega)
    refine ⟨_, rfl, _, rfl, 0, (n : Int), (span : Int), _, rfl, hgcd, for_rangeC (n := rgN 0 (n : Int) (span : Int)) (fun i σ H' => ∃ v9 : Option V, σ = [some (.ref a), some (.ref r), some (.int ((n : Nat) : Int)), some (.int x.1), some (.int x.2.1), some (.int x.2.2), some (.int ((step : Nat) : Int)), some (.int ((span : Nat) : Int)), some (.ref l), v9] ∧ Same H H' ∧
        H' l = some (.lst ((castL (((List.range i).map fun k => segN span step (k * span)).flatten)).map V.int)))
      ⟨_, (by rw [← hst]; rfl), s03, h3⟩ ?_ ?_⟩
    · rintro i σ H' hi ⟨v9, rfl, sm, el⟩
      have hip : i * span + span ≤ n := by
        have : (i + 1) * span ≤ rgN 0 (n : Int) (span : Int) * span := Nat.mul_le_mul_right _ hi
        rw [hcnt, Nat.add_mul, Nat.one_mul] at this
        exact this
      have hstart : (0 : Int) + ((i : Nat) : Int) * ((span : Nat) : Int) = ((i * span : Nat) : Int) := by rw [Int.zero_add, Int.natCast_mul]
      rw [hstart]
      have hrg : RgC ((i * span : Nat) : Int) (((i * span : Nat) : Int) + (span : Int)) (step : Int) (rgN ((i * span : Nat) : Int) (((i * span : Nat) : Int) + (span : Int)) (step : Int)) := RgC.pos (by omega) (by omega) (by omega) (by omega) (by omega)
      have hsl := segN_len span step (i * span) hst1
      have hsl2 : rgN ((i * span : Nat) : Int) (((i * span : Nat) : Int) + (span : Int)) (step : Int) = (segN span step (i * span)).length := by
        unfold segN
        rw [List.length_map, List.length_range]
      refine ⟨_, rfl, .inl ⟨rfl, _, SqL.lst el⟩, _, rfl, _, rfl, _, rfl, _, _, rfl, rfl, _, rfl, _, _, _, _, rfl, hrg, by omega, ?_⟩
      (intro q nq; generalize e_q : upd H' q _ = H5; have s5 : Same H' H5 := fun b x hb => (congrFun e_q b).symm.trans (same_new nq b x hb); have h5 := (congrFun e_q q).symm.trans upd_same; clear e_q)
      have hfl := flat_len (fun k => segN span step (k * span)) span (fun k => segN_len span step _ hst1) i
      refine ⟨l, q, _, _, rfl, rfl, s5 _ _ el, h5, small ?_, ?_⟩
      · unfold castL rg3V
        rw [List.length_map, List.length_map, List.length_map, List.length_range, hsl2]
        omega
      refine ⟨_, rfl, same_mut (sm.trans s5) nl0, ?_⟩
      rw [upd_same, List.range_succ, List.map_append, List.flatten_append, castL_app, List.map_append]
      have e : (rg3V ((i * span : Nat) : Int) ((step : Nat) : Int) (rgN ((i * span : Nat) : Int) (((i * span : Nat) : Int) + (span : Int)) (step : Int))) = (castL (segN span step (i * span))).map V.int := by
        unfold rg3V castL segN
        rw [List.map_map, List.map_map]
        refine List.map_congr_left fun j _ => ?_
        show V.int (((i * span : Nat) : Int) + ((j : Nat) : Int) * ((step : Nat) : Int)) = V.int (((i * span + j * step : Nat)) : Int)
        rw [Int.natCast_add, Int.natCast_mul j step]
      rw [e]
      simp
    · rintro σ H' ⟨v9, rfl, sm, el⟩
      exact ⟨_, rfl, k l H' sm nl0 el⟩
end
end LM

set_option Elab.async false
set_option linter.all false
set_option maxRecDepth 100000
set_option maxHeartbeats 4000000
set_option pp.maxSteps 600
set_option pp.deepTerms false
namespace LM
open PySem PySem.Spec PyProof.Rows L2
local macro_rules | `(tactic| walk_at "hp") => `(tactic| first | assumption | exact upd_same | (rw [upd_ne (by assumption)]; assumption) | (rw [upd_ne (Ne.symm (by assumption))]; assumption) | (rw [upd_ne (by assumption)]; exact upd_same) | (rw [upd_ne (Ne.symm (by assumption))]; exact upd_same))
local macro_rules | `(tactic| walk_at "sq") => `(tactic| first | assumption | exact Or.inl (Or.inl (by assumption)) | exact Or.inl (Or.inl upd_same) | exact Or.inl (Or.inl (by walk_at "hp")))
local macro_rules | `(tactic| walk_at "ixl") => `(tactic| refine ⟨_, _, _, _, rfl, rfl, (by walk_at "sq"), (by rfl), ?_⟩)
local macro_rules | `(tactic| walk_at "setl") => `(tactic| refine ⟨_, _, _, _, rfl, rfl, (by walk_at "hp"), (by rfl), ?_⟩)
local macro_rules | `(tactic| walk_at "side") => `(tactic| refine idP ?_; first | omega | (show (0 : Int) < _; omega) | (show (0 : Int) < _ ∧ _ < _; omega) | (refine Or.inr ?_; show (-(2 ^ 64) : Int) < _ ∧ _ < _; omega) | (refine Or.inl ?_; show (-(2 ^ 64) : Int) < _ ∧ _ < _; omega) | exact divW (by omega) (by omega) _ | (refine ⟨by decide, by decide, ?_⟩; decide))
local macro_rules | `(tactic| walk_at "go1") => `(tactic| first
  | refine ⟨_, rfl, ?_⟩
  | refine ⟨_, _, rfl, rfl, (by walk_at "side"), ?_⟩
  | refine ⟨_, _, rfl, (by walk_at "side"), ?_⟩
  | refine ⟨_, _, rfl, rfl, ?_⟩
  | refine Or.inl ⟨_, rfl, ?_⟩
  | refine ⟨_, _, rfl, Or.inl (by walk_at "sq"), ?_⟩
  | walk_at "ixl"
  | walk_at "setl"
  | refine ⟨_, _, rfl, (by walk_at "sq"), rfl, ?_⟩
  | refine ⟨_, _, rfl, (by walk_at "sq"), ?_⟩
  | refine ⟨_, _, rfl, ?_⟩
  | refine ⟨rfl, ?_⟩
  | refine ⟨small (Nat.le_of_ble_eq_true rfl), ?_⟩)
local macro_rules | `(tactic| walk_at "go") => `(tactic| repeat walk_at "go1")

def fitG (bs : List Int) (n : Nat) (r : R3) (g : Nat) : Prop := g ∈ fitsP (spanP bs r n) (stepP bs r) n
instance (bs : List Int) (n : Nat) (r : R3) (g : Nat) : Decidable (fitG bs n r g) := inferInstanceAs (Decidable (g ∈ _))
def cntStep (bs : List Int) (n g : Nat) (acc : Int) (r : R3) : Int := if fitG bs n r g then r.2.2 else acc
def cntP (bs : List Int) (rows : List R3) (n g : Nat) : Int := rows.foldl (cntStep bs n g) 0
def countsP (bs : List Int) (rows : List R3) (n : Nat) : List Int := (List.range n).map (cntP bs rows n)
theorem seg_bound {span step start g : Nat} (hs : 1 ≤ step) (h : g ∈ segN span step start) : start ≤ g ∧ g < start + span := by
  unfold segN at h
  obtain ⟨j, hj, rfl⟩ := List.mem_map.mp h
  have hj' := List.mem_range.mp hj
  rw [show ((start : Int) + (span : Int)) = ((start + span : Nat) : Int) by omega, rgN_nat] at hj'
  split at hj'
  · have h1 : j ≤ (start + span - start - 1) / step := by omega
    have h2 : j * step ≤ start + span - start - 1 := Nat.le_trans (Nat.mul_le_mul_right _ h1) (Nat.div_mul_le_self _ _)
    omega
  · omega
theorem fits_lt {span step n g : Nat} (h1 : 1 ≤ n) (hd : span ∣ n) (hs : 1 ≤ step) (h : g ∈ fitsP span step n) : g < n := by
  unfold fitsP at h
  obtain ⟨l, hl, hg⟩ := List.mem_flatten.mp h
  obtain ⟨k, hk, rfl⟩ := List.mem_map.mp hl
  have hk' := List.mem_range.mp hk
  have h2 := seg_bound hs hg
  have h3 : (k + 1) * span ≤ rgN 0 (n : Int) (span : Int) * span := Nat.mul_le_mul_right _ hk'
  rw [rg_count h1 hd, Nat.add_mul, Nat.one_mul] at h3
  omega
theorem set_range {α : Type} (f : Nat → α) (n g : Nat) (v : α) (hg : g < n) : ((List.range n).map f).set g v = (List.range n).map fun x => if x = g then v else f x := by
  apply List.ext_getElem?
  intro i
  rw [List.getElem?_set, List.getElem?_map, List.getElem?_map, List.length_map, List.length_range]
  by_cases h : g = i
  · subst h
    rw [if_pos rfl, if_pos hg, List.getElem?_range hg]
    simp
  · rw [if_neg h]
    by_cases hi : i < n
    · rw [List.getElem?_range hi]
      simp only [Option.map_some]
      rw [if_neg (fun z => h z.symm)]
    · rw [List.getElem?_eq_none (by rw [List.length_range]; omega)]
      rfl
def spSkipped (K : PySem.W.Frag) : Sp := fun vs H Q _ => ∃ (a r : Addr) (bs : List Int) (rows : List R3) (n : Nat), vs = [.ref a, .ref r, .int (n : Int)] ∧ SqT K H a (bs.map V.int) ∧ 1 ≤ bs.length ∧ bs.length ≤ 3 ∧ (∀ x ∈ bs, 2 ≤ x ∧ x ≤ 60) ∧ RowsAt K H r rows ∧ (∀ x ∈ rows, RowOk 60 bs x) ∧
  1 ≤ n ∧ n ≤ 7200 ∧ (∀ x ∈ rows, spanP bs x n ∣ n) ∧ ∀ (l : Addr) H', Same H H' → H l = none → H' l = some (.lst ((countsP bs rows n).map V.int)) → Q (.ref l) H'
section
variable {P : Program} {w : World} {K : PySem.W.Frag} {mg : Str → Option Value} {base : Heap}
theorem ok_skipped {f : Addr} {fd : FuncData} (F : Fun K "skipped_counts" "skipped_counts" sskipped_counts f fd) (Dfitted_groups : DefK P w K mg base "fitted_groups" ["bases", "row", "groups"] 2 (spFitted K)) : FnOk P w K mg base CX0 3 f fd ["bases", "rows", "groups"] (spSkipped K) := by
  have sc := scskipped_counts
  refine F.ok sc (fun vs H Q E h => ?_) (fun cdv A outer s H vs Q E hr h => ?_)
  · obtain ⟨a, r, bs, rows, n, rfl, _⟩ := h
    rfl
  · obtain ⟨a, r, bs, rows, n, rfl, ha, b0, b3, hb, hR, ro, n1, n2, hdv, k⟩ := h
    refine ⟨_, (pss_cons (ps_set (i := 3) sc.nd rfl (Or.inl rfl) (pe_op op_rep (pe_lst (pa_cons pe_int pa_nil)) (pv 2)))
      (pss_cons (ps_for PassesOwn.never rfl (pi_tup (pv 1)) (pg_name (i := 4) sc.nd rfl (Or.inl rfl)) (pss_one (ps_for PassesOwn.never rfl (pi_list (pe_d Dfitted_groups (hr.mono (by decide)) rfl (pa_cons (pv 0) (pa_cons (pv 4) (pa_cons (pv 2) pa_nil))))) (pg_name (i := 5) sc.nd rfl (Or.inl rfl)) (pss_one (ps_asg (pe_ix ix_tup (pv 4) pe_int (fun _ _ => rfl)) (pg_sub (pv 3) (pv 5) set_list))))))
      (pss_one (ps_ret (pv 3))))), ?_⟩
    refine ⟨Nat.le_of_ble_eq_true rfl, ?_⟩
    (intro z nz; generalize e_z : upd H z _ = H1; have s1 : Same H H1 := fun b x hb => (congrFun e_z b).symm.trans (same_new nz b x hb); have h1 := (congrFun e_z z).symm.trans upd_same; clear e_z)
    refine ⟨_, rfl, z, _, _, rfl, rfl, h1, by omega, by omega, small (by rw [List.length_singleton, Int.toNat_natCast]; omega), ?_⟩
    (intro l nl; generalize e_l : upd H1 l _ = H2; have s2 : Same H1 H2 := fun b x hb => (congrFun e_l b).symm.trans (same_new nl b x hb); have h2 := (congrFun e_l l).symm.trans upd_same; clear e_l)
    have s02 := s1.trans s2
    have nl0 : H l = none := s1.free nl
    obtain ⟨as, hrt, pr⟩ := id hR
    have hpl := pr.length
    have h2' : H2 l = some (.lst ((countsP bs [] n).map V.int)) := by
      rw [h2]
      unfold countsP cntP
      simp [List.map_const']
    refine ⟨_, rfl, r, rfl, ⟨_, Same.seqT s02 hrt⟩, for_tup (K := K) (xs := as.map V.ref) (fun i σ H' => ∃ v4 v5 : Option V, σ = [some (.ref a), some (.ref r), some (.int ((n : Nat) : Int)), some (.ref l), v4, v5] ∧ Same H H' ∧ H' l = some (.lst ((countsP bs (rows.take i) n).map V.int)))
      ⟨_, _, rfl, s02, h2'⟩ (fun i σ H' _ ⟨_, _, _, s, _⟩ => Same.seqT s hrt) ?_ ?_⟩
    · rintro i x σ H' hx ⟨v4, v5, rfl, sm, el⟩
      obtain ⟨ra, hra, rfl⟩ : ∃ b, as[i]? = some b ∧ x = V.ref b := by
        rw [List.getElem?_map] at hx
        obtain ⟨z, hz, e⟩ := Option.map_eq_some_iff.mp hx
        exact ⟨z, hz, e.symm⟩
      obtain ⟨y, hy, hya⟩ := paired_at pr hra
      have hym := List.mem_of_getElem? hy
      have hoy := ro y hym
      obtain ⟨o1, o2, o3, o4, o5, o6⟩ := id hoy
      have hstep : 1 ≤ stepP bs y := Nat.mul_pos (unitP_pos hb _) (by omega)
      refine ⟨_, rfl, _, rfl, _, rfl, a, ra, bs, y, n, rfl, Same.seqT sm ha, b0, b3, hb, Same.seqT sm hya, hoy, n1, n2, hdv y hym, fun q H5 s5 nq eq5 => ?_⟩
      generalize hfits : fitsP (spanP bs y n) (stepP bs y) n = fits at *
      have hflt : ∀ g ∈ fits, g < n := fun g hg => fits_lt n1 (hdv y hym) hstep (by rw [hfits]; exact hg)
      have hql : q ≠ l := fun z => by rw [z, el] at nq; cases nq
      refine ⟨q, rfl, ⟨_, SqL.lst eq5⟩, for_list (K := K) (xs := (castL fits).map V.int) (fun j σ H' => ∃ v5 : Option V, σ = [some (.ref a), some (.ref r), some (.int ((n : Nat) : Int)), some (.ref l), some (.ref ra), v5] ∧ Same H H' ∧ H' q = some (.lst ((castL fits).map V.int)) ∧
          H' l = some (.lst (((List.range n).map fun g => if g ∈ fits.take j then y.2.2 else cntP bs (rows.take i) n g).map V.int)))
        ⟨_, rfl, sm.trans s5, eq5, ?_⟩ (fun j σ H' _ ⟨_, _, _, e, _⟩ => SqL.lst e) ?_ ?_⟩
      · rw [s5 _ _ el]
        unfold countsP
        simp
      · rintro j x σ H6 hx ⟨w5, rfl, sm6, e6q, e6l⟩
        obtain ⟨g, hg, rfl⟩ : ∃ g : Nat, fits[j]? = some g ∧ x = V.int ((g : Nat) : Int) := by
          unfold castL at hx
          rw [List.map_map, List.getElem?_map] at hx
          obtain ⟨z, hz, e⟩ := Option.map_eq_some_iff.mp hx
          exact ⟨z, hz, e.symm⟩
        have hgn := hflt g (List.mem_of_getElem? hg)
        refine ⟨_, rfl, ra, _, 2, .int y.2.2, rfl, rfl, Same.seqT sm6 hya, rfl, ?_⟩
        refine ⟨_, rfl, _, rfl, l, _, _, g, rfl, rfl, e6l, Evl.ixN_nat (by simp; exact hgn), ?_⟩
        refine ⟨_, rfl, same_mut sm6 nl0, by rw [upd_ne hql]; exact e6q, ?_⟩
        rw [upd_same, ← List.map_set (f := V.int), set_range _ _ _ _ hgn]
        congr 2
        refine congrArg (List.map V.int) (List.map_congr_left fun x _ => ?_)
        rw [List.take_add_one, hg]
        by_cases hxg : x = g
        · simp [hxg]
        · simp [hxg]
      · rintro σ H6 ⟨w5, rfl, sm6, e6q, e6l⟩
        refine ⟨_, _, rfl, sm6, ?_⟩
        rw [e6l]
        unfold castL
        rw [List.length_map, List.length_map, List.take_of_length_le (Nat.le_refl _)]
        unfold countsP
        congr 2
        refine congrArg (List.map V.int) (List.map_congr_left fun x _ => ?_)
        unfold cntP
        rw [take_fold (cntStep bs n x) 0 rows i y hy]
        show (if x ∈ fits then y.2.2 else (rows.take i).foldl (cntStep bs n x) 0) = (if fitG bs n y x then y.2.2 else (rows.take i).foldl (cntStep bs n x) 0)
        by_cases hxf : x ∈ fits
        · have hG : fitG bs n y x := by show x ∈ fitsP _ _ _; rw [hfits]; exact hxf
          rw [if_pos hxf, if_pos hG]
        · have hG : ¬ fitG bs n y x := fun z => hxf (by rw [← hfits]; exact z)
          rw [if_neg hxf, if_neg hG]
    · rintro σ H' ⟨v4, v5, rfl, sm, el⟩
      rw [List.take_of_length_le (by rw [List.length_map, hpl]; exact Nat.le_refl _)] at el
      exact ⟨_, rfl, k l H' sm nl0 el⟩
/-- shifted by k the list is the same, as far as it goes -/
def repOk (cs : List Int) (k : Nat) : Prop := cs.length % k = 0 ∧ cs.drop k = cs.take (cs.length - k)
/-- k is the least such number from 1 on -/
def RepIs (cs : List Int) (k : Nat) : Prop := 1 ≤ k ∧ k ≤ cs.length ∧ repOk cs k ∧ ∀ j, 1 ≤ j → j < k → ¬ repOk cs j
def spLeast (K : PySem.W.Frag) : Sp := fun vs H Q _ => ∃ (a : Addr) (cs : List Int), vs = [.ref a] ∧ SqL K H a (cs.map V.int) ∧ 1 ≤ cs.length ∧ cs.length ≤ 100000 ∧ ∀ (k : Nat) H', Same H H' → RepIs cs k → Q (.int (k : Int)) H'
theorem ok_least {f : Addr} {fd : FuncData} (F : Fun K "least_repeat" "least_repeat" sleast_repeat f fd) (N : Names mg) : FnOk P w K mg base CX0 1 f fd ["counts"] (spLeast K) := by
  have sc := scleast_repeat
  refine F.ok sc (fun vs H Q E h => ?_) (fun cdv A outer s H vs Q E hr h => ?_)
  · obtain ⟨a, cs, rfl, _⟩ := h
    rfl
  · obtain ⟨a, cs, rfl, ha, c1, c2, k⟩ := h
    refine ⟨_, (pss_cons (ps_set (i := 1) sc.nd rfl (Or.inl rfl) (pe_callB call_len_seq (by rfl) N.len (by decide +kernel) (pa_cons (pv 0) pa_nil)))
      (pss_cons (ps_for PassesOwn.never rfl (pi_range2 rfl N.range (pa_cons pe_int (pa_cons (pv 1) pa_nil))) (pg_name (i := 2) sc.nd rfl (Or.inl rfl)) (pss_one (ps_if (PW.pt (pw_and (pt_cmpR op_eq (pe_op op_mod (pv 1) (pv 2)) pe_int (nomark _)) (pw_and1 (pt_cmpR (op_eqIs (hu64 hr)) (pe_slice sl_list (pv 0) (po_some (pv 2)) po_none) (pe_slice sl_list (pv 0) po_none (po_some (pe_op op_sub (pv 1) (pv 2)))) (nomark _))))) (pss_one (ps_ret (pv 2))) pss_nil)))
      (pss_one (ps_ret (pv 1))))), ?_⟩
    have el : (cs.map V.int).length = cs.length := List.length_map ..
    refine ⟨_, rfl, a, _, rfl, .inl ha, ?_⟩
    rw [el]
    refine ⟨_, rfl, 1, _, rfl, ⟨by omega, by omega, by omega, by omega⟩, ?_⟩
    have en : (((cs.length : Nat) : Int) - 1).toNat = cs.length - 1 := by omega
    rw [en]
    refine for_range (n := cs.length - 1) (fun i σ H' => ∃ v2 : Option V, σ = [some (.ref a), some (.int ((cs.length : Nat) : Int)), v2] ∧ Same H H' ∧ ∀ j, 1 ≤ j → j < i + 1 → ¬ repOk cs j) ⟨_, rfl, Same.refl H, fun j h1 h2 => by omega⟩ ?_ ?_
    · rintro i σ H' hi ⟨v2, rfl, sm, hno⟩
      have e1 : (1 : Int) + ((i : Nat) : Int) = ((i + 1 : Nat) : Int) := by omega
      rw [e1]
      have ha' := sm.seq ha
      refine ⟨_, rfl, _, rfl, _, _, rfl, rfl, (by show (0 : Int) < _; omega), rfl, _, rfl, ?_⟩
      refine ifD (fun hd => ?_) (fun hd => ?_)
      · have hm : cs.length % (i + 1) = 0 := by
          have z := V.int.inj hd
          have z' : (((cs.length % (i + 1) : Nat)) : Int) = 0 := by rw [Int.natCast_emod]; exact z
          omega
        refine ⟨_, rfl, _, rfl, _, rfl, a, _, rfl, ha', ?_⟩
        (intro t nt; generalize e_t : upd H' t _ = H5; have s5 : Same H' H5 := fun b x hb => (congrFun e_t b).symm.trans (same_new nt b x hb); have h5 := (congrFun e_t t).symm.trans upd_same; clear e_t)
        have h5' : H5 t = some (.lst ((cs.drop (i + 1)).map V.int)) := by rw [h5, cut_from, List.map_drop]
        refine ⟨_, rfl, _, rfl, _, rfl, _, _, rfl, rfl, _, rfl, a, _, rfl, s5.seq ha', ?_⟩
        (intro u nu; generalize e_u : upd H5 u _ = H6; have s6 : Same H5 H6 := fun b x hb => (congrFun e_u b).symm.trans (same_new nu b x hb); have h6 := (congrFun e_u u).symm.trans upd_same; clear e_u)
        have h6' : H6 u = some (.lst ((cs.take (cs.length - (i + 1))).map V.int)) := by
          rw [h6]
          show some (HO.lst (cutV _ none (some (((cs.length : Nat) : Int) - ((i + 1 : Nat) : Int))))) = _
          rw [show (((cs.length : Nat) : Int) - ((i + 1 : Nat) : Int)) = ((cs.length - (i + 1) : Nat) : Int) by omega, cut_to, List.map_take]
        refine ⟨t, u, _, _, rfl, rfl, .inl ⟨SqL.lst (s6 _ _ h5'), SqL.lst h6'⟩, _, rfl, ?_⟩
        refine ifD (fun hd2 => ?_) (fun hd2 => ?_)
        · exact ⟨_, rfl, k (i + 1) H6 (sm.trans (s5.trans s6)) ⟨by omega, by omega, ⟨hm, hd2⟩, fun j j1 j2 => hno j j1 j2⟩⟩
        · refine ⟨_, rfl, sm.trans (s5.trans s6), fun j j1 j2 hj => ?_⟩
          by_cases hji : j = i + 1
          · rw [hji] at hj
            exact hd2 hj.2
          · exact hno j j1 (by omega) hj
      · refine iteF ?_
        refine ⟨_, rfl, sm, fun j j1 j2 hj => ?_⟩
        by_cases hji : j = i + 1
        · rw [hji] at hj
          refine hd (congrArg V.int ?_)
          show ((cs.length : Nat) : Int) % ((i + 1 : Nat) : Int) = 0
          rw [← Int.natCast_emod, hj.1]
          rfl
        · exact hno j j1 (by omega) hj
    · rintro σ H' ⟨v2, rfl, sm, hno⟩
      refine ⟨_, rfl, k cs.length H' sm ⟨c1, Nat.le_refl _, ⟨Nat.mod_self _, ?_⟩, fun j j1 j2 => hno j j1 (by omega)⟩⟩
      rw [List.drop_eq_nil_of_le (Nat.le_refl _), Nat.sub_self, List.take_zero]
def sumsP (ns : List Int) : List Int := (List.range ns.length).map fun i => (ns.take i).sum
def spSums (K : PySem.W.Frag) : Sp := fun vs H Q _ => ∃ (a : Addr) (ns : List Int), vs = [.ref a] ∧ SqL K H a (ns.map V.int) ∧ ns.length ≤ 100000 ∧ ∀ (l : Addr) H', Same H H' → H l = none → H' l = some (.lst ((sumsP ns).map V.int)) → Q (.ref l) H'
theorem sums_take {ns : List Int} {i : Nat} {x : Int} (h : ns[i]? = some x) : (ns.take (i + 1)).sum = (ns.take i).sum + x := by
  rw [List.take_add_one, h, List.sum_append]
  simp
theorem ok_sums {f : Addr} {fd : FuncData} (F : Fun K "sums_ahead" "sums_ahead" ssums_ahead f fd) : FnOk P w K mg base CX0 1 f fd ["numbers"] (spSums K) := by
  have sc := scsums_ahead
  refine F.ok sc (fun vs H Q E h => ?_) (fun cdv A outer s H vs Q E hr h => ?_)
  · obtain ⟨a, ns, rfl, _⟩ := h
    rfl
  · obtain ⟨a, ns, rfl, ha, hl, k⟩ := h
    refine ⟨_, (pss_cons (ps_set (i := 1) sc.nd rfl (Or.inl rfl) pe_int)
      (pss_cons (ps_set (i := 2) sc.nd rfl (Or.inl rfl) (pe_lst pa_nil))
      (pss_cons (ps_for PassesOwn.never rfl (pi_list (pv 0)) (pg_name (i := 3) sc.nd rfl (Or.inl rfl)) (pss_cons (ps_expr (pe_bm PySem.F.plainAttrs_list PySem.F.slot_list_append PySem.F.type_list_append mt_append (pv 2) (pa_cons (pv 1) pa_nil)))
      (pss_one (ps_aug (i := 1) sc.nd rfl (Or.inl rfl) (pv 3) ip_add))))
      (pss_one (ps_ret (pv 2)))))), ?_⟩
    refine ⟨Nat.le_of_ble_eq_true rfl, ?_⟩
    (intro l nl; generalize e_l : upd H l _ = H1; have s1 : Same H H1 := fun b x hb => (congrFun e_l b).symm.trans (same_new nl b x hb); have h1 := (congrFun e_l l).symm.trans upd_same; clear e_l)
    refine ⟨_, rfl, a, rfl, ⟨_, s1.seq ha⟩, for_list (K := K) (xs := ns.map V.int) (fun i σ H' => ∃ v3 : Option V, σ = [some (.ref a), some (.int (ns.take i).sum), some (.ref l), v3] ∧ Same H H' ∧ H' l = some (.lst (((List.range i).map fun j => (ns.take j).sum).map V.int)))
      ⟨_, rfl, s1, h1⟩ (fun i σ H' _ ⟨_, _, s, _⟩ => s.seq ha) ?_ ?_⟩
    · rintro i x σ H' hx ⟨v3, rfl, sm, el⟩
      obtain ⟨b, hb, rfl⟩ : ∃ b, ns[i]? = some b ∧ x = V.int b := by
        rw [List.getElem?_map] at hx
        obtain ⟨z, hz, e⟩ := Option.map_eq_some_iff.mp hx
        exact ⟨z, hz, e.symm⟩
      have hi : i < ns.length := (List.getElem?_eq_some_iff.mp hb).1
      refine ⟨_, rfl, .inl ⟨rfl, _, SqL.lst el⟩, _, rfl, l, _, _, rfl, rfl, el, smallLt (by simp; omega), ?_⟩
      refine ⟨_, rfl, _, rfl, _, _, rfl, rfl, ?_⟩
      refine ⟨_, (by rw [sums_take hb]; rfl), same_mut sm nl, ?_⟩
      rw [upd_same, List.range_succ, List.map_append, List.map_append]
      rfl
    · rintro σ H' ⟨v3, rfl, sm, el⟩
      rw [List.length_map] at el
      exact ⟨_, rfl, k l H' sm nl el⟩
end
end LM

set_option Elab.async false
set_option linter.all false
set_option maxRecDepth 100000
set_option maxHeartbeats 4000000
set_option pp.maxSteps 600
set_option pp.deepTerms false
namespace LM
open PySem PySem.Spec PyProof.Rows L2 RT
local macro_rules | `(tactic| walk_at "hp") => `(tactic| first | assumption | exact upd_same | (rw [upd_ne (by assumption)]; assumption) | (rw [upd_ne (Ne.symm (by assumption))]; assumption) | (rw [upd_ne (by assumption)]; exact upd_same) | (rw [upd_ne (Ne.symm (by assumption))]; exact upd_same))
local macro_rules | `(tactic| walk_at "sq") => `(tactic| first | assumption | exact Or.inl (Or.inl (by assumption)) | exact Or.inl (Or.inl upd_same) | exact Or.inl (Or.inl (by walk_at "hp")))
local macro_rules | `(tactic| walk_at "ixl") => `(tactic| refine ⟨_, _, _, _, rfl, rfl, (by walk_at "sq"), (by rfl), ?_⟩)
local macro_rules | `(tactic| walk_at "setl") => `(tactic| refine ⟨_, _, _, _, rfl, rfl, (by walk_at "hp"), (by rfl), ?_⟩)
local macro_rules | `(tactic| walk_at "side") => `(tactic| refine idP ?_; first | omega | (show (0 : Int) < _; omega) | (show (0 : Int) < _ ∧ _ < _; omega) | (refine Or.inr ?_; show (-(2 ^ 64) : Int) < _ ∧ _ < _; omega) | (refine Or.inl ?_; show (-(2 ^ 64) : Int) < _ ∧ _ < _; omega) | exact divW (by omega) (by omega) _ | (refine ⟨by decide, by decide, ?_⟩; decide))
local macro_rules | `(tactic| walk_at "go1") => `(tactic| first
  | refine ⟨_, rfl, ?_⟩
  | refine ⟨_, _, rfl, rfl, (by walk_at "side"), ?_⟩
  | refine ⟨_, _, rfl, (by walk_at "side"), ?_⟩
  | refine ⟨_, _, rfl, rfl, ?_⟩
  | refine Or.inl ⟨_, rfl, ?_⟩
  | refine ⟨_, _, rfl, Or.inl (by walk_at "sq"), ?_⟩
  | walk_at "ixl"
  | walk_at "setl"
  | refine ⟨_, _, rfl, (by walk_at "sq"), rfl, ?_⟩
  | refine ⟨_, _, rfl, (by walk_at "sq"), ?_⟩
  | refine ⟨_, _, rfl, ?_⟩
  | refine ⟨rfl, ?_⟩
  | refine ⟨small (Nat.le_of_ble_eq_true rfl), ?_⟩)
local macro_rules | `(tactic| walk_at "go") => `(tactic| repeat walk_at "go1")

abbrev slast_not_above : Stmt := topS 41
theorem sclast_not_above : FnScope ["ascending", "number", "low", "high", "middle"] ["ascending", "number"] (defScope slast_not_above) := ⟨rfl, rfl, rfl, by decide +kernel, rfl, by decide +kernel, by decide +kernel⟩
abbrev slabel_at : Stmt := topS 29
theorem sclabel_at : FnScope ["bases", "place", "numbers", "base", "number"] ["bases", "place"] (defScope slabel_at) := ⟨rfl, rfl, rfl, by decide +kernel, rfl, by decide +kernel, by decide +kernel⟩
abbrev s_law_numbers : Stmt := topS 73
theorem sc_law_numbers : FnScope ["_law_ground_here", "_law_spot_at", "_law_found", "_law_base", "_law_rest"] ["_law_ground_here", "_law_spot_at"] (defScope s_law_numbers) := ⟨rfl, rfl, rfl, by decide +kernel, rfl, by decide +kernel, by decide +kernel⟩
/-- the search by halves -/
def lnaGo (fs : List Int) (x : Int) (lo hi : Nat) : Nat :=
  if h : 1 < hi - lo then (if fs.getD ((lo + hi) / 2) 0 ≤ x then lnaGo fs x ((lo + hi) / 2) hi else lnaGo fs x lo ((lo + hi) / 2)) else lo
termination_by hi - lo
decreasing_by all_goals omega
theorem lnaGo_lt (fs : List Int) (x : Int) (lo hi : Nat) (h : lo < hi) : lo ≤ lnaGo fs x lo hi ∧ lnaGo fs x lo hi < hi := by
  unfold lnaGo
  split
  · split
    · have := lnaGo_lt fs x ((lo + hi) / 2) hi (by omega)
      omega
    · have := lnaGo_lt fs x lo ((lo + hi) / 2) (by omega)
      omega
  · omega
termination_by hi - lo
decreasing_by all_goals omega
def lna (fs : List Int) (x : Int) : Nat := lnaGo fs x 0 fs.length
def spLna (K : PySem.W.Frag) : Sp := fun vs H Q _ => ∃ (a : Addr) (fs : List Int) (x : Int), vs = [.ref a, .int x] ∧ SqL K H a (fs.map V.int) ∧ 1 ≤ fs.length ∧ fs.length ≤ 100000 ∧ Q (.int ((lna fs x : Nat) : Int)) H
def labelP (bs : List Int) (p : Int) : List Int := (bs.reverse.foldl digStep (p, [])).1 :: (bs.reverse.foldl digStep (p, [])).2
def spLabelAt (K : PySem.W.Frag) : Sp := fun vs H Q _ => ∃ (a : Addr) (bs : List Int) (p : Int), vs = [.ref a, .int p] ∧ SqT K H a (bs.map V.int) ∧ bs.length ≤ 3 ∧ (∀ x ∈ bs, 2 ≤ x ∧ x ≤ 60) ∧ ∀ (t : Addr) H', Same H H' → H t = none → H' t = some (.tup ((labelP bs p).map V.int)) → Q (.ref t) H'
def spNumbers (K : PySem.W.Frag) : Sp := fun vs H Q _ => ∃ (a : Addr) (bs : List Int) (p : Int), vs = [.ref a, .int p] ∧ SqL K H a (bs.map V.int) ∧ bs.length ≤ 3 ∧ (∀ x ∈ bs, 2 ≤ x ∧ x ≤ 60) ∧ ∀ (t : Addr) H', Same H H' → H t = none → H' t = some (.tup ((labelP bs p).map V.int)) → Q (.ref t) H'
section
variable {P : Program} {w : World} {K : PySem.W.Frag} {mg : Str → Option Value} {base : Heap}
theorem ok_lna {f : Addr} {fd : FuncData} (F : Fun K "last_not_above" "last_not_above" slast_not_above f fd) (N : Names mg) : FnOk P w K mg base CX0 1 f fd ["ascending", "number"] (spLna K) := by
  have sc := sclast_not_above
  refine F.ok sc (fun vs H Q E h => ?_) (fun cdv A outer s H vs Q E hr h => ?_)
  · obtain ⟨a, fs, x, rfl, _⟩ := h
    rfl
  · obtain ⟨a, fs, x, rfl, ha, l1, l2, k⟩ := h
    refine ⟨_, (pss_cons (ps_par (i := 2) (j := 3) rfl sc.nd rfl rfl (by decide) rfl rfl (pa_cons pe_int (pa_cons (pe_callB call_len_seq (by rfl) N.len (by decide +kernel) (pa_cons (pv 0) pa_nil)) pa_nil)) (by rfl))
      (pss_cons (ps_while PassesOwn.never (pt_cmpR op_gt (pe_op op_sub (pv 3) (pv 2)) pe_int (nomark _)) (pss_cons (ps_set (i := 4) sc.nd rfl (Or.inl rfl) (pe_op op_fdiv (pe_op op_add (pv 2) (pv 3)) pe_int))
      (pss_one (ps_if (pt_cmpR op_le (pe_ix ix_list (pv 0) (pv 4) (fun _ _ => rfl)) (pv 1) (nomark _)) (pss_one (ps_set (i := 2) sc.nd rfl (Or.inl rfl) (pv 4))) (pss_one (ps_set (i := 3) sc.nd rfl (Or.inl rfl) (pv 4)))))))
      (pss_one (ps_ret (pv 2))))), ?_⟩
    have el : (fs.map V.int).length = fs.length := List.length_map ..
    refine ⟨_, rfl, a, _, rfl, .inl ha, ?_⟩
    rw [el]
    refine ⟨_, _, rfl, ?_⟩
    refine while_by (fun σ H' => ∃ (lo hi : Nat) (v4 : Option V), σ = [some (.ref a), some (.int x), some (.int ((lo : Nat) : Int)), some (.int ((hi : Nat) : Int)), v4] ∧ lo < hi ∧ hi ≤ fs.length ∧ lnaGo fs x lo hi = lna fs x ∧ H' = H)
      (fun σ _ => match σ with | [_, _, some (.int lo), some (.int hi), _] => hi.toNat - lo.toNat | _ => 0) ⟨0, fs.length, none, rfl, by omega, Nat.le_refl _, rfl, rfl⟩ ?_ ?_
    · rintro σ H' ⟨lo, hi, v4, rfl, hlt, hle, hg, rfl⟩
      refine ⟨_, rfl, _, rfl, _, _, rfl, rfl, _, _, rfl, rfl, _, rfl, ?_⟩
      refine ifD (fun hd => ?_) (fun hd => ?_)
      · have h1 : 1 < hi - lo := by omega
        have hm : (((lo : Nat) : Int) + ((hi : Nat) : Int)) / 2 = (((lo + hi) / 2 : Nat) : Int) := by omega
        have hml : (lo + hi) / 2 < fs.length := by omega
        have hat : atI (fs.map V.int) ((((lo + hi) / 2 : Nat)) : Int) = some (V.int (fs.getD ((lo + hi) / 2) 0)) := by
          rw [atI_nat (map_get hml), List.getD_eq_getElem?_getD, List.getElem?_eq_getElem hml]
          rfl
        refine ⟨_, rfl, _, rfl, _, _, rfl, rfl, _, _, rfl, rfl, (by show (0 : Int) < _ ∧ _ < _; omega), ?_⟩
        refine ⟨_, rfl, _, rfl, a, _, _, .int (fs.getD ((lo + hi) / 2) 0), rfl, rfl, ha, (by rw [hm]; exact hat), _, rfl, _, _, rfl, rfl, _, rfl, ?_⟩
        unfold lnaGo at hg
        rw [dif_pos h1] at hg
        refine ifD (fun hd2 => ?_) (fun hd2 => ?_)
        · rw [if_pos hd2] at hg
          refine ⟨_, rfl, ⟨(lo + hi) / 2, hi, _, (by rw [← hm]; rfl), by omega, hle, hg, rfl⟩, ?_⟩
          show ((hi : Nat) : Int).toNat - ((((lo : Nat) : Int) + ((hi : Nat) : Int)) / 2).toNat < ((hi : Nat) : Int).toNat - ((lo : Nat) : Int).toNat
          omega
        · rw [if_neg hd2] at hg
          refine ⟨_, rfl, ⟨lo, (lo + hi) / 2, _, (by rw [← hm]; rfl), by omega, by omega, hg, rfl⟩, ?_⟩
          show ((((lo : Nat) : Int) + ((hi : Nat) : Int)) / 2).toNat - ((lo : Nat) : Int).toNat < ((hi : Nat) : Int).toNat - ((lo : Nat) : Int).toNat
          omega
      · have h1 : ¬ 1 < hi - lo := by omega
        unfold lnaGo at hg
        rw [dif_neg h1] at hg
        refine ⟨_, rfl, ?_⟩
        rw [hg]
        exact k
    · intro σ H' Q1 Q2 hm h
      obtain ⟨v, hv, v2, hv2, i, j, e1, e2, i2, j2, e3, e4, b, e5, q⟩ := h
      exact ⟨v, hv, v2, hv2, i, j, e1, e2, i2, j2, e3, e4, b, e5, hm _ _ q⟩
theorem ok_labelat {f : Addr} {fd : FuncData} (F : Fun K "label_at" "label_at" slabel_at f fd) (N : Names mg) : FnOk P w K mg base CX0 1 f fd ["bases", "place"] (spLabelAt K) := by
  have sc := sclabel_at
  refine F.ok sc (fun vs H Q E h => ?_) (fun cdv A outer s H vs Q E hr h => ?_)
  · obtain ⟨a, bs, p, rfl, _⟩ := h
    rfl
  · obtain ⟨a, bs, p, rfl, ha, h3, hb, k⟩ := h
    refine ⟨_, (pss_cons (ps_set (i := 2) sc.nd rfl (Or.inl rfl) (pe_lst pa_nil))
      (pss_cons (ps_for PassesOwn.never rfl (pi_revA rfl N.reversed (pv 0)) (pg_name (i := 3) sc.nd rfl (Or.inl rfl)) (pss_cons (ps_asg (pe_callB call_divmod (by rfl) N.divmod (by decide +kernel) (pa_cons (pv 1) (pa_cons (pv 3) pa_nil))) (pg_tup rfl (pgs_cons (pg_name (i := 1) sc.nd rfl (Or.inl rfl)) (pgs_cons (pg_name (i := 4) sc.nd rfl (Or.inl rfl)) pgs_nil))))
      (pss_one (ps_expr (pe_bm PySem.F.plainAttrs_list PySem.F.slot_list_append PySem.F.type_list_append mt_append (pv 2) (pa_cons (pv 4) pa_nil))))))
      (pss_cons (ps_expr (pe_bm PySem.F.plainAttrs_list PySem.F.slot_list_append PySem.F.type_list_append mt_append (pv 2) (pa_cons (pv 1) pa_nil)))
      (pss_one (ps_ret (pe_tupRev rfl (by rfl) N.tuple (by rfl) N.reversed (pv 2))))))), ?_⟩
    refine ⟨Nat.le_of_ble_eq_true rfl, ?_⟩
    (intro l nl; generalize e_l : upd H l _ = H1; have s1 : Same H H1 := fun b x hb => (congrFun e_l b).symm.trans (same_new nl b x hb); have h1 := (congrFun e_l l).symm.trans upd_same; clear e_l)
    refine ⟨_, rfl, a, _, rfl, .inr ⟨Same.seqT s1 ha, ?_⟩⟩
    have hrev : ∀ i x, i < (bs.map V.int).length → (bs.map V.int)[(bs.map V.int).length - 1 - i]? = some x → ∃ b, bs.reverse[i]? = some b ∧ x = V.int b := fun i x hi hx => by
      rw [List.length_map] at hi hx
      rw [List.getElem?_map] at hx
      obtain ⟨z, hz, e⟩ := Option.map_eq_some_iff.mp hx
      exact ⟨z, by rw [List.getElem?_reverse hi]; exact hz, e.symm⟩
    refine for_ItvT (K := K) (xs := bs.map V.int) (fun i σ H' => ∃ v3 v4 : Option V, σ = [some (.ref a), some (.int ((bs.reverse.take i).foldl digStep (p, [])).1), some (.ref l), v3, v4] ∧ Same H H' ∧ H' l = some (.lst (((((bs.reverse.take i).foldl digStep (p, [])).2).reverse).map V.int)))
      ⟨_, _, rfl, s1, h1⟩ (fun i σ H' ⟨_, _, _, s, _⟩ => Same.seqT s ha) ?_ ?_
    · rintro i x σ H' hi hx ⟨v3, v4, rfl, sm, el⟩
      obtain ⟨b, hb', rfl⟩ := hrev i x hi hx
      have hbb := hb b (List.mem_reverse.mp (List.mem_of_getElem? hb'))
      have st := take_fold digStep (p, []) _ i b hb'
      refine ⟨_, rfl, _, rfl, _, _, rfl, (by show (0 : Int) < _ ∧ _ < _; omega), ?_⟩
      (intro t nt; generalize e_t : upd H' t _ = H5; have s5 : Same H' H5 := fun b x hb => (congrFun e_t b).symm.trans (same_new nt b x hb); have h5 := (congrFun e_t t).symm.trans upd_same; clear e_t)
      have el5 := s5 _ _ el
      refine ⟨t, _, rfl, SqT.tup h5, rfl, _, _, rfl, _, _, rfl, rfl, ?_⟩
      refine ⟨_, rfl, .inl ⟨rfl, _, SqL.lst el5⟩, _, rfl, l, _, _, rfl, rfl, el5, smallLt (by rw [List.length_map, List.length_reverse, digStep_len, List.length_take, List.length_reverse]; simp; omega), ?_⟩
      refine ⟨_, _, (by rw [st]; rfl), same_mut (sm.trans s5) nl, ?_⟩
      rw [upd_same, st]
      show _ = some (HO.lst ((((((bs.reverse.take i).foldl digStep (p, [])).1 % b) :: ((bs.reverse.take i).foldl digStep (p, [])).2).reverse).map V.int))
      rw [List.reverse_cons, List.map_append]
      rfl
    · rintro σ H' ⟨v3, v4, rfl, sm, el⟩
      rw [List.take_of_length_le (by rw [List.length_map, List.length_reverse]; exact Nat.le_refl _)] at el
      rw [List.take_of_length_le (by rw [List.length_map, List.length_reverse]; exact Nat.le_refl _)]
      refine ⟨_, rfl, .inl ⟨rfl, _, SqL.lst el⟩, _, rfl, l, _, _, rfl, rfl, el, smallLt (by rw [List.length_map, List.length_reverse, digStep_len, List.length_reverse]; simp; omega), ?_⟩
      generalize eH : upd H' l _ = H6
      have s6 : Same H H6 := by rw [← eH]; exact same_mut sm nl
      have e6 : H6 l = some (.lst ((labelP bs p).reverse.map V.int)) := by
        rw [← eH, upd_same]
        unfold labelP
        rw [List.reverse_cons, List.map_append]
        rfl
      refine ⟨_, rfl, l, _, rfl, SqL.lst e6, ?_⟩
      (intro t nt; generalize e_t : upd H6 t _ = H7; have s7 : Same H6 H7 := fun b x hb => (congrFun e_t b).symm.trans (same_new nt b x hb); have h7 := (congrFun e_t t).symm.trans upd_same; clear e_t)
      refine k t H7 (s6.trans s7) (s6.free nt) ?_
      rw [h7, ← List.map_reverse, List.reverse_reverse]
theorem ok_numbers {f : Addr} {fd : FuncData} (F : Fun K "_law_numbers" "_law_numbers" s_law_numbers f fd) (N : Names mg) : FnOk P w K mg base CX0 1 f fd ["_law_ground_here", "_law_spot_at"] (spNumbers K) := by
  have sc := sc_law_numbers
  refine F.ok sc (fun vs H Q E h => ?_) (fun cdv A outer s H vs Q E hr h => ?_)
  · obtain ⟨a, bs, p, rfl, _⟩ := h
    rfl
  · obtain ⟨a, bs, p, rfl, ha, h3, hb, k⟩ := h
    refine ⟨_, (pss_cons (ps_set (i := 2) sc.nd rfl (Or.inl rfl) (pe_lst pa_nil))
      (pss_cons (ps_for PassesOwn.never rfl (pi_list (pe_revL (pv 0))) (pg_name (i := 3) sc.nd rfl (Or.inl rfl)) (pss_cons (ps_asg (pe_callB call_divmod (by rfl) N.divmod (by decide +kernel) (pa_cons (pv 1) (pa_cons (pv 3) pa_nil))) (pg_tup rfl (pgs_cons (pg_name (i := 1) sc.nd rfl (Or.inl rfl)) (pgs_cons (pg_name (i := 4) sc.nd rfl (Or.inl rfl)) pgs_nil))))
      (pss_one (ps_set (i := 2) sc.nd rfl (Or.inl rfl) (pe_op op_cat (pe_lst (pa_cons (pv 4) pa_nil)) (pv 2))))))
      (pss_one (ps_ret (pe_callTy (T := "tuple") call_tuple_of (by rfl) N.tuple (by decide +kernel) (pa_cons (pe_op op_cat (pe_lst (pa_cons (pv 1) pa_nil)) (pv 2)) pa_nil)))))), ?_⟩
    refine ⟨Nat.le_of_ble_eq_true rfl, ?_⟩
    (intro l nl; generalize e_l : upd H l _ = H1; have s1 : Same H H1 := fun b x hb => (congrFun e_l b).symm.trans (same_new nl b x hb); have h1 := (congrFun e_l l).symm.trans upd_same; clear e_l)
    refine ⟨_, rfl, a, _, rfl, s1.seq ha, ?_⟩
    (intro d nd; generalize e_d : upd H1 d _ = H2; have s2 : Same H1 H2 := fun b x hb => (congrFun e_d b).symm.trans (same_new nd b x hb); have h2 := (congrFun e_d d).symm.trans upd_same; clear e_d)
    have h2' : H2 d = some (.lst (bs.reverse.map V.int)) := by rw [h2, List.map_reverse]
    refine ⟨d, rfl, ⟨_, SqL.lst h2'⟩, for_list (K := K) (xs := bs.reverse.map V.int) (fun i σ H' => ∃ (q : Addr) (v3 v4 : Option V), σ = [some (.ref a), some (.int ((bs.reverse.take i).foldl digStep (p, [])).1), some (.ref q), v3, v4] ∧ Same H H' ∧ H' d = some (.lst (bs.reverse.map V.int)) ∧ H' q = some (.lst ((((bs.reverse.take i).foldl digStep (p, [])).2).map V.int)))
      ⟨l, _, _, rfl, s1.trans s2, h2', s2 _ _ h1⟩ (fun i σ H' _ ⟨_, _, _, _, _, e, _⟩ => SqL.lst e) ?_ ?_⟩
    · rintro i x σ H' hx ⟨q, v3, v4, rfl, sm, ed, eq⟩
      obtain ⟨b, hb', rfl⟩ : ∃ b, bs.reverse[i]? = some b ∧ x = V.int b := by
        rw [List.getElem?_map] at hx
        obtain ⟨z, hz, e⟩ := Option.map_eq_some_iff.mp hx
        exact ⟨z, hz, e.symm⟩
      have hbb := hb b (List.mem_reverse.mp (List.mem_of_getElem? hb'))
      have st := take_fold digStep (p, []) _ i b hb'
      refine ⟨_, rfl, _, rfl, _, _, rfl, (by show (0 : Int) < _ ∧ _ < _; omega), ?_⟩
      (intro t nt; generalize e_t : upd H' t _ = H5; have s5 : Same H' H5 := fun b x hb => (congrFun e_t b).symm.trans (same_new nt b x hb); have h5 := (congrFun e_t t).symm.trans upd_same; clear e_t)
      refine ⟨t, _, rfl, SqT.tup h5, rfl, _, _, rfl, _, _, rfl, rfl, ?_⟩
      refine ⟨_, rfl, Nat.le_of_ble_eq_true rfl, ?_⟩
      (intro r nr; generalize e_r : upd H5 r _ = H6; have s6 : Same H5 H6 := fun b x hb => (congrFun e_r b).symm.trans (same_new nr b x hb); have h6 := (congrFun e_r r).symm.trans upd_same; clear e_r)
      have hq6 := s6 _ _ (s5 _ _ eq)
      refine ⟨_, rfl, r, q, _, _, rfl, rfl, h6, hq6, small (by simp only [List.length_cons, List.length_nil, List.length_map]; rw [digStep_len, List.length_take, List.length_reverse]; simp; omega), ?_⟩
      (intro u nu; generalize e_u : upd H6 u _ = H7; have s7 : Same H6 H7 := fun b x hb => (congrFun e_u b).symm.trans (same_new nu b x hb); have h7 := (congrFun e_u u).symm.trans upd_same; clear e_u)
      refine ⟨u, _, _, (by rw [st]; rfl), sm.trans ((s5.trans s6).trans s7), s7 _ _ (s6 _ _ (s5 _ _ ed)), ?_⟩
      rw [st, h7]
      rfl
    · rintro σ H' ⟨q, v3, v4, rfl, sm, ed, eq⟩
      rw [List.take_of_length_le (by rw [List.length_map]; exact Nat.le_refl _)] at eq
      rw [List.take_of_length_le (by rw [List.length_map]; exact Nat.le_refl _)]
      refine ⟨_, rfl, Nat.le_of_ble_eq_true rfl, ?_⟩
      (intro r nr; generalize e_r : upd H' r _ = H6; have s6 : Same H' H6 := fun b x hb => (congrFun e_r b).symm.trans (same_new nr b x hb); have h6 := (congrFun e_r r).symm.trans upd_same; clear e_r)
      refine ⟨_, rfl, r, q, _, _, rfl, rfl, h6, s6 _ _ eq, small (by simp only [List.length_cons, List.length_nil, List.length_map]; rw [digStep_len, List.length_reverse]; simp; omega), ?_⟩
      (intro u nu; generalize e_u : upd H6 u _ = H7; have s7 : Same H6 H7 := fun b x hb => (congrFun e_u b).symm.trans (same_new nu b x hb); have h7 := (congrFun e_u u).symm.trans upd_same; clear e_u)
      refine ⟨u, _, rfl, .inl ⟨SqL.lst h7, ?_⟩⟩
      (intro t nt; generalize e_t : upd H7 t _ = H8; have s8 : Same H7 H8 := fun b x hb => (congrFun e_t b).symm.trans (same_new nt b x hb); have h8 := (congrFun e_t t).symm.trans upd_same; clear e_t)
      have s08 := (sm.trans s6).trans (s7.trans s8)
      exact k t H8 s08 (((sm.trans s6).trans s7).free nt) h8
end
end LM

set_option Elab.async false
set_option linter.all false
set_option maxRecDepth 100000
set_option maxHeartbeats 4000000
set_option pp.maxSteps 600
set_option pp.deepTerms false
namespace LM
open PySem PySem.Spec PyProof.Rows L2
end LM

set_option Elab.async false
set_option linter.all false
set_option maxRecDepth 100000
set_option maxHeartbeats 4000000
set_option pp.maxSteps 600
set_option pp.deepTerms false
namespace LM
open PySem PySem.Spec PyProof.Rows L2
local macro_rules | `(tactic| walk_at "hp") => `(tactic| first | assumption | exact upd_same | (rw [upd_ne (by assumption)]; assumption) | (rw [upd_ne (Ne.symm (by assumption))]; assumption) | (rw [upd_ne (by assumption)]; exact upd_same) | (rw [upd_ne (Ne.symm (by assumption))]; exact upd_same))
local macro_rules | `(tactic| walk_at "sq") => `(tactic| first | assumption | exact Or.inl (Or.inl (by assumption)) | exact Or.inl (Or.inl upd_same) | exact Or.inl (Or.inl (by walk_at "hp")))
local macro_rules | `(tactic| walk_at "ixl") => `(tactic| refine ⟨_, _, _, _, rfl, rfl, (by walk_at "sq"), (by rfl), ?_⟩)
local macro_rules | `(tactic| walk_at "setl") => `(tactic| refine ⟨_, _, _, _, rfl, rfl, (by walk_at "hp"), (by rfl), ?_⟩)
local macro_rules | `(tactic| walk_at "side") => `(tactic| refine idP ?_; first | omega | (show (0 : Int) < _; omega) | (show (0 : Int) < _ ∧ _ < _; omega) | (refine Or.inr ?_; show (-(2 ^ 64) : Int) < _ ∧ _ < _; omega) | (refine Or.inl ?_; show (-(2 ^ 64) : Int) < _ ∧ _ < _; omega) | exact divW (by omega) (by omega) _ | (refine ⟨by decide, by decide, ?_⟩; decide))
local macro_rules | `(tactic| walk_at "go1") => `(tactic| first
  | refine ⟨_, rfl, ?_⟩
  | refine ⟨_, _, rfl, rfl, (by walk_at "side"), ?_⟩
  | refine ⟨_, _, rfl, (by walk_at "side"), ?_⟩
  | refine ⟨_, _, rfl, rfl, ?_⟩
  | refine Or.inl ⟨_, rfl, ?_⟩
  | refine ⟨_, _, rfl, Or.inl (by walk_at "sq"), ?_⟩
  | walk_at "ixl"
  | walk_at "setl"
  | refine ⟨_, _, rfl, (by walk_at "sq"), rfl, ?_⟩
  | refine ⟨_, _, rfl, (by walk_at "sq"), ?_⟩
  | refine ⟨_, _, rfl, ?_⟩
  | refine ⟨rfl, ?_⟩
  | refine ⟨small (Nat.le_of_ble_eq_true rfl), ?_⟩)
local macro_rules | `(tactic| walk_at "go") => `(tactic| repeat walk_at "go1")

abbrev sHouse__init_ : Stmt := inClass (topS 52) 0
theorem scHouse__init_ : FnScope ["self", "bases", "rows", "groups", "counts", "borne", "count"] ["self", "bases", "rows"] (defScope sHouse__init_) := ⟨rfl, rfl, rfl, by decide +kernel, rfl, by decide +kernel, by decide +kernel⟩
abbrev sHouse_place_borne : Stmt := inClass (topS 52) 14
theorem scHouse_place_borne : FnScope ["self", "frame", "groups", "frames", "rounds", "rest", "group", "number"] ["self", "frame"] (defScope sHouse_place_borne) := ⟨rfl, rfl, rfl, by decide +kernel, rfl, by decide +kernel, by decide +kernel⟩
abbrev sHouse_place : Stmt := inClass (topS 52) 6
theorem scHouse_place : FnScope ["self", "frame"] ["self", "frame"] (defScope sHouse_place) := ⟨rfl, rfl, rfl, by decide +kernel, rfl, by decide +kernel, by decide +kernel⟩
abbrev sHouse_label : Stmt := inClass (topS 52) 5
theorem scHouse_label : FnScope ["self", "frame"] ["self", "frame"] (defScope sHouse_label) := ⟨rfl, rfl, rfl, by decide +kernel, rfl, by decide +kernel, by decide +kernel⟩
/-- the attributes in the order in which they are stored -/
def hf (b r sk ah rd : Addr) (t : Str) : List (Str × V) := putF "_round" (.ref rd) (putF "_frames_ahead" (.ref ah) (putF "_skipped" (.ref sk) (putF "_text" (.str t) (putF "_rows" (.ref r) (putF "_bases" (.ref b) [])))))
theorem hf_bases (b r sk ah rd : Addr) (t : Str) : (hf b r sk ah rd t).lookup ("_bases" : Str) = some (.ref b) := by
  unfold hf
  rw [lookup_putF, if_neg (by decide +kernel), lookup_putF, if_neg (by decide +kernel), lookup_putF, if_neg (by decide +kernel), lookup_putF, if_neg (by decide +kernel), lookup_putF, if_neg (by decide +kernel), lookup_putF, if_pos rfl]
theorem hf_skipped (b r sk ah rd : Addr) (t : Str) : (hf b r sk ah rd t).lookup ("_skipped" : Str) = some (.ref sk) := by
  unfold hf
  rw [lookup_putF, if_neg (by decide +kernel), lookup_putF, if_neg (by decide +kernel), lookup_putF, if_pos rfl]
theorem hf_ahead (b r sk ah rd : Addr) (t : Str) : (hf b r sk ah rd t).lookup ("_frames_ahead" : Str) = some (.ref ah) := by
  unfold hf
  rw [lookup_putF, if_neg (by decide +kernel), lookup_putF, if_pos rfl]
theorem hf_round (b r sk ah rd : Addr) (t : Str) : (hf b r sk ah rd t).lookup ("_round" : Str) = some (.ref rd) := by
  unfold hf
  rw [lookup_putF, if_pos rfl]
theorem hf_no (b r sk ah rd : Addr) (t : Str) {m : Str} (h1 : ¬ m = "_round") (h2 : ¬ m = "_frames_ahead") (h3 : ¬ m = "_skipped") (h4 : ¬ m = "_text") (h5 : ¬ m = "_rows") (h6 : ¬ m = "_bases") : (hf b r sk ah rd t).lookup m = none := by
  unfold hf
  rw [lookup_putF, if_neg h1, lookup_putF, if_neg h2, lookup_putF, if_neg h3, lookup_putF, if_neg h4, lookup_putF, if_neg h5, lookup_putF, if_neg h6]
  rfl
theorem hf_place (b r sk ah rd : Addr) (t : Str) : (hf b r sk ah rd t).lookup ("_place_borne" : Str) = none := hf_no _ _ _ _ _ _ (by decide +kernel) (by decide +kernel) (by decide +kernel) (by decide +kernel) (by decide +kernel) (by decide +kernel)
def borneP (bs cs : List Int) : List Int := cs.map fun c => bs.getLastD 1 - c
def groupsP (bs : List Int) (rows : List R3) : Nat := unitP bs 0 * everyL rows
/-- the bases and rows of a house that may be made -/
structure Fair (bs : List Int) (rows : List R3) : Prop where
  b0 : 1 ≤ bs.length
  b3 : bs.length ≤ 3
  bb : ∀ x ∈ bs, 2 ≤ x ∧ x ≤ 60
  r6 : rows.length ≤ 6
  ro : ∀ x ∈ rows, RowOk 60 bs x
  gr : groupsP bs rows ≤ 7200
/-- a house at p -/
structure HouseAt (K : PySem.W.Frag) (C : Addr) (old : Addr → Prop) (H : Hp) (p b r : Addr) (bs : List Int) (rows : List R3) (cs : List Int) : Prop where
  ob : ∃ dx sk ah rd, H p = some (.ins C dx (hf b r sk ah rd (houseS bs rows))) ∧ H sk = some (.lst (cs.map V.int)) ∧ H ah = some (.lst ((sumsP (borneP bs cs)).map V.int)) ∧ H rd = some (.tup [.int (cs.length : Int), .int (borneP bs cs).sum]) ∧ ¬ old sk ∧ ¬ old ah
  bt : SqT K H b (bs.map V.int)
  rt : RowsAt K H r rows
  fair : Fair bs rows
  rep : ∃ k, RepIs (countsP bs rows (groupsP bs rows)) k ∧ cs = (countsP bs rows (groupsP bs rows)).take k
theorem HouseAt.same {K : PySem.W.Frag} {C : Addr} {old : Addr → Prop} {H H' : Hp} {p b r : Addr} {bs : List Int} {rows : List R3} {cs : List Int} (h : HouseAt K C old H p b r bs rows cs) (s : Same H H') : HouseAt K C old H' p b r bs rows cs := by
  obtain ⟨⟨dx, sk, ah, rd, e1, e2, e3, e4, e5, e6⟩, h2, h3, h4, h5⟩ := h
  exact ⟨⟨dx, sk, ah, rd, s _ _ e1, s _ _ e2, s _ _ e3, s _ _ e4, e5, e6⟩, Same.seqT s h2, h3.same s, h4, h5⟩
theorem countsP_len (bs : List Int) (rows : List R3) (n : Nat) : (countsP bs rows n).length = n := by
  unfold countsP
  rw [List.length_map, List.length_range]
theorem cnt_in {bs : List Int} {n g : Nat} : ∀ (rows : List R3) (acc : Int), (∀ x ∈ rows, RowOk 60 bs x) → 0 ≤ acc ∧ acc < bs.getLastD 1 → 0 ≤ rows.foldl (cntStep bs n g) acc ∧ rows.foldl (cntStep bs n g) acc < bs.getLastD 1
  | [], _, _, ha => ha
  | x :: rows, acc, h, ha => by
    rw [List.foldl_cons]
    refine cnt_in rows _ (fun y hy => h y (List.mem_cons_of_mem _ hy)) ?_
    unfold cntStep
    obtain ⟨_, _, _, _, o5, o6⟩ := h x List.mem_cons_self
    split
    · exact ⟨o5, o6⟩
    · exact ha
theorem counts_in {bs : List Int} {rows : List R3} {n : Nat} (b0 : 1 ≤ bs.length) (bb : ∀ x ∈ bs, 2 ≤ x ∧ x ≤ 60) (ro : ∀ x ∈ rows, RowOk 60 bs x) : ∀ c ∈ countsP bs rows n, 0 ≤ c ∧ c < bs.getLastD 1 := by
  intro c hc
  obtain ⟨g, _, rfl⟩ := List.mem_map.mp hc
  have := bb _ (lastD_mem b0)
  exact cnt_in rows 0 ro ⟨Int.le_refl 0, by omega⟩
/-- what stands elsewhere than p stays -/
theorem els_upd {H : Hp} {p : Addr} {o : HO} : Else p H (upd H p o) := fun b x n e => by rw [upd_ne n]; exact e
theorem els_free {H H' : Hp} {p a : Addr} (e : Else p H H') (n : a ≠ p) (h : H' a = none) : H a = none := by
  cases q : H a with
  | none => rfl
  | some o =>
    rw [e _ _ n q] at h
    cases h
theorem els_seqT {K : PySem.W.Frag} {H H' : Hp} {p a C dx : Addr} {fs : List (Str × V)} {xs : List V} (hp : H p = some (.ins C dx fs)) (e : Else p H H') (h : SqT K H a xs) : SqT K H' a xs := by
  rcases h with (h | ⟨o, h⟩) | h
  · exact .inl (.inl (e _ _ (fun z => by rw [z, hp] at h; cases h) h))
  · exact .inl (.inr ⟨o, e _ _ (fun z => by rw [z, hp] at h; cases h) h⟩)
  · exact .inr h
theorem els_rows {K : PySem.W.Frag} {H H' : Hp} {p r C dx : Addr} {fs : List (Str × V)} {rows : List R3} (hp : H p = some (.ins C dx fs)) (e : Else p H H') (h : RowsAt K H r rows) : RowsAt K H' r rows := by
  obtain ⟨as, h1, h2⟩ := h
  exact ⟨as, els_seqT hp e h1, paired_imp h2 fun a _ x q => els_seqT hp e q⟩
theorem sumsP_len (ns : List Int) : (sumsP ns).length = ns.length := by
  unfold sumsP
  rw [List.length_map, List.length_range]
theorem borneP_len (bs cs : List Int) : (borneP bs cs).length = cs.length := by
  unfold borneP
  rw [List.length_map]
theorem lna_lt (fs : List Int) (x : Int) (h : 1 ≤ fs.length) : lna fs x < fs.length := (lnaGo_lt fs x 0 fs.length (by omega)).2
theorem sum_bounds {bs : List Int} (m : Int) : ∀ (cs : List Int), (∀ c ∈ cs, 0 ≤ c ∧ c < bs.getLastD 1) → bs.getLastD 1 ≤ m → (cs.length : Int) ≤ (borneP bs cs).sum ∧ (borneP bs cs).sum ≤ cs.length * m
  | [], _, _ => by
    show (0 : Int) ≤ 0 ∧ (0 : Int) ≤ 0 * m
    omega
  | c :: cs, h, hm => by
    obtain ⟨i1, i2⟩ := sum_bounds (bs := bs) m cs (fun x hx => h x (List.mem_cons_of_mem _ hx)) hm
    obtain ⟨h1, h2⟩ := h c List.mem_cons_self
    have e : (borneP bs (c :: cs)).sum = (bs.getLastD 1 - c) + (borneP bs cs).sum := List.sum_cons
    rw [e, List.length_cons, Int.natCast_add, Int.add_mul]
    omega
theorem cs_facts {bs : List Int} {rows : List R3} {cs : List Int} {kk : Nat} (fr : Fair bs rows) (rep : RepIs (countsP bs rows (groupsP bs rows)) kk) (hcs : cs = (countsP bs rows (groupsP bs rows)).take kk) :
    1 ≤ cs.length ∧ cs.length ≤ 7200 ∧ 1 ≤ (borneP bs cs).sum ∧ (borneP bs cs).sum ≤ 432000 := by
  have cl := countsP_len bs rows (groupsP bs rows)
  have gr := fr.gr
  have hl : cs.length = kk := by rw [hcs, List.length_take]; have := rep.2.1; omega
  have h1 := rep.1
  have h2 := rep.2.1
  have hlast := fr.bb _ (lastD_mem fr.b0)
  obtain ⟨s1, s2⟩ := sum_bounds (bs := bs) 60 cs (fun c hc => counts_in fr.b0 fr.bb fr.ro c (by rw [hcs] at hc; exact List.mem_of_mem_take hc)) hlast.2
  omega
def spInit (K : PySem.W.Frag) (C : Addr) : Sp := fun vs H Q _ => ∃ (p dx b r : Addr) (bs : List Int) (rows : List R3), vs = [.ref p, .ref b, .ref r] ∧ H p = some (.ins C dx []) ∧ SqT K H b (bs.map V.int) ∧ RowsAt K H r rows ∧ Fair bs rows ∧
  ∀ (cs : List Int) H', HouseAt K C (fun q => H q ≠ none) H' p b r bs rows cs → Else p H H' → Q .non H'
def placeP (bs cs : List Int) (n : Int) : Int :=
  (n / (borneP bs cs).sum * (cs.length : Int) + (lna (sumsP (borneP bs cs)) (n % (borneP bs cs).sum) : Nat)) * bs.getLastD 1 +
    (cs.getD (lna (sumsP (borneP bs cs)) (n % (borneP bs cs).sum)) 0 + n % (borneP bs cs).sum - (sumsP (borneP bs cs)).getD (lna (sumsP (borneP bs cs)) (n % (borneP bs cs).sum)) 0)
def spPlaceM (K : PySem.W.Frag) (C : Addr) : Sp := fun vs H Q _ => ∃ (old : Addr → Prop) (p b r : Addr) (bs : List Int) (rows : List R3) (cs : List Int) (n : Int), vs = [.ref p, .int n] ∧ HouseAt K C old H p b r bs rows cs ∧ 0 ≤ n ∧ ∀ H', Same H H' → Q (.int (placeP bs cs n)) H'
def spLabelM (K : PySem.W.Frag) (C : Addr) : Sp := fun vs H Q _ => ∃ (old : Addr → Prop) (p b r : Addr) (bs : List Int) (rows : List R3) (cs : List Int) (n : Int), vs = [.ref p, .int n] ∧ HouseAt K C old H p b r bs rows cs ∧ 0 ≤ n ∧
  ∀ (t : Addr) H', Same H H' → H t = none → H' t = some (.tup ((labelP bs (placeP bs cs n)).map V.int)) → Q (.ref t) H'
structure HouseTxt (K : PySem.W.Frag) (mg : Str → Option Value) (C : Addr) : Prop where
  cl : Cls K C
  nB : NoAttr K C "_bases"
  nR : NoAttr K C "_rows"
  nT : NoAttr K C "_text"
  nS : NoAttr K C "_skipped"
  nA : NoAttr K C "_frames_ahead"
  nD : NoAttr K C "_round"
  mgC : mg "House" = some (.ref C)
theorem pf_len {f : Str} {v : V} : ∀ {fs : List (Str × V)} {n : Nat}, fs.length ≤ n → (putF f v fs).length ≤ n + 1
  | [], _, _ => Nat.succ_le_succ (Nat.zero_le _)
  | (g, x) :: fs, n, h => by
    unfold putF
    split
    · exact Nat.le_succ_of_le h
    · have h2 : fs.length + 1 ≤ n := h
      obtain ⟨m, rfl⟩ : ∃ m, n = m + 1 := ⟨n - 1, by omega⟩
      exact Nat.succ_le_succ (pf_len (show fs.length ≤ m by omega))
theorem few0 : ([] : List (Str × V)).length < 1000 := by decide
theorem few1 {f1 : Str} {v1 : V} : (putF f1 v1 []).length < 1000 := Nat.lt_of_le_of_lt (pf_len (Nat.le_refl 0)) (by decide)
theorem few2 {f1 f2 : Str} {v1 v2 : V} : (putF f2 v2 (putF f1 v1 [])).length < 1000 := Nat.lt_of_le_of_lt (pf_len (pf_len (Nat.le_refl 0))) (by decide)
theorem few3 {f1 f2 f3 : Str} {v1 v2 v3 : V} : (putF f3 v3 (putF f2 v2 (putF f1 v1 []))).length < 1000 := Nat.lt_of_le_of_lt (pf_len (pf_len (pf_len (Nat.le_refl 0)))) (by decide)
theorem few4 {f1 f2 f3 f4 : Str} {v1 v2 v3 v4 : V} : (putF f4 v4 (putF f3 v3 (putF f2 v2 (putF f1 v1 [])))).length < 1000 := Nat.lt_of_le_of_lt (pf_len (pf_len (pf_len (pf_len (Nat.le_refl 0))))) (by decide)
theorem few5 {f1 f2 f3 f4 f5 : Str} {v1 v2 v3 v4 v5 : V} : (putF f5 v5 (putF f4 v4 (putF f3 v3 (putF f2 v2 (putF f1 v1 []))))).length < 1000 := Nat.lt_of_le_of_lt (pf_len (pf_len (pf_len (pf_len (pf_len (Nat.le_refl 0)))))) (by decide)
theorem every_dvd {rows : List R3} : ∀ (e : Nat), e ∣ rows.foldl everyStep e := by
  induction rows with
  | nil => exact fun e => Nat.dvd_refl e
  | cons x rows ih =>
    intro e
    rw [List.foldl_cons]
    refine Nat.dvd_trans ?_ (ih _)
    unfold everyStep
    split
    · exact Nat.dvd_lcm_left _ _
    · exact Nat.dvd_refl e
theorem mul_dvd : ∀ (l : List Int) (a : Nat), a ∣ l.foldl (fun a b => a * b.toNat) a
  | [], a => Nat.dvd_refl a
  | b :: l, a => Nat.dvd_trans (Nat.dvd_mul_right a b.toNat) (mul_dvd l _)
theorem mul_scale : ∀ (l : List Int) (a : Nat), l.foldl (fun a b => a * b.toNat) a = a * l.foldl (fun a b => a * b.toNat) 1
  | [], a => (Nat.mul_one a).symm
  | b :: l, a => by
    rw [List.foldl_cons, List.foldl_cons, mul_scale l (a * b.toNat), mul_scale l (1 * b.toNat), Nat.one_mul, Nat.mul_assoc]
theorem unitP_dvd (bs : List Int) (f : Nat) : unitP bs f ∣ unitP bs 0 := by
  unfold unitP
  rw [List.drop_zero]
  conv => rhs; rw [← List.take_append_drop f bs.dropLast, List.foldl_append, mul_scale]
  exact Nat.dvd_mul_left _ _
theorem spanP_dvd {bs : List Int} {rows : List R3} {x : R3} (bb : ∀ x ∈ bs, 2 ≤ x ∧ x ≤ 60) (ro : ∀ x ∈ rows, RowOk 60 bs x) (hx : x ∈ rows) : spanP bs x (groupsP bs rows) ∣ groupsP bs rows := by
  unfold spanP
  split
  · exact Nat.dvd_refl _
  · exact Nat.dvd_trans (unitP_dvd bs _) (Nat.dvd_mul_right _ _)
section
variable {P : Program} {w : World} {K : PySem.W.Frag} {mg : Str → Option Value} {base : Heap}
/-- a def with defaults that lets nothing out -/
theorem funD_ok {x qual : Str} {params : Arguments} {body : List Stmt} {scope : Scope} {dvs : List V} {kws : List (Str × V)} {f : Addr} {fd : FuncData} {NN ps : List Str} {k : Nat} {sp : Sp} (F : FunD K x qual params body scope dvs kws f fd) (S : FnScope NN ps scope) (hlen : ∀ vs H Q E, sp vs H Q E → vs.length = ps.length)
    (hbd : ∀ (cdv : Value) (A : Around) (outer : List Env) (s : Shared) (H : Hp) (vs : List V) (Q : VK) (E : XK), Room k (A.deeper (envOfC qual scope s.heap.objs.size f cdv)) → sp vs H Q E →
      ∃ t, PSs (Cx.nox (cxOf CX0 P w K mg base NN qual scope f cdv A outer s H E)) body t ∧ t { nx := fun _ H' => Q .non H', rt := Q } (start NN vs) H) : FnOk P w K mg base CX0 (k + 1) f fd ps sp := by
  refine F.ok S hlen fun cdv A outer s H vs Q E hr h => ?_
  obtain ⟨t, ht, q⟩ := hbd cdv A outer s H vs Q E hr h
  exact ⟨t, ht.nox, q⟩
theorem ok_init {f C : Addr} {fd : FuncData} {dv : List V} (F : FunD K "__init__" "House.__init__" (defArgs sHouse__init_) (defBody sHouse__init_) (defScope sHouse__init_) dv [] f fd) (T : HouseTxt K mg C) (N : Names mg) (M : Consts mg)
    (Dcheck_bases : DefK P w K mg base "check_bases" ["bases"] 3 (spChkBases K)) (Dcheck_rows : DefK P w K mg base "check_rows" ["bases", "rows"] 4 (spChkRows K)) (Dgroups_to_repeat : DefK P w K mg base "groups_to_repeat" ["bases", "rows"] 2 (spRepeat K))
    (Dskipped_counts : DefK P w K mg base "skipped_counts" ["bases", "rows", "groups"] 3 (spSkipped K)) (Dhouse_text : DefK P w K mg base "house_text" ["bases", "rows"] 2 (spHouseText K)) (Dleast_repeat : DefK P w K mg base "least_repeat" ["counts"] 1 (spLeast K))
    (Dsums_ahead : DefK P w K mg base "sums_ahead" ["numbers"] 1 (spSums K)) : FnOk P w K mg base CX0 5 f fd ["self", "bases", "rows"] (spInit K C) := by
  have sc := scHouse__init_
  refine funD_ok F sc (fun vs H Q E h => ?_) (fun cdv A outer s H vs Q E hr h => ?_)
  · obtain ⟨p, dx, b, r, bs, rows, rfl, _⟩ := h
    rfl
  · obtain ⟨p, dx, b, r, bs, rows, rfl, hp, hb, hR, fr, k⟩ := h
    obtain ⟨b0, b3, bb, r6, ro, gr⟩ := id fr
    refine ⟨_, (pss_cons (ps_expr (pe_d Dcheck_bases (hr.mono (by decide)) rfl (pa_cons (pv 1) pa_nil)))
      (pss_cons (ps_expr (pe_d Dcheck_rows (hr.mono (by decide)) rfl (pa_cons (pv 1) (pa_cons (pv 2) pa_nil))))
      (pss_cons (ps_set (i := 3) sc.nd rfl (Or.inl rfl) (pe_d Dgroups_to_repeat (hr.mono (by decide)) rfl (pa_cons (pv 1) (pa_cons (pv 2) pa_nil))))
      (pss_cons (ps_if (pt_cmpR op_gt (pv 3) (pe_const rfl M.MOST_GROUPS) (nomark _)) (pss_one ps_never) pss_nil)
      (pss_cons (ps_set (i := 4) sc.nd rfl (Or.inl rfl) (pe_d Dskipped_counts (hr.mono (by decide)) rfl (pa_cons (pv 1) (pa_cons (pv 2) (pa_cons (pv 3) pa_nil)))))
      (pss_cons (ps_fld (pv 0) (pv 1) rfl)
      (pss_cons (ps_fld (pv 0) (pv 2) rfl)
      (pss_cons (ps_fld (pv 0) (pe_d Dhouse_text (hr.mono (by decide)) rfl (pa_cons (pv 1) (pa_cons (pv 2) pa_nil))) rfl)
      (pss_cons (ps_fld (pv 0) (pe_slice sl_list (pv 4) po_none (po_some (pe_d Dleast_repeat (hr.mono (by decide)) rfl (pa_cons (pv 4) pa_nil)))) rfl)
      (pss_cons (ps_setLc (i := 5) (own := [("count", 6)]) rfl sc.nd rfl rfl (sw_true rfl rfl rfl (by decide +kernel)) (pi_list (pe_fld (pv 0) rfl)) (blkOk_by (own := [("count", 6)]) (N := ["self", "bases", "rows", "groups", "counts", "borne", "count"]) (sc := defScope (inClass (topS 52) 0)) (by decide +kernel)) (fun _ _ _ _ _ => (pg_name (i := 6) sc.nd rfl (Or.inl rfl))) (fun _ _ _ _ _ => pts_nil) (fun _ _ _ _ _ => (pe_op op_sub (pe_ix (show IxR _ (rIxT K) from ix_tup) (pv 1) (pe_un un_neg pe_int) (fun _ _ => rfl)) (pv 6))))
      (pss_cons (ps_fld (pv 0) (pe_d Dsums_ahead (hr.mono (by decide)) rfl (pa_cons (pv 5) pa_nil)) rfl)
      (pss_one (ps_fld (pv 0) (pe_tup (pa_cons (pe_callB call_len_seq (by rfl) N.len (by decide +kernel) (pa_cons (pv 5) pa_nil)) (pa_cons (pe_callB (cr_sum rfl) (by rfl) N.sum (by decide +kernel) (pa_cons (pv 5) pa_nil)) pa_nil))) rfl))))))))))))), ?_⟩
    have hlast := bb _ (lastD_mem b0)
    refine ⟨_, rfl, b, bs, rfl, hb, b0, b3, bb, fun H1 s1 => ?_⟩
    refine ⟨_, rfl, _, rfl, b, r, bs, rows, rfl, Same.seqT s1 hb, b0, hR.same s1, r6, ro, fun H2 s2 => ?_⟩
    have s02 := s1.trans s2
    have hev : everyL rows ≤ 7200 := Nat.le_trans (Nat.le_mul_of_pos_left _ (unitP_pos bb 0)) gr
    refine ⟨_, rfl, _, rfl, b, r, bs, rows, rfl, Same.seqT s02 hb, b0, b3, bb, hR.same s02, ro, by omega, fun H3 s3 => ?_⟩
    have s03 := s02.trans s3
    have gr' : ((unitP bs 0 * everyL rows : Nat) : Int) ≤ 7200 := by
      have : unitP bs 0 * everyL rows ≤ 7200 := gr
      omega
    have g1 : 1 ≤ groupsP bs rows := Nat.mul_pos (unitP_pos bb 0) (every_mono rows 1 (by decide) fun x hx => (ro x hx).2.2.1)
    refine ⟨_, rfl, _, _, rfl, rfl, _, rfl, ?_⟩
    refine ifD (fun hd => absurd hd (Int.not_lt.mpr gr')) (fun _ => ?_)
    refine ⟨_, rfl, _, rfl, _, rfl, b, r, bs, rows, groupsP bs rows, rfl, Same.seqT s03 hb, b0, b3, bb, hR.same s03, ro, g1, gr, fun x hx => spanP_dvd bb ro hx, fun l H4 s4 nl el => ?_⟩
    have s04 := s03.trans s4
    have hp4 := s04 _ _ hp
    have hb4 := Same.seqT s04 hb
    have hR4 := hR.same s04
    have npl : l ≠ p := fun z => by rw [z, s03 _ _ hp] at nl; cases nl
    refine ⟨_, rfl, _, rfl, p, C, dx, _, rfl, hp4, T.cl, T.nB, few0, ?_⟩
    (generalize e_f : upd H4 p _ = H5; have hp5 := (congrFun e_f p).symm.trans upd_same; have x5 : Else p H4 H5 := e_f ▸ els_upd; clear e_f)
    refine ⟨_, rfl, _, rfl, p, C, dx, _, rfl, hp5, T.cl, T.nR, few1, ?_⟩
    (generalize e_f : upd H5 p _ = H6; have hp6 := (congrFun e_f p).symm.trans upd_same; have x6 : Else p H5 H6 := e_f ▸ els_upd; clear e_f)
    have x46 := x5.trans x6
    have hb6 := els_seqT hp4 x46 hb4
    have hR6 := els_rows hp4 x46 hR4
    refine ⟨_, rfl, _, rfl, b, r, bs, rows, rfl, hb6, b3, (fun x hx => ⟨by have := bb x hx; omega, (bb x hx).2⟩), hR6, r6, ro, (fun x hx => by have := (ro x hx).2.2.2.2.2; omega), fun H7 s7 => ?_⟩
    have hp7 := s7 _ _ hp6
    refine ⟨_, rfl, p, C, dx, _, rfl, hp7, T.cl, T.nT, few2, ?_⟩
    (generalize e_f : upd H7 p _ = H8; have hp8 := (congrFun e_f p).symm.trans upd_same; have x8 : Else p H7 H8 := e_f ▸ els_upd; clear e_f)
    have x48 := (x46.trans (Same.els s7)).trans x8
    have el8 := x48 _ _ npl el
    have cl := countsP_len bs rows (groupsP bs rows)
    refine ⟨_, rfl, _, rfl, l, _, rfl, SqL.lst el8, by omega, by omega, fun kk H9 s9 rep => ?_⟩
    have hp9 := s9 _ _ hp8
    have x49 := x48.trans (Same.els s9)
    refine ⟨_, rfl, l, _, rfl, SqL.lst (s9 _ _ el8), ?_⟩
    (intro sk nsk; generalize e_sk : upd H9 sk _ = H10; have s10 : Same H9 H10 := fun b x hb => (congrFun e_sk b).symm.trans (same_new nsk b x hb); have h10 := (congrFun e_sk sk).symm.trans upd_same; clear e_sk)
    have h10' : H10 sk = some (.lst (((countsP bs rows (groupsP bs rows)).take kk).map V.int)) := by rw [h10, cut_to, List.map_take]
    generalize hcs : (countsP bs rows (groupsP bs rows)).take kk = cs at h10'
    have hp10 := s10 _ _ hp9
    have nks : sk ≠ p := fun z => by rw [z, hp9] at nsk; cases nsk
    refine ⟨_, rfl, p, C, dx, _, rfl, hp10, T.cl, T.nS, few3, ?_⟩
    (generalize e_f : upd H10 p _ = H11; have hp11 := (congrFun e_f p).symm.trans upd_same; have x11 : Else p H10 H11 := e_f ▸ els_upd; clear e_f)
    have x411 := (x49.trans (Same.els s10)).trans x11
    have h11 := x11 _ _ nks h10'
    have hb11 := els_seqT hp4 x411 hb4
    have hR11 := els_rows hp4 x411 hR4
    have hkk : kk ≤ groupsP bs rows := by have := rep.2.1; omega
    have hcl : cs.length = kk := by rw [← hcs, List.length_take, countsP_len]; omega
    refine ⟨_, rfl, p, C, dx, _, _, rfl, hp11, T.cl, T.nS, (by rw [lookup_putF, if_pos rfl]), sk, rfl, ⟨_, SqL.lst h11⟩, ?_⟩
    intro D nD
    refine lc_list (K := K) (xs := cs.map V.int) (fun i H' => Same H11 H' ∧ H' D = some (.lst ((borneP bs (cs.take i)).map V.int))) ⟨same_new nD, upd_same⟩ (fun i H' _ ⟨s, _⟩ => s.seq (SqL.lst h11)) ?_ ?_
    · rintro i x H' hx ⟨sm, eD⟩
      obtain ⟨c, hc, rfl⟩ : ∃ b, cs[i]? = some b ∧ x = V.int b := by
        rw [List.getElem?_map] at hx
        obtain ⟨z, hz, e⟩ := Option.map_eq_some_iff.mp hx
        exact ⟨z, hz, e.symm⟩
      refine ⟨rfl, ?_⟩
      have hcm := counts_in b0 bb ro c (by rw [← hcs] at hc; exact List.mem_of_mem_take (List.mem_of_getElem? hc))
      refine ⟨_, rfl, _, rfl, b, _, _, _, rfl, rfl, els_seqT hp11 (Same.els sm) hb11, getLastD_map bs b0, _, rfl, _, _, rfl, rfl, _, eD, smallLt (by unfold borneP; rw [List.length_map, List.length_map, List.length_take]; omega), same_mut sm nD, ?_⟩
      rw [upd_same]
      unfold borneP
      rw [List.take_add_one, hc, List.map_append, List.map_append]
      rfl
    · rintro H12 ⟨sm, eD⟩
      rw [List.take_of_length_le (by rw [List.length_map]; exact Nat.le_refl _)] at eD
      have hp12 := sm _ _ hp11
      have hbl : (borneP bs cs).length = cs.length := by unfold borneP; exact List.length_map ..
      refine ⟨_, rfl, D, borneP bs cs, rfl, SqL.lst eD, by omega, fun ah H13 s13 nah eah => ?_⟩
      have hp13 := s13 _ _ hp12
      have nap : ah ≠ p := fun z => by rw [z, hp12] at nah; cases nah
      have nDp : D ≠ p := fun z => by rw [z, hp11] at nD; cases nD
      refine ⟨_, rfl, p, C, dx, _, rfl, hp13, T.cl, T.nA, few4, ?_⟩
      (generalize e_f : upd H13 p _ = H14; have hp14 := (congrFun e_f p).symm.trans upd_same; have x14 : Else p H13 H14 := e_f ▸ els_upd; clear e_f)
      have eD14 := x14 _ _ nDp (s13 _ _ eD)
      refine ⟨_, rfl, D, _, rfl, .inl (SqL.lst eD14), _, rfl, D, _, rfl, SqL.lst eD14, small (Nat.le_of_ble_eq_true rfl), ?_⟩
      (intro rd nrd; generalize e_rd : upd H14 rd _ = H15; have s15 : Same H14 H15 := fun b x hb => (congrFun e_rd b).symm.trans (same_new nrd b x hb); have h15 := (congrFun e_rd rd).symm.trans upd_same; clear e_rd)
      have hp15 := s15 _ _ hp14
      have nrp : rd ≠ p := fun z => by rw [z, hp14] at nrd; cases nrd
      refine ⟨_, rfl, p, C, dx, _, rfl, hp15, T.cl, T.nD, few5, ?_⟩
      (generalize e_f : upd H15 p _ = H16; have hp16 := (congrFun e_f p).symm.trans upd_same; have x16 : Else p H15 H16 := e_f ▸ els_upd; clear e_f)
      have x1116 : Else p H11 H16 := (((Same.els (sm.trans s13)).trans x14).trans (Same.els s15)).trans x16
      have x412 : Else p H H12 := ((Same.els s04).trans x411).trans (Same.els sm)
      refine k cs H16 ⟨⟨dx, sk, ah, rd, hp16, x1116 _ _ nks h11, x16 _ _ nap (s15 _ _ (x14 _ _ nap eah)), ?_, fun z => z (els_free ((Same.els s04).trans x49) nks nsk), fun z => z (els_free x412 nap nah)⟩, els_seqT hp11 x1116 hb11, els_rows hp11 x1116 hR11, fr, kk, rep, hcs.symm⟩ ((Same.els s04).trans (x411.trans x1116))
      rw [x16 _ _ nrp h15, List.length_map, hbl]
theorem ok_placeborne {f C : Addr} {fd : FuncData} (F : Fun K "_place_borne" "House._place_borne" sHouse_place_borne f fd) (T : HouseTxt K mg C) (N : Names mg) (Dlast_not_above : DefK P w K mg base "last_not_above" ["ascending", "number"] 1 (spLna K)) : FnOk P w K mg base CX0 2 f fd ["self", "frame"] (spPlaceM K C) := by
  have sc := scHouse_place_borne
  refine F.ok sc (fun vs H Q E h => ?_) (fun cdv A outer s H vs Q E hr h => ?_)
  · obtain ⟨old, p, b, r, bs, rows, cs, n, rfl, _⟩ := h
    rfl
  · obtain ⟨old, p, b, r, bs, rows, cs, n, rfl, ⟨⟨dx, sk, ah, rd, e1, e2, e3, e4, _, _⟩, bt, rt, fr, kk, rep, hcs⟩, hn, k⟩ := h
    refine ⟨_, (pss_cons (ps_asg (pe_fld (pv 0) rfl) (pg_tup rfl (pgs_cons (pg_name (i := 2) sc.nd rfl (Or.inl rfl)) (pgs_cons (pg_name (i := 3) sc.nd rfl (Or.inl rfl)) pgs_nil))))
      (pss_cons (ps_asg (pe_callB call_divmod (by rfl) N.divmod (by decide +kernel) (pa_cons (pv 1) (pa_cons (pv 3) pa_nil))) (pg_tup rfl (pgs_cons (pg_name (i := 4) sc.nd rfl (Or.inl rfl)) (pgs_cons (pg_name (i := 5) sc.nd rfl (Or.inl rfl)) pgs_nil))))
      (pss_cons (ps_set (i := 6) sc.nd rfl (Or.inl rfl) (pe_d Dlast_not_above (hr.mono (by decide)) rfl (pa_cons (pe_fld (pv 0) rfl) (pa_cons (pv 5) pa_nil))))
      (pss_cons (ps_set (i := 7) sc.nd rfl (Or.inl rfl) (pe_op op_sub (pe_op op_add (pe_ix ix_list (pe_fld (pv 0) rfl) (pv 6) (fun _ _ => rfl)) (pv 5)) (pe_ix ix_list (pe_fld (pv 0) rfl) (pv 6) (fun _ _ => rfl))))
      (pss_one (ps_ret (pe_op op_add (pe_op op_mul (pe_op op_add (pe_op op_mul (pv 4) (pv 2)) (pv 6)) (pe_ix ix_tup (pe_fld (pv 0) rfl) (pe_un un_neg pe_int) (fun _ _ => rfl))) (pv 7)))))))), ?_⟩
    obtain ⟨c1, c2, c3, c4⟩ := cs_facts fr rep hcs
    have lv := lna_lt (sumsP (borneP bs cs)) (n % (borneP bs cs).sum) (by rw [sumsP_len, borneP_len]; omega)
    rw [sumsP_len, borneP_len] at lv
    refine ⟨_, rfl, p, C, dx, _, _, rfl, e1, T.cl, T.nD, hf_round _ _ _ _ _ _, rd, _, rfl, SqT.tup e4, rfl, _, _, rfl, _, _, rfl, rfl, ?_⟩
    refine ⟨_, rfl, _, rfl, _, _, rfl, ⟨by omega, by omega⟩, ?_⟩
    (intro q nq; generalize e_q : upd H q _ = H1; have s1 : Same H H1 := fun b x hb => (congrFun e_q b).symm.trans (same_new nq b x hb); have h1 := (congrFun e_q q).symm.trans upd_same; clear e_q)
    have e1' := s1 _ _ e1
    have e2' := s1 _ _ e2
    have e3' := s1 _ _ e3
    refine ⟨q, _, rfl, SqT.tup h1, rfl, _, _, rfl, _, _, rfl, rfl, ?_⟩
    refine ⟨_, rfl, p, C, dx, _, _, rfl, e1', T.cl, T.nA, hf_ahead _ _ _ _ _ _, _, rfl, ah, _, _, rfl, SqL.lst e3', (by rw [sumsP_len, borneP_len]; exact c1), (by rw [sumsP_len, borneP_len]; omega), ?_⟩
    refine ⟨_, rfl, p, C, dx, _, _, rfl, e1', T.cl, T.nS, hf_skipped _ _ _ _ _ _, _, rfl, sk, _, _, _, rfl, rfl, SqL.lst e2', atI_getD (by omega) (by omega), _, rfl, _, _, rfl, rfl, ?_⟩
    refine ⟨_, rfl, p, C, dx, _, _, rfl, e1', T.cl, T.nA, hf_ahead _ _ _ _ _ _, _, rfl, ah, _, _, _, rfl, rfl, SqL.lst e3', atI_getD (by omega) (by rw [sumsP_len, borneP_len]; omega), _, _, rfl, rfl, ?_⟩
    have hlast := fr.bb _ (lastD_mem fr.b0)
    refine ⟨_, rfl, _, rfl, _, _, rfl, rfl, .inr ⟨by omega, by omega⟩, _, rfl, _, _, rfl, rfl, ?_⟩
    refine ⟨_, rfl, p, C, dx, _, _, rfl, e1', T.cl, T.nB, hf_bases _ _ _ _ _ _, _, rfl, b, _, _, _, rfl, rfl, Same.seqT s1 bt, getLastD_map bs fr.b0, _, _, rfl, rfl, .inr ⟨by omega, by omega⟩, _, rfl, _, _, rfl, rfl, ?_⟩
    exact k _ s1
theorem ok_placeM {f C fP : Addr} {fd fdP : FuncData} (F : Fun K "place" "House.place" sHouse_place f fd) (T : HouseTxt K mg C) (Dcheck_number : DefK P w K mg base "check_number" ["given"] 3 spChkNum)
    (mP : Meth K C "_place_borne" fP) (GP : FnOk P w K mg base CX0 2 fP fdP ["self", "frame"] (spPlaceM K C)) (bP : Binds K fdP ["self", "frame"] []) : FnOk P w K mg base CX0 4 f fd ["self", "frame"] (spPlaceM K C) := by
  have sc := scHouse_place
  refine F.ok sc (fun vs H Q E h => ?_) (fun cdv A outer s H vs Q E hr h => ?_)
  · obtain ⟨old, p, b, r, bs, rows, cs, n, rfl, _⟩ := h
    rfl
  · obtain ⟨old, p, b, r, bs, rows, cs, n, rfl, hH, hn, k⟩ := h
    refine ⟨_, (pss_cons (ps_expr (pe_d Dcheck_number (hr.mono (by decide)) rfl (pa_cons (pv 1) pa_nil)))
      (pss_one (ps_ret (pe_meth (pv 0) T.cl mP GP (hr.mono (by decide)) bP .nil pass0 (pa_cons (pv 1) pa_nil))))), ?_⟩
    obtain ⟨dx, sk, ah, rd, e1, e2, e3, e4, _, _⟩ := hH.ob
    refine ⟨_, rfl, n, rfl, hn, ?_⟩
    exact ⟨_, rfl, p, dx, _, rfl, e1, hf_place _ _ _ _ _ _, _, rfl, old, p, b, r, bs, rows, cs, n, rfl, hH, hn, k⟩
theorem ok_labelM {f C fP : Addr} {fd fdP : FuncData} (F : Fun K "label" "House.label" sHouse_label f fd) (T : HouseTxt K mg C) (Dcheck_number : DefK P w K mg base "check_number" ["given"] 3 spChkNum) (Dlabel_at : DefK P w K mg base "label_at" ["bases", "place"] 1 (spLabelAt K))
    (mP : Meth K C "_place_borne" fP) (GP : FnOk P w K mg base CX0 2 fP fdP ["self", "frame"] (spPlaceM K C)) (bP : Binds K fdP ["self", "frame"] []) : FnOk P w K mg base CX0 4 f fd ["self", "frame"] (spLabelM K C) := by
  have sc := scHouse_label
  refine F.ok sc (fun vs H Q E h => ?_) (fun cdv A outer s H vs Q E hr h => ?_)
  · obtain ⟨old, p, b, r, bs, rows, cs, n, rfl, _⟩ := h
    rfl
  · obtain ⟨old, p, b, r, bs, rows, cs, n, rfl, hH, hn, k⟩ := h
    refine ⟨_, (pss_cons (ps_expr (pe_d Dcheck_number (hr.mono (by decide)) rfl (pa_cons (pv 1) pa_nil)))
      (pss_one (ps_ret (pe_d Dlabel_at (hr.mono (by decide)) rfl (pa_cons (pe_fld (pv 0) rfl) (pa_cons (pe_meth (pv 0) T.cl mP GP (hr.mono (by decide)) bP .nil pass0 (pa_cons (pv 1) pa_nil)) pa_nil)))))), ?_⟩
    obtain ⟨dx, sk, ah, rd, e1, e2, e3, e4, _, _⟩ := hH.ob
    refine ⟨_, rfl, n, rfl, hn, ?_⟩
    refine ⟨_, rfl, p, C, dx, _, _, rfl, e1, T.cl, T.nB, hf_bases _ _ _ _ _ _, ?_⟩
    refine ⟨_, rfl, p, dx, _, rfl, e1, hf_place _ _ _ _ _ _, _, rfl, old, p, b, r, bs, rows, cs, n, rfl, hH, hn, fun H1 s1 => ?_⟩
    refine ⟨b, bs, _, rfl, Same.seqT s1 hH.bt, hH.fair.b3, hH.fair.bb, fun t H2 s2 nt et => ?_⟩
    exact k t H2 (s1.trans s2) (s1.free nt) et
end
end LM

set_option Elab.async false
set_option linter.all false
set_option maxRecDepth 100000
set_option maxHeartbeats 4000000
set_option pp.maxSteps 600
set_option pp.deepTerms false
namespace LM
open PySem PySem.Spec PyProof.Rows L2
local macro_rules | `(tactic| walk_at "hp") => `(tactic| first | assumption | exact upd_same | (rw [upd_ne (by assumption)]; assumption) | (rw [upd_ne (Ne.symm (by assumption))]; assumption) | (rw [upd_ne (by assumption)]; exact upd_same) | (rw [upd_ne (Ne.symm (by assumption))]; exact upd_same))
local macro_rules | `(tactic| walk_at "sq") => `(tactic| first | assumption | exact Or.inl (Or.inl (by assumption)) | exact Or.inl (Or.inl upd_same) | exact Or.inl (Or.inl (by walk_at "hp")))
local macro_rules | `(tactic| walk_at "ixl") => `(tactic| refine ⟨_, _, _, _, rfl, rfl, (by walk_at "sq"), (by rfl), ?_⟩)
local macro_rules | `(tactic| walk_at "setl") => `(tactic| refine ⟨_, _, _, _, rfl, rfl, (by walk_at "hp"), (by rfl), ?_⟩)
local macro_rules | `(tactic| walk_at "side") => `(tactic| refine idP ?_; first | omega | (show (0 : Int) < _; omega) | (show (0 : Int) < _ ∧ _ < _; omega) | (refine Or.inr ?_; show (-(2 ^ 64) : Int) < _ ∧ _ < _; omega) | (refine Or.inl ?_; show (-(2 ^ 64) : Int) < _ ∧ _ < _; omega) | exact divW (by omega) (by omega) _ | (refine ⟨by decide, by decide, ?_⟩; decide))
local macro_rules | `(tactic| walk_at "go1") => `(tactic| first
  | refine ⟨_, rfl, ?_⟩
  | refine ⟨_, _, rfl, rfl, (by walk_at "side"), ?_⟩
  | refine ⟨_, _, rfl, (by walk_at "side"), ?_⟩
  | refine ⟨_, _, rfl, rfl, ?_⟩
  | refine Or.inl ⟨_, rfl, ?_⟩
  | refine ⟨_, _, rfl, Or.inl (by walk_at "sq"), ?_⟩
  | walk_at "ixl"
  | walk_at "setl"
  | refine ⟨_, _, rfl, (by walk_at "sq"), rfl, ?_⟩
  | refine ⟨_, _, rfl, (by walk_at "sq"), ?_⟩
  | refine ⟨_, _, rfl, ?_⟩
  | refine ⟨rfl, ?_⟩
  | refine ⟨small (Nat.le_of_ble_eq_true rfl), ?_⟩)
local macro_rules | `(tactic| walk_at "go") => `(tactic| repeat walk_at "go1")

abbrev s_law_built : Stmt := topS 75
theorem sc_law_built : FnScope ["_law_home", "_law_lane"] ["_law_home"] (defScope s_law_built) := ⟨rfl, rfl, rfl, by decide +kernel, rfl, by decide +kernel, by decide +kernel⟩
theorem DGet.some {H : Hp} {d : Addr} {kvs : List (Key × V)} {s : Str} {v : V} (h : H d = Option.some (.dK kvs)) (e : valV kvs (Sum.inr s : Key) = Option.some v) : DGet H d (.str s) (Option.some v) := by
  have := DGet.k (k := Sum.inr s) h
  rw [e] at this
  exact this
/-- tuple of a list or a tuple -/
def rTupOf (K : PySem.W.Frag) : List V → Hp → VK → Prop := fun xs H Q => ∃ p ys, xs = [.ref p] ∧ ((SqL K H p ys ∧ ∀ l, H l = none → Q (.ref l) (upd H l (.tup ys))) ∨ (SqT K H p ys ∧ Q (.ref p) H))
/-- the law's own house at d, as far as it is asked for its bases and rows -/
def HomeD (H : Hp) (d g l : Addr) : Prop := ∃ n s b : V, H d = some (.dK [(Sum.inr "ground", .ref g), (Sum.inr "lanes", .ref l), (Sum.inr "groups", n), (Sum.inr "spots", s), (Sum.inr "below", b)])
theorem HomeAt.els {old : Addr → Prop} {H H' : Hp} {d g l q : Addr} {gs : List Int} {rows : List R3} (h : HomeAt old H d g l gs rows) (n : d ≠ q) (hq : old q) (e : Else q H H') : HomeAt old H' d g l gs rows := by
  obtain ⟨s, b, cs, m, e1, e2, e3, e4, e5, e6, e7⟩ := h
  exact ⟨s, b, cs, m, e _ _ n e1, e2, e3, e _ _ (fun z => e6 (z ▸ hq)) e4, e _ _ (fun z => e7 (z ▸ hq)) e5, e6, e7⟩
theorem HomeAt.same {old : Addr → Prop} {H H' : Hp} {d g l : Addr} {gs : List Int} {rows : List R3} (h : HomeAt old H d g l gs rows) (s : Same H H') : HomeAt old H' d g l gs rows := by
  obtain ⟨x, b, cs, m, e1, e2, e3, e4, e5, e6, e7⟩ := h
  exact ⟨x, b, cs, m, s _ _ e1, e2, e3, s _ _ e4, s _ _ e5, e6, e7⟩
theorem HomeAt.dict {old : Addr → Prop} {H : Hp} {d g l : Addr} {gs : List Int} {rows : List R3} (h : HomeAt old H d g l gs rows) : HomeD H d g l := by
  obtain ⟨s, b, cs, n, e, _⟩ := h
  exact ⟨_, _, _, e⟩
theorem HomeD.els {H H' : Hp} {p d g l : Addr} (h : HomeD H d g l) (n : d ≠ p) (e : Else p H H') : HomeD H' d g l := by
  obtain ⟨x, s, b, ed⟩ := h
  exact ⟨x, s, b, e _ _ n ed⟩
theorem HouseAt.weak {K : PySem.W.Frag} {C : Addr} {o1 o2 : Addr → Prop} {H : Hp} {p b r : Addr} {bs : List Int} {rows : List R3} {cs : List Int} (h : HouseAt K C o1 H p b r bs rows cs) (i : ∀ q, o2 q → o1 q) : HouseAt K C o2 H p b r bs rows cs := by
  obtain ⟨⟨dx, sk, ah, rd, e1, e2, e3, e4, e5, e6⟩, h2, h3, h4, h5⟩ := h
  exact ⟨⟨dx, sk, ah, rd, e1, e2, e3, e4, fun z => e5 (i _ z), fun z => e6 (i _ z)⟩, h2, h3, h4, h5⟩
/-- a list at q that is no part of the house changes: the house stays -/
theorem HouseAt.els {K : PySem.W.Frag} {C : Addr} {old : Addr → Prop} {H H' : Hp} {q p b r : Addr} {bs : List Int} {rows : List R3} {cs : List Int} {ys : List V} (h : HouseAt K C old H p b r bs rows cs) (hq : H q = some (.lst ys)) (ho : old q) (e : Else q H H') : HouseAt K C old H' p b r bs rows cs := by
  obtain ⟨⟨dx, sk, ah, rd, e1, e2, e3, e4, e5, e6⟩, h2, ⟨as, h3, h3'⟩, h4, h5⟩ := h
  have tup : ∀ {a : Addr} {xs : List V}, SqT K H a xs → SqT K H' a xs := by
    intro a xs z
    rcases z with (z | ⟨o, z⟩) | z
    · exact .inl (.inl (e _ _ (fun y => by rw [y, hq] at z; cases z) z))
    · exact .inl (.inr ⟨o, e _ _ (fun y => by rw [y, hq] at z; cases z) z⟩)
    · exact .inr z
  refine ⟨⟨dx, sk, ah, rd, e _ _ (fun y => by rw [y, hq] at e1; cases e1) e1, e _ _ (fun y => e5 (y ▸ ho)) e2, e _ _ (fun y => e6 (y ▸ ho)) e3, e _ _ (fun y => by rw [y, hq] at e4; cases e4) e4, e5, e6⟩, tup h2, ⟨as, tup h3, paired_imp h3' fun a _ x z => tup z⟩, h4, h5⟩
def spBuilt (K : PySem.W.Frag) (C : Addr) : Sp := fun vs H Q _ => ∃ (d g l : Addr) (gs : List Int) (rows : List R3), vs = [.ref d] ∧ HomeD H d g l ∧ SqL K H g (gs.map V.int) ∧ LanesIn K H l rows ∧ Fair gs rows ∧
  ∀ (p b r : Addr) (cs : List Int) H', Same H H' → H p = none → HouseAt K C (fun q => H q ≠ none) H' p b r gs rows cs → Q (.ref p) H'
section
variable {P : Program} {w : World} {K : PySem.W.Frag} {mg : Str → Option Value} {base : Heap}
theorem ok_built {f C fI : Addr} {fd fdI : FuncData} (F : Fun K "_law_built" "_law_built" s_law_built f fd) (T : HouseTxt K mg C) (N : Names mg) (MK : Mk K C fI) (GI : FnOk P w K mg base CX0 5 fI fdI ["self", "bases", "rows"] (spInit K C)) (bI : Binds K fdI ["self", "bases", "rows"] []) :
    FnOk P w K mg base CX0 7 f fd ["_law_home"] (spBuilt K C) := by
  have sc := sc_law_built
  refine F.ok sc (fun vs H Q E h => ?_) (fun cdv A outer s H vs Q E hr h => ?_)
  · obtain ⟨d, g, l, gs, rows, rfl, _⟩ := h
    rfl
  · obtain ⟨d, g, l, gs, rows, rfl, hd, hg, hl, fr, k⟩ := h
    have hu := hu_of hr
    obtain ⟨n0, sa, ba, ed⟩ := id hd
    refine ⟨_, (pss_one (ps_ret (pe_make MK GI hr rfl T.mgC bI .nil pass0 (pa_cons (pe_callTy (T := "tuple") (show CallR _ _ (rTupOf K) from call_tuple_of) (by rfl) N.tuple (by decide +kernel) (pa_cons (pe_dget hu (pv 0) pe_str (fun _ _ => rfl)) pa_nil)) (pa_cons (pe_callTy (T := "tuple") (show CallR _ _ (rTupOf K) from call_tuple_of) (by rfl) N.tuple (by decide +kernel) (pa_cons (pe_lc (own := [("_law_lane", 1)]) rfl sc.nd (pi_list (pe_dget hu (pv 0) pe_str (fun _ _ => rfl))) (blkOk_by (own := [("_law_lane", 1)]) (N := ["_law_home", "_law_lane"]) (sc := defScope (topS 75)) (by decide +kernel)) (fun _ _ _ _ _ => (pg_name (i := 1) sc.nd rfl (Or.inl rfl))) (fun _ _ _ _ _ => pts_nil) (fun _ _ _ _ _ => (pe_callTy (T := "tuple") (show CallR _ _ (rTupOf K) from call_tuple_of) (by rfl) N.tuple (by decide +kernel) (pa_cons (pv 1) pa_nil)))) pa_nil)) pa_nil))))), ?_⟩
    refine ⟨_, rfl, d, _, rfl, DGet.some (s := "ground") ed rfl, g, _, rfl, .inl ⟨hg, ?_⟩⟩
    (intro b nb; generalize e_b : upd H b _ = H1; have s1 : Same H H1 := fun b x hb => (congrFun e_b b).symm.trans (same_new nb b x hb); have h1 := (congrFun e_b b).symm.trans upd_same; clear e_b)
    have ed1 := s1 _ _ ed
    obtain ⟨as, hl1, pr⟩ := hl.same s1
    have hpl := pr.length
    refine ⟨_, rfl, d, _, rfl, DGet.some (s := "lanes") ed1 rfl, l, rfl, ⟨_, hl1⟩, ?_⟩
    intro D nD
    refine lc_list (K := K) (xs := as.map V.ref) (fun i H' => ∃ ts : List Addr, Same H1 H' ∧ H' D = some (.lst (ts.map V.ref)) ∧ Paired (fun a (x : R3) => H' a = some (.tup [.int x.1, .int x.2.1, .int x.2.2])) ts (rows.take i)) ⟨[], same_new nD, upd_same, .nil⟩ (fun i H' _ ⟨_, s, _⟩ => s.seq hl1) ?_ ?_
    · rintro i x H' hx ⟨ts, sm, eD, pt⟩
      obtain ⟨a, ha, rfl⟩ : ∃ b, as[i]? = some b ∧ x = V.ref b := by
        rw [List.getElem?_map] at hx
        obtain ⟨z, hz, e⟩ := Option.map_eq_some_iff.mp hx
        exact ⟨z, hz, e.symm⟩
      obtain ⟨rw_, hr', hra⟩ := paired_at pr ha
      refine ⟨rfl, ?_⟩
      refine ⟨_, rfl, a, _, rfl, .inl ⟨SqL.lst (sm _ _ hra), ?_⟩⟩
      (intro t nt; generalize e_t : upd H' t _ = H2; have s2 : Same H' H2 := fun b x hb => (congrFun e_t b).symm.trans (same_new nt b x hb); have h2 := (congrFun e_t t).symm.trans upd_same; clear e_t)
      have eD2 := s2 _ _ eD
      have hpt := pt.length
      refine ⟨_, eD2, smallLt (by have := fr.r6; rw [List.length_map, hpt, List.length_take]; omega), ts ++ [t], same_mut (sm.trans s2) nD, ?_, ?_⟩
      · rw [upd_same, List.map_append]
        rfl
      · rw [List.take_add_one, hr']
        have ntD : t ≠ D := fun z => by rw [z, eD] at nt; cases nt
        refine paired_app (paired_imp pt fun c hc y hy => ?_) ?_
        · have hy2 := s2 _ _ hy
          rw [upd_ne (fun z => by rw [z, eD2] at hy2; cases hy2)]
          exact hy2
        · rw [upd_ne ntD]
          exact h2
    rintro H2 ⟨ts, s2, eD, pt⟩
    rw [List.take_of_length_le (by rw [List.length_map, hpl]; exact Nat.le_refl _)] at pt
    refine ⟨D, _, rfl, .inl ⟨SqL.lst eD, ?_⟩⟩
    (intro r nr; generalize e_r : upd H2 r _ = H3; have s3 : Same H2 H3 := fun b x hb => (congrFun e_r b).symm.trans (same_new nr b x hb); have h3 := (congrFun e_r r).symm.trans upd_same; clear e_r)
    intro p dx np ndx ndp
    generalize e4 : upd (upd H3 dx (.own p)) p _ = H4
    have s4 : Same H3 H4 := fun c o h => (congrFun e4 c).symm.trans (by rw [upd_ne (ne_of_none h np), upd_ne (ne_of_none h ndx)]; exact h)
    have hp4 : H4 p = some (.ins C dx []) := (congrFun e4 p).symm.trans upd_same
    have s13 := s2.trans s3
    refine ⟨p, dx, b, r, gs, rows, rfl, hp4, SqT.tup (s4 _ _ (s13 _ _ h1)), ⟨ts, SqT.tup (s4 _ _ h3), paired_imp pt fun a _ x q => SqT.tup (s4 _ _ (s3 _ _ q))⟩, fr, fun cs H5 hh e5 => ⟨rfl, k p b r cs H5 ?_ ((s1.trans s13).free np) (hh.weak fun q hq z => ?_)⟩⟩
    rotate_left
    · cases e : H q with
      | none => exact hq e
      | some o =>
        have := s4 _ _ ((s1.trans s13) _ _ e)
        rw [z] at this
        cases this
    exact fun c o h => e5 _ _ (ne_of_none ((s1.trans s13) _ _ h) np) (s4 _ _ ((s1.trans s13) _ _ h))
end
end LM

set_option Elab.async false
set_option linter.all false
set_option maxRecDepth 100000
set_option maxHeartbeats 4000000
namespace LM
open PySem PySem.Spec PyProof.Rows L2
/-! ### arithmetic of groups -/
theorem mod_two {x u e : Nat} (hu : 0 < u) : x % (u * e) = 0 ↔ x / u % e = 0 ∧ x % u = 0 := by
  rw [Nat.mod_mul]
  constructor
  · intro h
    have h1 : x % u = 0 := by omega
    have h2 : u * (x / u % e) = 0 := by omega
    exact ⟨(Nat.mul_eq_zero.mp h2).resolve_left (by omega), h1⟩
  · rintro ⟨h1, h2⟩
    rw [h1, h2, Nat.mul_zero]
theorem castmod (g e : Nat) : ((g : Int) % (e : Int) = 0) ↔ g % e = 0 := by
  rw [← Int.natCast_emod]
  omega
def fitN (gs : List Int) (r : R3) (g : Nat) : Prop := (if r.1 = 0 then g else g % unitP gs (r.1.toNat - 1)) % (unitP gs r.1.toNat * r.2.1.toNat) = 0
theorem fitL_iff (ds : List Int) (r : R3) : fitL ds r = true ↔ (ds.getD r.1.toNat 0 % r.2.1 = 0 ∧ ∀ k ∈ ds.drop (r.1.toNat + 1), k = 0) := by
  unfold fitL
  rw [Bool.and_eq_true, decide_eq_true_iff, Bool.not_eq_true', List.any_eq_false]
  constructor
  · rintro ⟨h1, h2⟩
    refine ⟨h1, fun k hk => ?_⟩
    have := h2 k hk
    simpa using this
  · rintro ⟨h1, h2⟩
    refine ⟨h1, fun k hk => ?_⟩
    simp [h2 k hk]
theorem fit_law {gs : List Int} {r : R3} (g0 : 1 ≤ gs.length) (g3 : gs.length ≤ 3) (gb : ∀ x ∈ gs, 2 ≤ x ∧ x ≤ 60) (ro : RowOk 60 gs r) (g : Nat) : fitL (digs gs (g : Int)) r = true ↔ fitN gs r g := by
  obtain ⟨f, e, c⟩ := r
  obtain ⟨o1, o2, o3, o4, _, _⟩ := ro
  dsimp only at o1 o2 o3 o4
  obtain ⟨E, rfl⟩ : ∃ E : Nat, e = (E : Int) := ⟨e.toNat, by omega⟩
  rw [fitL_iff]
  unfold fitN
  dsimp only
  rw [Int.toNat_natCast]
  match gs, g0, g3 with
  | [b], _, _ =>
    have hf : f = 0 := by simp at o2; omega
    subst hf
    show ((g : Int) % (E : Int) = 0 ∧ ∀ k ∈ [], k = 0) ↔ g % (1 * E) = 0
    rw [castmod, Nat.one_mul]
    exact ⟨fun h => h.1, fun h => ⟨h, fun _ z => nomatch z⟩⟩
  | [a, b], _, _ =>
    have ha := gb a (by simp)
    obtain ⟨A, rfl⟩ : ∃ A : Nat, a = (A : Int) := ⟨a.toNat, by omega⟩
    have hf : f = 0 ∨ f = 1 := by simp at o2; omega
    rcases hf with rfl | rfl
    · show ((g : Int) / (A : Int) % (E : Int) = 0 ∧ ∀ k ∈ [(g : Int) % (A : Int)], k = 0) ↔ g % (1 * A * E) = 0
      rw [Nat.one_mul, mod_two (by omega), ← Int.natCast_ediv, castmod, ← castmod g A]
      exact ⟨fun h => ⟨h.1, h.2 _ (List.mem_singleton.mpr rfl)⟩, fun h => ⟨h.1, fun k hk => by rw [List.mem_singleton.mp hk]; exact h.2⟩⟩
    · show ((g : Int) % (A : Int) % (E : Int) = 0 ∧ ∀ k ∈ [], k = 0) ↔ g % (1 * A) % (1 * E) = 0
      rw [Nat.one_mul, Nat.one_mul, ← Int.natCast_emod, castmod]
      exact ⟨fun h => h.1, fun h => ⟨h, fun _ z => nomatch z⟩⟩
  | [a, b, d], _, _ =>
    have ha := gb a (by simp)
    have hb := gb b (by simp)
    obtain ⟨A, rfl⟩ : ∃ A : Nat, a = (A : Int) := ⟨a.toNat, by omega⟩
    obtain ⟨B, rfl⟩ : ∃ B : Nat, b = (B : Int) := ⟨b.toNat, by omega⟩
    have hf : f = 0 ∨ f = 1 ∨ f = 2 := by simp at o2; omega
    have hAB : 0 < A * B := Nat.mul_pos (by omega) (by omega)
    rcases hf with rfl | rfl | rfl
    · show ((g : Int) / (B : Int) / (A : Int) % (E : Int) = 0 ∧ ∀ k ∈ [(g : Int) / (B : Int) % (A : Int), (g : Int) % (B : Int)], k = 0) ↔ g % (1 * A * B * E) = 0
      rw [Nat.one_mul, mod_two hAB, Nat.mul_comm A B, mod_two (show 0 < B by omega), ← Nat.div_div_eq_div_mul, ← Int.natCast_ediv, ← Int.natCast_ediv, castmod, ← castmod (g / B) A, ← castmod g B]
      constructor
      · rintro ⟨h1, h2⟩
        exact ⟨h1, h2 _ (by simp), h2 _ (by simp)⟩
      · rintro ⟨h1, h2, h3⟩
        refine ⟨h1, fun k hk => ?_⟩
        rcases List.mem_cons.mp hk with rfl | hk
        · exact h2
        · rw [List.mem_singleton.mp hk]
          exact h3
    · show ((g : Int) / (B : Int) % (A : Int) % (E : Int) = 0 ∧ ∀ k ∈ [(g : Int) % (B : Int)], k = 0) ↔ g % (1 * A * B) % (1 * B * E) = 0
      rw [Nat.one_mul, Nat.one_mul, mod_two (show 0 < B by omega), Nat.mul_comm A B, Nat.mod_mul_right_div_self, Nat.mod_mul_right_mod, ← Int.natCast_ediv, ← Int.natCast_emod, castmod, ← castmod g B]
      exact ⟨fun h => ⟨h.1, h.2 _ (List.mem_singleton.mpr rfl)⟩, fun h => ⟨h.1, fun k hk => by rw [List.mem_singleton.mp hk]; exact h.2⟩⟩
    · show ((g : Int) % (B : Int) % (E : Int) = 0 ∧ ∀ k ∈ [], k = 0) ↔ g % (1 * B) % (1 * E) = 0
      rw [Nat.one_mul, Nat.one_mul, ← Int.natCast_emod, castmod]
      exact ⟨fun h => h.1, fun h => ⟨h, fun _ z => nomatch z⟩⟩
theorem mem_seg {span step start g : Nat} (hs : 1 ≤ step) (hp : 1 ≤ span) : g ∈ segN span step start ↔ start ≤ g ∧ g < start + span ∧ (g - start) % step = 0 := by
  unfold segN
  rw [show ((start : Int) + (span : Int)) = ((start + span : Nat) : Int) by omega, rgN_nat, if_pos (by omega), List.mem_map]
  constructor
  · rintro ⟨j, hj, rfl⟩
    have hj := List.mem_range.mp hj
    have h1 : j ≤ (start + span - start - 1) / step := by omega
    have h2 : j * step ≤ start + span - start - 1 := (Nat.le_div_iff_mul_le (by omega)).mp h1
    refine ⟨by omega, by omega, ?_⟩
    rw [Nat.add_sub_cancel_left, Nat.mul_mod_left]
  · rintro ⟨h1, h2, h3⟩
    refine ⟨(g - start) / step, List.mem_range.mpr ?_, ?_⟩
    · have := Nat.div_le_div_right (c := step) (show g - start ≤ start + span - start - 1 by omega)
      omega
    · have := Nat.div_mul_cancel (Nat.dvd_of_mod_eq_zero h3)
      omega
theorem mem_fits {span step n g : Nat} (h1 : 1 ≤ n) (hd : span ∣ n) (hs : 1 ≤ step) (hg : g < n) : g ∈ fitsP span step n ↔ g % span % step = 0 := by
  have hp : 1 ≤ span := Nat.pos_of_dvd_of_pos hd (by omega)
  have hc := rg_count h1 hd
  have dm := Nat.div_add_mod g span
  have ml := Nat.mod_lt g (show 0 < span by omega)
  unfold fitsP
  rw [List.mem_flatten]
  constructor
  · rintro ⟨l, hl, hg2⟩
    obtain ⟨k, hk, rfl⟩ := List.mem_map.mp hl
    obtain ⟨q1, q2, q3⟩ := (mem_seg hs hp).mp hg2
    have e : g / span = k := by
      refine Nat.div_eq_of_lt_le q1 ?_
      rw [Nat.succ_mul]
      exact q2
    rw [show g % span = g - k * span by rw [← e, Nat.mul_comm]; omega]
    exact q3
  · intro h
    refine ⟨_, List.mem_map.mpr ⟨g / span, List.mem_range.mpr ?_, rfl⟩, (mem_seg hs hp).mpr ⟨?_, ?_, ?_⟩⟩
    · exact Nat.div_lt_of_lt_mul (by rw [Nat.mul_comm, hc]; exact hg)
    · rw [Nat.mul_comm]
      omega
    · rw [Nat.mul_comm]
      omega
    · rw [Nat.mul_comm, show g - span * (g / span) = g % span by omega]
      exact h
theorem fit_prog {bs : List Int} {r : R3} {n g : Nat} (bb : ∀ x ∈ bs, 2 ≤ x ∧ x ≤ 60) (ro : RowOk 60 bs r) (h1 : 1 ≤ n) (hd : spanP bs r n ∣ n) (hg : g < n) : fitG bs n r g ↔ fitN bs r g := by
  unfold fitG
  have hs : 1 ≤ stepP bs r := Nat.mul_pos (unitP_pos bb _) (by have := ro.2.2.1; omega)
  rw [mem_fits h1 hd hs hg]
  unfold fitN spanP stepP
  split
  · rw [Nat.mod_eq_of_lt hg]
  · exact Iff.rfl
theorem ite_iff {α : Type} {p q : Prop} {i1 : Decidable p} {i2 : Decidable q} (h : p ↔ q) (x y : α) : (if p then x else y) = if q then x else y := by
  by_cases hp : p
  · rw [if_pos hp, if_pos (h.mp hp)]
  · rw [if_neg hp, if_neg fun z => hp (h.mpr z)]
open Classical in
noncomputable def gnStep (gs : List Int) (g : Nat) (acc : Int) (r : R3) : Int := if fitN gs r g then r.2.2 else acc
/-- how many labels of a group are skipped -/
noncomputable def GN (gs : List Int) (rows : List R3) (g : Nat) : Int := rows.foldl (gnStep gs g) 0
theorem gapL_GN {gs : List Int} {rows : List R3} (g0 : 1 ≤ gs.length) (g3 : gs.length ≤ 3) (gb : ∀ x ∈ gs, 2 ≤ x ∧ x ≤ 60) (ro : ∀ r ∈ rows, RowOk 60 gs r) (g : Nat) : gapL gs rows (g : Int) = GN gs rows g := by
  unfold gapL GN
  suffices ∀ (l : List R3) (acc : Int), (∀ r ∈ l, RowOk 60 gs r) → l.foldl (gapStep (digs gs (g : Int))) acc = l.foldl (gnStep gs g) acc from this rows 0 ro
  intro l
  induction l with
  | nil => exact fun _ _ => rfl
  | cons r l ih =>
    intro acc h
    rw [List.foldl_cons, List.foldl_cons, ih _ fun x hx => h x (List.mem_cons_of_mem _ hx)]
    congr 1
    unfold gapStep gnStep
    exact ite_iff (fit_law g0 g3 gb (h r List.mem_cons_self) g) _ _
theorem cntP_GN {gs : List Int} {rows : List R3} {n g : Nat} (gb : ∀ x ∈ gs, 2 ≤ x ∧ x ≤ 60) (ro : ∀ r ∈ rows, RowOk 60 gs r) (h1 : 1 ≤ n) (hd : ∀ x ∈ rows, spanP gs x n ∣ n) (hg : g < n) : cntP gs rows n g = GN gs rows g := by
  unfold cntP GN
  suffices ∀ (l : List R3) (acc : Int), (∀ r ∈ l, RowOk 60 gs r) → (∀ x ∈ l, spanP gs x n ∣ n) → l.foldl (cntStep gs n g) acc = l.foldl (gnStep gs g) acc from this rows 0 ro hd
  intro l
  induction l with
  | nil => exact fun _ _ _ => rfl
  | cons r l ih =>
    intro acc h h2
    rw [List.foldl_cons, List.foldl_cons, ih _ (fun x hx => h x (List.mem_cons_of_mem _ hx)) fun x hx => h2 x (List.mem_cons_of_mem _ hx)]
    congr 1
    unfold cntStep gnStep
    exact ite_iff (fit_prog gb (h r List.mem_cons_self) h1 (h2 r List.mem_cons_self) hg) _ _
/-! ### rounds -/
def Per (G : Nat → Int) (p : Nat) : Prop := ∀ i, G (i + p) = G i
/-- p keeps the rows -/
def Keeps (gs : List Int) (rows : List R3) (p : Nat) : Prop := unitP gs 0 ∣ p ∧ ∀ r ∈ rows, r.1 = 0 → unitP gs 0 * r.2.1.toNat ∣ p
theorem fitN_per {gs : List Int} {r : R3} {p : Nat} (hu : unitP gs 0 ∣ p) (hr : r.1 = 0 → unitP gs 0 * r.2.1.toNat ∣ p) (g : Nat) : fitN gs r (g + p) ↔ fitN gs r g := by
  unfold fitN
  by_cases h : r.1 = 0
  · rw [if_pos h, if_pos h, h]
    obtain ⟨k, rfl⟩ := hr h
    show (g + unitP gs 0 * r.2.1.toNat * k) % (unitP gs 0 * r.2.1.toNat) = 0 ↔ g % (unitP gs 0 * r.2.1.toNat) = 0
    rw [Nat.add_mul_mod_self_left]
  · rw [if_neg h, if_neg h]
    obtain ⟨k, rfl⟩ := Nat.dvd_trans (unitP_dvd gs (r.1.toNat - 1)) hu
    rw [Nat.add_mul_mod_self_left]
theorem GN_per {gs : List Int} {rows : List R3} {p : Nat} (h : Keeps gs rows p) : Per (GN gs rows) p := by
  intro g
  unfold GN
  suffices ∀ (l : List R3) (acc : Int), (∀ r ∈ l, r.1 = 0 → unitP gs 0 * r.2.1.toNat ∣ p) → l.foldl (gnStep gs (g + p)) acc = l.foldl (gnStep gs g) acc from this rows 0 h.2
  intro l
  induction l with
  | nil => exact fun _ _ => rfl
  | cons r l ih =>
    intro acc hl
    rw [List.foldl_cons, List.foldl_cons, ih _ fun x hx => hl x (List.mem_cons_of_mem _ hx)]
    congr 1
    unfold gnStep
    exact ite_iff (fitN_per h.1 (hl r List.mem_cons_self) g) _ _
theorem every_in : ∀ (rows : List R3) (e : Nat), ∀ r ∈ rows, r.1 = 0 → r.2.1.toNat ∣ rows.foldl everyStep e
  | x :: rows, e, r, hr, h0 => by
    rw [List.foldl_cons]
    rcases List.mem_cons.mp hr with rfl | hr
    · refine Nat.dvd_trans ?_ (every_dvd _)
      unfold everyStep
      rw [if_pos h0]
      exact Nat.dvd_lcm_right _ _
    · exact every_in rows _ r hr h0
theorem keeps_groups (gs : List Int) (rows : List R3) : Keeps gs rows (groupsP gs rows) :=
  ⟨Nat.dvd_mul_right _ _, fun r hr h0 => Nat.mul_dvd_mul_left _ (every_in rows 1 r hr h0)⟩
theorem unitP_unitL (gs : List Int) : unitP gs 0 = unitL gs := rfl
theorem per_add {G : Nat → Int} {p q : Nat} (h : Per G p) (h2 : Per G q) : Per G (p + q) := fun i => by
  rw [← Nat.add_assoc, h2, h]
theorem per_mul {G : Nat → Int} {p : Nat} (h : Per G p) : ∀ k i, G (i + p * k) = G i
  | 0, i => rfl
  | k + 1, i => by
    rw [Nat.mul_succ, ← Nat.add_assoc, h, per_mul h k]
theorem per_mod {G : Nat → Int} {p q : Nat} (h : Per G p) (h2 : Per G q) : Per G (q % p) := fun i => by
  rw [← per_mul h (q / p) (i + q % p), show i + q % p + p * (q / p) = i + q by have := Nat.mod_add_div q p; omega, h2]
/-- the least number from 1 on behind which all comes again -/
def LeastPer (G : Nat → Int) (m : Nat) : Prop := 1 ≤ m ∧ Per G m ∧ ∀ j, 1 ≤ j → j < m → ¬ Per G j
theorem LeastPer.dvd {G : Nat → Int} {m q : Nat} (h : LeastPer G m) (hq : Per G q) : m ∣ q := by
  have hm := per_mod h.2.1 hq
  refine Nat.dvd_of_mod_eq_zero ?_
  rcases Nat.eq_zero_or_pos (q % m) with z | z
  · exact z
  · exact absurd hm (h.2.2 _ z (Nat.mod_lt _ h.1))
theorem LeastPer.uniq {G : Nat → Int} {m k : Nat} (h : LeastPer G m) (h2 : LeastPer G k) : m = k := by
  rcases Nat.lt_trichotomy m k with z | z | z
  · exact absurd h.2.1 (h2.2.2 m h.1 z)
  · exact z
  · exact absurd h2.2.1 (h.2.2 k h2.1 z)
theorem range_get {G : Nat → Int} {n i : Nat} (h : i < n) : ((List.range n).map G)[i]? = some (G i) := by
  rw [List.getElem?_map, List.getElem?_range h]
  rfl
theorem repOk_iff {G : Nat → Int} {n k : Nat} (hk : 1 ≤ k) (hkn : k ≤ n) (hn : Per G n) : repOk ((List.range n).map G) k ↔ (k ∣ n ∧ Per G k) := by
  unfold repOk
  rw [List.length_map, List.length_range]
  constructor
  · rintro ⟨h1, h2⟩
    have hd := Nat.dvd_of_mod_eq_zero h1
    refine ⟨hd, ?_⟩
    have step : ∀ i, i + k < n → G (i + k) = G i := by
      intro i hi
      have e := congrArg (fun l => l[i]?) h2
      rw [List.getElem?_drop, List.getElem?_take_of_lt (by omega), range_get (by omega), range_get (by omega), Nat.add_comm k i] at e
      exact Option.some.inj e
    have low : ∀ i, i < n → G i = G (i % k) := by
      intro i
      induction i using Nat.strongRecOn with
      | _ i ih =>
        intro hi
        by_cases h : i < k
        · rw [Nat.mod_eq_of_lt h]
        · have := step (i - k) (by omega)
          rw [show i - k + k = i by omega] at this
          rw [this, ih (i - k) (by omega) (by omega), ← Nat.mod_eq_sub_mod (by omega)]
    have all : ∀ i, G i = G (i % k) := by
      intro i
      have e := per_mul hn (i / n) (i % n)
      rw [Nat.mod_add_div] at e
      rw [e, low _ (Nat.mod_lt _ (by omega)), Nat.mod_mod_of_dvd _ hd]
    intro i
    rw [all (i + k), Nat.add_mod_right, ← all i]
  · rintro ⟨hd, hp⟩
    refine ⟨Nat.mod_eq_zero_of_dvd hd, List.ext_getElem? fun i => ?_⟩
    rw [List.getElem?_drop]
    by_cases h : i < n - k
    · rw [List.getElem?_take_of_lt h, range_get (by omega), range_get (by omega), Nat.add_comm k i, hp]
    · rw [List.getElem?_eq_none (by rw [List.length_map, List.length_range]; omega), List.getElem?_eq_none (by rw [List.length_take, List.length_map, List.length_range]; omega)]
theorem rep_least {G : Nat → Int} {n k : Nat} (hn : Per G n) (h : RepIs ((List.range n).map G) k) : LeastPer G k := by
  obtain ⟨h1, h2, h3, h4⟩ := h
  rw [List.length_map, List.length_range] at h2
  obtain ⟨q1, q2⟩ := (repOk_iff h1 h2 hn).mp h3
  -- the least period divides n
  have ex : ∃ m, LeastPer G m := by
    have : ∀ b, (∃ m, 1 ≤ m ∧ m ≤ b ∧ Per G m) → ∃ m, LeastPer G m := by
      intro b
      induction b with
      | zero => exact fun ⟨m, a, c, _⟩ => by omega
      | succ b ih =>
        rintro ⟨m, a, c, d⟩
        by_cases hx : ∃ m, 1 ≤ m ∧ m ≤ b ∧ Per G m
        · exact ih hx
        · exact ⟨m, a, d, fun j j1 j2 j3 => hx ⟨j, j1, by omega, j3⟩⟩
    exact this k ⟨k, h1, Nat.le_refl k, q2⟩
  obtain ⟨m, hm⟩ := ex
  have hmn : m ∣ n := hm.dvd hn
  have hmle : m ≤ n := Nat.le_of_dvd (by omega) hmn
  have hmk : m ≤ k := Nat.le_of_dvd (by omega) (hm.dvd q2)
  rcases Nat.lt_or_eq_of_le hmk with z | z
  · exact absurd ((repOk_iff hm.1 hmle hn).mpr ⟨hmn, hm.2.1⟩) (h4 m hm.1 z)
  · rw [← z]
    exact hm
theorem counts_GN {gs : List Int} {rows : List R3} (fr : Fair gs rows) : countsP gs rows (groupsP gs rows) = (List.range (groupsP gs rows)).map (GN gs rows) := by
  refine List.map_congr_left fun g hg => ?_
  have g1 : 1 ≤ groupsP gs rows := Nat.mul_pos (unitP_pos fr.bb 0) (every_mono rows 1 (by decide) fun x hx => (fr.ro x hx).2.2.1)
  exact cntP_GN fr.bb fr.ro g1 (fun x hx => spanP_dvd fr.bb fr.ro hx) (List.mem_range.mp hg)
theorem gaps_GN {gs : List Int} {rows : List R3} (fr : Fair gs rows) (n : Nat) : gapsL gs rows n = (List.range n).map (GN gs rows) :=
  List.map_congr_left fun g _ => gapL_GN fr.b0 fr.b3 fr.bb fr.ro g
/-- the house's counts are those of the least round -/
theorem cs_GN {gs : List Int} {rows : List R3} {cs : List Int} (fr : Fair gs rows) (h : ∃ k, RepIs (countsP gs rows (groupsP gs rows)) k ∧ cs = (countsP gs rows (groupsP gs rows)).take k) : LeastPer (GN gs rows) cs.length ∧ cs = (List.range cs.length).map (GN gs rows) := by
  obtain ⟨k, hk, rfl⟩ := h
  rw [counts_GN fr] at hk ⊢
  have hl := rep_least (GN_per (keeps_groups gs rows)) hk
  have hkn : k ≤ groupsP gs rows := by have := hk.2.1; rwa [List.length_map, List.length_range] at this
  have hlen : ((List.range (groupsP gs rows)).map (GN gs rows)).take k = (List.range k).map (GN gs rows) := by
    rw [← List.map_take, List.take_range, Nat.min_eq_left hkn]
  rw [hlen, List.length_map, List.length_range]
  exact ⟨hl, rfl⟩
end LM

set_option Elab.async false
set_option linter.all false
set_option maxRecDepth 100000
set_option maxHeartbeats 4000000
namespace LM
open PySem PySem.Spec PyProof.Rows L2
/-! ### defs called where no repr is under way -/
structure FnG (P : Program) (w : World) (K : PySem.W.Frag) (mg : Str → Option Value) (base : Heap) (k : Nat) (f : Addr) (fd : FuncData) (ps : List Str) (sp : Sp) : Prop where
  num : ∀ xs G R Z, sp xs G R Z → xs.length = ps.length
  go : ∀ (Ar : Around) (above : List Env) (t : Shared) (G : Hp) (ar : Args) (ys : List Value) (xs : List V) (R : VK) (Z : XK), Ar.guards = some [] → Room k Ar → Env0 P w K mg base Ar above t G → BindsTo t fd ar (ps.zip ys) → Vals xs ys → sp xs G R Z →
    codeAny (model P w) Ar (.call (.ref f) ar) (CR CX0 above P w G t R Z) t
section
variable {P : Program} {w : World} {K : PySem.W.Frag} {mg : Str → Option Value} {base : Heap}
/-- such a def, by its body -/
theorem funG_ok {x qual : Str} {st : Stmt} {f : Addr} {fd : FuncData} {NN ps : List Str} {k : Nat} {sp : Sp} (F : Fun K x qual st f fd) (S : FnScope NN ps (defScope st)) (hnum : ∀ xs G R Z, sp xs G R Z → xs.length = ps.length)
    (hbd : ∀ (cd : Value) (Ar : Around) (above : List Env) (t : Shared) (G : Hp) (xs : List V) (R : VK) (Z : XK), Ar.guards = some [] → Room k (Ar.deeper (envOfC qual (defScope st) t.heap.objs.size f cd)) → sp xs G R Z →
      ∃ T, PSs (Cx.nox (cxOf CX0 P w K mg base NN qual (defScope st) f cd Ar above t G Z)) (defBody st) T ∧ T { nx := fun _ G' => R .non G', rt := R } (start NN xs) G) : FnG P w K mg base (k + 1) f fd ps sp := by
  obtain ⟨oc, od, kV, doc, pm, an, cd, ct, osl, rfl, inK, hco⟩ := F.ex
  refine ⟨hnum, fun Ar above t G ar ys xs R Z hgd room en bi va sat => ?_⟩
  have hlen := hnum _ _ _ _ sat
  have kin : K.In t.heap := en.mod.kin.keeps fun b o z => (en.bs b o z).1
  have noL : t.heap.NoLimit := en.mod.nolimit.keeps fun b o z => (en.bs b o z).1
  have kinds : ∀ y ∈ ps.zip ys, (defScope st).names.lookup y.1 = some .local ∨ ((defScope st).names.lookup y.1 = some .cell ∧ ((cellsFrom (t.heap.objs.size + 1) (defScope st).names []).lookup y.1).isSome = true) := by
    rintro ⟨n, v⟩ hy
    exact (S.par n (List.of_mem_zip hy).1).imp id fun q => ⟨q, PySem.W.cellsFrom_some _ _ _ (.inl q)⟩
  refine codeAny_call_function room.depth (kin _ _ inK) rfl S.co S.gen rfl (PySem.W.codeRec_of kin hco) (bi _ _ _ _ ?_)
  refine wpAny_newFunctionEnv_cells S.kind kinds fun env heq t1 inC => ?_
  subst heq
  refine ⟨noL.keeps inC.toInCall.keep, codeAny_func ?_⟩
  obtain ⟨T, hT, hq⟩ := hbd cd Ar above t G xs R Z hgd (room.deeper _) sat
  have hI := inv_start (CX := CX0) (E := Z) S room.hd en hlen va inC
  refine wpAny_mono (hT.nox.run [] t1 (start NN xs) G _ hI hq) (fun fl t2 hs => ?_) fun _ _ hs => hs
  cases fl with
  | ret u =>
    obtain ⟨v, σ2, G2, J, rv, q⟩ := hs
    exact ⟨v, G2, J.os, J.bare, J.base, J.hok, rv, q⟩
  | next =>
    obtain ⟨σ2, G2, J, q⟩ := hs
    exact ⟨V.non, G2, J.os, J.bare, J.base, J.hok, rfl, q⟩
  | brk =>
    obtain ⟨_, _, _, z⟩ := hs
    exact (show False from z).elim
  | cont =>
    obtain ⟨_, _, _, z⟩ := hs
    exact (show False from z).elim
end
/-- such a def of the text that stands at its name -/
structure DefG (P : Program) (w : World) (K : PySem.W.Frag) (mg : Str → Option Value) (base : Heap) (x : Str) (ps : List Str) (k : Nat) (sp : Sp) : Prop where
  all : ∃ (f : Addr) (fd : FuncData), FnG P w K mg base k f fd ps sp ∧ mg x = some (.ref f) ∧ PySem.W.keepIn K (.ref f) = true ∧ Binds K fd ps []
theorem pe_dG {X : Cx} {x : Str} {p pos : Pos} {e : Expr} {es : List Expr} {t : TA} {ps : List Str} {k : Nat} {sp : Sp} (D : DefG X.prog X.w X.K X.mg X.base x ps k sp) (hgd : X.A.guards = some []) (hr : Room k X.A) (hg : Gl X x) (ha : PA X (e :: es) t)
    (hdb : (x == ("__debug__" : Str)) = false := by decide) (he : starEach (e :: es) X.env = (false, eval e X.env) :: starEach es X.env := by rfl) (hpl : (backTo pos (starEach es X.env)).any (·.1) = false := by rfl) :
    PE X (.Call (.Name x p) (e :: es) [] pos) (tCall sp [] E0 t) := by
  obtain ⟨f, fd, F, hm, hk, hb⟩ := D.all
  refine ⟨fun pins s σ G R I sat => ?_⟩
  refine wpAny_Call_Name_kw (ld_glob I hg hm ?_ hdb)
  refine PySem.W.callWith_K (h₀ := X.base) I.ok.mod.kin hk (thn (ha.run pos pins s σ G _ I sat) fun ys s1 ⟨xs, G1, J, va, q⟩ => ⟨J.kIn, ?_⟩) he hpl
  have q' : sp xs G1 R E0 := by
    have q2 : sp (xs ++ []) G1 R E0 := q
    rwa [List.append_nil] at q2
  have hl : (ys ++ ([] : List Value)).length = ps.length := by rw [List.append_nil, ← va.length]; exact F.num _ _ _ _ q'
  have hbb := hb s1 ys J.kIn hl
  rw [List.append_nil] at hbb
  refine wpAny_call (codeAny_mono (F.go X.A X.stack s1 G1 ⟨ys, []⟩ ys xs R E0 hgd hr J.env0 hbb va q') fun res s2 hq => ?_)
  cases res with
  | error er => exact hq.elim
  | ok fl =>
    cases fl with
    | ret u => exact J.after hq
    | next => exact hq.elim
    | brk => exact hq.elim
    | cont => exact hq.elim
/-! ### repr of a tuple of integers -/
theorem reads_ints {h : Heap} : ∀ {ns : List Int} {its : List Value}, Vals (ns.map V.int) its → ReadsAll h its (ns.map PyData.int) []
  | [], _, r => by
    cases r
    exact .nil
  | n :: ns, _, r => by
    cases r with
    | cons r1 r2 =>
      obtain ⟨t, rfl⟩ := r1
      exact ReadsAll.cons (.int n t) (reads_ints r2)
/-- what repr of a tuple of integers shows -/
def showI (ns : List Int) : Str := (PyData.tuple (ns.map PyData.int)).shown
theorem depth_ints : ∀ ns : List Int, (PyData.tuple (ns.map PyData.int)).depth ≤ 2 := by
  intro ns
  have : ∀ l : List Int, PyData.depthAll (l.map PyData.int) ≤ 1 := by
    intro l
    induction l with
    | nil => simp [PyData.depthAll]
    | cons n l ih =>
      simp only [List.map_cons, PyData.depthAll, PyData.depth]
      omega
  simp only [PyData.depth]
  have := this ns
  omega
def rRepr (K : PySem.W.Frag) : List V → Hp → VK → Prop := fun xs G R => ∃ (p : Addr) (ns : List Int), xs = [.ref p] ∧ SqT K G p (ns.map V.int) ∧ (∀ n ∈ ns, n.natAbs.log2 < 1920) ∧ (showI ns).length ≤ sizeLine ∧ R (.str (showI ns)) G
theorem call_reprI {X : Cx} (hgd : X.A.guards = some []) (hu : X.A.units + 3 < cLine) : CallR X (.builtin "repr") (rRepr X.K) := by
  intro pins s σ G xs us R I va sat
  obtain ⟨p, ns, rfl, hp, hb, hz, q⟩ := sat
  obtain ⟨u, rfl, hu1⟩ := vals1 va
  obtain rfl : u = Value.ref p := hu1
  obtain ⟨its, rv, ⟨o, ho, hcl, n, hd⟩, _⟩ := I.tuple hp
  have rd : Reads s.heap (.ref p) (PyData.tuple (ns.map PyData.int)) [] := Reads.tuple (vs := its.toArray) ho hcl hd (reads_ints (by simpa using rv))
  refine repr_of_reads' rd (by simpa [PyData.showable] using PyData.showableAll_ints ns hb) (fun _ z => nomatch z) hgd (by have := depth_ints ns; omega) (fun _ _ z => z) (fun h' u tk hk => ?_) hz
  exact ⟨.str _, G, I.kept hk, ⟨u, rfl⟩, q⟩
/-! ### the law's call, where no repr is under way -/
/-- from a heap in which nothing but the script may be tracked -/
theorem law_coreG {P : Program} {w : World} {K : PySem.W.Frag} {mg mb : Str → Option Value} {k : Nat} {fa a : Addr} {fd : FuncData} {x : Str} {sp : Sp} {t : Shared} {ys : List Value} {G : Hp}
    (kin : K.In t.heap) (gns : t.heap.Ns mainGlobals mg) (bns : t.heap.Ns builtinsNs mb) (boot : ∀ x : Str, x ≠ "__name__" → mb x = bootBuiltins x) (noL : t.heap.NoLimit) (gens : t.gens = #[])
    (ha : t.heap.get? a = some { cls := .type "list", data := .seq ys.toArray }) (room : Room k callerA) (hgd : callerA.guards = some [])
    (F : ∀ base : Heap, K.In base → base.Ns mainGlobals mg → FnG P w K mg base k fa fd [x] sp) (bi : ∀ (s : Shared) (u : Value), BindsTo s fd ⟨[u], []⟩ [(x, u)])
    (sat : sp [.ref a] G (fun v _ => v = .bl true) E0) (only : Only G) (hok : HOk P w G t.heap) (hA : ∀ b, G b ≠ none → b = a) (hK : G a ≠ none → K.lookup a = none) :
    codeAny (model P w) callerA (.call (.ref fa) ⟨[.ref a], []⟩) (fun r s' => r = .ok (.ret (.bool true)) ∧ PySem.OldK t.heap s'.heap ∧ s'.os = t.os ∧ AllBare s'.gens) t := by
  have base_of : ∀ {b : Addr} {o : Obj}, t.heap.get? b = some o → G b = none → (hidT t.heap G).get? b = some o := hidT_get
  have noDict : ∀ {b : Addr} {o : Obj} {es : Array DictEntry} {ep : Nat}, t.heap.get? b = some o → o.data = .dict es ep → G b = none := by
    intro b o es ep z dz
    cases q : G b with
    | none => rfl
    | some u =>
      obtain rfl := hA b (by rw [q]; exact fun z => nomatch z)
      rw [ha] at z
      cases z
      exact nomatch dz
  have ns_of : ∀ {b : Addr} {m : Str → Option Value}, t.heap.Ns b m → (hidT t.heap G).Ns b m := fun ⟨o, es, ep, z, dz, rest⟩ => ⟨o, es, ep, base_of z (noDict z dz), dz, rest⟩
  have kinB : K.In (hidT t.heap G) := by
    intro b o z
    refine base_of (kin b o z) ?_
    cases q : G b with
    | none => rfl
    | some u =>
      obtain rfl := hA b (by rw [q]; exact fun z => nomatch z)
      rw [hK (by rw [q]; exact fun z => nomatch z)] at z
      cases z
  obtain ⟨mc, l1, l2⟩ := noL
  have hM : Mod K mg (hidT t.heap G) := ⟨kinB, ns_of gns, ⟨mb, ns_of bns, boot⟩, ⟨mc, ns_of l1, l2⟩⟩
  have en : Env0 P w K mg (hidT t.heap G) callerA [] t G := ⟨rfl, hM, fun _ _ z => of_hidT z, Nat.le_of_eq (hidT_size _ _), trivial, fun b z => absurd (show b ∈ ([] : List Addr) from z) List.not_mem_nil, hok, .of_eq gens⟩
  have run := (F _ kinB (ns_of gns)).go callerA [] t G ⟨[.ref a], []⟩ [.ref a] [.ref a] _ _ hgd room en (bi t (.ref a)) (.cons rfl .nil) sat
  refine codeAny_mono run fun res t2 hq => ?_
  cases res with
  | error er => exact hq.elim
  | ok fl =>
    cases fl with
    | next => exact hq.elim
    | brk => exact hq.elim
    | cont => exact hq.elim
    | ret u =>
      obtain ⟨v, G2, os, bare, un, hok2, rv, q⟩ := hq
      obtain rfl : v = V.bl true := q
      obtain rfl : u = Value.bool true := rv
      refine ⟨rfl, OldK.of_keep fun b o z => ?_, os, bare⟩
      cases q : G b with
      | none => exact un.keep b o z q (fun y => absurd (show b ∈ ([] : List Addr) from y) List.not_mem_nil) List.not_mem_nil
      | some u =>
        rcases only b with y | ⟨ob, xs, y⟩
        · rw [q] at y
          cases y
        · obtain ⟨e1, _⟩ := hok b _ y
          obtain ⟨e2, _⟩ := hok2 b _ (un.frzs b ob _ y)
          rw [z] at e1
          cases e1
          exact e2
theorem law_callG {P : Program} {w : World} {K : PySem.W.Frag} {mg mb : Str → Option Value} {k : Nat} {fa a : Addr} {fd : FuncData} {x : Str} {sp : Sp} {t : Shared} {ys : List Value} {ns : List Int}
    (kin : K.In t.heap) (gns : t.heap.Ns mainGlobals mg) (bns : t.heap.Ns builtinsNs mb) (boot : ∀ x : Str, x ≠ "__name__" → mb x = bootBuiltins x) (noL : t.heap.NoLimit) (gens : t.gens = #[])
    (ha : t.heap.get? a = some { cls := .type "list", data := .seq ys.toArray }) (hi : IntsAre ys ns) (hl : ns.length ≤ sizeLine) (room : Room k callerA) (hgd : callerA.guards = some [])
    (F : ∀ base : Heap, K.In base → base.Ns mainGlobals mg → FnG P w K mg base k fa fd [x] sp) (bi : ∀ (s : Shared) (u : Value), BindsTo s fd ⟨[u], []⟩ [(x, u)])
    (hsp : ∀ G : Hp, Only G → SqL K G a (ns.map V.int) → sp [.ref a] G (fun v _ => v = .bl true) E0) :
    codeAny (model P w) callerA (.call (.ref fa) ⟨[.ref a], []⟩) (fun r s' => r = .ok (.ret (.bool true)) ∧ PySem.OldK t.heap s'.heap ∧ s'.os = t.os ∧ AllBare s'.gens) t := by
  have rv := vals_ints hi
  have hlen := hi.length
  cases hk : K.lookup a with
  | some o =>
    have e := kin a o hk
    rw [ha] at e
    cases e
    have only : Only (fun _ => none) := fun _ => .inl rfl
    exact law_coreG kin gns bns boot noL gens ha room hgd F bi (hsp _ only (.inr ⟨_, ys.toArray, _, hk, rfl, rfl, rfl, by rw [List.size_toArray, hlen]; exact hl, by simpa using rv⟩)) only (fun _ _ z => nomatch z) (fun _ z => absurd rfl z) fun z => absurd rfl z
  | none =>
    have at_a : (fun b => if b = a then some (HO.frz { cls := .type "list", data := .seq ys.toArray } (.lst (ns.map V.int))) else none) a = some (HO.frz { cls := .type "list", data := .seq ys.toArray } (.lst (ns.map V.int))) := if_pos rfl
    have only : Only (fun b => if b = a then some (HO.frz { cls := .type "list", data := .seq ys.toArray } (.lst (ns.map V.int))) else none) := by
      intro b
      by_cases hb : b = a
      · exact .inr ⟨_, _, if_pos hb⟩
      · exact .inl (if_neg hb)
    refine law_coreG kin gns bns boot noL gens ha room hgd F bi (hsp _ only (.inl (.inr ⟨_, at_a⟩))) only (fun b u z => ?_) (fun b z => ?_) fun _ => hk
    · by_cases hb : b = a
      · subst hb
        cases at_a.symm.trans z
        exact ⟨ha, by rw [List.length_map]; exact hl, ys, _, rv, ha⟩
      · exact nomatch (if_neg hb).symm.trans z
    · by_cases hb : b = a
      · exact hb
      · exact absurd (if_neg hb) z
theorem walk_ofG {l : PySem.W.OpenLaw} {n k : Nat} {q : Program} {loose : List Str} {XP : (Str → Option Value) → Heap → Prop} {YP : World → Heap → Prop} {d : DefRec} {K : Params → PySem.W.Frag} {sp : PySem.W.Frag → Sp} {x : Str}
    (most : l.most = some n) (small : n ≤ sizeLine) (nodf : d.params.defaults = []) (room : Room k callerA) (hgd : callerA.guards = some []) (hY : ∀ (w : World) (h : Heap), YP w h → (K w.params).In h)
    (F : ∀ (w : World) (mg : Str → Option Value) (fa : Addr) (h : Heap), (K w.params).In h → h.Ns mainGlobals mg → mg d.name = some (.ref fa) →
      ∃ fd : FuncData, (∀ (s : Shared) (u : Value), BindsTo s fd ⟨[u], []⟩ [(x, u)]) ∧ ∀ base : Heap, (K w.params).In base → base.Ns mainGlobals mg → FnG l.prog w (K w.params) mg base k fa fd [x] (sp (K w.params)))
    (hsp : ∀ (K : PySem.W.Frag) (G : Hp) (a : Addr) (ns : List Int), ns.length ≤ n → Only G → SqL K G a (ns.map V.int) → sp K [.ref a] G (fun v _ => v = .bl true) E0) :
    PySem.W.WalkO q loose XP YP l.row.toRowW d [] (fun f vs => PySem.call f vs) := by
  refine Att.attach_call most nodf fun w s0 t mg mb fa o pm cd doc a ys ns Gr Y ho hd hcd hmg hobj hints hlen gens => ?_
  have kin := hY w _ Y
  obtain ⟨fd, bi, hF⟩ := F w mg fa _ kin Gr.T.g hmg
  exact law_callG kin Gr.T.g Gr.T.b Gr.T.builtins Gr.T.nolimit gens hobj hints (Nat.le_trans hlen small) room hgd hF bi fun G only hS => hsp _ G a ns hlen only hS
end LM

set_option Elab.async false
set_option linter.all false
set_option maxRecDepth 100000
set_option maxHeartbeats 4000000
namespace LM
open PySem PySem.Spec PyProof.Rows L2
/-! ### repr of a list of integers and None -/
def optV : Option Int → V
  | none => .non
  | some n => .int n
def optD : Option Int → PyData
  | none => .none
  | some n => .int n
theorem reads_opts {h : Heap} : ∀ {ds : List (Option Int)} {its : List Value}, Vals (ds.map optV) its → ReadsAll h its (ds.map optD) []
  | [], _, r => by
    cases r
    exact .nil
  | none :: ds, _, r => by
    cases r with
    | cons r1 r2 =>
      obtain rfl := r1
      exact ReadsAll.cons .none (reads_opts r2)
  | some n :: ds, _, r => by
    cases r with
    | cons r1 r2 =>
      obtain ⟨t, rfl⟩ := r1
      exact ReadsAll.cons (.int n t) (reads_opts r2)
def showO (ds : List (Option Int)) : Str := (PyData.list (ds.map optD)).shown
theorem opts_facts : ∀ (ds : List (Option Int)), (∀ n, some n ∈ ds → n.natAbs.log2 < 1920) → PyData.showableAll (ds.map optD) = true ∧ PyData.hasDictAll (ds.map optD) = false ∧ PyData.depthAll (ds.map optD) ≤ 1
  | [], _ => by simp [PyData.showableAll, PyData.hasDictAll, PyData.depthAll]
  | d :: ds, h => by
    obtain ⟨h1, h2, h3⟩ := opts_facts ds fun n hn => h n (List.mem_cons_of_mem _ hn)
    cases d with
    | none =>
      refine ⟨?_, ?_, ?_⟩
      · simpa [optD, PyData.showableAll, PyData.showable] using h1
      · simpa [optD, PyData.hasDictAll, PyData.hasDict] using h2
      · simp only [List.map_cons, optD, PyData.depthAll, PyData.depth]
        omega
    | some n =>
      have hn := h n List.mem_cons_self
      refine ⟨?_, ?_, ?_⟩
      · simp only [List.map_cons, optD, PyData.showableAll, PyData.showable, Bool.and_eq_true, decide_eq_true_eq]
        exact ⟨hn, h1⟩
      · simpa [optD, PyData.hasDictAll, PyData.hasDict] using h2
      · simp only [List.map_cons, optD, PyData.depthAll, PyData.depth]
        omega
def rReprL (K : PySem.W.Frag) : List V → Hp → VK → Prop := fun xs G R => ∃ (p : Addr) (ds : List (Option Int)), xs = [.ref p] ∧ SqL K G p (ds.map optV) ∧ (∀ n, some n ∈ ds → n.natAbs.log2 < 1920) ∧ (showO ds).length ≤ sizeLine ∧ R (.str (showO ds)) G
theorem call_reprL {X : Cx} (hgd : X.A.guards = some []) (hu : X.A.units + 3 < cLine) : CallR X (.builtin "repr") (rReprL X.K) := by
  intro pins s σ G xs us R I va sat
  obtain ⟨p, ds, rfl, hp, hb, hz, q⟩ := sat
  obtain ⟨u, rfl, hu1⟩ := vals1 va
  obtain rfl : u = Value.ref p := hu1
  obtain ⟨its, rv, pl, _⟩ := I.list hp
  obtain ⟨h1, h2, h3⟩ := opts_facts ds hb
  obtain ⟨o, n, ho, hcl, _, hd⟩ := pl
  have rd : Reads s.heap (.ref p) (PyData.list (ds.map optD)) [p] := Reads.list (vs := its.toArray) ho hcl hd (reads_opts (by simpa using rv))
  have nod : (PyData.list (ds.map optD)).hasDict = false := by simpa [PyData.hasDict] using h2
  refine repr_of_reads' rd (by simpa [PyData.showable] using h1) (PyData.noDict_hsm nod) hgd (by simp only [PyData.depth]; omega) (fun _ _ z => z) (fun h' u tk hk => ?_) hz
  exact ⟨.str _, G, I.kept hk, ⟨u, rfl⟩, q⟩
theorem opts_len : ∀ (ds : List (Option Int)), ds.length ≤ 100 → (∀ n, some n ∈ ds → n.natAbs.log2 < 1920) → (showO ds).length ≤ sizeLine := by
  intro ds hl h
  have e : ∀ y ∈ PyData.shownAll (ds.map optD), y.length ≤ 2000 := by
    clear hl
    induction ds with
    | nil => intro y hy; simp [PyData.shownAll] at hy
    | cons d ds ih =>
      intro y hy
      simp only [List.map_cons, PyData.shownAll] at hy
      rcases List.mem_cons.mp hy with rfl | hy
      · cases d with
        | none =>
          simp only [optD, PyData.shown]
          decide
        | some n =>
          simp only [optD, PyData.shown]
          have := int_text_length_le (k := 1920) (by decide) (h n List.mem_cons_self)
          rw [PySem.ofString_length]
          omega
      · exact ih (fun n hn => h n (List.mem_cons_of_mem _ hn)) y hy
  have hn : (PyData.shownAll (ds.map optD)).length = ds.length := by rw [PyData.shownAll_length, List.length_map]
  unfold showO
  rw [PyData.shown_list]
  have hj := Nat.le_trans (StrLaws.join_length_le ", " (PyData.shownAll (ds.map optD))) (join_le ", " _ 2000 e)
  rw [hn] at hj
  have e1 : ((", " : Str)).length = 2 := by decide
  have e2 : (("[" : Str)).length = 1 := by decide
  have e3 : (("]" : Str)).length = 1 := by decide
  rw [e1] at hj
  rw [strLen_append, strLen_append, e2, e3]
  have : ds.length * (2000 + 2) ≤ 100 * 2002 := Nat.mul_le_mul_right _ hl
  exact Nat.le_trans (show _ ≤ 300000 by omega) (by decide)
/-! ### a method called with keywords alone -/
def tMethKw (C : Addr) (m : Str) (sp : Sp) (gV : List V → List V → List V) (E : XK) (ta : TE) (tk : TA) : TE := fun σ G R => ta σ G fun x G1 => ∃ a dx fs, x = .ref a ∧ G1 a = some (.ins C dx fs) ∧ fs.lookup m = none ∧ tk σ G1 fun zs G2 => sp (gV [x] zs) G2 R E
theorem pe_methKw {X : Cx} {k : Nat} {C f : Addr} {fd : FuncData} {ps ks : List Str} {sp : Sp} {m : Str} {pos apos : Pos} {o : Expr} {kws : List Keyword} {ta : TE} {tk : TA} {g : List Value → List Value → List Value} {gV : List V → List V → List V} {pl : Sem Bool}
    (he : PE X o ta) (c : Cls X.K C) (hm : Meth X.K C m f) (F : FnOk X.prog X.w X.K X.mg X.base CX0 k f fd ps sp) (hr : Room k X.A) (hb : KBinds X.K fd ps ks g gV) (hkw : PK X kws tk)
    (hall : (backToKw pos (keywordEach kws X.env)).all (·.1.isSome) = true := by rfl) (hks : (backToKw pos (keywordEach kws X.env)).filterMap (·.1) = ks := by rfl) (hpl : ((backTo pos (starEach [] X.env)).any (·.1) || (backToKw pos (keywordEach kws X.env)).any (·.1.isNone)) = false := by rfl)
    (ht : eval (.Call (.Attribute o m apos) [] kws pos) X.env = (eval o X.env >>= fun ov => standAt apos.atName >>= fun _ => holding [ov] (getMethod ov m pl) >>= fun fx => callWith pos fx.1 fx.2 (backTo pos (starEach [] X.env)) (backToKw pos (keywordEach kws X.env))) := by rfl) :
    PE X (.Call (.Attribute o m apos) [] kws pos) (tMethKw C m sp gV E0 ta tk) := by
  refine ⟨fun pins s σ G R I sat => ?_⟩
  refine PySem.W.methodCall_KW (pl := pl) (thn (he.run pins s σ G _ I sat) fun u s1 ⟨x, G1, J, rx, a, dx, fs, ex, ea, lk, q⟩ => ?_) ht
  subst ex
  obtain rfl : u = Value.ref a := rx
  refine getmeth_ok J ea c hm lk ?_
  refine PySem.W.callWith_KW0 (first := [.ref a]) (h₀ := X.base) J.ok.mod.kin hm.kp hall (thn (hkw.run pos pins s1 σ G1 _ J q) fun ws s2 ⟨zs, G2, J2, rz, q2⟩ => ⟨J2.kIn, ?_⟩) hpl
  rw [hks]
  exact run_fnk (us := [.ref a]) (vs := [.ref a]) F hr hb pass0 J2 (.cons rfl .nil) rz q2
end LM

set_option Elab.async false
set_option linter.all false
set_option maxRecDepth 100000
set_option maxHeartbeats 4000000
namespace LM
open PySem PySem.Spec PyProof.Rows L2 RT
theorem strs_of_vals : ∀ {zs : List Str} {us : List Value}, Vals (zs.map V.str) us → ∃ l : List (Str × Tok), strValues l = us ∧ l.map (·.1) = zs
  | [], _, r => by
    cases r
    exact ⟨[], rfl, rfl⟩
  | z :: zs, _, r => by
    cases r with
    | cons r1 r2 =>
      obtain ⟨t, rfl⟩ := r1
      obtain ⟨l, e1, e2⟩ := strs_of_vals r2
      exact ⟨(z, t) :: l, by rw [← e1]; rfl, by rw [← e2]; rfl⟩
theorem join_rev {prog : Program} {w : World} {A : Around} {E : Value → Shared → Prop} {s : Shared} {x : Str} {t : Tok} {it l : Addr} {its : List Value} {ys : List Str} {Q : Value → Shared → Prop} (hh : A.handled = none) (hit : s.heap.IsRevIter it l ((its.toArray.size : Int) - 1)) (hl : s.heap.IsList l its.toArray) (hne : l ≠ it)
    (hn : its.toArray.size ≤ sizeLine) (rv : Vals (ys.map V.str) its) (hz : (ys.reverse.map (·.length)).sum + ys.reverse.length * x.length ≤ 16777216)
    (hq : ∀ (h' : Heap) (tk : Nat) (t' : Tok), (∀ b o, b ≠ it → s.heap.get? b = some o → h'.get? b = some o) → Q (.str (Txt.join x ys.reverse) t') { s with heap := h', toks := tk }) :
    wpAny (model prog w) A (call (.builtin "str.join") [.str x t, .ref it]) Q E s := by
  refine wpAny_call (codeAny_call_builtin F.slot_str_join.plain F.entry_str_join (F.slot_str_join.check _ _ _ _ _ _ _ _ (typeIs_str _ _ _) (F.args_str_join_2 _ _) ?_))
  rw [join_tree_other]
  refine wpAny_bind (wpAny_typeOf hit.typeIs ?_)
  show wpAny _ A.in1 ((pyIter (.ref it)).tryCatch _ >>= fun i => collect i >>= fun items => joinTail x items) _ _ s
  refine wpAny_bind (wpAny_tryCatch (wpAny_pyIter_revIter hit ?_))
  refine wpAny_bind (collect_rev (A := A.in1) hh hit hl hne hn fun h' tk acc hk hacc => ?_)
  have rv2 := vals_rev rv hacc
  rw [← List.map_reverse] at rv2
  obtain ⟨l', e1, e2⟩ := strs_of_vals rv2
  rw [← e1]
  have hok : JoinOk x (l'.map (·.1)) = true := by
    rw [e2]
    exact joinOk_of hz
  have hok' := hok
  unfold JoinOk at hok'
  rw [Bool.not_eq_true'] at hok'
  have g : Gives (joinTail x (strValues l')) (joinMade x l') := by
    have g0 := gives_joinTail x l' hok'
    cases l' with
    | nil => exact g0
    | cons p r => cases r with
      | nil => exact g0
      | cons q r' => exact g0
  refine g prog w A (wants Q E) { s with heap := h', toks := tk } (post_join l' ⟨joinFit_length hok', fun t' k => ?_⟩)
  rw [e2]
  exact hq h' k t' hk
/-- sep.join(reversed(parts)) -/
def tJoinRev (K : PySem.W.Frag) (to te : TE) : TE := fun σ G R => to σ G fun x G1 => (∃ a, x = .str a) ∧ te σ G1 fun v G2 => ∃ (a : Str) (q : Addr) (ys : List Str), x = .str a ∧ v = .ref q ∧ SqL K G2 q (ys.map V.str) ∧ (ys.reverse.map (·.length)).sum + ys.reverse.length * a.length ≤ 16777216 ∧ R (.str (Txt.join a ys.reverse)) G2
theorem pe_joinRev {X : Cx} {o e : Expr} {to te : TE} {apos pos p2 pos2 : Pos} (hc : X.calm = true) (ho : PE X o to) (hg2 : Gl X "reversed") (hm2 : X.mg "reversed" = none) (he : PE X e te)
    (hs : starEach [e] X.env = (false, eval e X.env) :: starEach [] X.env := by rfl)
    (hs1 : starEach [.Call (.Name "reversed" p2) [e] [] pos2] X.env = [(false, eval (.Call (.Name "reversed" p2) [e] [] pos2) X.env)] := by rfl)
    (hbase : attributeBase o "join" X.env (eval o X.env) = eval o X.env := by rfl) (hline : (apos.endLine == pos.line) = true := by rfl) :
    PE X (.Call (.Attribute o "join" apos) [.Call (.Name "reversed" p2) [e] [] pos2] [] pos) (tJoinRev X.K to te) := by
  refine ⟨fun pins s σ G R I sat => ?_⟩
  refine PySem.Call_method1 hbase hs1 hline (thn (ho.run pins s σ G _ I sat) fun v s1 ⟨x, G1, J, rx, q1⟩ => ?_)
  obtain ⟨⟨a, rfl⟩, q1⟩ := q1
  obtain ⟨t, rfl⟩ := _root_.id rx
  refine ⟨"str", _, F.plainAttrs_str, F.slot_str_join, F.type_str_join, typeIs_str _ _ _, (fun _ e => nomatch e), Calls.callWith_builtin rfl (Calls.evalArgs_plain (Calls.spliced_cons ?_))⟩
  refine Call_ (ld_blt J hg2 hm2 PyProof.Rows.boot_reversed (PyProof.Rows.callWith_type1 (args_cons (thn (he.run pins s1 σ G1 _ J q1) fun u s2 ⟨y, G2, J2, ry, q2⟩ => args_nil ?_) hs) hs rfl))
  obtain ⟨a', q, ys, ea, rfl, hq, hz, q3⟩ := q2
  cases ea
  obtain rfl : u = Value.ref q := ry
  obtain ⟨its, rv, pl, hsz⟩ := J2.list hq
  refine call_reversed_list pl.isList ?_
  refine Calls.spliced_nil ?_
  have k0 : ∀ b o, s2.heap.get? b = some o → (s2.heap.push (revObj q ((its.toArray.size : Int) - 1))).get? b = some o := fun b o z => Heap.get?_push_of_some _ z
  have J3 : Inv X pins σ G2 { s2 with heap := s2.heap.push (revObj q ((its.toArray.size : Int) - 1)) } := J2.kept (t' := s2.toks) k0
  obtain ⟨f0, f1, f2, f3, f4, f5⟩ := J2.fpOk (H' := G2) (b := s2.heap.objs.size) (Nat.le_refl _) (J2.hok.fresh (Nat.le_refl _))
  have hl := pl.isList
  obtain ⟨ol, hol, _⟩ := id hl
  have hne : q ≠ s2.heap.objs.size := Nat.ne_of_lt (Heap.lt_size hol)
  have hn : its.toArray.size ≤ sizeLine := by rw [List.size_toArray, ← rv.length]; exact hsz
  refine join_rev (s := { s2 with heap := s2.heap.push (revObj q ((its.toArray.size : Int) - 1)) }) (J2.ok.hd hc) ⟨_, Heap.get?_push_size _ rfl, rfl, rfl⟩ (hl.push _) hne hn rv hz fun h' tk t' hk => ?_
  exact ⟨.str _, G2, J3.turned (t' := tk) (fun b o hb z => hk b o hb z) f0 f1 f3 f4 f5, ⟨t', rfl⟩, q3⟩
end LM

set_option Elab.async false
set_option linter.all false
set_option maxRecDepth 100000
set_option maxHeartbeats 4000000
namespace LM
open PySem PySem.Spec PyProof.Rows L2
/-! ### text times number -/
theorem op_mul_str {X : Cx} : OpR X (binaryOp .Mult) (fun x y H Q => ∃ a n, x = .str a ∧ y = .int n ∧ MulOk a n ∧ Q (.str (Txt.mul a n)) H) := by
  intro pins s σ H x y v u Q I rx ry h
  obtain ⟨a, n, rfl, rfl, hz, q⟩ := h
  obtain ⟨t, rfl⟩ := rx
  obtain ⟨t', rfl⟩ := ry
  exact SB.mul hz fun t' k => ⟨.str (Txt.mul a n), H, I.tok _, ⟨_, rfl⟩, q⟩
theorem mulOk_one {c : Nat} {n : Int} (h0 : -1000000 ≤ n) (h1 : n ≤ 1000000) : MulOk ⟨#[c]⟩ n := by
  refine ⟨?_, fun h _ => ?_, fun h _ => ?_⟩
  · rw [decide_eq_false (by omega), decide_eq_false (by omega)]
    rfl
  · intro z
    have z' : (1 : Int) > (2 ^ 63 - 1) / n := z
    have : (1 : Int) ≤ (2 ^ 63 - 1) / n := (Int.le_ediv_iff_mul_le (by omega)).mpr (by omega)
    omega
  · show Builtin.Str.tooLong (1 * n.toNat) = false
    unfold Builtin.Str.tooLong
    refine decide_eq_false ?_
    have : n.toNat ≤ 1000000 := by omega
    have e : (1000000 : Nat) < sizeLine := by decide
    omega
/-! ### two tuples side by side -/
theorem walk_zipT {K : PySem.W.Frag} {a b : Addr} {xs ys : List V} {n : Nat} (hn : n = min xs.length ys.length) : Walk (RZ.ItzT K a b) n (fun H => SqT K H a xs ∧ SqT K H b ys) (YPair (fun i => xs[i]?) (fun i => ys[i]?)) := by
  refine ⟨fun i _ hi ⟨q1, q2⟩ => ⟨xs, ys, xs[i]'(by omega), ys[i]'(by omega), q1, q2, by simp [show i < xs.length by omega], by simp [show i < ys.length by omega]⟩, fun _ ⟨q1, q2⟩ => ⟨xs, ys, q1, q2, by omega⟩, fun i H v H' _ ⟨q1, q2⟩ y => ?_⟩
  obtain ⟨T, x, z, h1, h2, h3, h4, h5⟩ := y
  exact ⟨T, x, z, h1, h2, h3, h4 xs q1, h5 ys q2⟩
/-! ### repr of lists and tuples of any data -/
def rReprD (K : PySem.W.Frag) : List V → Hp → VK → Prop := fun xs G R => ∃ (p : Addr) (d : PyData), xs = [.ref p] ∧ Dp K G (.ref p) d ∧ d.showable = true ∧ d.hasDict = false ∧ d.depth ≤ 20 ∧ d.shown.length ≤ sizeLine ∧ R (.str d.shown) G
theorem call_reprD {X : Cx} (hgd : X.A.guards = some []) (hu : X.A.units + 64 < cLine) : CallR X (.builtin "repr") (rReprD X.K) := by
  intro pins s σ G xs us R I va sat
  obtain ⟨p, d, rfl, hp, h1, h2, h3, hz, q⟩ := sat
  obtain ⟨u, rfl, hu1⟩ := vals1 va
  obtain rfl : u = Value.ref p := hu1
  obtain ⟨as, rd⟩ := Dp.reads I d (.ref p) (.ref p) hp rfl
  refine repr_of_reads' rd h1 (PyData.noDict_hsm h2) hgd (by omega) (fun _ _ z => z) (fun h' u tk hk => ?_) hz
  exact ⟨.str _, G, I.kept hk, ⟨u, rfl⟩, q⟩
theorem shownAll_le {m : Nat} : ∀ (ds : List PyData), (∀ d ∈ ds, d.shown.length ≤ m) → ∀ y ∈ PyData.shownAll ds, y.length ≤ m
  | [], _, y, hy => by simp [PyData.shownAll] at hy
  | d :: ds, h, y, hy => by
    rcases List.mem_cons.mp (show y ∈ d.shown :: PyData.shownAll ds from hy) with rfl | hy
    · exact h d List.mem_cons_self
    · exact shownAll_le ds (fun e he => h e (List.mem_cons_of_mem _ he)) y hy
theorem shown_list_le {m : Nat} {ds : List PyData} (h : ∀ d ∈ ds, d.shown.length ≤ m) : (PyData.list ds).shown.length ≤ ds.length * (m + 2) + 2 := by
  rw [PyData.shown_list]
  have hj := Nat.le_trans (StrLaws.join_length_le ", " (PyData.shownAll ds)) (join_le ", " _ m (shownAll_le ds h))
  rw [PyData.shownAll_length] at hj
  have e1 : ((", " : Str)).length = 2 := by decide
  have e2 : (("[" : Str)).length = 1 := by decide
  have e3 : (("]" : Str)).length = 1 := by decide
  rw [e1] at hj
  rw [strLen_append, strLen_append, e2, e3]
  omega
theorem shown_tuple_le {m : Nat} {ds : List PyData} (h : ∀ d ∈ ds, d.shown.length ≤ m) : (PyData.tuple ds).shown.length ≤ ds.length * (m + 2) + 3 := by
  rw [PyData.shown_tuple]
  have hj := Nat.le_trans (StrLaws.join_length_le ", " (PyData.shownAll ds)) (join_le ", " _ m (shownAll_le ds h))
  rw [PyData.shownAll_length] at hj
  have e1 : ((", " : Str)).length = 2 := by decide
  have e2 : (("(" : Str)).length = 1 := by decide
  have e3 : ((",)" : Str)).length = 2 := by decide
  have e4 : ((")" : Str)).length = 1 := by decide
  rw [e1] at hj
  rw [strLen_append, strLen_append, e2]
  split
  · rw [e3]
    omega
  · rw [e4]
    omega
theorem dpAll_ints {K : PySem.W.Frag} {H : Hp} : ∀ ns : List Int, DpAll K H (ns.map V.int) (ns.map PyData.int)
  | [] => .nil
  | n :: ns => .cons (.int n) (dpAll_ints ns)
end LM

set_option Elab.async false
set_option linter.all false
set_option maxRecDepth 100000
set_option maxHeartbeats 4000000
namespace LM
open PySem PySem.Spec PyProof.Rows L2
/-! ### how many labels are borne below a place -/
def sumC (B : Nat) (c : Nat → Nat) : Nat → Nat
  | 0 => 0
  | g + 1 => sumC B c g + (B - c g)
def bor (B : Nat) (c : Nat → Nat) (s : Nat) : Bool := decide (c (s / B) ≤ s % B)
def bel (B : Nat) (c : Nat → Nat) (s : Nat) : Nat := ((List.range s).filter (bor B c)).length
section
variable {B : Nat} {c : Nat → Nat}
theorem bel_succ (s : Nat) : bel B c (s + 1) = bel B c s + if bor B c s = true then 1 else 0 := by
  unfold bel
  rw [List.range_succ, List.filter_append, List.length_append]
  cases h : bor B c s <;> simp [h]
theorem bel_eq (hB : 0 < B) (hc : ∀ g, c g ≤ B) : ∀ g j, j ≤ B → bel B c (g * B + j) = sumC B c g + (j - c g) := by
  have inner : ∀ g, bel B c (g * B) = sumC B c g → ∀ j, j ≤ B → bel B c (g * B + j) = sumC B c g + (j - c g) := by
    intro g h0 j
    induction j with
    | zero =>
      intro _
      rw [Nat.add_zero, h0, Nat.zero_sub, Nat.add_zero]
    | succ j ih =>
      intro hj
      rw [← Nat.add_assoc, bel_succ, ih (by omega)]
      have e1 : (g * B + j) / B = g := by
        rw [Nat.mul_comm, Nat.mul_add_div hB, Nat.div_eq_of_lt (by omega), Nat.add_zero]
      have e2 : (g * B + j) % B = j := by
        rw [Nat.mul_comm, Nat.mul_add_mod, Nat.mod_eq_of_lt (by omega)]
      have e3 : bor B c (g * B + j) = decide (c g ≤ j) := by
        unfold bor
        rw [e1, e2]
      rw [e3]
      by_cases h : c g ≤ j
      · rw [decide_eq_true h, if_pos rfl]
        omega
      · rw [decide_eq_false h, if_neg Bool.false_ne_true]
        omega
  intro g
  induction g with
  | zero => exact inner 0 (by rw [Nat.zero_mul]; rfl)
  | succ g ih =>
    refine inner (g + 1) ?_
    have := ih B (Nat.le_refl B)
    rw [Nat.succ_mul, this]
    rfl
theorem bel_at (hB : 0 < B) (hc : ∀ g, c g ≤ B) (s : Nat) : bel B c s = sumC B c (s / B) + (s % B - c (s / B)) := by
  have h := bel_eq hB hc (s / B) (s % B) (Nat.le_of_lt (Nat.mod_lt s hB))
  rwa [Nat.div_add_mod'] at h
theorem sumC_add {L : Nat} (hp : ∀ i, c (i + L) = c i) : ∀ g, sumC B c (g + L) = sumC B c g + sumC B c L
  | 0 => by
    rw [Nat.zero_add]
    show _ = 0 + _
    rw [Nat.zero_add]
  | g + 1 => by
    have e : g + 1 + L = (g + L) + 1 := by omega
    rw [e]
    show sumC B c (g + L) + (B - c (g + L)) = sumC B c g + (B - c g) + sumC B c L
    rw [sumC_add hp g, hp]
    omega
theorem c_mul {L : Nat} (hp : ∀ i, c (i + L) = c i) : ∀ q i, c (i + L * q) = c i
  | 0, i => rfl
  | q + 1, i => by rw [Nat.mul_succ, ← Nat.add_assoc, hp, c_mul hp q]
theorem sumC_mul {L : Nat} (hp : ∀ i, c (i + L) = c i) : ∀ q g, sumC B c (g + L * q) = sumC B c g + sumC B c L * q
  | 0, g => rfl
  | q + 1, g => by
    rw [Nat.mul_succ, ← Nat.add_assoc, sumC_add hp, sumC_mul hp q, Nat.mul_succ]
    omega
theorem bor_mul (hB : 0 < B) {L : Nat} (hp : ∀ i, c (i + L) = c i) (q s : Nat) : bor B c (s + L * B * q) = bor B c s := by
  unfold bor
  have e1 : (s + L * B * q) / B = s / B + L * q := by
    rw [show L * B * q = B * (L * q) by rw [Nat.mul_comm L B, Nat.mul_assoc], Nat.add_mul_div_left _ _ hB]
  have e2 : (s + L * B * q) % B = s % B := by
    rw [show L * B * q = B * (L * q) by rw [Nat.mul_comm L B, Nat.mul_assoc], Nat.add_mul_mod_self_left]
  rw [e1, e2, c_mul hp]
theorem bel_mul (hB : 0 < B) (hc : ∀ g, c g ≤ B) {L : Nat} (hp : ∀ i, c (i + L) = c i) (q s : Nat) : bel B c (s + L * B * q) = bel B c s + sumC B c L * q := by
  have e1 : (s + L * B * q) / B = s / B + L * q := by
    rw [show L * B * q = B * (L * q) by rw [Nat.mul_comm L B, Nat.mul_assoc], Nat.add_mul_div_left _ _ hB]
  have e2 : (s + L * B * q) % B = s % B := by
    rw [show L * B * q = B * (L * q) by rw [Nat.mul_comm L B, Nat.mul_assoc], Nat.add_mul_mod_self_left]
  rw [bel_at hB hc, bel_at hB hc, e1, e2, c_mul hp, sumC_mul hp]
  omega
theorem bel_mono {s t : Nat} (h : s ≤ t) : bel B c s ≤ bel B c t := by
  induction t with
  | zero => rw [Nat.le_zero.mp h]; exact Nat.le_refl _
  | succ t ih =>
    rcases Nat.lt_or_eq_of_le h with z | z
    · rw [bel_succ]
      have := ih (by omega)
      omega
    · rw [z]; exact Nat.le_refl _
theorem bel_lt {s t : Nat} (hs : bor B c s = true) (h : s < t) : bel B c s < bel B c t := by
  have := bel_mono (B := B) (c := c) (show s + 1 ≤ t from h)
  rw [bel_succ, if_pos hs] at this
  omega
theorem bel_inj {s t : Nat} (hs : bor B c s = true) (ht : bor B c t = true) (h : bel B c s = bel B c t) : s = t := by
  rcases Nat.lt_trichotomy s t with z | z | z
  · have := bel_lt hs z
    omega
  · exact z
  · have := bel_lt ht z
    omega
theorem spot_get {p : Nat → Bool} {s : Nat} (hp : p s = true) : ∀ {N : Nat}, s < N → ((List.range N).filter p)[((List.range s).filter p).length]? = some s
  | N + 1, h => by
    rw [List.range_succ, List.filter_append]
    rcases Nat.lt_or_eq_of_le (Nat.le_of_lt_succ h) with z | z
    · have ih := spot_get hp z
      rw [List.getElem?_append_left (List.getElem?_eq_some_iff.mp ih).1]
      exact ih
    · subst z
      rw [List.getElem?_append_right (Nat.le_refl _), Nat.sub_self]
      simp [hp]
end
theorem lnaGo_spec (fs : List Int) (x : Int) (n lo hi : Nat) (h : lo < hi) (h1 : fs.getD lo 0 ≤ x) (h2 : hi = n ∨ x < fs.getD hi 0) : fs.getD (lnaGo fs x lo hi) 0 ≤ x ∧ (lnaGo fs x lo hi + 1 = n ∨ x < fs.getD (lnaGo fs x lo hi + 1) 0) := by
  unfold lnaGo
  split
  · split
    · rename_i hm
      exact lnaGo_spec fs x n ((lo + hi) / 2) hi (by omega) hm h2
    · rename_i hm
      exact lnaGo_spec fs x n lo ((lo + hi) / 2) (by omega) h1 (.inr (by omega))
  · have e : lo + 1 = hi := by omega
    rw [e]
    exact ⟨h1, h2⟩
termination_by hi - lo
decreasing_by all_goals omega
/-! ### the house by its counts -/
noncomputable def cN (gs : List Int) (rows : List R3) (g : Nat) : Nat := (GN gs rows g).toNat
theorem GN_in {gs : List Int} {rows : List R3} (fr : Fair gs rows) (g : Nat) : 0 ≤ GN gs rows g ∧ GN gs rows g < gs.getLastD 1 := by
  have hl := fr.bb _ (lastD_mem fr.b0)
  unfold GN
  suffices ∀ (l : List R3) (acc : Int), (∀ r ∈ l, RowOk 60 gs r) → 0 ≤ acc ∧ acc < gs.getLastD 1 → 0 ≤ l.foldl (gnStep gs g) acc ∧ l.foldl (gnStep gs g) acc < gs.getLastD 1 from this rows 0 fr.ro ⟨Int.le_refl 0, by omega⟩
  intro l
  induction l with
  | nil => exact fun _ _ h => h
  | cons r l ih =>
    intro acc h ha
    rw [List.foldl_cons]
    refine ih _ (fun x hx => h x (List.mem_cons_of_mem _ hx)) ?_
    unfold gnStep
    split
    · exact (h r List.mem_cons_self).2.2.2.2
    · exact ha
/-- what a house's lists are, by its counts -/
structure Cnt (gs : List Int) (rows : List R3) (cs : List Int) (B : Nat) (c : Nat → Nat) (L : Nat) : Prop where
  hB : 2 ≤ B
  hB6 : B ≤ 60
  last : gs.getLastD 1 = (B : Int)
  hL : 1 ≤ L
  hL7 : L ≤ 7200
  len : cs.length = L
  cse : cs = (List.range L).map fun g => ((c g : Nat) : Int)
  lt : ∀ g, c g < B
  per : ∀ i, c (i + L) = c i
  eqG : ∀ g, GN gs rows g = ((c g : Nat) : Int)
  least : LeastPer (GN gs rows) L
theorem cnt_of {gs : List Int} {rows : List R3} {cs : List Int} (fr : Fair gs rows) (h : ∃ k, RepIs (countsP gs rows (groupsP gs rows)) k ∧ cs = (countsP gs rows (groupsP gs rows)).take k) : Cnt gs rows cs (gs.getLastD 1).toNat (cN gs rows) cs.length := by
  obtain ⟨lp, e⟩ := cs_GN fr h
  have hl := fr.bb _ (lastD_mem fr.b0)
  have hG : ∀ g, GN gs rows g = ((cN gs rows g : Nat) : Int) := fun g => by
    have := GN_in fr g
    unfold cN
    omega
  obtain ⟨k, hk, hcs⟩ := h
  obtain ⟨f1, f2, _, _⟩ := cs_facts fr hk hcs
  refine ⟨by omega, by omega, by omega, f1, f2, rfl, ?_, fun g => ?_, fun i => ?_, hG, lp⟩
  · conv => lhs; rw [e]
    exact List.map_congr_left fun g _ => hG g
  · have := GN_in fr g
    have := hG g
    omega
  · have h1 := lp.2.1 i
    rw [hG, hG] at h1
    omega
section
variable {gs : List Int} {rows : List R3} {cs : List Int} {B : Nat} {c : Nat → Nat} {L : Nat}
theorem sum_range (n : Nat) (hlt : ∀ g, c g < B) : ((List.range n).map fun g => (B : Int) - ((c g : Nat) : Int)).sum = ((sumC B c n : Nat) : Int) := by
  induction n with
  | zero => rfl
  | succ n ih =>
    rw [List.range_succ, List.map_append, List.sum_append, ih]
    show _ + ((B : Int) - ((c n : Nat) : Int) + 0) = ((sumC B c n + (B - c n) : Nat) : Int)
    have := hlt n
    omega
theorem Cnt.borne (k : Cnt gs rows cs B c L) : borneP gs cs = (List.range L).map fun g => (B : Int) - ((c g : Nat) : Int) := by
  unfold borneP
  rw [k.cse, List.map_map, k.last]
  rfl
theorem Cnt.total (k : Cnt gs rows cs B c L) : (borneP gs cs).sum = ((sumC B c L : Nat) : Int) := by
  rw [k.borne, sum_range _ k.lt]
theorem Cnt.ahead (k : Cnt gs rows cs B c L) {i : Nat} (h : i < L) : (sumsP (borneP gs cs)).getD i 0 = ((sumC B c i : Nat) : Int) := by
  unfold sumsP
  have hl : (borneP gs cs).length = L := by rw [borneP_len, k.len]
  rw [hl, List.getD_eq_getElem?_getD, List.getElem?_map, List.getElem?_range h]
  show ((borneP gs cs).take i).sum = _
  rw [k.borne, ← List.map_take, List.take_range, Nat.min_eq_left (by omega), sum_range _ k.lt]
theorem Cnt.skipped (k : Cnt gs rows cs B c L) {i : Nat} (h : i < L) : cs.getD i 0 = ((c i : Nat) : Int) := by
  rw [k.cse, List.getD_eq_getElem?_getD, List.getElem?_map, List.getElem?_range h]
  rfl
theorem sumC_mono {i j : Nat} (h : i ≤ j) : sumC B c i ≤ sumC B c j := by
  induction j with
  | zero => rw [Nat.le_zero.mp h]; exact Nat.le_refl _
  | succ j ih =>
    rcases Nat.lt_or_eq_of_le h with z | z
    · have := ih (by omega)
      show _ ≤ sumC B c j + (B - c j)
      omega
    · rw [z]; exact Nat.le_refl _
/-- the place of a frame bears just this frame -/
theorem Cnt.place (k : Cnt gs rows cs B c L) (hF : 1 ≤ sumC B c L) (m : Nat) : ∃ s : Nat, placeP gs cs (m : Int) = (s : Int) ∧ bor B c s = true ∧ bel B c s = m := by
  have hlen : (sumsP (borneP gs cs)).length = L := by rw [sumsP_len, borneP_len, k.len]
  unfold placeP
  rw [k.total, ← Int.natCast_ediv, ← Int.natCast_emod]
  have hmF : m % sumC B c L < sumC B c L := Nat.mod_lt _ (by omega)
  have h0 : (sumsP (borneP gs cs)).getD 0 0 ≤ ((m % sumC B c L : Nat) : Int) := by
    rw [k.ahead (by have := k.hL; omega)]
    show ((0 : Nat) : Int) ≤ _
    omega
  have hlt := lna_lt (sumsP (borneP gs cs)) ((m % sumC B c L : Nat) : Int) (by rw [hlen]; exact k.hL)
  have sp := lnaGo_spec (sumsP (borneP gs cs)) ((m % sumC B c L : Nat) : Int) L 0 L k.hL h0 (.inl rfl)
  have elna : lna (sumsP (borneP gs cs)) ((m % sumC B c L : Nat) : Int) = lnaGo (sumsP (borneP gs cs)) ((m % sumC B c L : Nat) : Int) 0 L := by
    unfold lna
    rw [hlen]
  rw [← elna] at sp
  rw [hlen] at hlt
  generalize lna (sumsP (borneP gs cs)) ((m % sumC B c L : Nat) : Int) = r at hlt sp
  obtain ⟨s1, s2⟩ := sp
  rw [k.ahead hlt] at s1
  have s3 : m % sumC B c L < sumC B c (r + 1) := by
    rcases s2 with z | z
    · rw [z]
      exact hmF
    · by_cases h : r + 1 < L
      · rw [k.ahead h] at z
        omega
      · rw [show r + 1 = L by omega]
        exact hmF
  have s1' : sumC B c r ≤ m % sumC B c L := by omega
  have s3' : m % sumC B c L < sumC B c r + (B - c r) := s3
  have hcr := k.lt r
  rw [k.ahead hlt, k.skipped hlt, k.last, k.len]
  refine ⟨(m / sumC B c L * L + r) * B + (c r + (m % sumC B c L - sumC B c r)), ?_, ?_, ?_⟩
  · rw [Int.natCast_add, Int.natCast_mul, Int.natCast_add, Int.natCast_mul]
    omega
  · have e1 : ((m / sumC B c L * L + r) * B + (c r + (m % sumC B c L - sumC B c r))) / B = r + L * (m / sumC B c L) := by
      rw [Nat.mul_comm _ B, Nat.mul_add_div (by omega), Nat.div_eq_of_lt (show c r + (m % sumC B c L - sumC B c r) < B by omega), Nat.add_zero, Nat.mul_comm L, Nat.add_comm]
    have e2 : ((m / sumC B c L * L + r) * B + (c r + (m % sumC B c L - sumC B c r))) % B = c r + (m % sumC B c L - sumC B c r) := by
      rw [Nat.mul_comm _ B, Nat.mul_add_mod, Nat.mod_eq_of_lt (show c r + (m % sumC B c L - sumC B c r) < B by omega)]
    unfold bor
    rw [e1, e2, c_mul k.per]
    exact decide_eq_true (by omega)
  · rw [bel_eq (by omega) (fun g => Nat.le_of_lt (k.lt g)) _ _ (by omega), Nat.add_comm _ r, Nat.mul_comm _ L, c_mul k.per, sumC_mul k.per]
    have := Nat.mod_add_div m (sumC B c L)
    omega
end
end LM

set_option Elab.async false
set_option linter.all false
set_option maxRecDepth 100000
set_option maxHeartbeats 4000000
namespace LM
open PySem PySem.Spec PyProof.Rows L2
/-! ### the law's own house by its counts -/
theorem again_rep {cs : List Int} {k : Nat} : againL cs k = true ↔ repOk cs k := by
  unfold againL repOk
  rw [Bool.and_eq_true, decide_eq_true_iff, decide_eq_true_iff]
  refine ⟨fun ⟨h1, h2⟩ => ⟨?_, h2⟩, fun ⟨h1, h2⟩ => ⟨?_, h2⟩⟩
  · have := Nat.div_add_mod' cs.length k
    omega
  · exact Nat.div_mul_cancel (Nat.dvd_of_mod_eq_zero h1)
section
variable {gs : List Int} {rows : List R3} {cs : List Int} {B : Nat} {c : Nat → Nat} {L : Nat}
theorem Cnt.size (k : Cnt gs rows cs B c L) (fr : Fair gs rows) : sizeL (gapsL gs rows (groupsP gs rows)) = L ∧ L ≤ groupsP gs rows := by
  have hn := GN_per (keeps_groups gs rows)
  have g1 : 1 ≤ groupsP gs rows := Nat.mul_pos (unitP_pos fr.bb 0) (every_mono rows 1 (by decide) fun x hx => (fr.ro x hx).2.2.1)
  have hd := k.least.dvd hn
  have hle := Nat.le_of_dvd g1 hd
  refine ⟨?_, hle⟩
  rw [gaps_GN fr]
  generalize groupsP gs rows = n at *
  unfold sizeL sizesL
  rw [List.length_map, List.length_range]
  have hf : (List.range n).find? (fun j => againL ((List.range n).map (GN gs rows)) (j + 1)) = some (L - 1) := by
    rw [List.find?_range_eq_some]
    have hL := k.hL
    refine ⟨?_, List.mem_range.mpr (by omega), fun j hj => ?_⟩
    · rw [show L - 1 + 1 = L by omega]
      exact again_rep.mpr ((repOk_iff k.hL hle hn).mpr ⟨hd, k.least.2.1⟩)
    · cases h : againL ((List.range n).map (GN gs rows)) (j + 1) with
      | false => rfl
      | true => exact absurd ((repOk_iff (by omega) (by omega) hn).mp (again_rep.mp h)).2 (k.least.2.2 (j + 1) (by omega) (by omega))
  rw [← List.head?_filter] at hf
  cases e : (List.range n).filter fun j => againL ((List.range n).map (GN gs rows)) (j + 1) with
  | nil =>
    rw [e] at hf
    cases hf
  | cons x l =>
    rw [e] at hf
    obtain rfl := Option.some.inj hf
    have hL := k.hL
    show L - 1 + 1 = L
    omega
theorem Cnt.spots (k : Cnt gs rows cs B c L) (fr : Fair gs rows) {n : Nat} (hn : n ≤ L * B) : spotsL (gapsL gs rows (groupsP gs rows)) B n = (List.range n).filter (bor B c) := by
  obtain ⟨_, hle⟩ := k.size fr
  have hB := k.hB
  unfold spotsL
  refine List.filter_congr fun s hs => ?_
  have hs := List.mem_range.mp hs
  have hdiv : s / B < L := Nat.div_lt_of_lt_mul (by rw [Nat.mul_comm]; omega)
  unfold spotOk bor
  rw [gaps_GN fr, List.getD_eq_getElem?_getD, range_get (show s / B < groupsP gs rows by omega)]
  show decide (GN gs rows (s / B) ≤ ((s % B : Nat) : Int)) = _
  rw [k.eqG]
  by_cases h : c (s / B) ≤ s % B
  · rw [decide_eq_true h]
    exact decide_eq_true (by omega)
  · rw [decide_eq_false h]
    exact decide_eq_false (by omega)
theorem Cnt.below (k : Cnt gs rows cs B c L) (fr : Fair gs rows) : belowL (gapsL gs rows (groupsP gs rows)) B (L * B) = (List.range (L * B)).map (bel B c) := by
  unfold belowL
  refine List.map_congr_left fun s hs => ?_
  rw [k.spots fr (Nat.le_of_lt (List.mem_range.mp hs))]
  rfl
theorem Cnt.belN (k : Cnt gs rows cs B c L) : bel B c (L * B) = sumC B c L := by
  have hB := k.hB
  have h := bel_eq (B := B) (c := c) (by omega) (fun g => Nat.le_of_lt (k.lt g)) L 0 (Nat.zero_le _)
  rw [Nat.add_zero, Nat.zero_sub, Nat.add_zero] at h
  exact h
theorem Cnt.pos (k : Cnt gs rows cs B c L) : 1 ≤ sumC B c L := by
  have h := sumC_mono (B := B) (c := c) k.hL
  have h2 : sumC B c 1 = 0 + (B - c 0) := rfl
  have := k.lt 0
  omega
theorem Cnt.top (k : Cnt gs rows cs B c L) : sumC B c L ≤ L * B := by
  rw [← k.belN]
  unfold bel
  exact Nat.le_trans (List.length_filter_le _ _) (by rw [List.length_range]; exact Nat.le_refl _)
/-- places and frames of the house over a round -/
theorem Cnt.bel_split (k : Cnt gs rows cs B c L) (s : Nat) : bel B c s = s / (L * B) * sumC B c L + bel B c (s % (L * B)) ∧ bor B c s = bor B c (s % (L * B)) := by
  have hB := k.hB
  have h1 := bel_mul (B := B) (c := c) (by omega) (fun g => Nat.le_of_lt (k.lt g)) k.per (s / (L * B)) (s % (L * B))
  have h2 := bor_mul (B := B) (c := c) (by omega) k.per (s / (L * B)) (s % (L * B))
  rw [Nat.mod_add_div] at h1 h2
  refine ⟨?_, h2⟩
  rw [h1, Nat.mul_comm (sumC B c L)]
  omega
theorem Cnt.spot (k : Cnt gs rows cs B c L) {s : Nat} (hs : bor B c s = true) : ∃ q, ((List.range (L * B)).filter (bor B c))[bel B c s % sumC B c L]? = some q ∧ bel B c s / sumC B c L * (L * B) + q = s := by
  have hB := k.hB
  have hLB : 0 < L * B := Nat.mul_pos k.hL (by omega)
  obtain ⟨e1, e2⟩ := k.bel_split s
  have hm := Nat.mod_lt s hLB
  have hq := spot_get (e2 ▸ hs) hm
  have hlt : bel B c (s % (L * B)) < sumC B c L := by
    rw [← k.belN]
    exact bel_lt (e2 ▸ hs) hm
  have d1 : bel B c s / sumC B c L = s / (L * B) := by
    rw [e1, Nat.mul_comm, Nat.mul_add_div k.pos, Nat.div_eq_of_lt hlt, Nat.add_zero]
  have d2 : bel B c s % sumC B c L = bel B c (s % (L * B)) := by
    rw [e1, Nat.mul_comm, Nat.mul_add_mod, Nat.mod_eq_of_lt hlt]
  refine ⟨s % (L * B), ?_, ?_⟩
  · rw [d2]
    exact hq
  · rw [d1, Nat.mul_comm]
    exact Nat.div_add_mod s (L * B)
end
end LM

set_option Elab.async false
set_option linter.all false
set_option maxRecDepth 100000
set_option maxHeartbeats 4000000
set_option pp.maxSteps 600
set_option pp.deepTerms false
namespace LM
open PySem PySem.Spec PyProof.Rows L2
local macro_rules | `(tactic| walk_at "hp") => `(tactic| first | assumption | exact upd_same | (rw [upd_ne (by assumption)]; assumption) | (rw [upd_ne (Ne.symm (by assumption))]; assumption) | (rw [upd_ne (by assumption)]; exact upd_same) | (rw [upd_ne (Ne.symm (by assumption))]; exact upd_same))
local macro_rules | `(tactic| walk_at "sq") => `(tactic| first | assumption | exact Or.inl (Or.inl (by assumption)) | exact Or.inl (Or.inl upd_same) | exact Or.inl (Or.inl (by walk_at "hp")))
local macro_rules | `(tactic| walk_at "ixl") => `(tactic| refine ⟨_, _, _, _, rfl, rfl, (by walk_at "sq"), (by rfl), ?_⟩)
local macro_rules | `(tactic| walk_at "setl") => `(tactic| refine ⟨_, _, _, _, rfl, rfl, (by walk_at "hp"), (by rfl), ?_⟩)
local macro_rules | `(tactic| walk_at "side") => `(tactic| refine idP ?_; first | omega | (show (0 : Int) < _; omega) | (show (0 : Int) < _ ∧ _ < _; omega) | (refine Or.inr ?_; show (-(2 ^ 64) : Int) < _ ∧ _ < _; omega) | (refine Or.inl ?_; show (-(2 ^ 64) : Int) < _ ∧ _ < _; omega) | exact divW (by omega) (by omega) _ | (refine ⟨by decide, by decide, ?_⟩; decide))
local macro_rules | `(tactic| walk_at "go1") => `(tactic| first
  | refine ⟨_, rfl, ?_⟩
  | refine ⟨_, _, rfl, rfl, (by walk_at "side"), ?_⟩
  | refine ⟨_, _, rfl, (by walk_at "side"), ?_⟩
  | refine ⟨_, _, rfl, rfl, ?_⟩
  | refine Or.inl ⟨_, rfl, ?_⟩
  | refine ⟨_, _, rfl, Or.inl (by walk_at "sq"), ?_⟩
  | walk_at "ixl"
  | walk_at "setl"
  | refine ⟨_, _, rfl, (by walk_at "sq"), rfl, ?_⟩
  | refine ⟨_, _, rfl, (by walk_at "sq"), ?_⟩
  | refine ⟨_, _, rfl, ?_⟩
  | refine ⟨rfl, ?_⟩
  | refine ⟨small (Nat.le_of_ble_eq_true rfl), ?_⟩)
local macro_rules | `(tactic| walk_at "go") => `(tactic| repeat walk_at "go1")

abbrev sis_way : Stmt := topS 19
theorem scis_way : FnScope ["value"] ["value"] (defScope sis_way) := ⟨rfl, rfl, rfl, by decide +kernel, rfl, by decide +kernel, by decide +kernel⟩
abbrev scheck_way : Stmt := topS 20
theorem sccheck_way : FnScope ["given"] ["given"] (defScope scheck_way) := ⟨rfl, rfl, rfl, by decide +kernel, rfl, by decide +kernel, by decide +kernel⟩
abbrev sHouse_first_frame : Stmt := inClass (topS 52) 13
theorem scHouse_first_frame : FnScope ["self", "group", "groups", "frames", "rounds", "rest"] ["self", "group"] (defScope sHouse_first_frame) := ⟨rfl, rfl, rfl, by decide +kernel, rfl, by decide +kernel, by decide +kernel⟩
abbrev sHouse_frame_bearing : Stmt := inClass (topS 52) 15
theorem scHouse_frame_bearing : FnScope ["self", "place", "group", "number", "behind"] ["self", "place"] (defScope sHouse_frame_bearing) := ⟨rfl, rfl, rfl, by decide +kernel, rfl, by decide +kernel, by decide +kernel⟩
abbrev sHouse_at : Stmt := inClass (topS 52) 10
theorem scHouse_at : FnScope ["self", "place", "way", "frame", "following"] ["self", "place", "way"] (defScope sHouse_at) := ⟨rfl, rfl, rfl, by decide +kernel, rfl, by decide +kernel, by decide +kernel⟩
def wayS (nx : Bool) : Str := if nx then "next" else "last"
def wayStr (x : Str) : Bool := (x == "next") || (x == "last")
def spIsWay : Sp := fun vs H Q _ => ∃ x : Str, vs = [.str x] ∧ ∀ H', Same H H' → Q (.bl (wayStr x)) H'
def spWay : Sp := fun vs H Q _ => ∃ nx : Bool, vs = [.str (wayS nx)] ∧ ∀ H', Same H H' → Q .non H'
/-- what is told of a place -/
def atO (B : Nat) (c : Nat → Nat) (s : Nat) (nx : Bool) : Option Int := if bor B c s = true then some (bel B c s : Int) else if nx = true then some (bel B c s : Int) else if 0 < bel B c s then some ((bel B c s : Int) - 1) else none
def bearO (B : Nat) (c : Nat → Nat) (s : Nat) : Option Int := if bor B c s = true then some (bel B c s : Int) else none
/-- a house at p, by its counts -/
def HouseBy (K : PySem.W.Frag) (C : Addr) (old : Addr → Prop) (H : Hp) (p b r : Addr) (bs : List Int) (rows : List R3) (cs : List Int) (B : Nat) (c : Nat → Nat) (L : Nat) : Prop := HouseAt K C old H p b r bs rows cs ∧ Cnt bs rows cs B c L
theorem HouseAt.by {K : PySem.W.Frag} {C : Addr} {old : Addr → Prop} {H : Hp} {p b r : Addr} {bs : List Int} {rows : List R3} {cs : List Int} (h : HouseAt K C old H p b r bs rows cs) : HouseBy K C old H p b r bs rows cs (bs.getLastD 1).toNat (cN bs rows) cs.length := ⟨h, cnt_of h.fair h.rep⟩
theorem hf_ff (b r sk ah rd : Addr) (t : Str) : (hf b r sk ah rd t).lookup ("_first_frame" : Str) = none := hf_no _ _ _ _ _ _ (by decide +kernel) (by decide +kernel) (by decide +kernel) (by decide +kernel) (by decide +kernel) (by decide +kernel)
theorem hf_fb (b r sk ah rd : Addr) (t : Str) : (hf b r sk ah rd t).lookup ("_frame_bearing" : Str) = none := hf_no _ _ _ _ _ _ (by decide +kernel) (by decide +kernel) (by decide +kernel) (by decide +kernel) (by decide +kernel) (by decide +kernel)
theorem hf_at (b r sk ah rd : Addr) (t : Str) : (hf b r sk ah rd t).lookup ("at" : Str) = none := hf_no _ _ _ _ _ _ (by decide +kernel) (by decide +kernel) (by decide +kernel) (by decide +kernel) (by decide +kernel) (by decide +kernel)
def spFirst (K : PySem.W.Frag) (C : Addr) : Sp := fun vs H Q _ => ∃ (old : Addr → Prop) (p b r : Addr) (bs : List Int) (rows : List R3) (cs : List Int) (B : Nat) (c : Nat → Nat) (L g : Nat), vs = [.ref p, .int (g : Int)] ∧ HouseBy K C old H p b r bs rows cs B c L ∧ ∀ H', Same H H' → Q (.int ((sumC B c g : Nat) : Int)) H'
def spBear (K : PySem.W.Frag) (C : Addr) : Sp := fun vs H Q _ => ∃ (old : Addr → Prop) (p b r : Addr) (bs : List Int) (rows : List R3) (cs : List Int) (B : Nat) (c : Nat → Nat) (L s : Nat), vs = [.ref p, .int (s : Int)] ∧ HouseBy K C old H p b r bs rows cs B c L ∧ ∀ H', Same H H' → Q (optV (bearO B c s)) H'
def spAt (K : PySem.W.Frag) (C : Addr) : Sp := fun vs H Q _ => ∃ (old : Addr → Prop) (p b r : Addr) (bs : List Int) (rows : List R3) (cs : List Int) (B : Nat) (c : Nat → Nat) (L s : Nat) (nx : Bool), vs = [.ref p, .int (s : Int), .str (wayS nx)] ∧ HouseBy K C old H p b r bs rows cs B c L ∧ ∀ H', Same H H' → Q (optV (atO B c s nx)) H'
section
variable {P : Program} {w : World} {K : PySem.W.Frag} {mg : Str → Option Value} {base : Heap}
theorem ok_isway {f : Addr} {fd : FuncData} (F : Fun K "is_way" "is_way" sis_way f fd) (N : Names mg) : FnOk P w K mg base CX0 1 f fd ["value"] spIsWay := by
  have sc := scis_way
  refine F.ok sc (fun vs H Q E h => ?_) (fun cdv A outer s H vs Q E hr h => ?_)
  · obtain ⟨x, rfl, _⟩ := h
    rfl
  · obtain ⟨x, rfl, k⟩ := h
    refine ⟨_, (pss_one (ps_ret (pe_and (pe_callB call_isi (by rfl) N.isinstance (by decide +kernel) (pa_cons (pv 0) (pa_cons (pe_ty "str" rfl N.str (by decide +kernel)) pa_nil))) (pe_one (pe_cmpR op_in_seq (pv 0) (pe_tup (pa_cons pe_str (pa_cons pe_str pa_nil))) (by rfl)))))), ?_⟩
    refine ⟨_, rfl, _, _, _, _, _, rfl, .ty _, .base (.str x), kit_ty (r := true) (by decide +kernel), _, rfl, ?_⟩
    refine iteT ?_
    refine ⟨_, rfl, Nat.le_of_ble_eq_true rfl, ?_⟩
    (intro q nq; generalize e_q : upd H q _ = H1; have s1 : Same H H1 := fun b x hb => (congrFun e_q b).symm.trans (same_new nq b x hb); have h1 := (congrFun e_q q).symm.trans upd_same; clear e_q)
    refine ⟨q, _, rfl, .inr (SqT.tup h1), rfl, rfl, ?_⟩
    have e : inV (.str x) [.str "next", .str "last"] = wayStr x := by
      show (("next" : Str) == x || (("last" : Str) == x || false)) = ((x == "next") || (x == "last"))
      rw [Bool.or_false, Bool.beq_comm (a := ("next" : Str)), Bool.beq_comm (a := ("last" : Str))]
    rw [if_neg Bool.false_ne_true, e]
    exact k _ s1
theorem ok_way {f : Addr} {fd : FuncData} (F : Fun K "check_way" "check_way" scheck_way f fd) (Dis_way : DefK P w K mg base "is_way" ["value"] 1 spIsWay) : FnOk P w K mg base CX0 2 f fd ["given"] spWay := by
  have sc := sccheck_way
  refine F.ok sc (fun vs H Q E h => ?_) (fun cdv A outer s H vs Q E hr h => ?_)
  · obtain ⟨nx, rfl, _⟩ := h
    rfl
  · obtain ⟨nx, rfl, k⟩ := h
    refine ⟨_, (pss_one (ps_if (pt_not (pt_val (pe_d Dis_way (hr.mono (by decide)) rfl (pa_cons (pv 0) pa_nil)))) (pss_one ps_never) pss_nil)), ?_⟩
    refine ⟨_, rfl, _, rfl, fun H1 s1 => ?_⟩
    have e : wayStr (wayS nx) = true := by cases nx <;> decide +kernel
    rw [e]
    refine ⟨_, rfl, ?_⟩
    exact iteF (k _ s1)
theorem ok_first {f C : Addr} {fd : FuncData} (F : Fun K "_first_frame" "House._first_frame" sHouse_first_frame f fd) (T : HouseTxt K mg C) (N : Names mg) : FnOk P w K mg base CX0 1 f fd ["self", "group"] (spFirst K C) := by
  have sc := scHouse_first_frame
  refine F.ok sc (fun vs H Q E h => ?_) (fun cdv A outer s H vs Q E hr h => ?_)
  · obtain ⟨old, p, b, r, bs, rows, cs, B, c, L, g, rfl, _⟩ := h
    rfl
  · obtain ⟨old, p, b, r, bs, rows, cs, B, c, L, g, rfl, ⟨⟨⟨dx, sk, ah, rd, e1, e2, e3, e4, _, _⟩, bt, rt, fr, _⟩, ct⟩, k⟩ := h
    refine ⟨_, (pss_cons (ps_asg (pe_fld (pv 0) rfl) (pg_tup rfl (pgs_cons (pg_name (i := 2) sc.nd rfl (Or.inl rfl)) (pgs_cons (pg_name (i := 3) sc.nd rfl (Or.inl rfl)) pgs_nil))))
      (pss_cons (ps_asg (pe_callB call_divmod (by rfl) N.divmod (by decide +kernel) (pa_cons (pv 1) (pa_cons (pv 2) pa_nil))) (pg_tup rfl (pgs_cons (pg_name (i := 4) sc.nd rfl (Or.inl rfl)) (pgs_cons (pg_name (i := 5) sc.nd rfl (Or.inl rfl)) pgs_nil))))
      (pss_one (ps_ret (pe_op op_add (pe_op op_mul (pv 4) (pv 3)) (pe_ix ix_list (pe_fld (pv 0) rfl) (pv 5) (fun _ _ => rfl))))))), ?_⟩
    rw [ct.total, ct.len] at e4
    have hL := ct.hL
    have hL7 := ct.hL7
    have hpos := ct.pos
    have htop := ct.top
    have hLB : L * B ≤ 7200 * 60 := Nat.mul_le_mul hL7 ct.hB6
    refine ⟨_, rfl, p, C, dx, _, _, rfl, e1, T.cl, T.nD, hf_round _ _ _ _ _ _, rd, _, rfl, SqT.tup e4, rfl, _, _, rfl, _, _, rfl, rfl, ?_⟩
    refine ⟨_, rfl, _, rfl, _, _, rfl, ⟨by omega, by omega⟩, ?_⟩
    (intro q nq; generalize e_q : upd H q _ = H1; have s1 : Same H H1 := fun b x hb => (congrFun e_q b).symm.trans (same_new nq b x hb); have h1 := (congrFun e_q q).symm.trans upd_same; clear e_q)
    refine ⟨q, _, rfl, SqT.tup h1, rfl, _, _, rfl, _, _, rfl, rfl, ?_⟩
    have hm : g % L < L := Nat.mod_lt _ hL
    have hlen : (sumsP (borneP bs cs)).length = L := by rw [sumsP_len, borneP_len, ct.len]
    refine ⟨_, rfl, _, rfl, _, _, rfl, rfl, .inr ⟨by omega, by omega⟩, _, rfl, p, C, dx, _, _, rfl, s1 _ _ e1, T.cl, T.nA, hf_ahead _ _ _ _ _ _, _, rfl, ah, _, _, _, rfl, rfl, SqL.lst (s1 _ _ e3), atI_getD (by omega) (by rw [hlen]; omega), _, _, rfl, rfl, ?_⟩
    have e : (g : Int) / (L : Int) * ((sumC B c L : Nat) : Int) + (sumsP (borneP bs cs)).getD ((g : Int) % (L : Int)).toNat 0 = ((sumC B c g : Nat) : Int) := by
      rw [← Int.natCast_emod, Int.toNat_natCast, ct.ahead hm, ← Int.natCast_ediv, ← Int.natCast_mul]
      have h1 := sumC_mul (B := B) ct.per (g / L) (g % L)
      rw [Nat.mod_add_div] at h1
      rw [h1, Nat.mul_comm (sumC B c L)]
      omega
    show Q (V.int ((g : Int) / (L : Int) * ((sumC B c L : Nat) : Int) + (sumsP (borneP bs cs)).getD ((g : Int) % (L : Int)).toNat 0)) H1
    rw [e]
    exact k _ s1
theorem ok_bear {f C fF : Addr} {fd fdF : FuncData} (F : Fun K "_frame_bearing" "House._frame_bearing" sHouse_frame_bearing f fd) (T : HouseTxt K mg C) (N : Names mg) (mF : Meth K C "_first_frame" fF) (GF : FnOk P w K mg base CX0 1 fF fdF ["self", "group"] (spFirst K C)) (bF : Binds K fdF ["self", "group"] []) :
    FnOk P w K mg base CX0 2 f fd ["self", "place"] (spBear K C) := by
  have sc := scHouse_frame_bearing
  refine F.ok sc (fun vs H Q E h => ?_) (fun cdv A outer s H vs Q E hr h => ?_)
  · obtain ⟨old, p, b, r, bs, rows, cs, B, c, L, x, rfl, _⟩ := h
    rfl
  · obtain ⟨old, p, b, r, bs, rows, cs, B, c, L, x, rfl, hB, k⟩ := h
    refine ⟨_, (pss_cons (ps_asg (pe_callB call_divmod (by rfl) N.divmod (by decide +kernel) (pa_cons (pv 1) (pa_cons (pe_ix ix_tup (pe_fld (pv 0) rfl) (pe_un un_neg pe_int) (fun _ _ => rfl)) pa_nil))) (pg_tup rfl (pgs_cons (pg_name (i := 2) sc.nd rfl (Or.inl rfl)) (pgs_cons (pg_name (i := 3) sc.nd rfl (Or.inl rfl)) pgs_nil))))
      (pss_cons (ps_set (i := 4) sc.nd rfl (Or.inl rfl) (pe_op op_sub (pv 3) (pe_ix ix_list (pe_fld (pv 0) rfl) (pe_op op_mod (pv 2) (pe_ix ix_tup (pe_fld (pv 0) rfl) pe_int (fun _ _ => rfl))) (fun _ _ => rfl))))
      (pss_one (ps_ret (pe_ifExp (pt_cmpR op_ge (pv 4) pe_int (nomark _)) (pe_op op_add (pe_meth (pv 0) T.cl mF GF (hr.mono (by decide)) bF .nil pass0 (pa_cons (pv 2) pa_nil)) (pv 4)) pe_non))))), ?_⟩
    obtain ⟨hA, ct⟩ := id hB
    obtain ⟨⟨dx, sk, ah, rd, e1, e2, e3, e4, _, _⟩, bt, rt, fr, _⟩ := id hA
    rw [ct.total, ct.len] at e4
    have hL := ct.hL
    have hL7 := ct.hL7
    have hB2 := ct.hB
    have hB6 := ct.hB6
    refine ⟨_, rfl, _, rfl, p, C, dx, _, _, rfl, e1, T.cl, T.nB, hf_bases _ _ _ _ _ _, _, rfl, b, _, _, _, rfl, rfl, bt, getLastD_map bs fr.b0, _, _, rfl, ?_⟩
    rw [ct.last]
    refine ⟨⟨by omega, by omega⟩, ?_⟩
    (intro q nq; generalize e_q : upd H q _ = H1; have s1 : Same H H1 := fun b x hb => (congrFun e_q b).symm.trans (same_new nq b x hb); have h1 := (congrFun e_q q).symm.trans upd_same; clear e_q)
    refine ⟨q, _, rfl, SqT.tup h1, rfl, _, _, rfl, _, _, rfl, rfl, ?_⟩
    have e1' := s1 _ _ e1
    have e2' := s1 _ _ e2
    have e4' := s1 _ _ e4
    have hm : x / B % L < L := Nat.mod_lt _ hL
    have hsk : atI (cs.map V.int) ((x : Int) / (B : Int) % (L : Int)) = some (V.int ((c (x / B) : Nat) : Int)) := by
      have h1 := c_mul ct.per (x / B / L) (x / B % L)
      rw [Nat.mod_add_div] at h1
      rw [← Int.natCast_ediv, ← Int.natCast_emod, atI_getD (by omega) (by rw [ct.len]; omega), Int.toNat_natCast, ct.skipped hm, h1]
    refine ⟨_, rfl, _, rfl, p, C, dx, _, _, rfl, e1', T.cl, T.nS, hf_skipped _ _ _ _ _ _, _, rfl, _, rfl, p, C, dx, _, _, rfl, e1', T.cl, T.nD, hf_round _ _ _ _ _ _, rd, _, _, _, rfl, rfl, SqT.tup e4', rfl, _, _, rfl, rfl, (by show (0 : Int) < _; omega), sk, _, _, _, rfl, rfl, SqL.lst e2', hsk, _, _, rfl, rfl, ?_⟩
    have hc := ct.lt (x / B)
    have hxB := Nat.mod_lt x (show 0 < B by omega)
    have hbel := bel_at (B := B) (c := c) (by omega) (fun g => Nat.le_of_lt (ct.lt g)) x
    refine ⟨_, rfl, _, _, rfl, rfl, _, rfl, ?_⟩
    refine ifD (fun hd => ?_) (fun hd => ?_)
    · have hd' : c (x / B) ≤ x % B := by rw [← Int.natCast_emod] at hd; omega
      refine ⟨_, rfl, p, dx, _, rfl, e1', hf_ff _ _ _ _ _ _, _, rfl, old, p, b, r, bs, rows, cs, B, c, L, x / B, (by rw [Int.natCast_ediv]; rfl), ⟨hA.same s1, ct⟩, fun H2 s2 => ⟨_, rfl, _, _, rfl, rfl, ?_⟩⟩
      have e : bearO B c x = some (((sumC B c (x / B) : Nat) : Int) + ((x : Int) % (B : Int) - ((c (x / B) : Nat) : Int))) := by
        unfold bearO bor
        rw [decide_eq_true hd', if_pos rfl, hbel, ← Int.natCast_emod]
        refine congrArg some ?_
        omega
      have := k H2 (s1.trans s2)
      rw [e] at this
      exact this
    · have hd' : ¬ c (x / B) ≤ x % B := by rw [← Int.natCast_emod] at hd; omega
      have e : bearO B c x = none := by
        unfold bearO bor
        rw [decide_eq_false hd', if_neg Bool.false_ne_true]
      have := k H1 s1
      rw [e] at this
      exact this
theorem ok_at {f C fF fB : Addr} {fd fdF fdB : FuncData} (F : Fun K "at" "House.at" sHouse_at f fd) (T : HouseTxt K mg C) (N : Names mg) (Dcheck_number : DefK P w K mg base "check_number" ["given"] 3 spChkNum) (Dcheck_way : DefK P w K mg base "check_way" ["given"] 2 spWay)
    (mF : Meth K C "_first_frame" fF) (GF : FnOk P w K mg base CX0 1 fF fdF ["self", "group"] (spFirst K C)) (bF : Binds K fdF ["self", "group"] [])
    (mB : Meth K C "_frame_bearing" fB) (GB : FnOk P w K mg base CX0 2 fB fdB ["self", "place"] (spBear K C)) (bB : Binds K fdB ["self", "place"] []) : FnOk P w K mg base CX0 4 f fd ["self", "place", "way"] (spAt K C) := by
  have sc := scHouse_at
  refine F.ok sc (fun vs H Q E h => ?_) (fun cdv A outer s H vs Q E hr h => ?_)
  · obtain ⟨old, p, b, r, bs, rows, cs, B, c, L, x, nx, rfl, _⟩ := h
    rfl
  · obtain ⟨old, p, b, r, bs, rows, cs, B, c, L, x, nx, rfl, hB, k⟩ := h
    refine ⟨_, (pss_cons (ps_expr (pe_d Dcheck_number (hr.mono (by decide)) rfl (pa_cons (pv 1) pa_nil)))
      (pss_cons (ps_expr (pe_d Dcheck_way (hr.mono (by decide)) rfl (pa_cons (pv 2) pa_nil)))
      (pss_cons (ps_set (i := 3) sc.nd rfl (Or.inl rfl) (pe_meth (pv 0) T.cl mB GB (hr.mono (by decide)) bB .nil pass0 (pa_cons (pv 1) pa_nil)))
      (pss_cons (ps_if (pt_cmpR op_notN (pv 3) pe_non (nomark _)) (pss_one (ps_ret (pv 3))) pss_nil)
      (pss_cons (ps_set (i := 4) sc.nd rfl (Or.inl rfl) (pe_meth (pv 0) T.cl mF GF (hr.mono (by decide)) bF .nil pass0 (pa_cons (pe_op op_fdiv (pv 1) (pe_ix ix_tup (pe_fld (pv 0) rfl) (pe_un un_neg pe_int) (fun _ _ => rfl))) pa_nil)))
      (pss_cons (ps_if (pt_cmpR op_eq (pv 2) pe_str (nomark _)) (pss_one (ps_ret (pv 4))) pss_nil)
      (pss_one (ps_ret (pe_ifExp (pt_cmpR op_gt (pv 4) pe_int (nomark _)) (pe_op op_sub (pv 4) pe_int) pe_non))))))))), ?_⟩
    obtain ⟨hA, ct⟩ := id hB
    obtain ⟨⟨dx, sk, ah, rd, e1, e2, e3, e4, _, _⟩, bt, rt, fr, _⟩ := id hA
    have hB2 := ct.hB
    have hB6 := ct.hB6
    refine ⟨_, rfl, _, rfl, by omega, ?_⟩
    refine ⟨_, rfl, nx, rfl, fun H1 s1 => ?_⟩
    refine ⟨_, rfl, p, dx, _, rfl, s1 _ _ e1, hf_fb _ _ _ _ _ _, _, rfl, old, p, b, r, bs, rows, cs, B, c, L, x, rfl, ⟨hA.same s1, ct⟩, fun H2 s2 => ?_⟩
    have s12 := s1.trans s2
    have hbel := bel_at (B := B) (c := c) (by omega) (fun g => Nat.le_of_lt (ct.lt g)) x
    refine ⟨_, rfl, rfl, _, rfl, ?_⟩
    by_cases hbo : bor B c x = true
    · have e0 : bearO B c x = some ((bel B c x : Nat) : Int) := if_pos hbo
      have e9 : atO B c x nx = some ((bel B c x : Nat) : Int) := if_pos hbo
      have kk := k H2 s12
      rw [e9] at kk
      rw [e0]
      refine ifN (fun _ => ⟨_, rfl, kk⟩) (fun hd => nomatch hd)
    · have e0 : bearO B c x = none := if_neg hbo
      have e9 : atO B c x nx = if nx = true then some ((bel B c x : Nat) : Int) else if 0 < bel B c x then some (((bel B c x : Nat) : Int) - 1) else none := if_neg hbo
      rw [e0]
      refine ifN (fun hd => absurd rfl hd) (fun _ => ?_)
      have hbel2 : bel B c x = sumC B c (x / B) := by
        unfold bor at hbo
        have : ¬ c (x / B) ≤ x % B := fun z => hbo (decide_eq_true z)
        omega
      refine ⟨_, rfl, p, dx, _, rfl, s12 _ _ e1, hf_ff _ _ _ _ _ _, _, rfl, _, rfl, p, C, dx, _, _, rfl, s12 _ _ e1, T.cl, T.nB, hf_bases _ _ _ _ _ _, _, rfl, b, _, _, _, rfl, rfl, Same.seqT s12 bt, getLastD_map bs fr.b0, _, _, rfl, rfl, (by rw [ct.last]; exact ⟨by omega, by omega⟩), ?_⟩
      refine ⟨old, p, b, r, bs, rows, cs, B, c, L, x / B, (by rw [ct.last, Int.natCast_ediv]; rfl), ⟨hA.same s12, ct⟩, fun H3 s3 => ?_⟩
      have s13 := s12.trans s3
      have kk := k H3 s13
      rw [e9] at kk
      rw [← hbel2]
      refine ⟨_, rfl, rfl, _, rfl, ?_⟩
      cases nx with
      | true =>
        rw [if_pos rfl] at kk
        exact ifD (fun _ => ⟨_, rfl, kk⟩) (fun hd => absurd rfl hd)
      | false =>
        rw [if_neg Bool.false_ne_true] at kk
        refine ifD (fun hd => absurd (V.str.inj hd) (by decide +kernel)) (fun _ => ?_)
        refine ⟨_, rfl, _, _, rfl, rfl, _, rfl, ?_⟩
        refine ifD (fun hd => ?_) (fun hd => ?_)
        · have hd' : 0 < bel B c x := by omega
          rw [if_pos hd'] at kk
          exact ⟨_, rfl, _, _, rfl, rfl, kk⟩
        · have hd' : ¬ 0 < bel B c x := by omega
          rw [if_neg hd'] at kk
          exact kk
end
end LM

set_option Elab.async false
set_option linter.all false
set_option maxRecDepth 100000
set_option maxHeartbeats 4000000
set_option pp.maxSteps 600
set_option pp.deepTerms false
namespace LM
open PySem PySem.Spec PyProof.Rows L2
local macro_rules | `(tactic| walk_at "hp") => `(tactic| first | assumption | exact upd_same | (rw [upd_ne (by assumption)]; assumption) | (rw [upd_ne (Ne.symm (by assumption))]; assumption) | (rw [upd_ne (by assumption)]; exact upd_same) | (rw [upd_ne (Ne.symm (by assumption))]; exact upd_same))
local macro_rules | `(tactic| walk_at "sq") => `(tactic| first | assumption | exact Or.inl (Or.inl (by assumption)) | exact Or.inl (Or.inl upd_same) | exact Or.inl (Or.inl (by walk_at "hp")))
local macro_rules | `(tactic| walk_at "ixl") => `(tactic| refine ⟨_, _, _, _, rfl, rfl, (by walk_at "sq"), (by rfl), ?_⟩)
local macro_rules | `(tactic| walk_at "setl") => `(tactic| refine ⟨_, _, _, _, rfl, rfl, (by walk_at "hp"), (by rfl), ?_⟩)
local macro_rules | `(tactic| walk_at "side") => `(tactic| refine idP ?_; first | omega | (show (0 : Int) < _; omega) | (show (0 : Int) < _ ∧ _ < _; omega) | (refine Or.inr ?_; show (-(2 ^ 64) : Int) < _ ∧ _ < _; omega) | (refine Or.inl ?_; show (-(2 ^ 64) : Int) < _ ∧ _ < _; omega) | exact divW (by omega) (by omega) _ | (refine ⟨by decide, by decide, ?_⟩; decide))
local macro_rules | `(tactic| walk_at "go1") => `(tactic| first
  | refine ⟨_, rfl, ?_⟩
  | refine ⟨_, _, rfl, rfl, (by walk_at "side"), ?_⟩
  | refine ⟨_, _, rfl, (by walk_at "side"), ?_⟩
  | refine ⟨_, _, rfl, rfl, ?_⟩
  | refine Or.inl ⟨_, rfl, ?_⟩
  | refine ⟨_, _, rfl, Or.inl (by walk_at "sq"), ?_⟩
  | walk_at "ixl"
  | walk_at "setl"
  | refine ⟨_, _, rfl, (by walk_at "sq"), rfl, ?_⟩
  | refine ⟨_, _, rfl, (by walk_at "sq"), ?_⟩
  | refine ⟨_, _, rfl, ?_⟩
  | refine ⟨rfl, ?_⟩
  | refine ⟨small (Nat.le_of_ble_eq_true rfl), ?_⟩)
local macro_rules | `(tactic| walk_at "go") => `(tactic| repeat walk_at "go1")

abbrev s_law_spot : Stmt := topS 72
theorem sc_law_spot : FnScope ["_law_home", "_law_figure", "_law_turns", "_law_inner"] ["_law_home", "_law_figure"] (defScope s_law_spot) := ⟨rfl, rfl, rfl, by decide +kernel, rfl, by decide +kernel, by decide +kernel⟩
def natL (l : List Nat) : List V := l.map fun k => V.int ((k : Nat) : Int)
/-- the law's own house, by its counts -/
def HomeBy (old : Addr → Prop) (H : Hp) (d g l : Addr) (B : Nat) (c : Nat → Nat) (L : Nat) : Prop := ∃ (n : V) (sp be : Addr), H d = some (.dK [(Sum.inr "ground", .ref g), (Sum.inr "lanes", .ref l), (Sum.inr "groups", n), (Sum.inr "spots", .ref sp), (Sum.inr "below", .ref be)]) ∧
  H sp = some (.lst (natL ((List.range (L * B)).filter (bor B c)))) ∧ H be = some (.lst (natL ((List.range (L * B)).map (bel B c)))) ∧ ¬ old sp ∧ ¬ old be
theorem HomeAt.by {old : Addr → Prop} {H : Hp} {d g l : Addr} {gs : List Int} {rows : List R3} {cs : List Int} {B : Nat} {c : Nat → Nat} {L : Nat} (h : HomeAt old H d g l gs rows) (k : Cnt gs rows cs B c L) (fr : Fair gs rows) : HomeBy old H d g l B c L := by
  obtain ⟨s, b, cs', n, e1, e2, e3, e4, e5, e6, e7⟩ := h
  have eb : (gs.getLastD 1).toNat = B := by have := k.last; omega
  have e3' : cs' = gapsL gs rows (groupsP gs rows) := by rw [e3, e2]; rfl
  rw [eb, e3', (k.size fr).1] at e4 e5
  rw [k.spots fr (Nat.le_refl _)] at e4
  rw [k.below fr] at e5
  exact ⟨_, s, b, e1, e4, e5, e6, e7⟩
theorem HomeBy.same {old : Addr → Prop} {H H' : Hp} {d g l : Addr} {B : Nat} {c : Nat → Nat} {L : Nat} (h : HomeBy old H d g l B c L) (s : Same H H') : HomeBy old H' d g l B c L := by
  obtain ⟨n, sp, be, e1, e2, e3, e4, e5⟩ := h
  exact ⟨n, sp, be, s _ _ e1, s _ _ e2, s _ _ e3, e4, e5⟩
theorem HomeBy.els {old : Addr → Prop} {H H' : Hp} {d g l q : Addr} {B : Nat} {c : Nat → Nat} {L : Nat} (h : HomeBy old H d g l B c L) (hd : d ≠ q) (hq : old q) (e : Else q H H') : HomeBy old H' d g l B c L := by
  obtain ⟨n, sp, be, e1, e2, e3, e4, e5⟩ := h
  exact ⟨n, sp, be, e _ _ hd e1, e _ _ (fun z => e4 (z ▸ hq)) e2, e _ _ (fun z => e5 (z ▸ hq)) e3, e4, e5⟩
theorem natL_len (l : List Nat) : (natL l).length = l.length := List.length_map ..
theorem natL_flat : ∀ l : List Nat, (natL l).all flatV = true
  | [] => rfl
  | _ :: l => natL_flat l
theorem natL_in (i : Nat) : ∀ l : List Nat, inV (.int (i : Int)) (natL l) = decide (i ∈ l)
  | [] => rfl
  | k :: l => by
    have h := natL_in i l
    show (eqV (.int ((k : Nat) : Int)) (.int (i : Int)) || inV (.int (i : Int)) (natL l)) = _
    rw [h]
    by_cases hk : i = k
    · subst hk
      simp [eqV]
    · have : ¬ ((k : Nat) : Int) = (i : Int) := by omega
      simp [eqV, hk, this]
theorem natL_at {l : List Nat} {i : Nat} {x : Nat} (h : l[i]? = some x) : atI (natL l) ((i : Nat) : Int) = some (V.int (x : Int)) := by
  refine atI_nat ?_
  unfold natL
  rw [List.getElem?_map, h]
  rfl
def nearI (B : Nat) (c : Nat → Nat) (s : Nat) (nx : Bool) : Int := if nx = true ∨ bor B c s = true then (bel B c s : Int) else (bel B c s : Int) - 1
def spNear : Sp := fun vs H Q _ => ∃ (old : Addr → Prop) (d g l : Addr) (gs : List Int) (rows : List R3) (cs : List Int) (B : Nat) (c : Nat → Nat) (L s : Nat) (nx : Bool), vs = [.ref d, .int (s : Int), .str (wayS nx)] ∧ HomeBy old H d g l B c L ∧ Cnt gs rows cs B c L ∧ ∀ H', Same H H' → Q (.int (nearI B c s nx)) H'
def spSpot : Sp := fun vs H Q _ => ∃ (old : Addr → Prop) (d g l : Addr) (gs : List Int) (rows : List R3) (cs : List Int) (B : Nat) (c : Nat → Nat) (L s : Nat), vs = [.ref d, .int ((bel B c s : Nat) : Int)] ∧ HomeBy old H d g l B c L ∧ Cnt gs rows cs B c L ∧ bor B c s = true ∧ ∀ H', Same H H' → Q (.int (s : Int)) H'
section
variable {P : Program} {w : World} {K : PySem.W.Frag} {mg : Str → Option Value} {base : Heap}
theorem ok_spot {f : Addr} {fd : FuncData} (F : Fun K "_law_spot" "_law_spot" s_law_spot f fd) (N : Names mg) : FnOk P w K mg base CX0 1 f fd ["_law_home", "_law_figure"] spSpot := by
  have sc := sc_law_spot
  refine F.ok sc (fun vs H Q E h => ?_) (fun cdv A outer s H vs Q E hr h => ?_)
  · obtain ⟨old, d, g, l, gs, rows, cs, B, c, L, x, rfl, _⟩ := h
    rfl
  · obtain ⟨old, d, g, l, gs, rows, cs, B, c, L, x, rfl, hh, ct, hbo, k⟩ := h
    have hu := hu_of hr
    refine ⟨_, (pss_cons (ps_asg (pe_callB call_divmod (by rfl) N.divmod (by decide +kernel) (pa_cons (pv 1) (pa_cons (pe_callB call_len_seq (by rfl) N.len (by decide +kernel) (pa_cons (pe_dget hu (pv 0) pe_str (fun _ _ => rfl)) pa_nil)) pa_nil))) (pg_tup rfl (pgs_cons (pg_name (i := 2) sc.nd rfl (Or.inl rfl)) (pgs_cons (pg_name (i := 3) sc.nd rfl (Or.inl rfl)) pgs_nil))))
      (pss_one (ps_ret (pe_op op_add (pe_op op_mul (pv 2) (pe_callB call_len_seq (by rfl) N.len (by decide +kernel) (pa_cons (pe_dget hu (pv 0) pe_str (fun _ _ => rfl)) pa_nil))) (pe_ix ix_list (pe_dget hu (pv 0) pe_str (fun _ _ => rfl)) (pv 3) (fun _ _ => rfl)))))), ?_⟩
    obtain ⟨n, sp, be, e1, e2, e3, _, _⟩ := id hh
    have hL := ct.hL
    have hB2 := ct.hB
    have hLB0 : 0 < L * B := Nat.mul_pos hL (by omega)
    have hLB : L * B ≤ 7200 * 60 := Nat.mul_le_mul ct.hL7 ct.hB6
    have hbl : ((List.range (L * B)).map (bel B c)).length = L * B := by rw [List.length_map, List.length_range]
    have hspl : ((List.range (L * B)).filter (bor B c)).length = sumC B c L := ct.belN
    have hpos := ct.pos
    have htop := ct.top
    obtain ⟨y, hy1, hy2⟩ := ct.spot hbo
    refine ⟨_, rfl, _, rfl, d, _, rfl, DGet.some (s := "spots") (v := .ref sp) e1 rfl, sp, _, rfl, .inl (SqL.lst e2), _, _, rfl, (by rw [natL_len, hspl]; exact ⟨by omega, by omega⟩), ?_⟩
    (intro q nq; generalize e_q : upd H q _ = H1; have s1 : Same H H1 := fun b x hb => (congrFun e_q b).symm.trans (same_new nq b x hb); have h1 := (congrFun e_q q).symm.trans upd_same; clear e_q)
    rw [natL_len, hspl, ← Int.natCast_ediv, ← Int.natCast_emod] at h1
    have e1' := s1 _ _ e1
    have e2' := s1 _ _ e2
    have e3' := s1 _ _ e3
    refine ⟨q, _, rfl, SqT.tup h1, rfl, _, _, rfl, _, _, rfl, rfl, ?_⟩
    refine ⟨_, rfl, _, rfl, d, _, rfl, DGet.some (s := "below") (v := .ref be) e1' rfl, be, _, rfl, .inl (SqL.lst e3'), _, _, rfl, rfl, .inr (by rw [natL_len, hbl]; exact ⟨by omega, by omega⟩), ?_⟩
    rw [natL_len, hbl]
    refine ⟨_, rfl, d, _, rfl, DGet.some (s := "spots") (v := .ref sp) e1' rfl, _, rfl, sp, _, _, _, rfl, rfl, SqL.lst e2', natL_at hy1, _, _, rfl, rfl, ?_⟩
    have kk := k H1 s1
    have e0 : ((bel B c x / sumC B c L : Nat) : Int) * ((L * B : Nat) : Int) + (y : Int) = (x : Int) := by
      rw [← Int.natCast_mul, ← Int.natCast_add, hy2]
    rw [← e0] at kk
    exact kk
end
end LM

set_option Elab.async false
set_option linter.all false
set_option maxRecDepth 100000
set_option maxHeartbeats 4000000
namespace LM
open PySem PySem.Spec PyProof.Rows L2
/-! ### zip of a list and a tuple, either way -/
def SqB (K : PySem.W.Frag) : Bool → Hp → Addr → List V → Prop
  | true => SqL K
  | false => SqT K
def ItB : Bool → Heap → Addr → Addr → Nat → Prop
  | true => Heap.IsListIter
  | false => Heap.IsTupleIter
def SeB : Bool → Heap → Addr → Array Value → Prop
  | true => Heap.IsList
  | false => Heap.IsTuple
def obB (b : Bool) (l : Addr) : Obj := { cls := .type (if b = true then "list_iterator" else "tuple_iterator"), data := .fields #[.ref l, .int 0 0] }
def ItzM (K : PySem.W.Frag) (m n : Bool) (a b : Addr) : It :=
  ⟨fun i H => ∃ (xs ys : List V), SqB K m H a xs ∧ SqB K n H b ys ∧ i < xs.length ∧ i < ys.length,
    fun i H v H' => ∃ T x y, v = .ref T ∧ H T = none ∧ H' = upd H T (.tup [x, y]) ∧ (∀ xs, SqB K m H a xs → xs[i]? = some x) ∧ ∀ ys, SqB K n H b ys → ys[i]? = some y,
    fun i H => ∃ xs ys : List V, SqB K m H a xs ∧ SqB K n H b ys ∧ i = min xs.length ys.length⟩
theorem drawsB {prog : Program} {w : World} {A : Around} (hh : A.handled = none) (m : Bool) (it l : Addr) (hne : l ≠ it) (items : Array Value) : Draws prog w A it [it, l] items.size (fun i v => items[i]? = some v) (fun i h => ItB m h it l i ∧ SeB m h l items) := by
  cases m with
  | true => exact Draws.list hh it l hne items
  | false => exact Draws.tuple hh it l hne items
theorem beginsB (m : Bool) (l : Addr) (items : Array Value) : Begins (.ref l) (obB m l) fun h => SeB m h l items := by
  cases m with
  | true => exact begins_list l items
  | false => exact begins_tuple l items
theorem itB_obj {m : Bool} {h : Heap} {it l : Addr} {i : Nat} (z : ItB m h it l i) : ∃ o, h.get? it = some o ∧ ∀ v, o.data ≠ .cell v := by
  cases m with
  | true =>
    obtain ⟨o, ho, hc, hd⟩ := z
    exact ⟨o, ho, fun v q => by rw [hd] at q; cases q⟩
  | false =>
    obtain ⟨o, ho, hc, hd⟩ := z
    exact ⟨o, ho, fun v q => by rw [hd] at q; cases q⟩
theorem itB_keep {m : Bool} {h h' : Heap} {it l : Addr} {i : Nat} (z : ItB m h it l i) (k : ∀ o, h.get? it = some o → h'.get? it = some o) : ItB m h' it l i := by
  cases m with
  | true => exact Heap.IsListIter.at z k
  | false => exact Heap.IsTupleIter.at z k
theorem itB_first {m : Bool} {h : Heap} {it l : Addr} (z : h.get? it = some (obB m l)) : ItB m h it l 0 := by
  cases m with
  | true => exact ⟨_, z, rfl, rfl⟩
  | false => exact ⟨_, z, rfl, rfl⟩
section
variable {X : Cx} {pins : List (Addr × Obj)} {σ : L2.St} {H : Hp} {s : Shared}
theorem sqB_get (I : Inv X pins σ H s) {m : Bool} {a : Addr} {xs : List V} (h : SqB X.K m H a xs) : ∃ its, Vals xs its ∧ SeB m s.heap a its.toArray ∧ a < s.heap.objs.size := by
  cases m with
  | true =>
    obtain ⟨its, rv, p, _⟩ := I.list h
    exact ⟨its, rv, p.isList, p.lt⟩
  | false =>
    obtain ⟨its, rv, p, _⟩ := I.tuple h
    obtain ⟨o, ho, _⟩ := id p
    exact ⟨its, rv, p, Heap.lt_size ho⟩
theorem sqB_inj (I : Inv X pins σ H s) {m : Bool} {a : Addr} {xs ys : List V} (h1 : SqB X.K m H a xs) (h2 : SqB X.K m H a ys) : xs = ys := by
  cases m with
  | true => exact I.list_inj h1 h2
  | false => exact I.tuple_inj h1 h2
end
theorem turn_zipM {P : Program} {w : World} {K : PySem.W.Frag} {elts : List Expr} {kk : Nat} {tpos : Pos} {m n : Bool} {a b z TI TO i1 i2 : Addr} (S : ZipSep2 z TI TO i1 i2 [i1, a] [i2, b]) (ha : a ≠ i1) (hb : b ≠ i2) :
    Turn P w K (.Tuple elts kk tpos) (ItzM K m n a b) [z, TI, TO, i1, i2] z (fun i h => IsZip h z TI TO .none ∧ IsTupOf2 h TI (.ref i1) (.ref i2) ∧ (∃ x y, IsTupOf2 h TO x y) ∧ ItB m h i1 a i ∧ ItB n h i2 b i) := by
  have objs : ∀ i h, (IsZip h z TI TO .none ∧ IsTupOf2 h TI (.ref i1) (.ref i2) ∧ (∃ x y, IsTupOf2 h TO x y) ∧ ItB m h i1 a i ∧ ItB n h i2 b i) → ∀ c ∈ [z, TI, TO, i1, i2], ∃ o, h.get? c = some o ∧ ∀ v, o.data ≠ .cell v := by
    rintro i h ⟨q1, q2, ⟨x, y, q3⟩, q4, q5⟩ c hc
    simp only [List.mem_cons, List.not_mem_nil, or_false] at hc
    rcases hc with rfl | rfl | rfl | rfl | rfl
    · exact ⟨_, q1, fun v q => nomatch q⟩
    · exact ⟨_, q2, fun v q => nomatch q⟩
    · exact ⟨_, q3, fun v q => nomatch q⟩
    · exact itB_obj q4
    · exact itB_obj q5
  refine ⟨by simp, objs, ?_, ?_, ?_, fun A i s Q E st h => wpAny_pyIter_zip st.1 h⟩
  · rintro i h h' ⟨q1, q2, ⟨x, y, q3⟩, q4, q5⟩ k
    exact ⟨k z (by simp) _ q1, k TI (by simp) _ q2, ⟨x, y, k TO (by simp) _ q3⟩, itB_keep q4 fun o q => k i1 (by simp) o q, itB_keep q5 fun o q => k i2 (by simp) o q⟩
  · intro X hP hw hK hc i pins s σ H E I hf st hg
    subst hP hw hK
    have ob := objs i s.heap st
    obtain ⟨q1, q2, q3, q4, q5⟩ := st
    obtain ⟨xs, ys, h1, h2, l1, l2⟩ := hg
    obtain ⟨its, rv, p, _⟩ := sqB_get I h1
    obtain ⟨jts, rw_, r, _⟩ := sqB_get I h2
    have W := GoesN.zip2 (elts := elts) (x1 := kk) (pos := tpos) S (drawsB (prog := X.prog) (w := X.w) (A := X.A.in1) (I.ok.hd hc) m i1 a ha its.toArray) (drawsB (prog := X.prog) (w := X.w) (A := X.A.in1) (I.ok.hd hc) n i2 b hb jts.toArray)
    have e1 := rv.length
    have e2 := rw_.length
    have g1 : xs[i]? = some xs[i] := List.getElem?_eq_getElem l1
    have g2 : ys[i]? = some ys[i] := List.getElem?_eq_getElem l2
    obtain ⟨u, hu, ru⟩ := rv.get g1
    obtain ⟨v, hv, rv2⟩ := rw_.get g2
    refine W.goes i s _ E (by simp; omega) ⟨q1, q2, q3, ⟨q4, p⟩, ⟨q5, r⟩⟩ fun y h' tk hy st' hk _ => ?_
    obtain ⟨T, x1, x2, rfl, hT, k1, k2, hp⟩ := hy
    obtain rfl : x1 = u := by
      have z1 : its[i]? = some x1 := by simpa using k1
      exact Option.some.inj (z1.symm.trans hu)
    obtain rfl : x2 = v := by
      have z1 : jts[i]? = some x2 := by simpa using k2
      exact Option.some.inj (z1.symm.trans hv)
    have new : ObjOk X.prog X.w (upd H T (.tup [xs[i], ys[i]])) h' T (.tup [xs[i], ys[i]]) := ⟨by show 2 ≤ sizeLine; decide, [x1, x2], .cons ru (.cons rv2 .nil), hp⟩
    have J : Inv X pins σ (upd H T (.tup [xs[i], ys[i]])) { s with heap := h', toks := tk } :=
      I.turnedNew (ch := [z, TI, TO, i1, i2]) (fun c o hc q => hk c o (fun hm => hc (by simp only [List.mem_cons, List.not_mem_nil, or_false] at hm ⊢; rcases hm with h | h | h | h <;> simp [h])) q) hf hT new
    refine ⟨.ref T, _, J, rfl, ⟨T, xs[i], ys[i], rfl, I.hok.fresh hT, rfl, fun zs hz => by rw [sqB_inj I hz h1]; exact g1, fun zs hz => by rw [sqB_inj I hz h2]; exact g2⟩, ⟨st'.1, st'.2.1, st'.2.2.1, st'.2.2.2.1.1, st'.2.2.2.2.1⟩, fun c hc => ?_⟩
    obtain ⟨o, ho, _⟩ := ob c hc
    have hlt := Heap.lt_size ho
    rw [upd_ne (Nat.ne_of_lt (Nat.lt_of_lt_of_le hlt hT))]
    exact (hf c hc).1
  · intro X hP hw hK hc i pins s σ H E I hf st hg
    subst hP hw hK
    obtain ⟨q1, q2, q3, q4, q5⟩ := st
    obtain ⟨xs, ys, h1, h2, he⟩ := hg
    obtain ⟨its, rv, p, _⟩ := sqB_get I h1
    obtain ⟨jts, rw_, r, _⟩ := sqB_get I h2
    have W := GoesN.zip2 (elts := elts) (x1 := kk) (pos := tpos) S (drawsB (prog := X.prog) (w := X.w) (A := X.A.in1) (I.ok.hd hc) m i1 a ha its.toArray) (drawsB (prog := X.prog) (w := X.w) (A := X.A.in1) (I.ok.hd hc) n i2 b hb jts.toArray)
    have e1 := rv.length
    have e2 := rw_.length
    have en : i = min its.toArray.size jts.toArray.size := by simp; omega
    refine W.stops s _ E ⟨q1, q2, q3, ⟨en ▸ q4, p⟩, ⟨en ▸ q5, r⟩⟩ fun h' tk hk _ => ?_
    exact I.turnedL (t' := tk) (ch := [z, TI, TO, i1, i2]) (fun c o hc q => hk c o (fun hm => hc (by simp only [List.mem_cons, List.not_mem_nil, or_false] at hm ⊢; rcases hm with h | h | h | h <;> simp [h])) q) hf
def iZipM (K : PySem.W.Frag) (m n : Bool) (ta : TA) : TI := fun σ H R => ta σ H fun vs H1 => ∃ a b xs ys, vs = [.ref a, .ref b] ∧ SqB K m H1 a xs ∧ SqB K n H1 b ys ∧ R (ItzM K m n a b) H1
theorem pi_zipM {X : Cx} {e e2 : Expr} {ta : TA} {p pos tpos : Pos} {elts : List Expr} {kk : Nat} (m n : Bool) (hg : Gl X "zip") (hm : X.mg "zip" = none) (ha : PA X [e, e2] ta)
    (hst : starEach [e, e2] X.env = (false, eval e X.env) :: starEach [e2] X.env := by rfl) (hpl : (backTo pos (starEach [e2] X.env)).any (·.1) = false := by rfl) : PI X (.Tuple elts kk tpos) (.Call (.Name "zip" p) [e, e2] [] pos) (iZipM X.K m n ta) := by
  refine ⟨fun pins s σ H R I h => Call_ (ld_blt I hg hm PyProof.Rows.boot_zip (PyProof.Rows.callWith_type1 (thn (ha.run pos pins s σ H _ I h) fun us s1 ⟨vs, H1, I1, r1, a, b, xs, ys, ev, h1, h2, q⟩ => ?_) hst hpl))⟩
  subst ev
  obtain ⟨u, v, rfl, ru, rv⟩ := vals2 r1
  obtain rfl : u = Value.ref a := ru
  obtain rfl : v = Value.ref b := rv
  obtain ⟨its, _, p1, lt1⟩ := sqB_get I1 h1
  obtain ⟨jts, _, p2, lt2⟩ := sqB_get I1 h2
  have hS : ZipSep2 (s1.heap.objs.size + 4) (s1.heap.objs.size + 2) (s1.heap.objs.size + 3) s1.heap.objs.size (s1.heap.objs.size + 1) [s1.heap.objs.size, a] [s1.heap.objs.size + 1, b] := zip_sep2 (fun c hc => by rw [List.mem_singleton.mp hc]; exact lt1) (fun c hc => by rw [List.mem_singleton.mp hc]; exact lt2)
  refine zip_begins2 (beginsB m a its.toArray) (beginsB n b jts.toArray) p1 p2 fun h' hz hTI hTO g1 g2 hsz hk => wpAny_pyIter_zip hz ?_
  refine ⟨s1.heap.objs.size + 4, [s1.heap.objs.size + 4, s1.heap.objs.size + 2, s1.heap.objs.size + 3, s1.heap.objs.size, s1.heap.objs.size + 1], _, _, H1, rfl, I1.kept (t' := s1.toks) hk, turn_zipM hS (Nat.ne_of_lt lt1) (Nat.ne_of_lt (Nat.lt_succ_of_lt lt2)), ⟨hz, hTI, ⟨_, _, hTO⟩, itB_first g1, itB_first g2⟩, fun c hc => ?_, q⟩
  have hle : s1.heap.objs.size ≤ c := by
    simp only [List.mem_cons, List.not_mem_nil, or_false] at hc
    rcases hc with h | h | h | h | h <;> rw [h] <;> first | exact Nat.le_refl _ | exact Nat.le_add_right _ _
  exact I1.fpOk hle (I1.hok.fresh hle)
theorem walk_zipM {K : PySem.W.Frag} {m n : Bool} {a b : Addr} {xs ys : List V} {k : Nat} (hk : k = min xs.length ys.length) : Walk (ItzM K m n a b) k (fun H => SqB K m H a xs ∧ SqB K n H b ys) (YPair (fun i => xs[i]?) (fun i => ys[i]?)) := by
  refine ⟨fun i _ hi ⟨q1, q2⟩ => ⟨xs, ys, q1, q2, by omega, by omega⟩, fun _ ⟨q1, q2⟩ => ⟨xs, ys, q1, q2, hk⟩, fun i H v H' _ ⟨q1, q2⟩ y => ?_⟩
  obtain ⟨T, x, z, h1, h2, h3, h4, h5⟩ := y
  exact ⟨T, x, z, h1, h2, h3, h4 xs q1, h5 ys q2⟩
end LM

set_option Elab.async false
set_option linter.all false
set_option maxRecDepth 100000
set_option maxHeartbeats 4000000
namespace LM
open PySem PySem.Spec PyProof.Rows L2
/-! ### own == and != beside any value -/
section
open Builtin
variable {prog : Program} {w : World} {A : Around} {E : Value → Shared → Prop} {s : Shared} {K : PySem.W.Frag} {x C L f : Addr} {h₀ : Heap} {m : Str → Option Value} {ox : Obj} {od : Option Obj} {b tb : Value}
theorem objNe_own {Q : Fin → Shared → Prop} (hu : A.units < cLine) (X : K.In s.heap) (I : PySem.W.InstAt s.heap x ox C od) (hs : PySem.W.findIn K (.ref C) "__eq__" = some (some (.ref f))) (hf : PySem.W.isFn K (.ref f) = true)
    (h : wpAny (model prog w) A (call (.ref f) [.ref x, b]) (fun v s' => ∃ r, v = .bool r ∧ Q (.done (.ret (.bool (!r)))) s') E s) : wpAny (model prog w) A (Builtin.«object.__ne__» ⟨[.ref x, b], []⟩) Q E s := by
  unfold Builtin.«object.__ne__»
  refine wpAny_bind (wpAny_pure ?_)
  refine wpAny_bind (wpAny_cRoomFor hu ?_)
  refine wpAny_bind (PySem.W.ifBound_K X I hs hf (wpAny_mono h (fun v s' ⟨r, ev, q⟩ => ?_) fun _ _ e => e))
  subst ev
  exact wpAny_bind (wpAny_truthy_bool (wpAny_pure q))
theorem ne_own {Q : Value → Shared → Prop} (hu : A.units + 1 < cLine) (Fx : Fr h₀ L s.heap m) (X₀ : K.In h₀) (I : PySem.W.InstAt s.heap x ox C od) (hb : PySem.W.Looks (model prog w) s.heap (typeOf b) tb) (hn : PySem.W.notFirst K C tb = true)
    (hne : PySem.W.findIn K (.ref C) "__ne__" = some (some (.builtin "object.__ne__"))) (hob : PySem.W.mroIn K C (.type "object") = some true) (hs : PySem.W.findIn K (.ref C) "__eq__" = some (some (.ref f))) (hf : PySem.W.isFn K (.ref f) = true)
    (h : wpAny (model prog w) A.in1 (call (.ref f) [.ref x, b]) (fun v s' => ∃ r, v = .bool r ∧ Q (.bool (!r)) s') E s) : wpAny (model prog w) A (richCompare .NotEq (.ref x) b) Q E s := by
  have X := X₀.keeps Fx.keep
  have one : wpAny (model prog w) A (tryCompare (.ref x) "__ne__" b) (fun r s' => ∃ v, r = some v ∧ Q v s') E s := by
    unfold tryCompare
    refine wpAny_bind ?_
    simp only [callSpecialIfBound?, bindSpecialIfBound?]
    refine wpAny_holding (wpAny_bind (wpAny_bind (wpAny_bind (I.type.here ((PySem.W.looks_findIn X hne).here ?_)))))
    have hbind := PySem.F.slot_object_ne.bind
    simp only [hbind]
    refine wpAny_bind (wpAny_askSetting (wpAny_ite ?_))
    have fin : wpAny (model prog w) A (call (.builtin "object.__ne__") ([.ref x] ++ [b]) >>= fun v => pure (some v)) (fun r s' => wpAny (model prog w) A (match r with | some .notImplemented | none => pure none | some v => pure (some v)) (fun r s' => ∃ v, r = some v ∧ Q v s') E s') E s := by
      refine wpAny_bind (wpAny_call (codeAny_call_builtin PySem.F.slot_object_ne.plain PySem.F.cmpEntry_ne (@PySem.W.check_slot (model prog w) _ _ s "object.__ne__" "object" "__ne__" (.ref x) [b] [] _ PySem.F.cmpKind_ne PySem.F.cmpSplit_ne (I.type.andThen (PySem.W.looks_mroIn X hob)) (PySem.F.cmpArgs_ne _ _) (objNe_own (A := A.in1) (Nat.lt_of_succ_lt hu |> fun z => by show A.units + 1 < cLine; exact hu) X I hs hf (wpAny_mono h (fun v s' ⟨r, ev, q⟩ => ⟨r, ev, ?_⟩) fun _ _ e => e)))))
      exact wpAny_pure (wpAny_pure ⟨_, rfl, q⟩)
    split
    · exact wpAny_bind (wpAny_pure (wpAny_pure fin))
    · exact wpAny_tryCatch (wpAny_bind (wpAny_pure (wpAny_pure fin)))
  unfold richCompare
  simp only [oneThing_ref]
  refine wpAny_holding (wpAny_bind (wpAny_cRoomFor (Nat.lt_of_succ_lt hu) ?_))
  refine wpAny_bind (I.type.here (wpAny_bind (hb.here ?_)))
  have fin2 : wpAny (model prog w) A (tryCompare (.ref x) "__ne__" b) (fun r s' => ∃ v, r = some v ∧ Q v s') E s := one
  split
  · rename_i q
    have e : PySem.W.subIn K tb (.ref C) = some false := (Bool.or_eq_true_iff.mp hn).elim (fun e => by rw [beq_iff_eq.mp e] at q; simp at q) fun e => beq_iff_eq.mp e
    refine wpAny_bind ((PySem.W.looks_subIn X e).here ?_)
    simp only [Bool.false_eq_true, if_false]
    exact wpAny_bind (wpAny_mono fin2 (fun r s' ⟨v, ev, hq⟩ => by subst ev; exact wpAny_pure hq) fun _ _ e => e)
  · refine wpAny_bind (wpAny_pure ?_)
    simp only [Bool.false_eq_true, if_false]
    exact wpAny_bind (wpAny_mono fin2 (fun r s' ⟨v, ev, hq⟩ => by subst ev; exact wpAny_pure hq) fun _ _ e => e)
end

/-- the class's own == at f, its != that of object -/
structure OwnE (K : PySem.W.Frag) (C f : Addr) : Prop where
  eq : PySem.W.findIn K (.ref C) "__eq__" = some (some (.ref f))
  fn : PySem.W.isFn K (.ref f) = true
  ne : PySem.W.findIn K (.ref C) "__ne__" = some (some (.builtin "object.__ne__"))
  ob : PySem.W.mroIn K C (.type "object") = some true
/-- an instance beside any value: what the own == promises, ng: turned about -/
def rEqO (K : PySem.W.Frag) (C : Addr) (sp : Sp) (E : XK) (ng : Bool) : R2 := fun x y H Q => ∃ a dx fs t, x = .ref a ∧ H a = some (.ins C dx fs) ∧ TyX K H y t ∧ PySem.W.notFirst K C t = true ∧ sp [.ref a, y] H (fun v H' => ∃ r, v = .bl r ∧ Q (.bl (if ng = true then !r else r)) H') E
section
variable {X : Cx} {CX : CXT} {k : Nat} {C f : Addr} {fd : FuncData} {ps : List Str} {sp : Sp} {E : XK}
theorem ty_looks {pins : List (Addr × Obj)} {σ : L2.St} {H : Hp} {s : Shared} {x : V} {u t : Value} (I : Inv X pins σ H s) (rx : RelV x u) (ty : TyX X.K H x t) : PySem.W.Looks (model X.prog X.w) s.heap (typeOf u) t := by
  obtain ⟨Pp, Z, hp, _⟩ := L2.kit_of I rx ty
  exact Z.ty _ _ I.kIn hp
theorem op_eqO (O : OwnE X.K C f) (F : FnOk X.prog X.w X.K X.mg X.base CX k f fd ps sp) (hr : Room k X.A) (hb : Binds X.K fd ps []) (hx : Passes CX X E) : OpR X (compareOp .Eq) (rEqO X.K C sp E false) := by
  intro pins s σ H x y v u Q I rx ry ⟨a, dx, fs, t, ex, ea, ty, nf, h⟩
  subst ex
  obtain rfl : v = Value.ref a := rx
  obtain ⟨mA, J, _⟩ := ins_get I.hok ea
  obtain ⟨od, J, _⟩ := J.look
  obtain ⟨m, hF⟩ := I.fr
  show wpAny (model X.prog X.w) X.A (richCompare .Eq (.ref a) u) (EP X pins σ Q) X.xe s
  refine PySem.W.cmp_K (op := .Eq) hr.units0 hF I.ok.mod.kin J (ty_looks I ry ty) nf O.eq O.fn ?_
  refine wpAny_mono (run_fn (us := [.ref a, u]) (vs := [.ref a, y]) F hr hb .nil hx I (.cons rfl (.cons ry .nil)) h) (fun w s' hq => ?_) fun _ _ z => z
  obtain ⟨v', H', I', rw_, r, er, q⟩ := hq
  subst er
  obtain rfl : w = Value.bool r := rw_
  exact ⟨.bl r, H', I', rfl, q⟩
theorem op_neO (O : OwnE X.K C f) (F : FnOk X.prog X.w X.K X.mg X.base CX k f fd ps sp) (hr : Room (k + 1) X.A) (hb : Binds X.K fd ps []) (hx : Passes CX X.nox E) : OpR X (compareOp .NotEq) (rEqO X.K C sp E true) := by
  intro pins s σ H x y v u Q I rx ry ⟨a, dx, fs, t, ex, ea, ty, nf, h⟩
  subst ex
  obtain rfl : v = Value.ref a := rx
  obtain ⟨mA, J, _⟩ := ins_get I.hok ea
  obtain ⟨od, J, _⟩ := J.look
  obtain ⟨m, hF⟩ := I.fr
  show wpAny (model X.prog X.w) X.A (richCompare .NotEq (.ref a) u) (EP X pins σ Q) X.xe s
  refine ne_own (hu_of hr) hF I.ok.mod.kin J (ty_looks I ry ty) nf O.ne O.ob O.eq O.fn ?_
  have hl := F.len _ _ _ _ h
  refine wpAny_call (codeAny_mono (F.run X.A.in1 X.stack s H ⟨[.ref a, u], []⟩ [.ref a, u] [.ref a, y] _ E hr.in1 I.env0.in1 (by
    have := hb s [.ref a, u] I.kIn (by simpa using hl)
    simpa using this) (.cons rfl (.cons ry .nil)) h) fun r s' hq => ?_)
  cases r with
  | error er => exact False.elim (hx pins σ H s er s' (I.wish _) hq)
  | ok fl =>
    cases fl with
    | ret w =>
      obtain ⟨v', H', I', rw_, r, er, q⟩ := I.after hq
      subst er
      obtain rfl : w = Value.bool r := rw_
      exact ⟨r, rfl, .bl (!r), H', I', rfl, q⟩
    | next => exact False.elim hq
    | brk => exact False.elim hq
    | cont => exact False.elim hq
end

/-! ### str, repr and bool of an instance -/
section
variable {X : Cx} {CX : CXT} {k : Nat} {C f : Addr} {fd : FuncData} {ps : List Str} {sp : Sp} {E : XK}
def rStrO (C : Addr) (sp : Sp) (E : XK) : List V → Hp → VK → Prop := fun xs H Q => ∃ a dx fs, xs = [.ref a] ∧ H a = some (.ins C dx fs) ∧ sp [.ref a] H (fun v H' => ∃ z, v = .str z ∧ Q (.str z) H') E
theorem call_strO (hs : PySem.W.findIn X.K (.ref C) "__str__" = some (some (.ref f))) (hf : PySem.W.isFn X.K (.ref f) = true) (F : FnOk X.prog X.w X.K X.mg X.base CX k f fd ps sp) (hr : Room (k + 2) X.A) (hb : Binds X.K fd ps []) (hx : Passes CX X.nox E) : CallR X (.type "str") (rStrO C sp E) := by
  intro pins s σ H xs us Q I va ⟨a, dx, fs, ex, ea, h⟩
  subst ex
  obtain ⟨u, rfl, ru⟩ := vals1 va
  obtain rfl : u = Value.ref a := ru
  obtain ⟨mA, J, _⟩ := ins_get I.hok ea
  obtain ⟨od, J, _⟩ := J.look
  have hl := F.len _ _ _ _ h
  refine PySem.W.kso_call (by have := hu_of hr; have := hr.in1.in1.units0; exact this) I.kIn J hs hf ?_
  refine wpAny_call (codeAny_mono (F.run X.A.in1.in1 X.stack s H ⟨[.ref a], []⟩ [.ref a] [.ref a] _ E hr.in1.in1 I.env0.in1.in1 (by
    have := hb s [.ref a] I.kIn (by simpa using hl)
    simpa using this) (.cons rfl .nil) h) fun r s' hq => ?_)
  cases r with
  | error er => exact False.elim (hx pins σ H s er s' (I.wish _) hq)
  | ok fl =>
    cases fl with
    | ret w =>
      obtain ⟨v', H', I', rw_, z, er, q⟩ := I.after hq
      subst er
      obtain ⟨t, rfl⟩ := rw_
      exact ⟨.str z, H', I', ⟨t, rfl⟩, q⟩
    | next => exact False.elim hq
    | brk => exact False.elim hq
    | cont => exact False.elim hq
theorem call_reprO (hs : PySem.W.findIn X.K (.ref C) "__repr__" = some (some (.ref f))) (hf : PySem.W.isFn X.K (.ref f) = true) (F : FnOk X.prog X.w X.K X.mg X.base CX k f fd ps sp) (hr : Room (k + 1) X.A) (hb : Binds X.K fd ps []) (hx : Passes CX X.nox E) : CallR X (.builtin "repr") (rStrO C sp E) := by
  intro pins s σ H xs us Q I va ⟨a, dx, fs, ex, ea, h⟩
  subst ex
  obtain ⟨u, rfl, ru⟩ := vals1 va
  obtain rfl : u = Value.ref a := ru
  obtain ⟨mA, J, _⟩ := ins_get I.hok ea
  obtain ⟨od, J, _⟩ := J.look
  obtain ⟨m, hF⟩ := I.fr
  have hl := F.len _ _ _ _ h
  refine PySem.W.repr_K hr.in1.units0 hF I.ok.mod.kin J hs hf ?_
  refine wpAny_call (codeAny_mono (F.run X.A.in1 X.stack s H ⟨[.ref a], []⟩ [.ref a] [.ref a] _ E hr.in1 I.env0.in1 (by
    have := hb s [.ref a] I.kIn (by simpa using hl)
    simpa using this) (.cons rfl .nil) h) fun r s' hq => ?_)
  cases r with
  | error er => exact False.elim (hx pins σ H s er s' (I.wish _) hq)
  | ok fl =>
    cases fl with
    | ret w =>
      obtain ⟨v', H', I', rw_, z, er, q⟩ := I.after hq
      subst er
      obtain ⟨t, rfl⟩ := rw_
      exact ⟨.str z, H', I', ⟨t, rfl⟩, q⟩
    | next => exact False.elim hq
    | brk => exact False.elim hq
    | cont => exact False.elim hq
end
/-! ### first, *others = a list -/
section
variable {X : Cx}
theorem pgs_star {e : Expr} {es : List Expr} {p : Pos} {t : TG} {u : TGs} (h1 : PG X e t) (h2 : PGs X es u) (hs : (assignEach (.Starred e p :: es) X.env).map (·.2) = assign e X.env :: (assignEach es X.env).map (·.2) := by rfl) : PGs X (.Starred e p :: es) (gCons t u) := by
  refine ⟨fun pins s σ H vs us Q I r ⟨v, vr, e1, h⟩ => ?_⟩
  subst e1
  cases r with
  | cons r rr =>
    rw [hs]
    refine assignInOrder_cons (thn (h1.run pins s σ H _ _ _ I r h) fun _ s1 ⟨σ1, H1, I1, q1⟩ => ?_)
    exact h2.run pins s1 σ1 H1 vr _ Q I1 rr q1
/-- a list's first item, and a new list of the others -/
def gStar1 (K : PySem.W.Frag) (t : TGs) : TG := fun v σ H Q => ∃ a x xs, v = .ref a ∧ SqL K H a (x :: xs) ∧ ∀ D, H D = none → t [x, .ref D] σ (upd H D (.lst xs)) Q
theorem pg_star1 {es : List Expr} {k : Nat} {pos : Pos} {t : TGs} (hc : X.calm = true) (h : PGs X es t) (hn : (assignEach es X.env).length = 2 := by rfl) (hst : (assignEach es X.env).findIdx? (·.1) = some 1 := by rfl) : PG X (.Tuple es k pos) (gStar1 X.K t) := by
  refine ⟨fun pins s σ H v u Q I r ⟨a, x, xs, e1, hq, hw⟩ => ?_⟩
  subst e1
  obtain rfl : u = Value.ref a := r
  obtain ⟨its, rv, pl, hz⟩ := I.list hq
  cases rv with
  | @cons _ y _ ys ry rys =>
  have hl := pl.isList
  have hlt : a ≠ s.heap.objs.size := Nat.ne_of_lt pl.lt
  have hh : X.A.handled = none := I.ok.hd hc
  rw [PyProof.Rows.assign_Tuple]
  refine wpAny_bind (wpAny_standAt ?_)
  unfold unpack
  rw [hn, hst]
  refine wpAny_bind (wpAny_holding ?_)
  unfold unpackItems notIterableAtAll
  refine wpAny_bind (wpAny_bind (wpAny_specialOf hl.typeIs PySem.F.slot_list_iter.lookup (wpAny_pure ?_)))
  simp only [Bool.false_eq_true, if_false]
  refine wpAny_bind (wpAny_holding (wpAny_pyIter_list hl ?_))
  refine wpAny_bind (wpAny_holding (PySem.W.kun_draw hlt 1 0 _ _ ⟨_, Heap.get?_push_size _ rfl, rfl, rfl⟩ (hl.push _) (by simp) fun h1 hit1 hs1 => ?_))
  have hl1 : h1.IsList a (y :: ys).toArray := (hl.push _).extBut hs1.extBut hlt
  obtain ⟨oi, hoi, _⟩ := id hit1
  obtain ⟨ol, hol, _⟩ := id hl1
  have hsz : (y :: ys).toArray.size ≤ sizeLine := by
    have e := rys.length
    simp only [List.size_toArray, List.length_cons] at hz ⊢
    omega
  show wpAny _ _ (if ([y] : List Value).length < 1 then _ else _) _ _ _
  rw [if_neg (by simp)]
  refine wpAny_bind (wpAny_holding (PySem.W.kun_collect (s := { s with heap := h1 }) (T := "list_iterator") (.inr (.inr (.inl rfl))) (Walks.list (A := X.A.in1) hh s.heap.objs.size a hlt (y :: ys).toArray) (fun j u st => st.1.typeIs) (k := 1) (by simp) ⟨hit1, hl1⟩ (Heap.lt_size hoi) (Heap.lt_size hol) (fun h2 tk hk => ?_) hsz))
  show wpAny _ _ (if ys.length < 0 then _ else _) _ _ _
  rw [if_neg (Nat.not_lt_zero _)]
  show wpAny _ _ (newList (ys.take (ys.length - 0)) >>= fun d => pure ([y] ++ [d] ++ ys.drop (ys.length - 0))) _ _ _
  rw [Nat.sub_zero, List.take_length, List.drop_length]
  have hk2 : ∀ b o, s.heap.get? b = some o → h2.get? b = some o := fun b o e => by
    have hb : b ≠ s.heap.objs.size := Nat.ne_of_lt (Heap.lt_size e)
    exact hk b o hb (hs1.extBut b o hb (Heap.get?_push_of_some _ e))
  have I2 : Inv X pins σ H { s with heap := h2, toks := tk } := I.kept (t' := tk) hk2
  refine wpAny_bind (wpAny_newList (s := { s with heap := h2, toks := tk }) ?_ (by simp only [List.size_toArray, List.length_cons] at hsz; omega))
  refine wpAny_pure ?_
  have hsz' : ys.length ≤ sizeLine := by simp only [List.size_toArray, List.length_cons] at hsz; omega
  have hxs : xs.length ≤ sizeLine := by rw [rys.length]; exact hsz'
  have kk : ∀ b u, h2.get? b = some u → (h2.push { cls := .type "list", data := .seq ys.toArray }).get? b = some u := fun b u e => Heap.get?_push_of_some _ e
  have I3 := I2.laid (t' := tk) kk (Nat.le_refl _) (show ObjOk X.prog X.w (upd H _ (.lst xs)) _ _ (.lst xs) from ⟨hxs, ys, 0, rys, Heap.get?_push_size _ rfl⟩)
  exact thn (h.run pins _ σ _ [x, .ref h2.objs.size] [y, .ref h2.objs.size] Q I3 (.cons ry (.cons rfl .nil)) (hw _ (I2.hok.fresh (Nat.le_refl _)))) fun _ s' hh => hh
end

/-! ### bool of an instance without __bool__ and __len__ -/
section
variable {prog : Program} {w : World} {A : Around} {E : Value → Shared → Prop} {s : Shared}
theorem meets_bool_ref (x : Addr) : MeetsIn prog w (Builtin.«bool.__new__» ⟨[.type "bool", .ref x], []⟩) (fun A R s => (∀ (Q : Bool → Shared → Prop) (E : Value → Shared → Prop), Q true s → wpAny (model prog w) A.in1 (truthy (.ref x)) Q E s) ∧ R (.ok (.ret (.bool true))) s) :=
  .of_wp fun A R s hs => by
    obtain ⟨hl, hs⟩ := hs
    obtain ⟨hp, g, d, tk, os⟩ := s
    have f1 := F.conv_sub_bool
    repeat (any_goals (first | assumption | (with_reducible refine hl _ _ ?_) | wp_step))
    all_goals first | exact ⟨_, rfl, hs⟩ | exact hs | skip
theorem call_bool_ref {x : Addr} {Q : Value → Shared → Prop} (hl : ∀ (Q : Bool → Shared → Prop) (E : Value → Shared → Prop), Q true s → wpAny (model prog w) A.in1.in1 (truthy (.ref x)) Q E s) (h : Q (.bool true) s) : wpAny (model prog w) A (call (.type "bool") [.ref x]) Q E s :=
  callType_newIn F.called_bool F.newNe_bool (F.typeCall_bool_1 (.ref x)) (F.newCall_bool_1 (.ref x)) (fun obj => F.args_object_init_2 obj (.ref x)) F.entry_bool_new (meets_bool_ref x) ⟨hl, rfl, h⟩
end
section
variable {X : Cx} {CX : CXT} {k : Nat} {C f : Addr} {fd : FuncData} {ps : List Str} {sp : Sp} {E : XK}
theorem call_boolO (hs : PySem.W.findIn X.K (.ref C) "__bool__" = some none) (hl : PySem.W.findIn X.K (.ref C) "__len__" = some none) : CallR X (.type "bool") (fun xs H Q => ∃ a dx fs, xs = [.ref a] ∧ H a = some (.ins C dx fs) ∧ Q (.bl true) H) := by
  intro pins s σ H xs us Q I va ⟨a, dx, fs, ex, ea, h⟩
  subst ex
  obtain ⟨u, rfl, ru⟩ := vals1 va
  obtain rfl : u = Value.ref a := ru
  obtain ⟨mA, J, _⟩ := ins_get I.hok ea
  obtain ⟨od, J, _⟩ := J.look
  obtain ⟨m, hF⟩ := I.fr
  exact call_bool_ref (fun Q E h => PySem.W.truthy_K0 hF I.ok.mod.kin J hs hl h) ⟨.bl true, H, I, rfl, h⟩
/-- x(..), x a local name that holds the class at C -/
def tMakeV (i : Nat) (C : Addr) (sp : Sp) (dvs : List V) (E : XK) (t : TA) : TE := fun σ H Q => σ[i]? = some (some (.ref C)) ∧ tMake C sp dvs E t σ H Q
theorem pe_makeV {x : Str} {i : Nat} {ds : List Value} {dvs : List V} {e : Expr} {es : List Expr} {t : TA} {p pos : Pos} (M : Mk X.K C f) (F : FnOk X.prog X.w X.K X.mg X.base CX k f fd ps sp) (hr : Room (k + 1) X.A) (hN : X.N[i]? = some x) (hv : Vis X.env.scope x) (hb : Binds X.K fd ps ds) (hd : Vals dvs ds) (hx : Passes CX X E) (ha : PA X (e :: es) t)
    (hdb : (x == ("__debug__" : Str)) = false := by decide) (hcd : (x == ("__classdict__" : Str)) = false := by decide)
    (he : starEach (e :: es) X.env = (false, eval e X.env) :: starEach es X.env := by rfl) (hpl : (backTo pos (starEach es X.env)).any (·.1) = false := by rfl) : PE X (.Call (.Name x p) (e :: es) [] pos) (tMakeV i C sp dvs E t) := by
  refine ⟨fun pins s σ H Q I h => ?_⟩
  obtain ⟨hs, ht⟩ := h
  refine wpAny_Call_Name_kw (thn ((pe_var (pos := p) hN hv hdb hcd).run pins s σ H (fun v H1 => v = .ref C ∧ H1 = H) I ⟨.ref C, hs, rfl, rfl⟩) fun u s1 ⟨v, H1, I1, r1, q1⟩ => ?_)
  obtain ⟨rfl, rfl⟩ := q1
  cases r1
  refine PySem.W.callWith_K (h₀ := X.base) I.ok.mod.kin M.kp (thn (ha.run pos pins s1 σ _ _ I1 ht) fun us s2 ⟨vs, H2, I2, r, q⟩ => ⟨I2.kIn, ?_⟩) he hpl
  exact run_make M F hr hb hd hx I2 r q
end
/-! ### values of other kinds beside an instance -/
/-- a value that is no instance of the class at C, nor of a class below it -/
structure Alien (K : PySem.W.Frag) (C : Addr) (H : Hp) (y : V) : Prop where
  ty : ∃ t, TyX K H y t ∧ PySem.W.notFirst K C t = true ∧ PySem.W.kitOne K t (.ref C) = some false
/-- what of the text the kinds of values ask, for the class at C -/
structure Other (K : PySem.W.Frag) (C : Addr) : Prop where
  own1 : PySem.W.notFirst K C (.ref C) = true
  own2 : PySem.W.kitOne K (.ref C) (.ref C) = some true
  str1 : PySem.W.notFirst K C (.type "str") = true
  str2 : PySem.W.kitOne K (.type "str") (.ref C) = some false
  int1 : PySem.W.notFirst K C (.type "int") = true
  int2 : PySem.W.kitOne K (.type "int") (.ref C) = some false
  non1 : PySem.W.notFirst K C (.type "NoneType") = true
  non2 : PySem.W.kitOne K (.type "NoneType") (.ref C) = some false
  lst1 : PySem.W.notFirst K C (.type "list") = true
  lst2 : PySem.W.kitOne K (.type "list") (.ref C) = some false
  tup1 : PySem.W.notFirst K C (.type "tuple") = true
  tup2 : PySem.W.kitOne K (.type "tuple") (.ref C) = some false
  dic1 : PySem.W.notFirst K C (.type "dict") = true
  dic2 : PySem.W.kitOne K (.type "dict") (.ref C) = some false
section
variable {K : PySem.W.Frag} {C : Addr} {H : Hp}
theorem Other.str (o : Other K C) (x : Str) : Alien K C H (.str x) := ⟨_, .base (.str _), o.str1, o.str2⟩
theorem Other.int (o : Other K C) (x : Int) : Alien K C H (.int x) := ⟨_, .base (.int _), o.int1, o.int2⟩
theorem Other.non (o : Other K C) : Alien K C H .non := ⟨_, .base .non, o.non1, o.non2⟩
theorem Other.lst (o : Other K C) {a : Addr} {xs : List V} (h : H a = some (.lst xs)) : Alien K C H (.ref a) := ⟨_, .base (.lst h), o.lst1, o.lst2⟩
theorem Other.dic (o : Other K C) {a : Addr} {xs : List (Key × V)} (h : H a = some (.dK xs)) : Alien K C H (.ref a) := ⟨_, .base (.dK h), o.dic1, o.dic2⟩
end
/-- what isinstance asks of an instance of the class at C itself -/
structure OwnT (K : PySem.W.Frag) (C : Addr) : Prop where
  ha : PySem.W.findIn K (.ref C) "__class__" = some (some (.builtin "object.__class__"))
  hn : PySem.W.specialIn K (.builtin "object.__class__") "__get__" = some (some (.builtin "getset_descriptor.__get__"))
  htk : PySem.W.takesIn K (.builtin "object.__class__") = some true
  hm : PySem.W.mroIn K C (.type "object") = some true
theorem OwnT.ty {K : PySem.W.Frag} {C : Addr} {H : Hp} {a dx : Addr} {fs : List (Str × V)} (o : OwnT K C) (cl : Cls K C) (e : H a = some (.ins C dx fs)) : TyX K H (.ref a) (.ref C) := .base (.ins e cl o.ha o.hn o.htk o.hm)
end LM

set_option Elab.async false
set_option linter.all false
set_option maxRecDepth 100000
set_option maxHeartbeats 4000000
namespace LM
open PySem PySem.Spec PyProof.Rows L2
theorem dig_acc : ∀ (l : List Int) (q : Int) (acc : List Int), l.foldl digStep (q, acc) = ((l.foldl digStep (q, [])).1, (l.foldl digStep (q, [])).2 ++ acc)
  | [], q, acc => rfl
  | b :: l, q, acc => by
    rw [List.foldl_cons, List.foldl_cons]
    show l.foldl digStep (q / b, q % b :: acc) = ((l.foldl digStep (q / b, [q % b])).1, (l.foldl digStep (q / b, [q % b])).2 ++ acc)
    rw [dig_acc l (q / b) (q % b :: acc), dig_acc l (q / b) [q % b], List.append_assoc]
    rfl
theorem labelP_nil (p : Int) : labelP [] p = [p] := rfl
theorem labelP_snoc (bs : List Int) (b p : Int) : labelP (bs ++ [b]) p = labelP bs (p / b) ++ [p % b] := by
  unfold labelP
  rw [List.reverse_append, List.reverse_singleton, List.singleton_append, List.foldl_cons]
  show (bs.reverse.foldl digStep (p / b, [p % b])).1 :: (bs.reverse.foldl digStep (p / b, [p % b])).2 = _
  rw [dig_acc]
  rfl
theorem snoc_of {α : Type} : ∀ (l : List α), l = [] ∨ ∃ r x, l = r ++ [x]
  | [] => .inl rfl
  | x :: l => .inr ⟨(x :: l).dropLast, (x :: l).getLast (List.cons_ne_nil _ _), (List.dropLast_concat_getLast _).symm⟩
theorem snoc_ind {α : Type} {P : List α → Prop} (h0 : P []) (h1 : ∀ l x, P l → P (l ++ [x])) (l : List α) : P l := by
  rw [← List.reverse_reverse l]
  induction l.reverse with
  | nil => exact h0
  | cons x r ih =>
    rw [List.reverse_cons]
    exact h1 _ _ ih
theorem labelP_len (bs : List Int) (p : Int) : (labelP bs p).length = bs.length + 1 := by
  induction bs using snoc_ind generalizing p with
  | h0 => rfl
  | h1 l x ih => rw [labelP_snoc, List.length_append, ih, List.length_append]; rfl
/-- the place of a label -/
def placeOf (bs ds : List Int) : Int := (bs.zip ds.tail).foldl (fun a p => a * p.1 + p.2) (ds.headD 0)
/-- whether these are the numbers of a label -/
def boundL (bs ds : List Int) : List Bool := (bs.zip ds.tail).map fun p => decide (0 ≤ p.2) && decide (p.2 ≤ p.1 - 1)
def labelB (bs ds : List Int) : Bool := decide (ds.length = bs.length + 1) && (decide (0 ≤ ds.headD 0) && (boundL bs ds).all id)
theorem zip_snoc {bs ds : List Int} {b d : Int} (h : ds.length = bs.length + 1) : (bs ++ [b]).zip (ds ++ [d]).tail = bs.zip ds.tail ++ [(b, d)] := by
  cases ds with
  | nil => simp at h
  | cons x ds =>
    show (bs ++ [b]).zip (ds ++ [d]) = bs.zip ds ++ [(b, d)]
    rw [List.zip_append (by simpa using h.symm)]
    rfl
theorem headD_snoc {ds : List Int} {d : Int} (h : 1 ≤ ds.length) : (ds ++ [d]).headD 0 = ds.headD 0 := by
  cases ds with
  | nil => simp at h
  | cons x ds => rfl
theorem placeOf_snoc {bs ds : List Int} {b d : Int} (h : ds.length = bs.length + 1) : placeOf (bs ++ [b]) (ds ++ [d]) = placeOf bs ds * b + d := by
  unfold placeOf
  rw [zip_snoc h, headD_snoc (by omega), List.foldl_append]
  rfl
theorem labelB_snoc {bs ds : List Int} {b d : Int} (h : ds.length = bs.length + 1) : labelB (bs ++ [b]) (ds ++ [d]) = (labelB bs ds && (decide (0 ≤ d) && decide (d ≤ b - 1))) := by
  unfold labelB boundL
  rw [zip_snoc h, headD_snoc (by omega), List.map_append, List.all_append, List.length_append, List.length_append, h]
  simp [Bool.and_assoc]
theorem place_label (bs : List Int) (p : Int) (hb : ∀ x ∈ bs, 2 ≤ x) : placeOf bs (labelP bs p) = p := by
  induction bs using snoc_ind generalizing p with
  | h0 => rfl
  | h1 l x ih =>
    rw [labelP_snoc, placeOf_snoc (labelP_len _ _), ih _ fun y hy => hb y (List.mem_append_left _ hy), Int.mul_comm]
    exact Int.mul_ediv_add_emod _ _
theorem label_ok (bs : List Int) (p : Int) (hb : ∀ x ∈ bs, 2 ≤ x) (hp : 0 ≤ p) : labelB bs (labelP bs p) = true := by
  induction bs using snoc_ind generalizing p with
  | h0 =>
    show (decide (1 = 0 + 1) && (decide (0 ≤ p) && true)) = true
    rw [decide_eq_true hp]
    rfl
  | h1 l x ih =>
    have hx := hb x (by simp)
    have h1 := Int.emod_nonneg p (show x ≠ 0 by omega)
    have h2 := Int.emod_lt_of_pos p (show 0 < x by omega)
    rw [labelP_snoc, labelB_snoc (labelP_len _ _), ih _ (fun y hy => hb y (List.mem_append_left _ hy)) (Int.ediv_nonneg hp (by omega)), decide_eq_true h1, decide_eq_true (show p % x ≤ x - 1 by omega)]
    rfl
theorem labelB_len {bs ds : List Int} (h : labelB bs ds = true) : ds.length = bs.length + 1 := by
  unfold labelB at h
  rw [Bool.and_eq_true] at h
  exact of_decide_eq_true h.1
theorem label_place (bs : List Int) : ∀ (ds : List Int), labelB bs ds = true → (∀ x ∈ bs, 2 ≤ x) → labelP bs (placeOf bs ds) = ds := by
  induction bs using snoc_ind with
  | h0 =>
    intro ds h _
    have hl := labelB_len h
    match ds, hl with
    | [d], _ => rfl
  | h1 l x ih =>
    intro ds h hb
    have hl := labelB_len h
    rcases snoc_of ds with rfl | ⟨r, d, rfl⟩
    · simp at hl
    · have hr : r.length = l.length + 1 := by simpa using hl
      rw [labelB_snoc hr, Bool.and_eq_true, Bool.and_eq_true] at h
      obtain ⟨h1, h2, h3⟩ := h
      have h2 := of_decide_eq_true h2
      have h3 := of_decide_eq_true h3
      have hx := hb x (by simp)
      have e1 : (placeOf l r * x + d) / x = placeOf l r := by
        rw [Int.add_comm, Int.add_mul_ediv_right _ _ (by omega), Int.ediv_eq_zero_of_lt h2 (by omega), Int.zero_add]
      have e2 : (placeOf l r * x + d) % x = d := by
        rw [Int.add_comm, Int.add_mul_emod_self_right, Int.emod_eq_of_lt h2 (by omega)]
      rw [placeOf_snoc hr, labelP_snoc, e1, e2, ih r h1 fun y hy => hb y (List.mem_append_left _ hy)]
/-- the number of a label's group -/
def groupOf (bs ds : List Int) : Int := (bs.dropLast.zip ds.tail).foldl (fun a p => a * p.1 + p.2) (ds.headD 0)
theorem group_label (bs : List Int) (p : Int) (hb : ∀ x ∈ bs, 2 ≤ x) (h : 1 ≤ bs.length) : groupOf bs (labelP bs p) = p / bs.getLastD 1 ∧ ∃ r, labelP bs p = r ++ [p % bs.getLastD 1] ∧ r.length = bs.length := by
  rcases snoc_of bs with rfl | ⟨r, x, rfl⟩
  · simp at h
  · have el : (r ++ [x]).getLastD 1 = x := by simp
    rw [el, labelP_snoc]
    refine ⟨?_, labelP r (p / x), rfl, by rw [labelP_len]; simp⟩
    unfold groupOf
    rw [List.dropLast_concat, headD_snoc (by rw [labelP_len]; omega)]
    have hl := labelP_len r (p / x)
    have e : r.zip (labelP r (p / x) ++ [p % x]).tail = r.zip (labelP r (p / x)).tail := by
      cases q : labelP r (p / x) with
      | nil => rw [q] at hl; simp at hl
      | cons y t =>
        rw [q] at hl
        show r.zip (t ++ [p % x]) = r.zip t
        conv => lhs; rw [← List.append_nil r, List.zip_append (by simpa using hl.symm)]
        simp
    rw [e]
    exact place_label r (p / x) fun y hy => hb y (List.mem_append_left _ hy)
/-- the label behind a label, as the law tells it -/
def laterStep (bs : List Int) (s : List Int × Nat) : List Int × Nat :=
  if s.1.getD s.2 0 = bs.getD (s.2 - 1) 0 then ((s.1.set s.2 0).set (s.2 - 1) (s.1.getD (s.2 - 1) 0 + 1), s.2 - 1) else s
def laterN (bs ds : List Int) : Nat → List Int × Nat
  | 0 => (ds.set bs.length (ds.getD bs.length 0 + 1), bs.length)
  | i + 1 => laterStep bs (laterN bs ds i)
def laterL (bs ds : List Int) : List Int := (laterN bs ds bs.length).1
theorem laterN_at (bs ds : List Int) : ∀ i, (laterN bs ds i).2 ≤ bs.length ∧ bs.length ≤ (laterN bs ds i).2 + i
  | 0 => ⟨Nat.le_refl _, Nat.le_refl _⟩
  | i + 1 => by
    have h := laterN_at bs ds i
    show (laterStep bs (laterN bs ds i)).2 ≤ _ ∧ _ ≤ (laterStep bs (laterN bs ds i)).2 + _
    unfold laterStep
    split
    · dsimp only
      omega
    · omega
theorem laterN_len (bs ds : List Int) : ∀ i, (laterN bs ds i).1.length = ds.length
  | 0 => by show (ds.set _ _).length = _; rw [List.length_set]
  | i + 1 => by
    show (laterStep bs (laterN bs ds i)).1.length = _
    unfold laterStep
    split
    · dsimp only
      rw [List.length_set, List.length_set, laterN_len bs ds i]
    · exact laterN_len bs ds i
theorem later_label (bs : List Int) (p : Int) (hb : ∀ x ∈ bs, 2 ≤ x) (hp : 0 ≤ p) (h1 : 1 ≤ bs.length) (h3 : bs.length ≤ 3) : laterL bs (labelP bs p) = labelP bs (p + 1) := by
  have hB := label_ok bs p hb hp
  have hP := place_label bs p hb
  have hl := labelP_len bs p
  suffices labelB bs (laterL bs (labelP bs p)) = true ∧ placeOf bs (laterL bs (labelP bs p)) = p + 1 by
    rw [← this.2]
    exact (label_place bs _ this.1 hb).symm
  generalize labelP bs p = ds at hB hP hl
  match bs, h1, h3 with
  | [b], _, _ =>
    match ds, hl with
    | [x, y], _ =>
      have hb1 := hb b (by simp)
      simp [labelB, boundL] at hB
      replace hP : x * b + y = p := hP
      show labelB [b] (laterStep [b] ([x, y + 1], 1)).1 = true ∧ placeOf [b] (laterStep [b] ([x, y + 1], 1)).1 = p + 1
      unfold laterStep
      by_cases c : y + 1 = b
      · have e : (if ([x, y + 1] : List Int).getD 1 0 = ([b] : List Int).getD (1 - 1) 0 then (((([x, y + 1] : List Int).set 1 0).set (1 - 1) (([x, y + 1] : List Int).getD (1 - 1) 0 + 1), 1 - 1) : List Int × Nat) else ([x, y + 1], 1)) = ([x + 1, 0], 0) := if_pos c
        rw [e]
        refine ⟨?_, ?_⟩
        · simp [labelB, boundL]; omega
        · show (x + 1) * b + 0 = p + 1
          rw [Int.add_mul]; omega
      · have e : (if ([x, y + 1] : List Int).getD 1 0 = ([b] : List Int).getD (1 - 1) 0 then (((([x, y + 1] : List Int).set 1 0).set (1 - 1) (([x, y + 1] : List Int).getD (1 - 1) 0 + 1), 1 - 1) : List Int × Nat) else ([x, y + 1], 1)) = ([x, y + 1], 1) := if_neg c
        rw [e]
        refine ⟨?_, ?_⟩
        · simp [labelB, boundL]; omega
        · show x * b + (y + 1) = p + 1
          omega
  | [a, b], _, _ =>
    match ds, hl with
    | [x, y, z], _ =>
      have hb1 := hb a (by simp)
      have hb2 := hb b (by simp)
      simp [labelB, boundL] at hB
      replace hP : (x * a + y) * b + z = p := hP
      have st1 : laterStep [a, b] ([x, y, z + 1], 2) = if z + 1 = b then ([x, y + 1, 0], 1) else ([x, y, z + 1], 2) := rfl
      have st2 : laterStep [a, b] ([x, y + 1, 0], 1) = if y + 1 = a then ([x + 1, 0, 0], 0) else ([x, y + 1, 0], 1) := rfl
      show labelB [a, b] (laterStep [a, b] (laterStep [a, b] ([x, y, z + 1], 2))).1 = true ∧ placeOf [a, b] (laterStep [a, b] (laterStep [a, b] ([x, y, z + 1], 2))).1 = p + 1
      rw [st1]
      by_cases c : z + 1 = b
      · rw [if_pos c, st2]
        by_cases d : y + 1 = a
        · rw [if_pos d]
          refine ⟨?_, ?_⟩
          · simp [labelB, boundL]; omega
          · show ((x + 1) * a + 0) * b + 0 = p + 1
            rw [show (x + 1) * a + 0 = (x * a + y) + 1 by rw [Int.add_mul]; omega, Int.add_mul]; omega
        · rw [if_neg d]
          refine ⟨?_, ?_⟩
          · simp [labelB, boundL]; omega
          · show (x * a + (y + 1)) * b + 0 = p + 1
            rw [← Int.add_assoc, Int.add_mul]; omega
      · rw [if_neg c, st1, if_neg c]
        refine ⟨?_, ?_⟩
        · simp [labelB, boundL]; omega
        · show (x * a + y) * b + (z + 1) = p + 1
          omega
  | [a, b, c], _, _ =>
    match ds, hl with
    | [w, x, y, z], _ =>
      have hb1 := hb a (by simp)
      have hb2 := hb b (by simp)
      have hb3 := hb c (by simp)
      simp [labelB, boundL] at hB
      replace hP : ((w * a + x) * b + y) * c + z = p := hP
      have st1 : laterStep [a, b, c] ([w, x, y, z + 1], 3) = if z + 1 = c then ([w, x, y + 1, 0], 2) else ([w, x, y, z + 1], 3) := rfl
      have st2 : laterStep [a, b, c] ([w, x, y + 1, 0], 2) = if y + 1 = b then ([w, x + 1, 0, 0], 1) else ([w, x, y + 1, 0], 2) := rfl
      have st3 : laterStep [a, b, c] ([w, x + 1, 0, 0], 1) = if x + 1 = a then ([w + 1, 0, 0, 0], 0) else ([w, x + 1, 0, 0], 1) := rfl
      show labelB [a, b, c] (laterStep [a, b, c] (laterStep [a, b, c] (laterStep [a, b, c] ([w, x, y, z + 1], 3)))).1 = true ∧ placeOf [a, b, c] (laterStep [a, b, c] (laterStep [a, b, c] (laterStep [a, b, c] ([w, x, y, z + 1], 3)))).1 = p + 1
      rw [st1]
      by_cases h1 : z + 1 = c
      · rw [if_pos h1, st2]
        by_cases h2 : y + 1 = b
        · rw [if_pos h2, st3]
          by_cases h3 : x + 1 = a
          · rw [if_pos h3]
            refine ⟨?_, ?_⟩
            · simp [labelB, boundL]; omega
            · show (((w + 1) * a + 0) * b + 0) * c + 0 = p + 1
              rw [show (w + 1) * a + 0 = (w * a + x) + 1 by rw [Int.add_mul]; omega, show (w * a + x + 1) * b + 0 = ((w * a + x) * b + y) + 1 by rw [Int.add_mul]; omega, Int.add_mul]; omega
          · rw [if_neg h3]
            refine ⟨?_, ?_⟩
            · simp [labelB, boundL]; omega
            · show ((w * a + (x + 1)) * b + 0) * c + 0 = p + 1
              rw [← Int.add_assoc, show (w * a + x + 1) * b + 0 = ((w * a + x) * b + y) + 1 by rw [Int.add_mul]; omega, Int.add_mul]; omega
        · rw [if_neg h2, st2, if_neg h2]
          refine ⟨?_, ?_⟩
          · simp [labelB, boundL]; omega
          · show ((w * a + x) * b + (y + 1)) * c + 0 = p + 1
            rw [← Int.add_assoc, Int.add_mul]; omega
      · rw [if_neg h1, st1, if_neg h1, st1, if_neg h1]
        refine ⟨?_, ?_⟩
        · simp [labelB, boundL]; omega
        · show ((w * a + x) * b + y) * c + (z + 1) = p + 1
          omega
/-! ### texts of words -/
abbrev sg (x : Str) : List Nat := x.cps.toList
theorem sg_app (x y : Str) : sg (x ++ y) = sg x ++ sg y := by
  show (x.cps ++ y.cps).toList = _
  rw [Array.toList_append]
theorem sg_inj {x y : Str} (h : sg x = sg y) : x = y := by
  cases x
  cases y
  exact congrArg Str.mk (Array.toList_inj.mp h)
theorem sg_join (c : Nat) (x y : Str) (r : List Str) : sg (Str.join ⟨#[c]⟩ (x :: y :: r)) = sg x ++ c :: sg (Str.join ⟨#[c]⟩ (y :: r)) := by
  show sg (x ++ ⟨#[c]⟩ ++ Str.join ⟨#[c]⟩ (y :: r)) = _
  rw [sg_app, sg_app, List.append_assoc]
  rfl
theorem cut_one {c : Nat} : ∀ {a b x y : List Nat}, c ∉ a → c ∉ b → a ++ c :: x = b ++ c :: y → a = b ∧ x = y
  | [], [], x, y, _, _, h => ⟨rfl, by simpa using h⟩
  | [], d :: b, x, y, _, hb, h => by
    have h1 : c = d := by simpa using congrArg List.head? h
    exact absurd (by rw [h1]; exact List.mem_cons_self) hb
  | d :: a, [], x, y, ha, _, h => by
    have h1 : d = c := by simpa using congrArg List.head? h
    exact absurd (by rw [h1]; exact List.mem_cons_self) ha
  | d :: a, e :: b, x, y, ha, hb, h => by
    have h1 : d = e ∧ a ++ c :: x = b ++ c :: y := by simpa using h
    have h2 := cut_one (fun z => ha (List.mem_cons_of_mem _ z)) (fun z => hb (List.mem_cons_of_mem _ z)) h1.2
    exact ⟨by rw [h1.1, h2.1], h2.2⟩
theorem joinC_inj (c : Nat) : ∀ (as bs : List Str), as ≠ [] → bs ≠ [] → (∀ p ∈ as, c ∉ sg p) → (∀ p ∈ bs, c ∉ sg p) → Str.join ⟨#[c]⟩ as = Str.join ⟨#[c]⟩ bs → as = bs
  | [], _, h, _, _, _, _ => absurd rfl h
  | _, [], _, h, _, _, _ => absurd rfl h
  | [a], [b], _, _, _, _, h => by
    have h' : a = b := h
    rw [h']
  | [a], b :: d :: r, _, _, ha, _, h => by
    have e := congrArg sg h
    rw [sg_join] at e
    have e' : sg a = sg b ++ c :: sg (Str.join ⟨#[c]⟩ (d :: r)) := e
    exact absurd (by rw [e']; simp) (ha a List.mem_cons_self)
  | a :: d :: r, [b], _, _, _, hb, h => by
    have e := congrArg sg h
    rw [sg_join] at e
    have e' : sg a ++ c :: sg (Str.join ⟨#[c]⟩ (d :: r)) = sg b := e
    exact absurd (by rw [← e']; simp) (hb b List.mem_cons_self)
  | a :: a2 :: r, b :: b2 :: s, _, _, ha, hb, h => by
    have e := congrArg sg h
    rw [sg_join, sg_join] at e
    obtain ⟨e1, e2⟩ := cut_one (ha a List.mem_cons_self) (hb b List.mem_cons_self) e
    rw [sg_inj e1, joinC_inj c (a2 :: r) (b2 :: s) (List.cons_ne_nil _ _) (List.cons_ne_nil _ _) (fun p hp => ha p (List.mem_cons_of_mem _ hp)) (fun p hp => hb p (List.mem_cons_of_mem _ hp)) (sg_inj e2)]
theorem join_glued (sep : Str) (ws : List Str) : Txt.join sep ws = Str.join sep ws := StrLaws.glued_eq_join sep ws
theorem split_ne (x y : Str) : Txt.split x y ≠ [] := fun h => by
  have := PyProof.Rows.split_pos x y
  rw [h] at this
  exact absurd this (by decide)
theorem split_join (c : Nat) (ws : List Str) (h0 : ws ≠ []) (hw : ∀ p ∈ ws, c ∉ sg p) : Txt.split (Txt.join ⟨#[c]⟩ ws) ⟨#[c]⟩ = ws := by
  refine joinC_inj c _ _ (split_ne _ _) h0 (StrLaws.split_free _ c) hw ?_
  rw [StrLaws.join_split, join_glued]
/-! ### words of figures -/
def figB (w : Str) : Bool := !(sg w).isEmpty && (sg w).all fun c => decide (48 ≤ c) && decide (c ≤ 57)
theorem dig_cls : ∀ c : Nat, c < 128 → Unicode.isDigit c = (decide (48 ≤ c) && decide (c ≤ 57)) := by
  have k : ∀ n : _root_.Fin 128, Unicode.isDigit n.val = (decide (48 ≤ n.val) && decide (n.val ≤ 57)) := by decide +kernel
  exact fun c h => k ⟨c, h⟩
theorem all_toL (x : Str) (p : Nat → Bool) : x.cps.all p = (sg x).all p := by
  rw [← Array.all_toList]
theorem fig_eq (w : Str) : (Txt.isascii w && Txt.isdigit w) = figB w := by
  unfold Txt.isascii Txt.isdigit figB
  rw [all_toL, all_toL]
  have h0 : decide (w.length > 0) = !(sg w).isEmpty := by
    show decide (w.cps.size > 0) = !w.cps.toList.isEmpty
    rw [← Array.length_toList]
    cases w.cps.toList <;> simp
  rw [h0]
  have h1 : ((sg w).all (fun x => decide (x < 128)) && (sg w).all Unicode.isDigit) = (sg w).all fun c => decide (48 ≤ c) && decide (c ≤ 57) := by
    generalize sg w = l
    induction l with
    | nil => rfl
    | cons c l ih =>
      rw [List.all_cons, List.all_cons, List.all_cons, ← ih]
      by_cases h : c < 128
      · rw [decide_eq_true h, dig_cls c h]
        cases (decide (48 ≤ c) && decide (c ≤ 57)) <;> cases (l.all fun x => decide (x < 128)) <;> simp
      · rw [decide_eq_false h, decide_eq_false (show ¬ c ≤ 57 by omega)]
        simp
  rw [← h1]
  cases (sg w).isEmpty <;> simp
theorem figB_iff {w : Str} : figB w = true ↔ sg w ≠ [] ∧ NumText.AllDigits (sg w) := by
  unfold figB NumText.AllDigits
  generalize sg w = l
  rw [Bool.and_eq_true, List.all_eq_true]
  constructor
  · rintro ⟨h1, h2⟩
    refine ⟨fun z => by rw [z] at h1; exact absurd h1 (by decide), fun c hc => ?_⟩
    have := h2 c hc
    rw [Bool.and_eq_true, decide_eq_true_eq, decide_eq_true_eq] at this
    exact this
  · rintro ⟨h1, h2⟩
    refine ⟨?_, fun c hc => ?_⟩
    · cases l with
      | nil => exact absurd rfl h1
      | cons => rfl
    · rw [Bool.and_eq_true, decide_eq_true_eq, decide_eq_true_eq]
      exact h2 c hc
/-- the number that figures write -/
def worthN (w : Str) : Nat := NumText.digitsVal (sg w)
theorem sg_num (m : Nat) : sg (numS (m : Int)) = (Nat.toDigits 10 m).map Char.toNat := PySem.W.KIN.signs_num m
theorem num_worth (m : Nat) : worthN (numS (m : Int)) = m := by
  unfold worthN
  rw [sg_num]
  exact PySem.W.KIN.val_back m
theorem num_fig (m : Nat) : figB (numS (m : Int)) = true := by
  rw [figB_iff, sg_num]
  refine ⟨fun e => ?_, fun c hc => ?_⟩
  · have h := toDigits_len_ge 10 m
    rw [List.map_eq_nil_iff.mp e] at h
    exact absurd h (by decide)
  · obtain ⟨ch, hch, e⟩ := List.mem_map.mp hc
    have r := digit_range (Nat.isDigit_of_mem_toDigits (by decide) (by decide) hch)
    rw [← e]
    exact r
theorem fig_free {w : Str} (h : figB w = true) {c : Nat} (hc : c < 48 ∨ 57 < c) : c ∉ sg w := fun hm => by
  have := (figB_iff.mp h).2 c hm
  omega
theorem worth_snoc (w : Str) (i : Nat) (c : Nat) (h : (sg w)[i]? = some c) : NumText.digitsVal ((sg w).take (i + 1)) = NumText.digitsVal ((sg w).take i) * 10 + (c - 48) := by
  rw [List.take_add_one, h]
  exact NumText.digitsVal_snoc _ _
theorem fig_int {c : Nat} (h : 48 ≤ c ∧ c ≤ 57) : PySem.intText? ⟨#[c]⟩ = some ((c - 48 : Nat) : Int) := by
  have e := PySem.intText_digits (x := ⟨#[c]⟩) (fun d hd => by rw [List.mem_singleton.mp hd]; exact h) (List.cons_ne_nil _ _) (show 1 ≤ 4300 by decide)
  rw [e]
  show some (((0 * 10 + (c - 48) : Nat)) : Int) = _
  rw [Nat.zero_mul, Nat.zero_add]
/-! ### small numbers with zeros in front -/
def padS (b d : Int) : Str := Txt.zfill (numS d) (((numS (b - 1)).length : Nat) : Int)
def padL (b d : Int) : Str := Txt.mul "0" ((((numS (b - 1)).length : Nat) : Int) - (((numS d).length : Nat) : Int)) ++ numS d
theorem pad_small : ∀ b : _root_.Fin 61, ∀ d : _root_.Fin 61, d.val < b.val → figB (padS b.val d.val) = true ∧ worthN (padS b.val d.val) = d.val ∧ padS b.val d.val = padL b.val d.val ∧ (padS b.val d.val).length ≤ 2 ∧ (numS b.val).length ≤ 2 := by decide +kernel
theorem pad_of {b d : Int} (h0 : 0 ≤ d) (h1 : d ≤ b - 1) (h2 : b ≤ 60) : figB (padS b d) = true ∧ ((worthN (padS b d) : Nat) : Int) = d ∧ padS b d = padL b d ∧ (padS b d).length ≤ 2 ∧ (numS b).length ≤ 2 := by
  obtain ⟨d, rfl⟩ := Int.eq_ofNat_of_zero_le h0
  obtain ⟨b, rfl⟩ := Int.eq_ofNat_of_zero_le (show 0 ≤ b by omega)
  obtain ⟨q1, q2, q3, q4, q5⟩ := pad_small ⟨b, by omega⟩ ⟨d, by omega⟩ (show d < b by omega)
  exact ⟨q1, congrArg Int.ofNat q2, q3, q4, q5⟩
/-! ### texts of labels -/
theorem str_assoc (x y z : Str) : x ++ y ++ z = x ++ (y ++ z) := sg_inj (by rw [sg_app, sg_app, sg_app, sg_app, List.append_assoc])
theorem join_two (sep x y : Str) : ∀ r : List Str, Str.join sep (x :: y :: r) = Str.join sep ((x ++ sep ++ y) :: r)
  | [] => rfl
  | z :: r => by
    show x ++ sep ++ (y ++ sep ++ Str.join sep (z :: r)) = (x ++ sep ++ y) ++ sep ++ Str.join sep (z :: r)
    simp only [str_assoc]
theorem join_fold (sep : Str) : ∀ (r : List Str) (x : Str), Str.join sep (x :: r) = r.foldl (fun s y => s ++ sep ++ y) x
  | [], x => rfl
  | y :: r, x => by rw [join_two, join_fold sep r, List.foldl_cons]
def wordsP (bs ds : List Int) : List Str := numS (ds.headD 0) :: (bs.zip ds.tail).map fun p => padS p.1 p.2
def labelS (bs ds : List Int) : Str := Txt.join ":" (wordsP bs ds)
def wordedStep (s : Str) (p : Int × Int) : Str := s ++ ":" ++ Txt.mul "0" ((((numS (p.1 - 1)).length : Nat) : Int) - (((numS p.2).length : Nat) : Int)) ++ numS p.2
def wordedL (bs ds : List Int) : Str := (bs.zip ds.tail).foldl wordedStep (numS (ds.headD 0))
theorem col_eq : (":" : Str) = ⟨#[58]⟩ := by decide
theorem zip_bound {bs ds : List Int} (h : labelB bs ds = true) : ∀ p ∈ bs.zip ds.tail, 0 ≤ p.2 ∧ p.2 ≤ p.1 - 1 := by
  intro p hp
  unfold labelB boundL at h
  rw [Bool.and_eq_true, Bool.and_eq_true, List.all_eq_true] at h
  have := h.2.2 _ (List.mem_map.mpr ⟨p, hp, rfl⟩)
  simpa using this
theorem zip_left {bs ds : List Int} {m : Int} (hb : ∀ x ∈ bs, x ≤ m) : ∀ p ∈ bs.zip ds, p.1 ≤ m := fun p hp => hb _ (List.of_mem_zip hp).1
theorem label_head {bs ds : List Int} (h : labelB bs ds = true) : 0 ≤ ds.headD 0 := by
  unfold labelB at h
  rw [Bool.and_eq_true, Bool.and_eq_true] at h
  exact of_decide_eq_true h.2.1
theorem worded_eq {bs ds : List Int} (h : labelB bs ds = true) (hb : ∀ x ∈ bs, x ≤ 60) : wordedL bs ds = labelS bs ds := by
  unfold wordedL labelS wordsP
  rw [join_glued, join_fold, List.foldl_map]
  have h1 := zip_bound h
  have h2 := zip_left (ds := ds.tail) hb
  generalize bs.zip ds.tail = l at h1 h2
  generalize numS (ds.headD 0) = s
  induction l generalizing s with
  | nil => rfl
  | cons p l ih =>
    rw [List.foldl_cons, List.foldl_cons, ih (fun q hq => h1 q (List.mem_cons_of_mem _ hq)) fun q hq => h2 q (List.mem_cons_of_mem _ hq)]
    obtain ⟨a, b⟩ := h1 p List.mem_cons_self
    rw [(pad_of a b (h2 p List.mem_cons_self)).2.2.1]
    unfold wordedStep padL
    simp only [str_assoc]
theorem words_fig {bs ds : List Int} (h : labelB bs ds = true) (hb : ∀ x ∈ bs, x ≤ 60) : ∀ w ∈ wordsP bs ds, figB w = true := by
  intro w hw
  rcases List.mem_cons.mp hw with rfl | hw
  · obtain ⟨m, e⟩ := Int.eq_ofNat_of_zero_le (label_head h)
    rw [e]
    exact num_fig m
  · obtain ⟨p, hp, rfl⟩ := List.mem_map.mp hw
    obtain ⟨a, b⟩ := zip_bound h p hp
    exact (pad_of a b (zip_left hb p hp)).1
theorem words_worth {bs ds : List Int} (h : labelB bs ds = true) (hb : ∀ x ∈ bs, x ≤ 60) : (wordsP bs ds).map (fun w => ((worthN w : Nat) : Int)) = ds := by
  have hl := labelB_len h
  have h1 := zip_bound h
  have h2 := zip_left (ds := ds.tail) hb
  have h0 := label_head h
  cases ds with
  | nil => simp at hl
  | cons d ds =>
    have hl' : ds.length = bs.length := by simpa using hl
    unfold wordsP
    rw [List.map_cons, List.map_map]
    obtain ⟨m, e⟩ := Int.eq_ofNat_of_zero_le (show 0 ≤ d from h0)
    have e0 : ((worthN (numS ((d :: ds).headD 0)) : Nat) : Int) = d := by
      show ((worthN (numS d) : Nat) : Int) = d
      rw [e, num_worth]
    rw [e0]
    refine congrArg (d :: ·) ?_
    show (bs.zip ds).map _ = ds
    have e1 : (bs.zip ds).map (fun p => ((worthN (padS p.1 p.2) : Nat) : Int)) = (bs.zip ds).map Prod.snd := List.map_congr_left fun p hp => by
      obtain ⟨a, b⟩ := h1 p hp
      exact (pad_of a b (h2 p hp)).2.1
    exact e1.trans (List.map_snd_zip (by omega))
/-- the label that is read off a text -/
def readL (bs : List Int) (x : Str) : Option (List Int) :=
  if ((Txt.split x ":").map figB).all id = true then
    if labelB bs ((Txt.split x ":").map fun w => ((worthN w : Nat) : Int)) = true ∧ labelS bs ((Txt.split x ":").map fun w => ((worthN w : Nat) : Int)) = x then some ((Txt.split x ":").map fun w => ((worthN w : Nat) : Int)) else none
  else none
theorem label_split {bs ds : List Int} (h : labelB bs ds = true) (hb : ∀ x ∈ bs, x ≤ 60) : Txt.split (labelS bs ds) ":" = wordsP bs ds := by
  unfold labelS
  rw [col_eq]
  exact split_join 58 _ (List.cons_ne_nil _ _) fun p hp => fig_free (words_fig h hb p hp) (.inr (by decide))
theorem read_label {bs ds : List Int} (h : labelB bs ds = true) (hb : ∀ x ∈ bs, x ≤ 60) : readL bs (labelS bs ds) = some ds := by
  unfold readL
  rw [label_split h hb, words_worth h hb, if_pos, if_pos ⟨h, rfl⟩]
  rw [List.all_map, List.all_eq_true]
  exact fun w hw => words_fig h hb w hw
theorem num_len {m : Int} (h0 : 0 ≤ m) (h1 : m < 10 ^ 60) : (numS m).length ≤ 60 := by
  obtain ⟨n, rfl⟩ := Int.eq_ofNat_of_zero_le h0
  have hn : n < 10 ^ 60 := by
    have : ((10 : Int) ^ 60) = ((10 ^ 60 : Nat) : Int) := by decide
    omega
  have e : (numS (n : Int)).length = (Nat.toDigits 10 n).length := by
    show (numS (n : Int)).cps.size = _
    rw [← Array.length_toList]
    show (sg (numS (n : Int))).length = _
    rw [sg_num, List.length_map]
  rw [e]
  exact Nat.le_trans (Nat.le_refl _) (toDigits_len_pow (by decide) (by decide) hn)
end LM

set_option Elab.async false
set_option linter.all false
set_option maxRecDepth 100000
set_option maxHeartbeats 4000000
set_option pp.maxSteps 600
set_option pp.deepTerms false
namespace LM
open PySem PySem.Spec PyProof.Rows L2 RZ
local macro_rules | `(tactic| walk_at "hp") => `(tactic| first | assumption | exact upd_same | (rw [upd_ne (by assumption)]; assumption) | (rw [upd_ne (Ne.symm (by assumption))]; assumption) | (rw [upd_ne (by assumption)]; exact upd_same) | (rw [upd_ne (Ne.symm (by assumption))]; exact upd_same))
local macro_rules | `(tactic| walk_at "sq") => `(tactic| first | assumption | exact Or.inl (Or.inl (by assumption)) | exact Or.inl (Or.inl upd_same) | exact Or.inl (Or.inl (by walk_at "hp")))
local macro_rules | `(tactic| walk_at "ixl") => `(tactic| refine ⟨_, _, _, _, rfl, rfl, (by walk_at "sq"), (by rfl), ?_⟩)
local macro_rules | `(tactic| walk_at "setl") => `(tactic| refine ⟨_, _, _, _, rfl, rfl, (by walk_at "hp"), (by rfl), ?_⟩)
local macro_rules | `(tactic| walk_at "side") => `(tactic| refine idP ?_; first | omega | (show (0 : Int) < _; omega) | (show (0 : Int) < _ ∧ _ < _; omega) | (refine Or.inr ?_; show (-(2 ^ 64) : Int) < _ ∧ _ < _; omega) | (refine Or.inl ?_; show (-(2 ^ 64) : Int) < _ ∧ _ < _; omega) | exact divW (by omega) (by omega) _ | (refine ⟨by decide, by decide, ?_⟩; decide))
local macro_rules | `(tactic| walk_at "go1") => `(tactic| first
  | refine ⟨_, rfl, ?_⟩
  | refine ⟨_, _, rfl, rfl, (by walk_at "side"), ?_⟩
  | refine ⟨_, _, rfl, (by walk_at "side"), ?_⟩
  | refine ⟨_, _, rfl, rfl, ?_⟩
  | refine Or.inl ⟨_, rfl, ?_⟩
  | refine ⟨_, _, rfl, Or.inl (by walk_at "sq"), ?_⟩
  | walk_at "ixl"
  | walk_at "setl"
  | refine ⟨_, _, rfl, (by walk_at "sq"), rfl, ?_⟩
  | refine ⟨_, _, rfl, (by walk_at "sq"), ?_⟩
  | refine ⟨_, _, rfl, ?_⟩
  | refine ⟨rfl, ?_⟩
  | refine ⟨small (Nat.le_of_ble_eq_true rfl), ?_⟩)
local macro_rules | `(tactic| walk_at "go") => `(tactic| repeat walk_at "go1")

abbrev shas_figures_alone : Stmt := topS 23
theorem schas_figures_alone : FnScope ["word"] ["word"] (defScope shas_figures_alone) := ⟨rfl, rfl, rfl, by decide +kernel, rfl, by decide +kernel, by decide +kernel⟩
abbrev sworth : Stmt := topS 24
theorem scworth : FnScope ["figures", "number", "figure"] ["figures"] (defScope sworth) := ⟨rfl, rfl, rfl, by decide +kernel, rfl, by decide +kernel, by decide +kernel⟩
abbrev sread_number : Stmt := topS 25
theorem scread_number : FnScope ["word"] ["word"] (defScope sread_number) := ⟨rfl, rfl, rfl, by decide +kernel, rfl, by decide +kernel, by decide +kernel⟩
abbrev snumbers_behind : Stmt := topS 51
theorem scnumbers_behind : FnScope ["word", "line", "first", "others", "other"] ["word", "line"] (defScope snumbers_behind) := ⟨rfl, rfl, rfl, by decide +kernel, rfl, by decide +kernel, by decide +kernel⟩
def spHasFig : Sp := fun vs H Q _ => ∃ (w : Str), vs = [.str w] ∧ Q (.bl (figB w)) H
def spWorth : Sp := fun vs H Q _ => ∃ (w : Str), vs = [.str w] ∧ figB w = true ∧ Q (.int ((worthN w : Nat) : Int)) H
/-- the number that a word is read as, None if it is none -/
def readN (w : Str) : Option Int := if figB w = true ∧ ¬ (Txt.startswith w "0" = true ∧ w ≠ "0") then some ((worthN w : Nat) : Int) else none
theorem read_small : ∀ k : _root_.Fin 61, readN (numS (k.val : Int)) = some (k.val : Int) := by decide +kernel
theorem read_num {n : Int} (h0 : 0 ≤ n) (h1 : n ≤ 60) : readN (numS n) = some n := by
  have := read_small ⟨n.toNat, by omega⟩
  have e : ((n.toNat : Nat) : Int) = n := by omega
  simpa [e] using this
def readV : Option Int → V
  | none => .non
  | some n => .int n
def spReadNum : Sp := fun vs H Q _ => ∃ (w : Str), vs = [.str w] ∧ Q (readV (readN w)) H
/-- what stands behind a word in a line -/
def spBehind : Sp := fun vs H Q _ => ∃ (word line w : Str) (ws : List Str), vs = [.str word, .str line] ∧ line.length ≤ 100000 ∧ Txt.split line " " = w :: ws ∧
  (w = word → ∀ (t : Addr) H', Same H H' → H t = none → H' t = some (.tup (ws.map fun x => readV (readN x))) → Q (.ref t) H') ∧ (w ≠ word → ∀ H', Same H H' → Q .non H')
section
variable {P : Program} {w : World} {K : PySem.W.Frag} {mg : Str → Option Value} {base : Heap}
theorem ok_hasfig {f : Addr} {fd : FuncData} (F : Fun K "has_figures_alone" "has_figures_alone" shas_figures_alone f fd) : FnOk P w K mg base CX0 1 f fd ["word"] spHasFig := by
  have sc := schas_figures_alone
  refine F.ok sc (fun vs H Q E h => ?_) (fun cdv A outer s H vs Q E hr h => ?_)
  · obtain ⟨w, rfl, _⟩ := h
    rfl
  · obtain ⟨w, rfl, k⟩ := h
    refine ⟨_, (pss_one (ps_ret (pe_and (pe_m0 PySem.F.slot_str_isascii PySem.F.type_str_isascii mt_isascii (pv 0)) (pe_one (pe_m0 PySem.F.slot_str_isdigit PySem.F.type_str_isdigit mt_isdigit (pv 0)))))), ?_⟩
    refine ⟨_, rfl, ⟨_, rfl⟩, _, rfl, rfl, trivial, _, rfl, ?_⟩
    rw [← fig_eq] at k
    refine ifB (fun h1 => ?_) (fun h1 => ?_)
    · refine ⟨_, rfl, ⟨_, rfl⟩, _, rfl, rfl, trivial, ?_⟩
      rw [h1, Bool.true_and] at k
      exact k
    · rw [h1, Bool.false_and] at k
      exact k
theorem ok_worth {f : Addr} {fd : FuncData} (F : Fun K "worth" "worth" sworth f fd) (N : Names mg) : FnOk P w K mg base CX0 1 f fd ["figures"] spWorth := by
  have sc := scworth
  refine F.ok sc (fun vs H Q E h => ?_) (fun cdv A outer s H vs Q E hr h => ?_)
  · obtain ⟨w, rfl, _⟩ := h
    rfl
  · obtain ⟨z, rfl, hf, k⟩ := h
    refine ⟨_, (pss_cons (ps_set (i := 1) sc.nd rfl (Or.inl rfl) pe_int)
      (pss_cons (ps_for PassesOwn.never rfl (pi_str (pv 0)) (pg_name (i := 2) sc.nd rfl (Or.inl rfl)) (pss_one (ps_set (i := 1) sc.nd rfl (Or.inl rfl) (pe_op op_add (pe_op op_mul pe_int (pv 1)) (pe_callTy (T := "int") call_int_str (by rfl) N.int (by decide +kernel) (pa_cons (pv 2) pa_nil))))))
      (pss_one (ps_ret (pv 1))))), ?_⟩
    obtain ⟨f1, f2⟩ := figB_iff.mp hf
    refine ⟨_, rfl, _, rfl, for_it walk_str (fun i σ H' => ∃ v2 : Option V, σ = [some (.str z), some (.int ((NumText.digitsVal ((sg z).take i) : Nat) : Int)), v2] ∧ H' = H) ⟨_, rfl, rfl⟩ (fun _ _ _ _ _ => trivial) ?_ ?_⟩
    · rintro i x σ H1 H2 hi ⟨v2, rfl, rfl⟩ ⟨rfl, c, hc, rfl⟩
      have hc' : (sg z)[i]? = some c := by rw [← Array.getElem?_toList] at hc; exact hc
      have hcc := f2 c (List.mem_of_getElem? hc')
      refine ⟨_, rfl, _, _, rfl, rfl, .inl ⟨by decide, by decide⟩, _, rfl, _, _, rfl, fig_int hcc, (show 1 ≤ 640 by decide), _, _, rfl, rfl, ?_⟩
      refine ⟨_, (by rw [worth_snoc z i c hc', Int.natCast_add, Int.natCast_mul, Int.mul_comm]; rfl), rfl⟩
    · rintro σ H' ⟨v2, rfl, rfl⟩
      refine ⟨_, rfl, ?_⟩
      have e : (sg z).take z.cps.size = sg z := List.take_of_length_le (by rw [Array.length_toList]; exact Nat.le_refl _)
      rw [e]
      exact k
theorem ok_readnum {f : Addr} {fd : FuncData} (F : Fun K "read_number" "read_number" sread_number f fd) (Dhas_figures_alone : DefK P w K mg base "has_figures_alone" ["word"] 1 spHasFig) (Dworth : DefK P w K mg base "worth" ["figures"] 1 spWorth) : FnOk P w K mg base CX0 2 f fd ["word"] spReadNum := by
  have sc := scread_number
  refine F.ok sc (fun vs H Q E h => ?_) (fun cdv A outer s H vs Q E hr h => ?_)
  · obtain ⟨w, rfl, _⟩ := h
    rfl
  · obtain ⟨z, rfl, k⟩ := h
    refine ⟨_, (pss_cons (ps_if (PW.pt (pw_or (pt_not (pt_val (pe_d Dhas_figures_alone (hr.mono (by decide)) rfl (pa_cons (pv 0) pa_nil)))) (pw_or1 (PW.pt (pw_and (pt_val (pe_m1 PySem.F.slot_str_startswith PySem.F.type_str_startswith mt_startswith (pv 0) pe_str)) (pw_and1 (pt_cmpR op_ne (pv 0) pe_str (nomark _)))))))) (pss_one (ps_ret pe_non)) pss_nil)
      (pss_one (ps_ret (pe_d Dworth (hr.mono (by decide)) rfl (pa_cons (pv 0) pa_nil))))), ?_⟩
    refine ⟨_, rfl, z, rfl, _, rfl, ?_⟩
    cases hf : figB z with
    | false =>
      refine iteT ?_
      have e : readN z = none := by
        unfold readN
        rw [if_neg (fun h => by rw [hf] at h; exact Bool.false_ne_true h.1)]
      rw [e] at k
      exact k
    | true =>
      refine iteF ?_
      refine ⟨_, rfl, ⟨_, rfl⟩, z, _, rfl, rfl, _, rfl, ?_⟩
      have yes : ¬ (Txt.startswith z "0" = true ∧ z ≠ "0") → readV (readN z) = .int ((worthN z : Nat) : Int) := fun h => by
        unfold readN
        rw [if_pos ⟨hf, h⟩]
        rfl
      cases hz : Txt.startswith z "0" with
      | false =>
        rw [yes (fun h => by rw [hz] at h; exact Bool.false_ne_true h.1)] at k
        refine iteF ?_
        exact ⟨_, rfl, z, rfl, hf, k⟩
      | true =>
        refine iteT ?_
        refine ⟨_, rfl, rfl, _, rfl, ?_⟩
        refine ifN (fun hd => ?_) (fun hd => ?_)
        · have e : readN z = none := by
            unfold readN
            rw [if_neg (fun h => h.2 ⟨hz, fun e => hd (congrArg V.str e)⟩)]
          rw [e] at k
          exact k
        · rw [yes (fun h => h.2 (V.str.inj hd))] at k
          exact ⟨_, rfl, z, rfl, hf, k⟩
theorem ok_behind {f : Addr} {fd : FuncData} (F : Fun K "numbers_behind" "numbers_behind" snumbers_behind f fd) (N : Names mg) (Dread_number : DefK P w K mg base "read_number" ["word"] 2 spReadNum) : FnOk P w K mg base CX0 3 f fd ["word", "line"] spBehind := by
  have sc := scnumbers_behind
  refine F.ok sc (fun vs H Q E h => ?_) (fun cdv A outer s H vs Q E hr h => ?_)
  · obtain ⟨a, b, w, ws, rfl, _⟩ := h
    rfl
  · obtain ⟨word, line, w, ws, rfl, hl, hsp, k1, k2⟩ := h
    refine ⟨_, (pss_cons (ps_asg (pe_split (pv 1) pe_str) (pg_star1 rfl (pgs_cons (pg_name (i := 2) sc.nd rfl (Or.inl rfl)) (pgs_star (pg_name (i := 3) sc.nd rfl (Or.inl rfl)) pgs_nil))))
      (pss_cons (ps_if (pt_cmpR op_ne (pv 2) (pv 0) (nomark _)) (pss_one (ps_ret pe_non)) pss_nil)
      (pss_one (ps_ret (pe_callTy (T := "tuple") call_tuple_of (by rfl) N.tuple (by decide +kernel) (pa_cons (pe_lc (own := [("other", 4)]) rfl sc.nd (pi_list (pv 3)) (blkOk_by (own := [("other", 4)]) (N := ["word", "line", "first", "others", "other"]) (sc := defScope (topS 51)) (by decide +kernel)) (fun _ _ _ _ _ => (pg_name (i := 4) sc.nd rfl (Or.inl rfl))) (fun _ _ _ _ _ => pts_nil) (fun _ _ _ _ _ => (pe_d Dread_number (hr.mono (by decide)) rfl (pa_cons (pv 4) pa_nil)))) pa_nil)))))), ?_⟩
    refine ⟨_, rfl, ⟨_, rfl⟩, _, _, rfl, rfl, (by decide), Nat.le_trans (show line.length + 2 ≤ 100002 by omega) (by decide), ?_⟩
    (intro q nq; generalize e_q : upd H q _ = H1; have s1 : Same H H1 := fun b x hb => (congrFun e_q b).symm.trans (same_new nq b x hb); have h1 := (congrFun e_q q).symm.trans upd_same; clear e_q)
    rw [hsp] at h1
    refine ⟨q, _, _, rfl, SqL.lst h1, ?_⟩
    (intro r nr; generalize e_r : upd H1 r _ = H2; have s2 : Same H1 H2 := fun b x hb => (congrFun e_r b).symm.trans (same_new nr b x hb); have h2 := (congrFun e_r r).symm.trans upd_same; clear e_r)
    have s02 := s1.trans s2
    refine ⟨_, _, rfl, _, _, rfl, rfl, ?_⟩
    refine ⟨_, rfl, _, rfl, rfl, _, rfl, ?_⟩
    refine ifN (fun hd => k2 (fun e => hd (congrArg V.str e)) H2 s02) (fun hd => ?_)
    have k1 := k1 (V.str.inj hd)
    clear k2 hd
    refine ⟨_, rfl, r, rfl, ⟨_, SqL.lst h2⟩, ?_⟩
    intro D nD
    have hwl : ws.length ≤ 100001 := by
      have := PyProof.Rows.split_le line " "
      rw [hsp] at this
      have : ws.length + 1 ≤ line.length + 2 := this
      omega
    refine lc_list (K := K) (xs := ws.map V.str) (fun i H' => Same H2 H' ∧ H' D = some (.lst ((ws.take i).map fun x => readV (readN x)))) ⟨same_new nD, upd_same⟩ (fun i H' _ ⟨sm, _⟩ => SqL.lst (sm _ _ h2)) ?_ ?_
    · rintro i y H' hy ⟨sm, eD⟩
      obtain ⟨x, hx, rfl⟩ : ∃ b, ws[i]? = some b ∧ y = V.str b := by
        rw [List.getElem?_map] at hy
        obtain ⟨z, hz, e⟩ := Option.map_eq_some_iff.mp hy
        exact ⟨z, hz, e.symm⟩
      refine ⟨rfl, ?_⟩
      refine ⟨_, rfl, x, rfl, _, eD, smallLt (by rw [List.length_map, List.length_take]; omega), same_mut sm nD, ?_⟩
      rw [upd_same, List.take_add_one, hx, List.map_append]
      rfl
    rintro H3 ⟨s3, eD⟩
    rw [List.take_of_length_le (by rw [List.length_map]; exact Nat.le_refl _)] at eD
    refine ⟨D, _, rfl, .inl ⟨SqL.lst eD, ?_⟩⟩
    (intro t nt; generalize e_t : upd H3 t _ = H4; have s4 : Same H3 H4 := fun b x hb => (congrFun e_t b).symm.trans (same_new nt b x hb); have h4 := (congrFun e_t t).symm.trans upd_same; clear e_t)
    exact k1 t H4 (s02.trans (s3.trans s4)) ((s02.trans s3).free nt) h4
end
end LM

set_option Elab.async false
set_option linter.all false
set_option maxRecDepth 100000
set_option maxHeartbeats 4000000
set_option pp.maxSteps 600
set_option pp.deepTerms false
namespace LM
open PySem PySem.Spec PyProof.Rows L2 RZ
local macro_rules | `(tactic| walk_at "hp") => `(tactic| first | assumption | exact upd_same | (rw [upd_ne (by assumption)]; assumption) | (rw [upd_ne (Ne.symm (by assumption))]; assumption) | (rw [upd_ne (by assumption)]; exact upd_same) | (rw [upd_ne (Ne.symm (by assumption))]; exact upd_same))
local macro_rules | `(tactic| walk_at "sq") => `(tactic| first | assumption | exact Or.inl (Or.inl (by assumption)) | exact Or.inl (Or.inl upd_same) | exact Or.inl (Or.inl (by walk_at "hp")))
local macro_rules | `(tactic| walk_at "ixl") => `(tactic| refine ⟨_, _, _, _, rfl, rfl, (by walk_at "sq"), (by rfl), ?_⟩)
local macro_rules | `(tactic| walk_at "setl") => `(tactic| refine ⟨_, _, _, _, rfl, rfl, (by walk_at "hp"), (by rfl), ?_⟩)
local macro_rules | `(tactic| walk_at "side") => `(tactic| refine idP ?_; first | omega | (show (0 : Int) < _; omega) | (show (0 : Int) < _ ∧ _ < _; omega) | (refine Or.inr ?_; show (-(2 ^ 64) : Int) < _ ∧ _ < _; omega) | (refine Or.inl ?_; show (-(2 ^ 64) : Int) < _ ∧ _ < _; omega) | exact divW (by omega) (by omega) _ | (refine ⟨by decide, by decide, ?_⟩; decide))
local macro_rules | `(tactic| walk_at "go1") => `(tactic| first
  | refine ⟨_, rfl, ?_⟩
  | refine ⟨_, _, rfl, rfl, (by walk_at "side"), ?_⟩
  | refine ⟨_, _, rfl, (by walk_at "side"), ?_⟩
  | refine ⟨_, _, rfl, rfl, ?_⟩
  | refine Or.inl ⟨_, rfl, ?_⟩
  | refine ⟨_, _, rfl, Or.inl (by walk_at "sq"), ?_⟩
  | walk_at "ixl"
  | walk_at "setl"
  | refine ⟨_, _, rfl, (by walk_at "sq"), rfl, ?_⟩
  | refine ⟨_, _, rfl, (by walk_at "sq"), ?_⟩
  | refine ⟨_, _, rfl, ?_⟩
  | refine ⟨rfl, ?_⟩
  | refine ⟨small (Nat.le_of_ble_eq_true rfl), ?_⟩)
local macro_rules | `(tactic| walk_at "go") => `(tactic| repeat walk_at "go1")

abbrev sis_label : Stmt := topS 27
theorem scis_label : FnScope ["bases", "value", "bounded", "base", "number"] ["bases", "value"] (defScope sis_label) := ⟨rfl, rfl, rfl, by decide +kernel, rfl, by decide +kernel, by decide +kernel⟩
abbrev splace_of : Stmt := topS 28
theorem scplace_of : FnScope ["bases", "label", "place", "base", "number"] ["bases", "label"] (defScope splace_of) := ⟨rfl, rfl, rfl, by decide +kernel, rfl, by decide +kernel, by decide +kernel⟩
abbrev swritten_number : Stmt := topS 22
theorem scwritten_number : FnScope ["number", "parts", "rest"] ["number"] (defScope swritten_number) := ⟨rfl, rfl, rfl, by decide +kernel, rfl, by decide +kernel, by decide +kernel⟩
abbrev swritten_label : Stmt := topS 30
theorem scwritten_label : FnScope ["bases", "label", "words", "base", "number"] ["bases", "label"] (defScope swritten_label) := ⟨rfl, rfl, rfl, by decide +kernel, rfl, by decide +kernel, by decide +kernel⟩
def spIsLabel (K : PySem.W.Frag) : Sp := fun vs H Q _ => ∃ (a l : Addr) (bs ds : List Int), vs = [.ref a, .ref l] ∧ SqT K H a (bs.map V.int) ∧ SqT K H l (ds.map V.int) ∧ 1 ≤ bs.length ∧ bs.length ≤ 3 ∧ ∀ H', Same H H' → Q (.bl (labelB bs ds)) H'
def spPlaceOf (K : PySem.W.Frag) : Sp := fun vs H Q _ => ∃ (a l : Addr) (bs ds : List Int), vs = [.ref a, .ref l] ∧ SqT K H a (bs.map V.int) ∧ SqT K H l (ds.map V.int) ∧ ds.length = bs.length + 1 ∧ bs.length ≤ 3 ∧ (∀ x ∈ bs, 2 ≤ x ∧ x ≤ 60) ∧ ∀ H', Same H H' → Q (.int (placeOf bs ds)) H'
def spNumText : Sp := fun vs H Q _ => ∃ (n : Int), vs = [.int n] ∧ 0 ≤ n ∧ n < 10 ^ 60 ∧ ∀ H', Same H H' → Q (.str (numS n)) H'
def spLabelText (K : PySem.W.Frag) : Sp := fun vs H Q _ => ∃ (a l : Addr) (bs ds : List Int), vs = [.ref a, .ref l] ∧ SqT K H a (bs.map V.int) ∧ SqT K H l (ds.map V.int) ∧ labelB bs ds = true ∧ bs.length ≤ 3 ∧ (∀ x ∈ bs, 2 ≤ x ∧ x ≤ 60) ∧ ds.headD 0 < 10 ^ 60 ∧ ∀ H', Same H H' → Q (.str (labelS bs ds)) H'
/-- what is read: the label, or None -/
def readO (o : Option (List Int)) (H : Hp) (Q : V → Hp → Prop) : Prop := match o with
  | none => ∀ H', Same H H' → Q .non H'
  | some ds => ∀ (t : Addr) H', Same H H' → H t = none → H' t = some (.tup (ds.map V.int)) → Q (.ref t) H'
def spReadLabel (K : PySem.W.Frag) : Sp := fun vs H Q _ => ∃ (a : Addr) (bs : List Int) (x : Str), vs = [.ref a, .str x] ∧ SqT K H a (bs.map V.int) ∧ 1 ≤ bs.length ∧ bs.length ≤ 3 ∧ (∀ x ∈ bs, 2 ≤ x ∧ x ≤ 60) ∧ x.length ≤ 90 ∧ (∀ w ∈ (Txt.split x ":").head?, w.length ≤ 59) ∧ readO (readL bs x) H Q
theorem cut_tail (xs : List V) : cutV xs (some 1) none = xs.drop 1 := cut_from xs 1
theorem not_whole {n : Nat} (h : 1 ≤ n) : ¬ (HT.sIx n 0 (some 1) = 0 ∧ HT.sIx n n none = n) := fun z => by
  have e : HT.sIx n 0 (some 1) = min 1 n := HT.sIx_nat n 0 1
  rw [e] at z
  omega
theorem zip_get {bs ds : List Int} {i : Nat} {x1 x2 : V} (hi : i < (bs.zip ds).length) (g1 : (bs.map V.int)[i]? = some x1) (g2 : (ds.map V.int)[i]? = some x2) : ∃ b d, (bs.zip ds)[i]? = some (b, d) ∧ x1 = .int b ∧ x2 = .int d := by
  rw [List.getElem?_map] at g1 g2
  obtain ⟨b, hb, rfl⟩ := Option.map_eq_some_iff.mp g1
  obtain ⟨d, hd, rfl⟩ := Option.map_eq_some_iff.mp g2
  exact ⟨b, d, List.getElem?_zip_eq_some.mpr ⟨hb, hd⟩, rfl, rfl⟩
theorem pad_all : ∀ k : _root_.Fin 61, PadOk (k.val : Int) = true := by decide +kernel
theorem pad_ok {k : Nat} (h : k ≤ 60) : PadOk (k : Int) = true := pad_all ⟨k, by omega⟩
theorem digits_lt : ∀ cs : List Nat, NumText.AllDigits cs → NumText.digitsVal cs < 10 ^ cs.length := by
  intro cs
  induction cs using snoc_ind with
  | h0 => exact fun _ => (by decide : 0 < 1)
  | h1 l c ih =>
    intro h
    have h1 := ih fun d hd => h d (List.mem_append_left _ hd)
    have h2 := h c (by simp)
    rw [NumText.digitsVal_snoc, List.length_append]
    show _ < 10 ^ (l.length + 1)
    rw [Nat.pow_succ]
    omega
theorem big_log {n : Int} (h0 : 0 ≤ n) (h1 : n < 10 ^ 60) : n.natAbs.log2 < 1920 := by
  have hn : n.natAbs < 10 ^ 60 := by
    have : ((10 : Int) ^ 60) = ((10 ^ 60 : Nat) : Int) := by decide
    omega
  rcases Nat.eq_zero_or_pos n.natAbs with z | z
  · rw [z]
    decide
  · exact Nat.lt_trans ((Nat.log2_lt (by omega)).mpr (Nat.lt_trans hn (show 10 ^ 60 < 2 ^ 200 by decide))) (by decide)
section
variable {P : Program} {w : World} {K : PySem.W.Frag} {mg : Str → Option Value} {base : Heap}
theorem ok_islabel {f : Addr} {fd : FuncData} (F : Fun K "is_label" "is_label" sis_label f fd) (N : Names mg) (Dis_integer_within : DefK P w K mg base "is_integer_within" ["value", "low", "high"] 2 spWithin) (Dis_number : DefK P w K mg base "is_number" ["value"] 2 spIsNum) : FnOk P w K mg base CX0 3 f fd ["bases", "value"] (spIsLabel K) := by
  have sc := scis_label
  refine F.ok sc (fun vs H Q E h => ?_) (fun cdv A outer s H vs Q E hr h => ?_)
  · obtain ⟨a, l, bs, ds, rfl, _⟩ := h
    rfl
  · obtain ⟨a, l, bs, ds, rfl, hb, hd, b1, b3, k⟩ := h
    refine ⟨_, (pss_cons (ps_if (PW.pt (pw_or (pt_not (pt_val (pe_callB call_isi (by rfl) N.isinstance (by decide +kernel) (pa_cons (pv 1) (pa_cons (pe_ty "tuple" rfl N.tuple (by decide +kernel)) pa_nil))))) (pw_or1 (pt_cmpR op_ne (pe_callB call_len_seq (by rfl) N.len (by decide +kernel) (pa_cons (pv 1) pa_nil)) (pe_op op_add (pe_callB call_len_seq (by rfl) N.len (by decide +kernel) (pa_cons (pv 0) pa_nil)) pe_int) (nomark _))))) (pss_one (ps_ret pe_bl)) pss_nil)
      (pss_cons (ps_setLc (i := 2) (own := [("base", 3), ("number", 4)]) (g := gTup K 2 (gCons (gName 3) (gCons (gName 4) gNil))) rfl sc.nd rfl rfl (sw_true rfl rfl rfl (by decide +kernel)) (pi_zipA rfl N.zip (pa_cons (pv 0) (pa_cons (pe_slice sl_tup (pv 1) (po_some pe_int) po_none) pa_nil))) (blkOk_by (own := [("base", 3), ("number", 4)]) (N := ["bases", "value", "bounded", "base", "number"]) (sc := defScope (topS 27)) (by decide +kernel)) (fun _ _ _ _ _ => (pg_tup rfl (pgs_cons (pg_name (i := 3) sc.nd rfl (Or.inl rfl) (Or.inr rfl)) (pgs_cons (pg_name (i := 4) sc.nd rfl (Or.inl rfl) (Or.inr rfl)) pgs_nil)))) (fun _ _ _ _ _ => pts_nil) (fun _ _ _ _ _ => (pe_d Dis_integer_within (hr.mono (by decide)) rfl (pa_cons (pv 4) (pa_cons pe_int (pa_cons (pe_op op_sub (pv 3) pe_int) pa_nil))))))
      (pss_one (ps_ret (pe_and (pe_d Dis_number (hr.mono (by decide)) rfl (pa_cons (pe_ix ix_tup (pv 1) pe_int (fun _ _ => rfl)) pa_nil)) (pe_one (pe_callB (cr_all rfl) (by rfl) N.all (by decide +kernel) (pa_cons (pv 2) pa_nil)))))))), ?_⟩
    refine ⟨_, rfl, _, _, _, _, _, rfl, .ty _, tyT hd, kit_ty (r := true) (by decide +kernel), _, rfl, ?_⟩
    refine iteF ?_
    refine ⟨_, rfl, l, _, rfl, .inr hd, _, rfl, a, _, rfl, .inr hb, _, _, rfl, rfl, rfl, _, rfl, ?_⟩
    rw [List.length_map, List.length_map]
    by_cases hlen : ds.length = bs.length + 1
    rotate_left
    · refine ifN (fun hd' => ?_) (fun hd' => absurd (V.int.inj hd') (by omega))
      have e : labelB bs ds = false := by
        unfold labelB
        rw [decide_eq_false hlen]
        rfl
      rw [e] at k
      exact k H (Same.refl H)
    refine ifN (fun hd' => absurd (congrArg V.int (by omega)) hd') (fun _ => ?_)
    have hx : 0 < ds.length := by omega
    have h0 : ds.headD 0 = ds[0] := by cases ds with | nil => simp at hx | cons => rfl
    refine ⟨_, rfl, _, rfl, _, rfl, l, _, rfl, hd, not_whole (by rw [List.length_map]; exact hx), ?_⟩
    (intro t nt; generalize e_t : upd H t _ = H1; have s1 : Same H H1 := fun b x hb => (congrFun e_t b).symm.trans (same_new nt b x hb); have h1 := (congrFun e_t t).symm.trans upd_same; clear e_t)
    have h1' : H1 t = some (.tup (ds.tail.map V.int)) := by rw [h1, cut_tail, List.drop_one, List.map_tail]
    refine ⟨a, t, _, _, rfl, .inr ⟨Same.seqT s1 hb, SqT.tup h1', ?_⟩⟩
    intro D nD
    refine lc_it (walk_zipT (n := (bs.zip ds.tail).length) (by rw [List.length_zip, List.length_map, List.length_map])) (fun i H' => Same H1 H' ∧ H' D = some (.lst ((((bs.zip ds.tail).take i).map fun p => decide (0 ≤ p.2) && decide (p.2 ≤ p.1 - 1)).map V.bl))) ⟨same_new nD, upd_same⟩ (fun i H' _ ⟨sm, _⟩ => ⟨Same.seqT (s1.trans sm) hb, SqT.tup (sm _ _ h1')⟩) ?_ ?_
    · rintro i x H2 H3 hi ⟨sm, eD⟩ ⟨T, x1, x2, rfl, nT, rfl, g1, g2⟩
      obtain ⟨b, d, hz, rfl, rfl⟩ := zip_get hi g1 g2
      have zl : (bs.zip ds.tail).length ≤ 3 := by rw [List.length_zip]; omega
      refine ⟨T, _, rfl, SqT.tup upd_same, rfl, _, _, rfl, _, _, rfl, rfl, rfl, ?_⟩
      have eD2 := same_new nT (o := HO.tup [V.int b, V.int d]) _ _ eD
      refine ⟨_, rfl, _, rfl, _, _, rfl, rfl, d, 0, b - 1, rfl, _, eD2, smallLt (by rw [List.length_map, List.length_map, List.length_take]; omega), same_mut (Same.of_new sm nT) nD, ?_⟩
      rw [upd_same, List.take_add_one, hz, List.map_append, List.map_append]
      rfl
    rintro H2 ⟨sm, eD⟩
    rw [List.take_of_length_le (Nat.le_refl _)] at eD
    have s02 := s1.trans sm
    refine ⟨_, rfl, l, _, _, _, rfl, rfl, Same.seqT s02 hd, atI_nat (map_get hx), ds[0], rfl, _, rfl, ?_⟩
    rw [← h0]
    have kk := k H2 s02
    have e : labelB bs ds = (decide (0 ≤ ds.headD 0) && (boundL bs ds).all id) := by
      unfold labelB
      rw [decide_eq_true hlen, Bool.true_and]
    rw [e] at kk
    refine ifB (fun h1 => ?_) (fun h1 => ?_)
    · rw [h1, Bool.true_and] at kk
      exact ⟨_, rfl, D, _, rfl, SqL.lst eD, kk⟩
    · rw [h1, Bool.false_and] at kk
      exact kk
theorem ok_placeof {f : Addr} {fd : FuncData} (F : Fun K "place_of" "place_of" splace_of f fd) (N : Names mg) : FnOk P w K mg base CX0 1 f fd ["bases", "label"] (spPlaceOf K) := by
  have sc := scplace_of
  refine F.ok sc (fun vs H Q E h => ?_) (fun cdv A outer s H vs Q E hr h => ?_)
  · obtain ⟨a, l, bs, ds, rfl, _⟩ := h
    rfl
  · obtain ⟨a, l, bs, ds, rfl, hb, hd, hl, b3, bb, k⟩ := h
    refine ⟨_, (pss_cons (ps_set (i := 2) sc.nd rfl (Or.inl rfl) (pe_ix ix_tup (pv 1) pe_int (fun _ _ => rfl)))
      (pss_cons (ps_for PassesOwn.never rfl (pi_zipA rfl N.zip (pa_cons (pv 0) (pa_cons (pe_slice sl_tup (pv 1) (po_some pe_int) po_none) pa_nil))) (pg_tup rfl (pgs_cons (pg_name (i := 3) sc.nd rfl (Or.inl rfl)) (pgs_cons (pg_name (i := 4) sc.nd rfl (Or.inl rfl)) pgs_nil))) (pss_one (ps_set (i := 2) sc.nd rfl (Or.inl rfl) (pe_op op_add (pe_op op_mul (pv 2) (pv 3)) (pv 4)))))
      (pss_one (ps_ret (pv 2))))), ?_⟩
    have hx : 0 < ds.length := by omega
    have h0 : ds.headD 0 = ds[0] := by cases ds with | nil => simp at hx | cons => rfl
    refine ⟨_, rfl, l, _, _, _, rfl, rfl, hd, atI_nat (map_get hx), ?_⟩
    rw [← h0]
    refine ⟨_, rfl, _, rfl, _, rfl, l, _, rfl, hd, not_whole (by rw [List.length_map]; exact hx), ?_⟩
    (intro t nt; generalize e_t : upd H t _ = H1; have s1 : Same H H1 := fun b x hb => (congrFun e_t b).symm.trans (same_new nt b x hb); have h1 := (congrFun e_t t).symm.trans upd_same; clear e_t)
    have h1' : H1 t = some (.tup (ds.tail.map V.int)) := by rw [h1, cut_tail, List.drop_one, List.map_tail]
    refine ⟨a, t, _, _, rfl, .inr ⟨Same.seqT s1 hb, SqT.tup h1', ?_⟩⟩
    refine for_it (walk_zipT (n := (bs.zip ds.tail).length) (by rw [List.length_zip, List.length_map, List.length_map])) (fun i σ H' => ∃ v3 v4 : Option V, σ = [some (.ref a), some (.ref l), some (.int (((bs.zip ds.tail).take i).foldl (fun a p => a * p.1 + p.2) (ds.headD 0))), v3, v4] ∧ Same H1 H') ⟨_, _, rfl, Same.refl H1⟩ (fun i σ H' _ ⟨_, _, _, sm⟩ => ⟨Same.seqT (s1.trans sm) hb, SqT.tup (sm _ _ h1')⟩) ?_ ?_
    · rintro i x σ H2 H3 hi ⟨v3, v4, rfl, sm⟩ ⟨T, x1, x2, rfl, nT, rfl, g1, g2⟩
      obtain ⟨b, d, hz, rfl, rfl⟩ := zip_get hi g1 g2
      have hbb := bb b (List.of_mem_zip (List.mem_of_getElem? hz)).1
      refine ⟨T, _, rfl, SqT.tup upd_same, rfl, _, _, rfl, _, _, rfl, rfl, ?_⟩
      refine ⟨_, rfl, _, rfl, _, _, rfl, rfl, .inr ⟨by omega, by omega⟩, _, rfl, _, _, rfl, rfl, ?_⟩
      exact ⟨_, _, (by rw [take_fold _ _ _ i _ hz]; rfl), Same.of_new sm nT⟩
    · rintro σ H' ⟨v3, v4, rfl, sm⟩
      rw [List.take_of_length_le (Nat.le_refl _)]
      exact ⟨_, rfl, k _ (s1.trans sm)⟩
theorem ok_numtext {f : Addr} {fd : FuncData} (F : Fun K "written_number" "written_number" swritten_number f fd) (N : Names mg) : FnOk P w K mg base CX0 1 f fd ["number"] spNumText := by
  have sc := scwritten_number
  refine F.ok sc (fun vs H Q E h => ?_) (fun cdv A outer s H vs Q E hr h => ?_)
  · obtain ⟨n, rfl, _⟩ := h
    rfl
  · obtain ⟨n, rfl, n0, n1, k⟩ := h
    refine ⟨_, (pss_cons (ps_set (i := 1) sc.nd rfl (Or.inl rfl) (pe_lst pa_nil))
      (pss_cons (ps_while PassesOwn.never (pt_cmpR op_ge (pv 0) (pe_op op_pow pe_int pe_int) (nomark _)) (pss_cons (ps_asg (pe_callB call_divmodW (by rfl) N.divmod (by decide +kernel) (pa_cons (pv 0) (pa_cons (pe_op op_pow pe_int pe_int) pa_nil))) (pg_tup rfl (pgs_cons (pg_name (i := 0) sc.nd rfl (Or.inl rfl)) (pgs_cons (pg_name (i := 2) sc.nd rfl (Or.inl rfl)) pgs_nil))))
      (pss_one (ps_expr (pe_bm PySem.F.plainAttrs_list PySem.F.slot_list_append PySem.F.type_list_append mt_append (pv 1) (pa_cons (pe_bm PySem.F.plainAttrs_str PySem.F.slot_str_zfill PySem.F.type_str_zfill mt_zfill (pe_callTy (T := "str") call_str_int (by rfl) N.str (by decide +kernel) (pa_cons (pv 2) pa_nil)) (pa_cons pe_int pa_nil)) pa_nil))))))
      (pss_cons (ps_expr (pe_bm PySem.F.plainAttrs_list PySem.F.slot_list_append PySem.F.type_list_append mt_append (pv 1) (pa_cons (pe_callTy (T := "str") call_str_int (by rfl) N.str (by decide +kernel) (pa_cons (pv 0) pa_nil)) pa_nil)))
      (pss_one (ps_ret (pe_joinRev rfl pe_str rfl N.reversed (pv 1))))))), ?_⟩
    refine ⟨Nat.le_of_ble_eq_true rfl, ?_⟩
    (intro p np; generalize e_p : upd H p _ = H1; have s1 : Same H H1 := fun b x hb => (congrFun e_p b).symm.trans (same_new np b x hb); have h1 := (congrFun e_p p).symm.trans upd_same; clear e_p)
    refine while_by (fun σ H' => ∃ v2 : Option V, σ = [some (.int n), some (.ref p), v2] ∧ H' = H1) (fun _ _ => 0) ⟨_, rfl, rfl⟩ ?_ ?_
    · rintro σ H' ⟨v2, rfl, rfl⟩
      refine ⟨_, rfl, _, _, rfl, rfl, ⟨by decide, by decide, by decide⟩, _, _, rfl, rfl, _, rfl, ?_⟩
      refine ifD (fun hd => absurd hd (by show ¬ (10 : Int) ^ 60 ≤ n; omega)) (fun hd => ?_)
      refine ⟨_, rfl, .inl ⟨rfl, _, SqL.lst h1⟩, _, rfl, n, rfl, big_log n0 n1, p, _, _, rfl, rfl, h1, smallLt (by decide), ?_⟩
      generalize e2 : upd H' p _ = H2
      have h2 : H2 p = some (.lst ([numS n].map V.str)) := (congrFun e2 p).symm.trans upd_same
      have s2 : Same H H2 := fun b o e => by rw [← e2, upd_ne (ne_of_none e np)]; exact s1 _ _ e
      refine ⟨⟨_, rfl⟩, _, rfl, _, p, [numS n], rfl, rfl, SqL.lst h2, ?_, ?_⟩
      · have := num_len n0 n1
        show ((numS n).length + 0) + 1 * 0 ≤ 16777216
        omega
      · exact k H2 s2
    · intro σ H' Q1 Q2 hm h
      obtain ⟨v, hv, i, j, e1, e2, c, i2, j2, e3, e4, b, e5, q⟩ := h
      exact ⟨v, hv, i, j, e1, e2, c, i2, j2, e3, e4, b, e5, hm _ _ q⟩
theorem ok_labeltext {f : Addr} {fd : FuncData} (F : Fun K "written_label" "written_label" swritten_label f fd) (N : Names mg) (Dwritten_number : DefK P w K mg base "written_number" ["number"] 1 spNumText) : FnOk P w K mg base CX0 2 f fd ["bases", "label"] (spLabelText K) := by
  have sc := scwritten_label
  refine F.ok sc (fun vs H Q E h => ?_) (fun cdv A outer s H vs Q E hr h => ?_)
  · obtain ⟨a, l, bs, ds, rfl, _⟩ := h
    rfl
  · obtain ⟨a, l, bs, ds, rfl, hb, hd, hl, b3, bb, h60, k⟩ := h
    refine ⟨_, (pss_cons (ps_set (i := 2) sc.nd rfl (Or.inl rfl) (pe_lst (pa_cons (pe_d Dwritten_number (hr.mono (by decide)) rfl (pa_cons (pe_ix ix_tup (pv 1) pe_int (fun _ _ => rfl)) pa_nil)) pa_nil)))
      (pss_cons (ps_for PassesOwn.never rfl (pi_zipA rfl N.zip (pa_cons (pv 0) (pa_cons (pe_slice sl_tup (pv 1) (po_some pe_int) po_none) pa_nil))) (pg_tup rfl (pgs_cons (pg_name (i := 3) sc.nd rfl (Or.inl rfl)) (pgs_cons (pg_name (i := 4) sc.nd rfl (Or.inl rfl)) pgs_nil))) (pss_one (ps_expr (pe_bm PySem.F.plainAttrs_list PySem.F.slot_list_append PySem.F.type_list_append mt_append (pv 2) (pa_cons (pe_bm PySem.F.plainAttrs_str PySem.F.slot_str_zfill PySem.F.type_str_zfill mt_zfill (pe_callTy (T := "str") call_str_int (by rfl) N.str (by decide +kernel) (pa_cons (pv 4) pa_nil)) (pa_cons (pe_callB call_len_str (by rfl) N.len (by decide +kernel) (pa_cons (pe_callTy (T := "str") call_str_int (by rfl) N.str (by decide +kernel) (pa_cons (pe_op op_sub (pv 3) pe_int) pa_nil)) pa_nil)) pa_nil)) pa_nil)))))
      (pss_one (ps_ret (pe_join pe_str (pv 2)))))), ?_⟩
    have hlen := labelB_len hl
    have hx : 0 < ds.length := by omega
    have h0 : ds.headD 0 = ds[0] := by cases ds with | nil => simp at hx | cons => rfl
    refine ⟨_, rfl, l, _, _, _, rfl, rfl, hd, atI_nat (map_get hx), ?_⟩
    rw [← h0]
    refine ⟨_, rfl, label_head hl, h60, fun H1 s1 => ?_⟩
    refine ⟨Nat.le_of_ble_eq_true rfl, ?_⟩
    (intro p np; generalize e_p : upd H1 p _ = H2; have s2 : Same H1 H2 := fun b x hb => (congrFun e_p b).symm.trans (same_new np b x hb); have h2 := (congrFun e_p p).symm.trans upd_same; clear e_p)
    have s02 := s1.trans s2
    refine ⟨_, rfl, _, rfl, _, rfl, l, _, rfl, Same.seqT s02 hd, not_whole (by rw [List.length_map]; exact hx), ?_⟩
    (intro t nt; generalize e_t : upd H2 t _ = H3; have s3 : Same H2 H3 := fun b x hb => (congrFun e_t b).symm.trans (same_new nt b x hb); have h3 := (congrFun e_t t).symm.trans upd_same; clear e_t)
    have h3' : H3 t = some (.tup (ds.tail.map V.int)) := by rw [h3, cut_tail, List.drop_one, List.map_tail]
    have s03 := s02.trans s3
    have hzb := zip_bound hl
    have hzl := zip_left (ds := ds.tail) (m := 60) fun x hx => (bb x hx).2
    have ntp : t ≠ p := fun z => by rw [z, s3 _ _ h2] at h3; cases h3
    refine ⟨a, t, _, _, rfl, .inr ⟨Same.seqT s03 hb, SqT.tup h3', ?_⟩⟩
    refine for_it (walk_zipT (n := (bs.zip ds.tail).length) (by rw [List.length_zip, List.length_map, List.length_map])) (fun i σ H' => ∃ v3 v4 : Option V, σ = [some (.ref a), some (.ref l), some (.ref p), v3, v4] ∧ Same H1 H' ∧ H' t = some (.tup (ds.tail.map V.int)) ∧ H' p = some (.lst ((numS (ds.headD 0) :: ((bs.zip ds.tail).take i).map fun p => padS p.1 p.2).map V.str)))
      ⟨_, _, rfl, s2.trans s3, h3', s3 _ _ h2⟩ (fun i σ H' _ ⟨_, _, _, sm, ht, _⟩ => ⟨Same.seqT (s1.trans sm) hb, SqT.tup ht⟩) ?_ ?_
    · rintro i x σ H4 H5 hi ⟨v3, v4, rfl, sm, ht, hp⟩ ⟨T, x1, x2, rfl, nT, rfl, g1, g2⟩
      obtain ⟨b, d, hz, rfl, rfl⟩ := zip_get hi g1 g2
      obtain ⟨q0, q1⟩ := hzb _ (List.mem_of_getElem? hz)
      have q2 := hzl _ (List.mem_of_getElem? hz)
      dsimp only at q0 q1 q2
      obtain ⟨_, _, _, q5, _⟩ := pad_of q0 q1 q2
      refine ⟨T, _, rfl, SqT.tup upd_same, rfl, _, _, rfl, _, _, rfl, rfl, ?_⟩
      generalize e5 : upd H4 T _ = H5
      have s5 : Same H4 H5 := fun b o e => by rw [← e5, upd_ne (ne_of_none e nT)]; exact e
      have hp5 := s5 _ _ hp
      have zl : (bs.zip ds.tail).length ≤ 3 := by rw [List.length_zip]; omega
      have nl := num_len (m := b - 1) (by omega) (Int.lt_of_le_of_lt (show b - 1 ≤ 60 by omega) (by decide))
      refine ⟨_, rfl, .inl ⟨rfl, _, SqL.lst hp5⟩, _, rfl, d, rfl, big_log q0 (Int.lt_of_le_of_lt (show d ≤ 60 by omega) (by decide)), rfl, _, rfl, _, _, rfl, rfl, b - 1, rfl, big_log (show 0 ≤ b - 1 by omega) (Int.lt_of_le_of_lt (show b - 1 ≤ 60 by omega) (by decide)), numS (b - 1), rfl, small (by omega), _, _, rfl, rfl, pad_ok nl, p, _, _, rfl, rfl, hp5, smallLt (by rw [List.length_map, List.length_cons, List.length_map, List.length_take]; omega), ?_⟩
      refine ⟨_, _, rfl, same_mut (sm.trans s5) np, ?_, ?_⟩
      · rw [upd_ne ntp]
        exact s5 _ _ ht
      · rw [upd_same, List.take_add_one, hz, List.map_append, ← List.cons_append, List.map_append]
        rfl
    · rintro σ H' ⟨v3, v4, rfl, sm, ht, hp⟩
      rw [List.take_of_length_le (Nat.le_refl _)] at hp
      refine ⟨⟨_, rfl⟩, _, rfl, _, p, wordsP bs ds, rfl, rfl, .inl (SqL.lst hp), ?_, k H' (s1.trans sm)⟩
      refine Nat.le_trans (join_le _ _ 60 fun y hy => ?_) ?_
      · rcases List.mem_cons.mp hy with rfl | hy
        · exact num_len (label_head hl) h60
        · obtain ⟨z, hz, rfl⟩ := List.mem_map.mp hy
          obtain ⟨a1, a2⟩ := hzb z hz
          have := (pad_of a1 a2 (hzl z hz)).2.2.2.1
          omega
      · have e : ((":" : Str)).length = 1 := by decide
        rw [e]
        unfold wordsP
        rw [List.length_cons, List.length_map, List.length_zip]
        omega
end
end LM

set_option Elab.async false
set_option linter.all false
set_option maxRecDepth 100000
set_option maxHeartbeats 4000000
set_option pp.maxSteps 600
set_option pp.deepTerms false
namespace LM
open PySem PySem.Spec PyProof.Rows L2 RZ
local macro_rules | `(tactic| walk_at "hp") => `(tactic| first | assumption | exact upd_same | (rw [upd_ne (by assumption)]; assumption) | (rw [upd_ne (Ne.symm (by assumption))]; assumption) | (rw [upd_ne (by assumption)]; exact upd_same) | (rw [upd_ne (Ne.symm (by assumption))]; exact upd_same))
local macro_rules | `(tactic| walk_at "sq") => `(tactic| first | assumption | exact Or.inl (Or.inl (by assumption)) | exact Or.inl (Or.inl upd_same) | exact Or.inl (Or.inl (by walk_at "hp")))
local macro_rules | `(tactic| walk_at "ixl") => `(tactic| refine ⟨_, _, _, _, rfl, rfl, (by walk_at "sq"), (by rfl), ?_⟩)
local macro_rules | `(tactic| walk_at "setl") => `(tactic| refine ⟨_, _, _, _, rfl, rfl, (by walk_at "hp"), (by rfl), ?_⟩)
local macro_rules | `(tactic| walk_at "side") => `(tactic| refine idP ?_; first | omega | (show (0 : Int) < _; omega) | (show (0 : Int) < _ ∧ _ < _; omega) | (refine Or.inr ?_; show (-(2 ^ 64) : Int) < _ ∧ _ < _; omega) | (refine Or.inl ?_; show (-(2 ^ 64) : Int) < _ ∧ _ < _; omega) | exact divW (by omega) (by omega) _ | (refine ⟨by decide, by decide, ?_⟩; decide))
local macro_rules | `(tactic| walk_at "go1") => `(tactic| first
  | refine ⟨_, rfl, ?_⟩
  | refine ⟨_, _, rfl, rfl, (by walk_at "side"), ?_⟩
  | refine ⟨_, _, rfl, (by walk_at "side"), ?_⟩
  | refine ⟨_, _, rfl, rfl, ?_⟩
  | refine Or.inl ⟨_, rfl, ?_⟩
  | refine ⟨_, _, rfl, Or.inl (by walk_at "sq"), ?_⟩
  | walk_at "ixl"
  | walk_at "setl"
  | refine ⟨_, _, rfl, (by walk_at "sq"), rfl, ?_⟩
  | refine ⟨_, _, rfl, (by walk_at "sq"), ?_⟩
  | refine ⟨_, _, rfl, ?_⟩
  | refine ⟨rfl, ?_⟩
  | refine ⟨small (Nat.le_of_ble_eq_true rfl), ?_⟩)
local macro_rules | `(tactic| walk_at "go") => `(tactic| repeat walk_at "go1")

abbrev sHouse_frame : Stmt := inClass (topS 52) 8
theorem scHouse_frame : FnScope ["self", "label"] ["self", "label"] (defScope sHouse_frame) := ⟨rfl, rfl, rfl, by decide +kernel, rfl, by decide +kernel, by decide +kernel⟩
abbrev sHouse_written : Stmt := inClass (topS 52) 7
theorem scHouse_written : FnScope ["self", "frame"] ["self", "frame"] (defScope sHouse_written) := ⟨rfl, rfl, rfl, by decide +kernel, rfl, by decide +kernel, by decide +kernel⟩
/-! ### labels and frames by counts -/
section
variable {gs : List Int} {rows : List R3} {cs : List Int} {B : Nat} {c : Nat → Nat} {L : Nat}
theorem Cnt.grp (k : Cnt gs rows cs B c L) (s : Nat) : s / B ≤ bel B c s := by
  have hB := k.hB
  have h : ∀ g, g ≤ sumC B c g := by
    intro g
    induction g with
    | zero => exact Nat.le_refl _
    | succ g ih =>
      have := k.lt g
      show g + 1 ≤ sumC B c g + (B - c g)
      omega
  rw [bel_at (by omega) (fun g => Nat.le_of_lt (k.lt g)) s]
  have := h (s / B)
  omega
/-- a borne place is that of its frame -/
theorem Cnt.back (k : Cnt gs rows cs B c L) {s : Nat} (hs : bor B c s = true) : placeP gs cs ((bel B c s : Nat) : Int) = (s : Int) := by
  obtain ⟨t, h1, h2, h3⟩ := k.place k.pos (bel B c s)
  rw [h1, bel_inj h2 hs h3]
/-- the place of a frame -/
theorem Cnt.at (k : Cnt gs rows cs B c L) (m : Nat) : ∃ s : Nat, placeP gs cs (m : Int) = (s : Int) ∧ bor B c s = true ∧ bel B c s = m ∧ s < (m + 1) * B := by
  obtain ⟨t, h1, h2, h3⟩ := k.place k.pos m
  refine ⟨t, h1, h2, h3, ?_⟩
  have hB := k.hB
  have h4 := k.grp t
  rw [h3] at h4
  have h5 := Nat.div_add_mod t B
  have h6 := Nat.mod_lt t (show 0 < B by omega)
  have h7 : B * (t / B) ≤ B * m := Nat.mul_le_mul_left _ h4
  rw [Nat.succ_mul, Nat.mul_comm]
  omega
end
theorem label_first (bs : List Int) (p : Int) (hb : ∀ x ∈ bs, 2 ≤ x) (hp : 0 ≤ p) : (labelP bs p).headD 0 ≤ p := by
  induction bs using snoc_ind generalizing p with
  | h0 => exact Int.le_refl _
  | h1 l x ih =>
    have hx := hb x (by simp)
    have h1 := ih (p / x) (fun y hy => hb y (List.mem_append_left _ hy)) (Int.ediv_nonneg hp (by omega))
    have h2 : p / x ≤ p := Int.ediv_le_self _ hp
    rw [labelP_snoc, headD_snoc (by rw [labelP_len]; omega)]
    omega
def spFrame (K : PySem.W.Frag) (C : Addr) : Sp := fun vs H Q _ => ∃ (old : Addr → Prop) (p b r : Addr) (bs : List Int) (rows : List R3) (cs : List Int) (B : Nat) (c : Nat → Nat) (L : Nat) (l : Addr) (s : Nat), vs = [.ref p, .ref l] ∧ HouseBy K C old H p b r bs rows cs B c L ∧ SqT K H l ((labelP bs (s : Int)).map V.int) ∧ ∀ H', Same H H' → Q (optV (bearO B c s)) H'
def spSpoken (K : PySem.W.Frag) (C : Addr) : Sp := fun vs H Q _ => ∃ (old : Addr → Prop) (p b r : Addr) (bs : List Int) (rows : List R3) (cs : List Int) (B : Nat) (c : Nat → Nat) (L : Nat) (s : Nat), vs = [.ref p, .str (labelS bs (labelP bs (s : Int)))] ∧ HouseBy K C old H p b r bs rows cs B c L ∧ s < 10 ^ 59 ∧ ∀ H', Same H H' → Q (optV (bearO B c s)) H'
def spWritten (K : PySem.W.Frag) (C : Addr) : Sp := fun vs H Q _ => ∃ (old : Addr → Prop) (p b r : Addr) (bs : List Int) (rows : List R3) (cs : List Int) (n : Int), vs = [.ref p, .int n] ∧ HouseAt K C old H p b r bs rows cs ∧ 0 ≤ n ∧ 0 ≤ placeP bs cs n ∧ placeP bs cs n < 10 ^ 59 ∧ ∀ H', Same H H' → Q (.str (labelS bs (labelP bs (placeP bs cs n)))) H'
theorem hf_nm (b r sk ah rd : Addr) (t : Str) : (hf b r sk ah rd t).lookup ("frame" : Str) = none ∧ (hf b r sk ah rd t).lookup ("spoken" : Str) = none ∧ (hf b r sk ah rd t).lookup ("written" : Str) = none := ⟨hf_no _ _ _ _ _ _ (by decide +kernel) (by decide +kernel) (by decide +kernel) (by decide +kernel) (by decide +kernel) (by decide +kernel), hf_no _ _ _ _ _ _ (by decide +kernel) (by decide +kernel) (by decide +kernel) (by decide +kernel) (by decide +kernel) (by decide +kernel), hf_no _ _ _ _ _ _ (by decide +kernel) (by decide +kernel) (by decide +kernel) (by decide +kernel) (by decide +kernel) (by decide +kernel)⟩
theorem label_len {bs ds : List Int} (h : labelB bs ds = true) (hb : ∀ x ∈ bs, 2 ≤ x ∧ x ≤ 60) (b3 : bs.length ≤ 3) (h59 : ds.headD 0 < 10 ^ 59) : (labelS bs ds).length ≤ 90 ∧ ∀ w ∈ (Txt.split (labelS bs ds) ":").head?, w.length ≤ 59 := by
  have hn : (numS (ds.headD 0)).length ≤ 59 := by
    obtain ⟨m, e⟩ := Int.eq_ofNat_of_zero_le (label_head h)
    rw [e] at h59 ⊢
    have hm : m < 10 ^ 59 := by
      have : ((10 : Int) ^ 59) = ((10 ^ 59 : Nat) : Int) := by decide
      omega
    have e2 : (numS (m : Int)).length = (Nat.toDigits 10 m).length := by
      show (numS (m : Int)).cps.size = _
      rw [← Array.length_toList]
      show (sg (numS (m : Int))).length = _
      rw [sg_num, List.length_map]
    rw [e2]
    exact toDigits_len_pow (by decide) (by decide) hm
  refine ⟨?_, ?_⟩
  · unfold labelS
    rw [join_glued]
    refine Nat.le_trans (StrLaws.join_length_le ":" (wordsP bs ds)) ?_
    have e : ((":" : Str)).length = 1 := by decide
    rw [e]
    unfold wordsP
    have h2 : ((bs.zip ds.tail).map fun p => padS p.1 p.2).length ≤ 3 := by rw [List.length_map, List.length_zip]; omega
    have h3 : ∀ y ∈ (bs.zip ds.tail).map fun p => padS p.1 p.2, y.length ≤ 2 := fun y hy => by
      obtain ⟨z, hz, rfl⟩ := List.mem_map.mp hy
      obtain ⟨a1, a2⟩ := zip_bound h z hz
      exact (pad_of a1 a2 (zip_left (ds := ds.tail) (m := 60) (fun x hx => (hb x hx).2) z hz)).2.2.2.1
    have h4 := join_le ":" _ 2 h3
    rw [List.map_cons, List.sum_cons, List.length_cons]
    rw [e] at h4
    omega
  · rw [label_split h fun x hx => (hb x hx).2]
    intro w hw
    obtain rfl := Option.some.inj (show some (numS (ds.headD 0)) = some w from hw)
    exact hn
section
variable {P : Program} {w : World} {K : PySem.W.Frag} {mg : Str → Option Value} {base : Heap}
theorem ok_frame {f C fB : Addr} {fd fdB : FuncData} (F : Fun K "frame" "House.frame" sHouse_frame f fd) (T : HouseTxt K mg C) (Dis_label : DefK P w K mg base "is_label" ["bases", "value"] 3 (spIsLabel K)) (Dplace_of : DefK P w K mg base "place_of" ["bases", "label"] 1 (spPlaceOf K))
    (mB : Meth K C "_frame_bearing" fB) (GB : FnOk P w K mg base CX0 2 fB fdB ["self", "place"] (spBear K C)) (bB : Binds K fdB ["self", "place"] []) : FnOk P w K mg base CX0 4 f fd ["self", "label"] (spFrame K C) := by
  have sc := scHouse_frame
  refine F.ok sc (fun vs H Q E h => ?_) (fun cdv A outer s H vs Q E hr h => ?_)
  · obtain ⟨old, p, b, r, bs, rows, cs, B, c, L, l, x, rfl, _⟩ := h
    rfl
  · obtain ⟨old, p, b, r, bs, rows, cs, B, c, L, l, x, rfl, ⟨hA, ct⟩, hl, k⟩ := h
    refine ⟨_, (pss_cons (ps_if (pt_not (pt_val (pe_d Dis_label (hr.mono (by decide)) rfl (pa_cons (pe_fld (pv 0) rfl) (pa_cons (pv 1) pa_nil))))) (pss_one ps_never) pss_nil)
      (pss_one (ps_ret (pe_meth (pv 0) T.cl mB GB (hr.mono (by decide)) bB .nil pass0 (pa_cons (pe_d Dplace_of (hr.mono (by decide)) rfl (pa_cons (pe_fld (pv 0) rfl) (pa_cons (pv 1) pa_nil))) pa_nil))))), ?_⟩
    obtain ⟨dx, sk, ah, rd, e1, e2, e3, e4, _, _⟩ := hA.ob
    have fr := hA.fair
    have hb2 : ∀ y ∈ bs, 2 ≤ y := fun y hy => (fr.bb y hy).1
    have hok := label_ok bs (x : Int) hb2 (by omega)
    refine ⟨_, rfl, p, C, dx, _, _, rfl, e1, T.cl, T.nB, hf_bases _ _ _ _ _ _, _, rfl, b, l, bs, _, rfl, hA.bt, hl, fr.b0, fr.b3, fun H1 s1 => ⟨_, rfl, ?_⟩⟩
    rw [hok]
    refine iteF ?_
    have e1' := s1 _ _ e1
    refine ⟨_, rfl, p, dx, _, rfl, e1', hf_fb _ _ _ _ _ _, ?_⟩
    refine ⟨_, rfl, p, C, dx, _, _, rfl, e1', T.cl, T.nB, hf_bases _ _ _ _ _ _, _, rfl, b, l, bs, _, rfl, Same.seqT s1 hA.bt, Same.seqT s1 hl, labelP_len _ _, fr.b3, fr.bb, fun H2 s2 => ?_⟩
    rw [place_label bs (x : Int) hb2]
    exact ⟨old, p, b, r, bs, rows, cs, B, c, L, x, rfl, ⟨hA.same (s1.trans s2), ct⟩, fun H3 s3 => k H3 ((s1.trans s2).trans s3)⟩
theorem ok_written {f C fP : Addr} {fd fdP : FuncData} (F : Fun K "written" "House.written" sHouse_written f fd) (T : HouseTxt K mg C) (Dcheck_number : DefK P w K mg base "check_number" ["given"] 3 spChkNum) (Dlabel_at : DefK P w K mg base "label_at" ["bases", "place"] 1 (spLabelAt K)) (Dwritten_label : DefK P w K mg base "written_label" ["bases", "label"] 2 (spLabelText K))
    (mP : Meth K C "_place_borne" fP) (GP : FnOk P w K mg base CX0 2 fP fdP ["self", "frame"] (spPlaceM K C)) (bP : Binds K fdP ["self", "frame"] []) : FnOk P w K mg base CX0 4 f fd ["self", "frame"] (spWritten K C) := by
  have sc := scHouse_written
  refine F.ok sc (fun vs H Q E h => ?_) (fun cdv A outer s H vs Q E hr h => ?_)
  · obtain ⟨old, p, b, r, bs, rows, cs, n, rfl, _⟩ := h
    rfl
  · obtain ⟨old, p, b, r, bs, rows, cs, n, rfl, hA, hn, hp0, hp1, k⟩ := h
    refine ⟨_, (pss_cons (ps_expr (pe_d Dcheck_number (hr.mono (by decide)) rfl (pa_cons (pv 1) pa_nil)))
      (pss_one (ps_ret (pe_d Dwritten_label (hr.mono (by decide)) rfl (pa_cons (pe_fld (pv 0) rfl) (pa_cons (pe_d Dlabel_at (hr.mono (by decide)) rfl (pa_cons (pe_fld (pv 0) rfl) (pa_cons (pe_meth (pv 0) T.cl mP GP (hr.mono (by decide)) bP .nil pass0 (pa_cons (pv 1) pa_nil)) pa_nil))) pa_nil)))))), ?_⟩
    obtain ⟨dx, sk, ah, rd, e1, e2, e3, e4, _, _⟩ := hA.ob
    have fr := hA.fair
    have hb2 : ∀ y ∈ bs, 2 ≤ y := fun y hy => (fr.bb y hy).1
    have hok := label_ok bs (placeP bs cs n) hb2 hp0
    have hfirst := label_first bs (placeP bs cs n) hb2 hp0
    refine ⟨_, rfl, n, rfl, hn, ?_⟩
    refine ⟨_, rfl, p, C, dx, _, _, rfl, e1, T.cl, T.nB, hf_bases _ _ _ _ _ _, _, rfl, p, C, dx, _, _, rfl, e1, T.cl, T.nB, hf_bases _ _ _ _ _ _, ?_⟩
    refine ⟨_, rfl, p, dx, _, rfl, e1, hf_place _ _ _ _ _ _, _, rfl, old, p, b, r, bs, rows, cs, n, rfl, hA, hn, fun H1 s1 => ?_⟩
    refine ⟨b, bs, _, rfl, Same.seqT s1 hA.bt, fr.b3, fr.bb, fun t H2 s2 nt et => ?_⟩
    exact ⟨b, t, bs, _, rfl, Same.seqT (s1.trans s2) hA.bt, SqT.tup et, hok, fr.b3, fr.bb, Int.lt_of_le_of_lt hfirst (Int.lt_of_lt_of_le hp1 (by decide)), fun H3 s3 => k H3 ((s1.trans s2).trans s3)⟩
end
end LM

set_option Elab.async false
set_option linter.all false
set_option maxRecDepth 100000
set_option maxHeartbeats 4000000
set_option pp.maxSteps 600
set_option pp.deepTerms false
namespace LM
open PySem PySem.Spec PyProof.Rows L2
local macro_rules | `(tactic| walk_at "hp") => `(tactic| first | assumption | exact upd_same | (rw [upd_ne (by assumption)]; assumption) | (rw [upd_ne (Ne.symm (by assumption))]; assumption) | (rw [upd_ne (by assumption)]; exact upd_same) | (rw [upd_ne (Ne.symm (by assumption))]; exact upd_same))
local macro_rules | `(tactic| walk_at "sq") => `(tactic| first | assumption | exact Or.inl (Or.inl (by assumption)) | exact Or.inl (Or.inl upd_same) | exact Or.inl (Or.inl (by walk_at "hp")))
local macro_rules | `(tactic| walk_at "ixl") => `(tactic| refine ⟨_, _, _, _, rfl, rfl, (by walk_at "sq"), (by rfl), ?_⟩)
local macro_rules | `(tactic| walk_at "setl") => `(tactic| refine ⟨_, _, _, _, rfl, rfl, (by walk_at "hp"), (by rfl), ?_⟩)
local macro_rules | `(tactic| walk_at "side") => `(tactic| refine idP ?_; first | omega | (show (0 : Int) < _; omega) | (show (0 : Int) < _ ∧ _ < _; omega) | (refine Or.inr ?_; show (-(2 ^ 64) : Int) < _ ∧ _ < _; omega) | (refine Or.inl ?_; show (-(2 ^ 64) : Int) < _ ∧ _ < _; omega) | exact divW (by omega) (by omega) _ | (refine ⟨by decide, by decide, ?_⟩; decide))
local macro_rules | `(tactic| walk_at "go1") => `(tactic| first
  | refine ⟨_, rfl, ?_⟩
  | refine ⟨_, _, rfl, rfl, (by walk_at "side"), ?_⟩
  | refine ⟨_, _, rfl, (by walk_at "side"), ?_⟩
  | refine ⟨_, _, rfl, rfl, ?_⟩
  | refine Or.inl ⟨_, rfl, ?_⟩
  | refine ⟨_, _, rfl, Or.inl (by walk_at "sq"), ?_⟩
  | walk_at "ixl"
  | walk_at "setl"
  | refine ⟨_, _, rfl, (by walk_at "sq"), rfl, ?_⟩
  | refine ⟨_, _, rfl, (by walk_at "sq"), ?_⟩
  | refine ⟨_, _, rfl, ?_⟩
  | refine ⟨rfl, ?_⟩
  | refine ⟨small (Nat.le_of_ble_eq_true rfl), ?_⟩)
local macro_rules | `(tactic| walk_at "go") => `(tactic| repeat walk_at "go1")

abbrev scheck_menu : Stmt := topS 55
theorem sccheck_menu : FnScope ["menu", "index", "house"] ["menu"] (defScope scheck_menu) := ⟨rfl, rfl, rfl, by decide +kernel, rfl, by decide +kernel, by decide +kernel⟩
abbrev sis_sight : Stmt := topS 56
theorem scis_sight : FnScope ["value"] ["value"] (defScope sis_sight) := ⟨rfl, rfl, rfl, by decide +kernel, rfl, by decide +kernel, by decide +kernel⟩
abbrev scheck_seen : Stmt := topS 57
theorem sccheck_seen : FnScope ["seen", "index", "sight"] ["seen"] (defScope scheck_seen) := ⟨rfl, rfl, rfl, by decide +kernel, rfl, by decide +kernel, by decide +kernel⟩
abbrev sfits : Stmt := topS 58
theorem scfits : FnScope ["house", "seen", "frame", "text"] ["house", "seen"] (defScope sfits) := ⟨rfl, rfl, rfl, by decide +kernel, rfl, by decide +kernel, by decide +kernel⟩
abbrev sfitting : Stmt := topS 59
theorem scfitting : FnScope ["menu", "seen", "index", "house"] ["menu", "seen"] (defScope sfitting) := ⟨rfl, rfl, rfl, by decide +kernel, rfl, by decide +kernel, by decide +kernel⟩
/-- a house of a menu -/
structure HI where
  p : Addr
  b : Addr
  r : Addr
  bs : List Int
  rows : List R3
  cs : List Int
/-- the text of a frame's label -/
def txtI (bs cs : List Int) (n : Nat) : Str := labelS bs (labelP bs (placeP bs cs (n : Int)))
def MenuAt (K : PySem.W.Frag) (C : Addr) (old : Addr → Prop) (H : Hp) (m : Addr) (hs : List HI) : Prop := SqT K H m (hs.map fun h => V.ref h.p) ∧ 1 ≤ hs.length ∧ hs.length ≤ 20 ∧ ∀ h ∈ hs, HouseAt K C old H h.p h.b h.r h.bs h.rows h.cs
theorem MenuAt.same {K : PySem.W.Frag} {C : Addr} {old : Addr → Prop} {H H' : Hp} {m : Addr} {hs : List HI} (h : MenuAt K C old H m hs) (s : Same H H') : MenuAt K C old H' m hs := ⟨Same.seqT s h.1, h.2.1, h.2.2.1, fun x hx => (h.2.2.2 x hx).same s⟩
def SeenAt (K : PySem.W.Frag) (H : Hp) (s : Addr) (ss : List (Nat × Str)) : Prop := ∃ as : List Addr, SqT K H s (as.map V.ref) ∧ Paired (fun a (z : Nat × Str) => SqT K H a [.int (z.1 : Int), .str z.2]) as ss
theorem SeenAt.same {K : PySem.W.Frag} {H H' : Hp} {s : Addr} {ss : List (Nat × Str)} (h : SeenAt K H s ss) (sm : Same H H') : SeenAt K H' s ss := by
  obtain ⟨as, e, p⟩ := h
  exact ⟨as, Same.seqT sm e, paired_imp p fun a _ x q => Same.seqT sm q⟩
def spChkMenu (K : PySem.W.Frag) (C : Addr) : Sp := fun vs H Q _ => ∃ (old : Addr → Prop) (m : Addr) (hs : List HI), vs = [.ref m] ∧ MenuAt K C old H m hs ∧ ∀ H', Same H H' → Q .non H'
def spIsSight (K : PySem.W.Frag) : Sp := fun vs H Q _ => ∃ (a : Addr) (n : Nat) (x : Str), vs = [.ref a] ∧ SqT K H a [.int (n : Int), .str x] ∧ Q (.bl true) H
def spChkSeen (K : PySem.W.Frag) : Sp := fun vs H Q _ => ∃ (s : Addr) (ss : List (Nat × Str)), vs = [.ref s] ∧ SeenAt K H s ss ∧ ∀ H', Same H H' → Q .non H'
def fitB (bs cs : List Int) (ss : List (Nat × Str)) : Bool := ss.all fun z => decide (txtI bs cs z.1 = z.2)
def spFits (K : PySem.W.Frag) (C : Addr) : Sp := fun vs H Q _ => ∃ (old : Addr → Prop) (p b r s : Addr) (bs : List Int) (rows : List R3) (cs : List Int) (ss : List (Nat × Str)), vs = [.ref p, .ref s] ∧ HouseAt K C old H p b r bs rows cs ∧ SeenAt K H s ss ∧ ss.length ≤ 100 ∧ (∀ z ∈ ss, z.1 ≤ 10 ^ 31) ∧ ∀ H', Same H H' → Q (.bl (fitB bs cs ss)) H'
/-- which houses of a menu fit, of the first n -/
def fitO (hs : List HI) (ss : List (Nat × Str)) (i : Nat) : Bool := match hs[i]? with
  | some h => fitB h.bs h.cs ss
  | none => false
def atF (S : Nat → Bool) (n : Nat) : List Int := ((List.range n).filter S).map fun (i : Nat) => (i : Int)
theorem atF_succ (S : Nat → Bool) (n : Nat) : atF S (n + 1) = atF S n ++ (if S n = true then [(n : Int)] else []) := by
  unfold atF
  rw [List.range_succ, List.filter_append, List.map_append]
  congr 1
  by_cases h : S n = true
  · rw [if_pos h, List.filter_cons_of_pos h]
    rfl
  · rw [if_neg h, List.filter_cons_of_neg h]
    rfl
theorem atF_len (S : Nat → Bool) (n : Nat) : (atF S n).length ≤ n := by
  unfold atF
  rw [List.length_map]
  exact Nat.le_trans (List.length_filter_le _ _) (by rw [List.length_range]; exact Nat.le_refl _)
def spFitting (K : PySem.W.Frag) (C : Addr) : Sp := fun vs H Q _ => ∃ (old : Addr → Prop) (m s : Addr) (hs : List HI) (ss : List (Nat × Str)), vs = [.ref m, .ref s] ∧ MenuAt K C old H m hs ∧ SeenAt K H s ss ∧ ss.length ≤ 100 ∧ (∀ z ∈ ss, z.1 ≤ 10 ^ 31) ∧ ∀ t H', Same H H' → H t = none → H' t = some (.tup ((atF (fitO hs ss) hs.length).map V.int)) → Q (.ref t) H'
theorem map_ex {α β : Type} {f : α → β} {l : List α} {i : Nat} {x : β} (h : (l.map f)[i]? = some x) : ∃ y, l[i]? = some y ∧ x = f y := by
  rw [List.getElem?_map] at h
  obtain ⟨z, hz, e⟩ := Option.map_eq_some_iff.mp h
  exact ⟨z, hz, e.symm⟩
theorem lc_enumT {K : PySem.W.Frag} {a : Addr} {xs : List V} {g : TG} {tt : TT} {te : TE} {vs : List Nat} {σ : L2.St} {H1 : Hp} {D : Addr} {Qd : Hp → Prop} (Pv : Nat → Hp → Prop) (h0 : Pv 0 (upd H1 D (.lst []))) (hl : ∀ i H, i ≤ xs.length → Pv i H → SqT K H a xs)
    (hs : ∀ i x T H, xs[i]? = some x → H T = none → Pv i H → g (.ref T) (wipe σ vs) (upd H T (.tup [.int (i : Nat), x])) fun σ2 H2 => wipe σ2 vs = wipe σ vs ∧ tt σ2 H2 fun b H3 =>
      if b = true then te σ2 H3 fun y H4 => ∃ acc, H4 D = some (.lst acc) ∧ acc.length < sizeLine ∧ Pv (i + 1) (upd H4 D (.lst (acc ++ [y]))) else Pv (i + 1) H3) (hd : ∀ H, Pv xs.length H → Qd H) :
    ∃ W : Nat → Nat → Hp → Prop, (∃ m, W 0 m (upd H1 D (.lst []))) ∧ ∀ i m H, W i m H →
      ((IteT K a).stop i H ∧ Qd H) ∨ ((IteT K a).go i H ∧ ∃ Nx : Hp → Prop, (∀ H', Nx H' → ∃ m', m' < m ∧ W (i + 1) m' H') ∧ ∀ x H', (IteT K a).yld i H x H' → g x (wipe σ vs) H' fun σ2 H2 => wipe σ2 vs = wipe σ vs ∧ tt σ2 H2 fun b H3 =>
        if b = true then te σ2 H3 fun y H4 => ∃ acc, H4 D = some (.lst acc) ∧ acc.length < sizeLine ∧ Nx (upd H4 D (.lst (acc ++ [y]))) else Nx H3) := by
  refine ⟨fun i m H => m = xs.length - i ∧ i ≤ xs.length ∧ Pv i H, ⟨xs.length, by simp, Nat.zero_le _, h0⟩, ?_⟩
  rintro i m H ⟨rfl, hi, p⟩
  have q := hl i H hi p
  by_cases hlt : i < xs.length
  · refine .inr ⟨⟨xs, xs[i], q, by simp [hlt]⟩, Pv (i + 1), fun H' p' => ⟨xs.length - (i + 1), by omega, rfl, hlt, p'⟩, fun v H' y => ?_⟩
    obtain ⟨T, x, rfl, nT, rfl, f⟩ := y
    exact hs i x T H (f xs q) nT p
  · have e : i = xs.length := by omega
    subst e
    exact .inl ⟨⟨xs, q, Nat.le_refl _⟩, hd H p⟩
theorem Cnt.place31 {gs : List Int} {rows : List R3} {cs : List Int} {B : Nat} {c : Nat → Nat} {L n : Nat} (ct : Cnt gs rows cs B c L) (h : n ≤ 10 ^ 31) : 0 ≤ placeP gs cs (n : Int) ∧ placeP gs cs (n : Int) < 10 ^ 40 := by
  obtain ⟨s, p1, b1, f1, l1⟩ := ct.at n
  have hB6 := ct.hB6
  have h1 : (n + 1) * B ≤ (10 ^ 31 + 1) * 60 := Nat.mul_le_mul (by omega) hB6
  have h2 : (10 ^ 31 + 1) * 60 < 10 ^ 40 := by decide
  have h3 : (10 : Int) ^ 40 = ((10 ^ 40 : Nat) : Int) := by decide
  omega
section
variable {P : Program} {w : World} {K : PySem.W.Frag} {mg : Str → Option Value} {base : Heap}
theorem ok_chkmenu {f C : Addr} {fd : FuncData} (F : Fun K "check_menu" "check_menu" scheck_menu f fd) (T : HouseTxt K mg C) (N : Names mg) (O : Other K C) (W : OwnT K C) (hMM : ∃ t, mg "MOST_IN_MENU" = some (.int 20 t)) : FnOk P w K mg base CX0 1 f fd ["menu"] (spChkMenu K C) := by
  have sc := sccheck_menu
  refine F.ok sc (fun vs H Q E h => ?_) (fun cdv A outer s H vs Q E hr h => ?_)
  · obtain ⟨old, m, hs, rfl, _⟩ := h
    rfl
  · obtain ⟨old, m, hs, rfl, ⟨hm, m1, m2, hH⟩, k⟩ := h
    refine ⟨_, (pss_cons (ps_if (PW.pt (pw_or (pt_not (pt_val (pe_callB call_isi (by rfl) N.isinstance (by decide +kernel) (pa_cons (pv 0) (pa_cons (pe_ty "tuple" rfl N.tuple (by decide +kernel)) pa_nil))))) (pw_or1 (pt_not (pt_chain op_le op_le pe_int (pe_callB call_len_seq (by rfl) N.len (by decide +kernel) (pa_cons (pv 0) pa_nil)) (pe_const rfl hMM)))))) (pss_one ps_never) pss_nil)
      (pss_one (ps_for PassesOwn.never rfl (pi_enumT rfl N.enumerate (pa_cons (pv 0) pa_nil)) (pg_tup rfl (pgs_cons (pg_name (i := 1) sc.nd rfl (Or.inl rfl)) (pgs_cons (pg_name (i := 2) sc.nd rfl (Or.inl rfl)) pgs_nil))) (pss_one (ps_if (pt_not (pt_val (pe_callB call_isi (by rfl) N.isinstance (by decide +kernel) (pa_cons (pv 2) (pa_cons (pe_glob (v := .ref C) rfl T.mgC rfl) pa_nil))))) (pss_one ps_never) pss_nil))))), ?_⟩
    refine ⟨_, rfl, _, _, _, _, _, rfl, .ty _, tyT hm, kit_ty (r := true) (by decide +kernel), _, rfl, ?_⟩
    refine iteF ?_
    refine ⟨_, rfl, m, _, rfl, .inr hm, _, _, rfl, rfl, _, rfl, ?_⟩
    rw [List.length_map]
    refine ifD (fun hd => ?_) (fun hd => absurd (by omega) hd)
    refine ⟨_, _, rfl, rfl, _, rfl, ?_⟩
    refine ifN (fun hd => absurd (by show ((hs.length : Nat) : Int) ≤ 20; omega) hd) (fun hd => ?_)
    refine ⟨_, rfl, m, _, rfl, hm, for_enumT (K := K) (xs := hs.map fun h => V.ref h.p) (fun i σ H' => ∃ v1 v2 : Option V, σ = [some (.ref m), v1, v2] ∧ Same H H') ⟨_, _, rfl, Same.refl H⟩ (fun i σ H' _ ⟨_, _, _, s⟩ => Same.seqT s hm) ?_ ?_⟩
    · rintro i x T' σ H' hx nT ⟨v1, v2, rfl, sm⟩
      obtain ⟨h, hh, rfl⟩ := map_ex hx
      have sT := Same.of_new (o := .tup [.int ((i : Nat) : Int), .ref h.p]) sm nT
      obtain ⟨dx, sk, ah, rd, e1, _⟩ := (hH h (List.mem_of_getElem? hh)).ob
      refine ⟨T', _, rfl, SqT.tup upd_same, rfl, _, _, rfl, _, _, rfl, rfl, ?_⟩
      refine ⟨_, rfl, _, _, _, _, _, rfl, .own _, W.ty T.cl (sT _ _ e1), O.own2, _, rfl, ?_⟩
      refine iteF ?_
      exact ⟨_, _, rfl, sT⟩
    · rintro σ H' ⟨v1, v2, rfl, sm⟩
      exact k H' sm
theorem ok_issight {f : Addr} {fd : FuncData} (F : Fun K "is_sight" "is_sight" sis_sight f fd) (N : Names mg) (Dis_number : DefK P w K mg base "is_number" ["value"] 2 spIsNum) : FnOk P w K mg base CX0 3 f fd ["value"] (spIsSight K) := by
  have sc := scis_sight
  refine F.ok sc (fun vs H Q E h => ?_) (fun cdv A outer s H vs Q E hr h => ?_)
  · obtain ⟨a, n, x, rfl, _⟩ := h
    rfl
  · obtain ⟨a, n, x, rfl, ha, k⟩ := h
    refine ⟨_, (pss_one (ps_ret (pe_and (pe_callB call_isi (by rfl) N.isinstance (by decide +kernel) (pa_cons (pv 0) (pa_cons (pe_ty "tuple" rfl N.tuple (by decide +kernel)) pa_nil))) (pe_and (pe_cmpR op_eq (pe_callB call_len_seq (by rfl) N.len (by decide +kernel) (pa_cons (pv 0) pa_nil)) pe_int (nomark _)) (pe_and (pe_d Dis_number (hr.mono (by decide)) rfl (pa_cons (pe_ix ix_tup (pv 0) pe_int (fun _ _ => rfl)) pa_nil)) (pe_one (pe_callB call_isi (by rfl) N.isinstance (by decide +kernel) (pa_cons (pe_ix ix_tup (pv 0) pe_int (fun _ _ => rfl)) (pa_cons (pe_ty "str" rfl N.str (by decide +kernel)) pa_nil))))))))), ?_⟩
    refine ⟨_, rfl, _, _, _, _, _, rfl, .ty _, tyT ha, kit_ty (r := true) (by decide +kernel), _, rfl, ?_⟩
    refine iteT ?_
    refine ⟨_, rfl, a, _, rfl, .inr ha, rfl, _, rfl, ?_⟩
    refine iteT ?_
    refine ⟨_, rfl, a, _, _, _, rfl, rfl, ha, rfl, (n : Int), rfl, _, rfl, ?_⟩
    rw [decide_eq_true (show (0 : Int) ≤ (n : Int) by omega)]
    refine iteT ?_
    exact ⟨_, rfl, a, _, _, _, rfl, rfl, ha, rfl, _, _, _, _, _, rfl, .ty _, .base (.str x), kit_ty (r := true) (by decide +kernel), k⟩
theorem ok_chkseen {f : Addr} {fd : FuncData} (F : Fun K "check_seen" "check_seen" scheck_seen f fd) (N : Names mg) (Dis_sight : DefK P w K mg base "is_sight" ["value"] 3 (spIsSight K)) : FnOk P w K mg base CX0 4 f fd ["seen"] (spChkSeen K) := by
  have sc := sccheck_seen
  refine F.ok sc (fun vs H Q E h => ?_) (fun cdv A outer s H vs Q E hr h => ?_)
  · obtain ⟨s, ss, rfl, _⟩ := h
    rfl
  · obtain ⟨s', ss, rfl, hS, k⟩ := h
    obtain ⟨as, hs, pr⟩ := id hS
    refine ⟨_, (pss_cons (ps_if (pt_not (pt_val (pe_callB call_isi (by rfl) N.isinstance (by decide +kernel) (pa_cons (pv 0) (pa_cons (pe_ty "tuple" rfl N.tuple (by decide +kernel)) pa_nil))))) (pss_one ps_never) pss_nil)
      (pss_one (ps_for PassesOwn.never rfl (pi_enumT rfl N.enumerate (pa_cons (pv 0) pa_nil)) (pg_tup rfl (pgs_cons (pg_name (i := 1) sc.nd rfl (Or.inl rfl)) (pgs_cons (pg_name (i := 2) sc.nd rfl (Or.inl rfl)) pgs_nil))) (pss_one (ps_if (pt_not (pt_val (pe_d Dis_sight (hr.mono (by decide)) rfl (pa_cons (pv 2) pa_nil)))) (pss_one ps_never) pss_nil))))), ?_⟩
    refine ⟨_, rfl, _, _, _, _, _, rfl, .ty _, tyT hs, kit_ty (r := true) (by decide +kernel), _, rfl, ?_⟩
    refine iteF ?_
    refine ⟨_, rfl, s', _, rfl, hs, for_enumT (K := K) (xs := as.map V.ref) (fun i σ H' => ∃ v1 v2 : Option V, σ = [some (.ref s'), v1, v2] ∧ Same H H') ⟨_, _, rfl, Same.refl H⟩ (fun i σ H' _ ⟨_, _, _, s⟩ => Same.seqT s hs) ?_ ?_⟩
    · rintro i x T σ H' hx nT ⟨v1, v2, rfl, sm⟩
      obtain ⟨ra, ha, rfl⟩ := map_ex hx
      obtain ⟨y, hy, hya⟩ := paired_at pr ha
      have sT : Same H (upd H' T (.tup [.int ((i : Nat) : Int), .ref ra])) := Same.of_new sm nT
      refine ⟨T, _, rfl, SqT.tup upd_same, rfl, _, _, rfl, _, _, rfl, rfl, ?_⟩
      refine ⟨_, rfl, ra, y.1, y.2, rfl, Same.seqT sT hya, ?_⟩
      refine ⟨_, rfl, iteF ?_⟩
      exact ⟨_, _, rfl, sT⟩
    · rintro σ H' ⟨v1, v2, rfl, sm⟩
      exact k H' sm
theorem ok_fits {f C fWr : Addr} {fd fdWr : FuncData} (F : Fun K "fits" "fits" sfits f fd) (T : HouseTxt K mg C) (N : Names mg) (mWr : Meth K C "written" fWr) (GWr : FnOk P w K mg base CX0 4 fWr fdWr ["self", "frame"] (spWritten K C)) (bWr : Binds K fdWr ["self", "frame"] []) : FnOk P w K mg base CX0 5 f fd ["house", "seen"] (spFits K C) := by
  have sc := scfits
  refine F.ok sc (fun vs H Q E h => ?_) (fun cdv A outer s H vs Q E hr h => ?_)
  · obtain ⟨old, p, b, r, s, bs, rows, cs, ss, rfl, _⟩ := h
    rfl
  · obtain ⟨old, p, b, r, s', bs, rows, cs, ss, rfl, hA, hS, hl, hb, k⟩ := h
    obtain ⟨as, hs, pr⟩ := id hS
    have hpl := pr.length
    have ct := hA.by.2
    refine ⟨_, (pss_one (ps_ret (pe_callB (cr_all rfl) (by rfl) N.all (by decide +kernel) (pa_cons (pe_lc (own := [("frame", 2), ("text", 3)]) (g := gTup K 2 (gCons (gName 2) (gCons (gName 3) gNil))) rfl sc.nd (pi_tup (pv 1)) (blkOk_by (own := [("frame", 2), ("text", 3)]) (N := ["house", "seen", "frame", "text"]) (sc := defScope (topS 58)) (by decide +kernel)) (fun _ _ _ _ _ => (pg_tup rfl (pgs_cons (pg_name (i := 2) sc.nd rfl (Or.inl rfl) (Or.inr rfl)) (pgs_cons (pg_name (i := 3) sc.nd rfl (Or.inl rfl) (Or.inr rfl)) pgs_nil)))) (fun _ _ _ _ _ => pts_nil) (fun _ _ _ _ _ => (pe_cmpR op_eq (pe_meth (pv 0) T.cl mWr GWr (hr.mono (by decide)) bWr .nil pass0 (pa_cons (pv 2) pa_nil)) (pv 3) (nomark _)))) pa_nil)))), ?_⟩
    obtain ⟨dx, sk, ah, rd, eo, _⟩ := hA.ob
    refine ⟨_, rfl, s', rfl, ⟨_, hs⟩, ?_⟩
    intro D nD
    refine lc_tup (K := K) (xs := as.map V.ref) (fun i H' => Same H H' ∧ H' D = some (.lst (((ss.take i).map fun z => decide (txtI bs cs z.1 = z.2)).map V.bl))) ⟨same_new nD, upd_same⟩ (fun i H' _ ⟨s, _⟩ => Same.seqT s hs) ?_ ?_
    · rintro i x H' hx ⟨sm, eD⟩
      obtain ⟨ra, ha, rfl⟩ := map_ex hx
      obtain ⟨y, hy, hya⟩ := paired_at pr ha
      have hyb := hb y (List.mem_of_getElem? hy)
      have hp := ct.place31 hyb
      refine ⟨ra, _, rfl, Same.seqT sm hya, rfl, _, _, rfl, _, _, rfl, rfl, rfl, ?_⟩
      refine ⟨_, rfl, p, dx, _, rfl, sm _ _ eo, (hf_nm _ _ _ _ _ _).2.2, _, rfl, old, p, b, r, bs, rows, cs, _, rfl, hA.same sm, by omega, hp.1, Int.lt_trans hp.2 (by decide), fun H1 s1 => ?_⟩
      have hl' : i < 101 := by
        have := (List.getElem?_eq_some_iff.mp hy).1
        omega
      refine ⟨_, rfl, rfl, _, s1 _ _ eD, smallLt (by rw [List.length_map, List.length_map, List.length_take]; omega), same_mut (sm.trans s1) nD, ?_⟩
      rw [upd_same, List.take_add_one, hy, List.map_append, List.map_append]
      have e : ∀ a b : Str, decide (V.str a = V.str b) = decide (a = b) := fun a b => decide_eq_decide.mpr ⟨V.str.inj, congrArg V.str⟩
      show some (HO.lst (_ ++ [V.bl (decide (V.str (txtI bs cs y.1) = V.str y.2))])) = _
      rw [e]
      rfl
    · rintro H' ⟨sm, eD⟩
      rw [List.take_of_length_le (by rw [List.length_map]; omega)] at eD
      refine ⟨D, _, rfl, SqL.lst eD, ?_⟩
      have e : (ss.map fun z => decide (txtI bs cs z.1 = z.2)).all id = fitB bs cs ss := by
        unfold fitB
        rw [List.all_map]
        rfl
      rw [e]
      exact k H' sm
theorem ok_fitting {f C : Addr} {fd : FuncData} (F : Fun K "fitting" "fitting" sfitting f fd) (T : HouseTxt K mg C) (N : Names mg) (Dcheck_menu : DefK P w K mg base "check_menu" ["menu"] 1 (spChkMenu K C)) (Dcheck_seen : DefK P w K mg base "check_seen" ["seen"] 4 (spChkSeen K)) (Dfits : DefK P w K mg base "fits" ["house", "seen"] 5 (spFits K C)) : FnOk P w K mg base CX0 6 f fd ["menu", "seen"] (spFitting K C) := by
  have sc := scfitting
  refine F.ok sc (fun vs H Q E h => ?_) (fun cdv A outer s H vs Q E hr h => ?_)
  · obtain ⟨old, m, s, hs, ss, rfl, _⟩ := h
    rfl
  · obtain ⟨old, m, s', hs, ss, rfl, hM, hS, hl, hb, k⟩ := h
    refine ⟨_, (pss_cons (ps_expr (pe_d Dcheck_menu (hr.mono (by decide)) rfl (pa_cons (pv 0) pa_nil)))
      (pss_cons (ps_expr (pe_d Dcheck_seen (hr.mono (by decide)) rfl (pa_cons (pv 1) pa_nil)))
      (pss_one (ps_ret (pe_callTy (T := "tuple") call_tuple_of (by rfl) N.tuple (by decide +kernel) (pa_cons (pe_lc (own := [("index", 2), ("house", 3)]) (g := gTup K 2 (gCons (gName 2) (gCons (gName 3) gNil))) rfl sc.nd (pi_enumT rfl N.enumerate (pa_cons (pv 0) pa_nil)) (blkOk_by (own := [("index", 2), ("house", 3)]) (N := ["menu", "seen", "index", "house"]) (sc := defScope (topS 59)) (by decide +kernel)) (fun _ _ _ _ _ => (pg_tup rfl (pgs_cons (pg_name (i := 2) sc.nd rfl (Or.inl rfl) (Or.inr rfl)) (pgs_cons (pg_name (i := 3) sc.nd rfl (Or.inl rfl) (Or.inr rfl)) pgs_nil)))) (fun _ _ _ _ _ => (pts_one (pt_val (pe_d Dfits (hr.mono (by decide)) rfl (pa_cons (pv 3) (pa_cons (pv 1) pa_nil)))))) (fun _ _ _ _ _ => (pv 2))) pa_nil)))))), ?_⟩
    obtain ⟨hm, m1, m2, hH⟩ := id hM
    refine ⟨_, rfl, old, m, hs, rfl, hM, fun H1 s1 => ?_⟩
    refine ⟨_, rfl, s', ss, rfl, hS.same s1, fun H2 s2 => ?_⟩
    have s12 := s1.trans s2
    refine ⟨_, rfl, m, _, rfl, Same.seqT s12 hm, ?_⟩
    intro D nD
    refine lc_enumT (K := K) (xs := hs.map fun h => V.ref h.p) (fun i H' => Same H2 H' ∧ H' D = some (.lst ((atF (fitO hs ss) i).map V.int))) ⟨same_new nD, upd_same⟩ (fun i H' _ ⟨s, _⟩ => Same.seqT (s12.trans s) hm) ?_ ?_
    · rintro i x T' H' hx nT ⟨sm, eD⟩
      obtain ⟨h, hh, rfl⟩ := map_ex hx
      have sT := Same.of_new (o := .tup [.int ((i : Nat) : Int), .ref h.p]) sm nT
      refine ⟨T', _, rfl, SqT.tup upd_same, rfl, _, _, rfl, _, _, rfl, rfl, rfl, ?_⟩
      have sT2 := s12.trans sT
      have hil : i < 20 := by
        have := (List.getElem?_eq_some_iff.mp hh).1
        omega
      have hfo : fitO hs ss i = fitB h.bs h.cs ss := by
        unfold fitO
        rw [hh]
      refine ⟨_, rfl, _, rfl, old, h.p, h.b, h.r, s', h.bs, h.rows, h.cs, ss, rfl, (hH h (List.mem_of_getElem? hh)).same sT2, hS.same sT2, hl, hb, fun H3 s3 => ?_⟩
      refine ⟨_, rfl, ?_⟩
      rw [← hfo]
      have eD3 : H3 D = _ := s3 _ _ ((same_new nT) _ _ eD)
      refine ifB (fun hf => ?_) (fun hf => ?_)
      · refine ⟨_, rfl, _, eD3, smallLt (by have := atF_len (fitO hs ss) i; rw [List.length_map]; omega), same_mut (sT.trans s3) nD, ?_⟩
        rw [upd_same, atF_succ, if_pos hf, List.map_append]
        rfl
      · refine ⟨sT.trans s3, ?_⟩
        rw [atF_succ, if_neg (by rw [hf]; exact Bool.false_ne_true), List.append_nil]
        exact eD3
    · rintro H' ⟨sm, eD⟩
      rw [List.length_map] at eD
      refine ⟨D, _, rfl, .inl ⟨SqL.lst eD, ?_⟩⟩
      (intro t nt; generalize e_t : upd H' t _ = H''; have st : Same H' H'' := fun b x hb => (congrFun e_t b).symm.trans (same_new nt b x hb); have et := (congrFun e_t t).symm.trans upd_same; clear e_t)
      exact k t H'' (s12.trans (sm.trans st)) (by
        cases q : H t with
        | none => rfl
        | some o =>
          have := (s12.trans sm) _ _ q
          rw [nt] at this
          cases this) et
end
end LM

set_option Elab.async false
set_option linter.all false
set_option maxRecDepth 100000
set_option maxHeartbeats 4000000
set_option pp.maxSteps 600
set_option pp.deepTerms false
namespace LM
open PySem PySem.Spec PyProof.Rows L2 RZ
local macro_rules | `(tactic| walk_at "hp") => `(tactic| first | assumption | exact upd_same | (rw [upd_ne (by assumption)]; assumption) | (rw [upd_ne (Ne.symm (by assumption))]; assumption) | (rw [upd_ne (by assumption)]; exact upd_same) | (rw [upd_ne (Ne.symm (by assumption))]; exact upd_same))
local macro_rules | `(tactic| walk_at "sq") => `(tactic| first | assumption | exact Or.inl (Or.inl (by assumption)) | exact Or.inl (Or.inl upd_same) | exact Or.inl (Or.inl (by walk_at "hp")))
local macro_rules | `(tactic| walk_at "ixl") => `(tactic| refine ⟨_, _, _, _, rfl, rfl, (by walk_at "sq"), (by rfl), ?_⟩)
local macro_rules | `(tactic| walk_at "setl") => `(tactic| refine ⟨_, _, _, _, rfl, rfl, (by walk_at "hp"), (by rfl), ?_⟩)
local macro_rules | `(tactic| walk_at "side") => `(tactic| refine idP ?_; first | omega | (show (0 : Int) < _; omega) | (show (0 : Int) < _ ∧ _ < _; omega) | (refine Or.inr ?_; show (-(2 ^ 64) : Int) < _ ∧ _ < _; omega) | (refine Or.inl ?_; show (-(2 ^ 64) : Int) < _ ∧ _ < _; omega) | exact divW (by omega) (by omega) _ | (refine ⟨by decide, by decide, ?_⟩; decide))
local macro_rules | `(tactic| walk_at "go1") => `(tactic| first
  | refine ⟨_, rfl, ?_⟩
  | refine ⟨_, _, rfl, rfl, (by walk_at "side"), ?_⟩
  | refine ⟨_, _, rfl, (by walk_at "side"), ?_⟩
  | refine ⟨_, _, rfl, rfl, ?_⟩
  | refine Or.inl ⟨_, rfl, ?_⟩
  | refine ⟨_, _, rfl, Or.inl (by walk_at "sq"), ?_⟩
  | walk_at "ixl"
  | walk_at "setl"
  | refine ⟨_, _, rfl, (by walk_at "sq"), rfl, ?_⟩
  | refine ⟨_, _, rfl, (by walk_at "sq"), ?_⟩
  | refine ⟨_, _, rfl, ?_⟩
  | refine ⟨rfl, ?_⟩
  | refine ⟨small (Nat.le_of_ble_eq_true rfl), ?_⟩)
local macro_rules | `(tactic| walk_at "go") => `(tactic| repeat walk_at "go1")

abbrev s_law_worded : Stmt := topS 74
theorem sc_law_worded : FnScope ["_law_ground_here", "_law_numbers_here", "_law_found", "_law_base", "_law_figure"] ["_law_ground_here", "_law_numbers_here"] (defScope s_law_worded) := ⟨rfl, rfl, rfl, by decide +kernel, rfl, by decide +kernel, by decide +kernel⟩
theorem zero_eq : ("0" : Str) = ⟨#[48]⟩ := by decide
theorem padL_len {b d : Int} (h0 : 0 ≤ d) (h1 : d ≤ b - 1) (h2 : b ≤ 60) : (Txt.mul "0" ((((numS (b - 1)).length : Nat) : Int) - (((numS d).length : Nat) : Int))).length + (numS d).length ≤ 2 := by
  have h := pad_of h0 h1 h2
  have e : (padL b d).length ≤ 2 := by rw [← h.2.2.1]; exact h.2.2.2.1
  unfold padL at e
  rw [strLen_append] at e
  exact e
theorem ixN_nat {n k : Nat} (h : k < n) : ixN n (k : Int) = some k := by
  unfold ixN
  rw [if_pos (by omega), if_pos (by omega), Int.toNat_natCast]
def spWorded (K : PySem.W.Frag) : Sp := fun vs H Q _ => ∃ (a l : Addr) (bs ds : List Int), vs = [.ref a, .ref l] ∧ SqL K H a (bs.map V.int) ∧ SqL K H l (ds.map V.int) ∧ labelB bs ds = true ∧ bs.length ≤ 3 ∧ (∀ x ∈ bs, 2 ≤ x ∧ x ≤ 60) ∧ ds.headD 0 < 10 ^ 60 ∧ ∀ H', Same H H' → Q (.str (labelS bs ds)) H'
section
variable {P : Program} {w : World} {K : PySem.W.Frag} {mg : Str → Option Value} {base : Heap}
end
end LM

set_option Elab.async false
set_option linter.all false
set_option maxRecDepth 100000
set_option maxHeartbeats 4000000
set_option pp.maxSteps 600
set_option pp.deepTerms false
namespace LM
open PySem PySem.Spec PyProof.Rows L2 RZ
local macro_rules | `(tactic| walk_at "hp") => `(tactic| first | assumption | exact upd_same | (rw [upd_ne (by assumption)]; assumption) | (rw [upd_ne (Ne.symm (by assumption))]; assumption) | (rw [upd_ne (by assumption)]; exact upd_same) | (rw [upd_ne (Ne.symm (by assumption))]; exact upd_same))
local macro_rules | `(tactic| walk_at "sq") => `(tactic| first | assumption | exact Or.inl (Or.inl (by assumption)) | exact Or.inl (Or.inl upd_same) | exact Or.inl (Or.inl (by walk_at "hp")))
local macro_rules | `(tactic| walk_at "ixl") => `(tactic| refine ⟨_, _, _, _, rfl, rfl, (by walk_at "sq"), (by rfl), ?_⟩)
local macro_rules | `(tactic| walk_at "setl") => `(tactic| refine ⟨_, _, _, _, rfl, rfl, (by walk_at "hp"), (by rfl), ?_⟩)
local macro_rules | `(tactic| walk_at "side") => `(tactic| refine idP ?_; first | omega | (show (0 : Int) < _; omega) | (show (0 : Int) < _ ∧ _ < _; omega) | (refine Or.inr ?_; show (-(2 ^ 64) : Int) < _ ∧ _ < _; omega) | (refine Or.inl ?_; show (-(2 ^ 64) : Int) < _ ∧ _ < _; omega) | exact divW (by omega) (by omega) _ | (refine ⟨by decide, by decide, ?_⟩; decide))
local macro_rules | `(tactic| walk_at "go1") => `(tactic| first
  | refine ⟨_, rfl, ?_⟩
  | refine ⟨_, _, rfl, rfl, (by walk_at "side"), ?_⟩
  | refine ⟨_, _, rfl, (by walk_at "side"), ?_⟩
  | refine ⟨_, _, rfl, rfl, ?_⟩
  | refine Or.inl ⟨_, rfl, ?_⟩
  | refine ⟨_, _, rfl, Or.inl (by walk_at "sq"), ?_⟩
  | walk_at "ixl"
  | walk_at "setl"
  | refine ⟨_, _, rfl, (by walk_at "sq"), rfl, ?_⟩
  | refine ⟨_, _, rfl, (by walk_at "sq"), ?_⟩
  | refine ⟨_, _, rfl, ?_⟩
  | refine ⟨rfl, ?_⟩
  | refine ⟨small (Nat.le_of_ble_eq_true rfl), ?_⟩)
local macro_rules | `(tactic| walk_at "go") => `(tactic| repeat walk_at "go1")

abbrev s_law_written : Stmt := topS 77
theorem sc_law_written : FnScope ["_law_home", "_law_spot_at"] ["_law_home", "_law_spot_at"] (defScope s_law_written) := ⟨rfl, rfl, rfl, by decide +kernel, rfl, by decide +kernel, by decide +kernel⟩
def spWordedT (K : PySem.W.Frag) : Sp := fun vs H Q _ => ∃ (a l : Addr) (bs ds : List Int), vs = [.ref a, .ref l] ∧ SqL K H a (bs.map V.int) ∧ SqT K H l (ds.map V.int) ∧ labelB bs ds = true ∧ bs.length ≤ 3 ∧ (∀ x ∈ bs, 2 ≤ x ∧ x ≤ 60) ∧ ds.headD 0 < 10 ^ 60 ∧ ∀ H', Same H H' → Q (.str (labelS bs ds)) H'
def spWrittenL (K : PySem.W.Frag) : Sp := fun vs H Q _ => ∃ (old : Addr → Prop) (d g l : Addr) (gs : List Int) (rows : List R3) (cs : List Int) (B : Nat) (c : Nat → Nat) (L n : Nat), vs = [.ref d, .int (n : Int)] ∧ HomeBy old H d g l B c L ∧ SqL K H g (gs.map V.int) ∧ Cnt gs rows cs B c L ∧ Fair gs rows ∧ n ≤ 10 ^ 31 ∧ ∀ H', Same H H' → Q (.str (txtI gs cs n)) H'
section
variable {P : Program} {w : World} {K : PySem.W.Frag} {mg : Str → Option Value} {base : Heap}
theorem ok_wordedT {f : Addr} {fd : FuncData} (F : Fun K "_law_worded" "_law_worded" s_law_worded f fd) (N : Names mg) : FnOk P w K mg base CX0 1 f fd ["_law_ground_here", "_law_numbers_here"] (spWordedT K) := by
  have sc := sc_law_worded
  refine F.ok sc (fun vs H Q E h => ?_) (fun cdv A outer s H vs Q E hr h => ?_)
  · obtain ⟨a, l, bs, ds, rfl, _⟩ := h
    rfl
  · obtain ⟨a, l, bs, ds, rfl, hb, hd, hl, b3, bb, h60, k⟩ := h
    refine ⟨_, (pss_cons (ps_set (i := 2) sc.nd rfl (Or.inl rfl) (pe_callTy (T := "str") call_str_int (by rfl) N.str (by decide +kernel) (pa_cons (pe_ix ix_tup (pv 1) pe_int (fun _ _ => rfl)) pa_nil)))
      (pss_cons (ps_for PassesOwn.never rfl (pi_zipM true false rfl N.zip (pa_cons (pv 0) (pa_cons (pe_slice sl_tup (pv 1) (po_some pe_int) po_none) pa_nil))) (pg_tup rfl (pgs_cons (pg_name (i := 3) sc.nd rfl (Or.inl rfl)) (pgs_cons (pg_name (i := 4) sc.nd rfl (Or.inl rfl)) pgs_nil))) (pss_one (ps_set (i := 2) sc.nd rfl (Or.inl rfl) (pe_op op_add_str (pe_op op_add_str (pe_op op_add_str (pv 2) pe_str) (pe_op op_mul_str pe_str (pe_op op_sub (pe_callB call_len_str (by rfl) N.len (by decide +kernel) (pa_cons (pe_callTy (T := "str") call_str_int (by rfl) N.str (by decide +kernel) (pa_cons (pe_op op_sub (pv 3) pe_int) pa_nil)) pa_nil)) (pe_callB call_len_str (by rfl) N.len (by decide +kernel) (pa_cons (pe_callTy (T := "str") call_str_int (by rfl) N.str (by decide +kernel) (pa_cons (pv 4) pa_nil)) pa_nil))))) (pe_callTy (T := "str") call_str_int (by rfl) N.str (by decide +kernel) (pa_cons (pv 4) pa_nil))))))
      (pss_one (ps_ret (pv 2))))), ?_⟩
    have hlen := labelB_len hl
    have hx : 0 < ds.length := by omega
    have h0 : ds.headD 0 = ds[0] := by cases ds with | nil => simp at hx | cons => rfl
    have hzb := zip_bound hl
    have hzl := zip_left (ds := ds.tail) (m := 60) fun x hx => (bb x hx).2
    refine ⟨_, rfl, l, _, _, _, rfl, rfl, hd, atI_nat (map_get hx), ?_⟩
    rw [← h0]
    refine ⟨_, rfl, big_log (label_head hl) h60, ?_⟩
    refine ⟨_, rfl, _, rfl, _, rfl, l, _, rfl, hd, not_whole (by rw [List.length_map]; exact hx), ?_⟩
    (intro t nt; generalize e_t : upd H t _ = H1; have s1 : Same H H1 := fun b x hb => (congrFun e_t b).symm.trans (same_new nt b x hb); have h1 := (congrFun e_t t).symm.trans upd_same; clear e_t)
    have h1' : H1 t = some (.tup (ds.tail.map V.int)) := by rw [h1, cut_tail, List.drop_one, List.map_tail]
    refine ⟨a, t, _, _, rfl, s1.seq hb, SqT.tup h1', ?_⟩
    refine for_it (walk_zipM (m := true) (n := false) (k := (bs.zip ds.tail).length) (by rw [List.length_zip, List.length_map, List.length_map])) (fun i σ H' => ∃ (v3 v4 : Option V) (st : Str), σ = [some (.ref a), some (.ref l), some (.str st), v3, v4] ∧ Same H1 H' ∧ st = ((bs.zip ds.tail).take i).foldl wordedStep (numS (ds.headD 0)) ∧ st.length ≤ 60 + 3 * i)
      ⟨_, _, _, rfl, Same.refl H1, rfl, num_len (label_head hl) h60⟩ (fun i σ H' _ ⟨_, _, _, _, sm, _⟩ => ⟨(s1.trans sm).seq hb, SqT.tup (sm _ _ h1')⟩) ?_ ?_
    · rintro i x σ H4 H5 hi ⟨v3, v4, st, rfl, sm, est, lst⟩ ⟨T, x1, x2, rfl, nT, rfl, g1, g2⟩
      obtain ⟨b, d, hz, rfl, rfl⟩ := zip_get hi g1 g2
      obtain ⟨q0, q1⟩ := hzb _ (List.mem_of_getElem? hz)
      have q2 := hzl _ (List.mem_of_getElem? hz)
      dsimp only at q0 q1 q2
      have zl : (bs.zip ds.tail).length ≤ 3 := by rw [List.length_zip]; omega
      have pl := padL_len q0 q1 q2
      have nl := num_len (m := b - 1) (by omega) (Int.lt_of_le_of_lt (show b - 1 ≤ 60 by omega) (by decide))
      have nd := num_len (m := d) q0 (Int.lt_of_le_of_lt (show d ≤ 60 by omega) (by decide))
      refine ⟨T, _, rfl, SqT.tup upd_same, rfl, _, _, rfl, _, _, rfl, rfl, ?_⟩
      have e1 : ((":" : Str)).length = 1 := by decide
      have big : 1000 ≤ sizeLine := by decide
      refine ⟨_, rfl, _, _, rfl, rfl, (by rw [e1]; omega), ?_⟩
      refine ⟨_, rfl, _, _, rfl, rfl, b - 1, rfl, big_log (show 0 ≤ b - 1 by omega) (Int.lt_of_le_of_lt (show b - 1 ≤ 60 by omega) (by decide)), numS (b - 1), rfl, (by omega), ?_⟩
      refine ⟨_, rfl, d, rfl, big_log q0 (Int.lt_of_le_of_lt (show d ≤ 60 by omega) (by decide)), numS d, rfl, (by omega), _, _, rfl, rfl, _, _, rfl, rfl, ?_, ?_⟩
      · rw [zero_eq]
        exact mulOk_one (by omega) (by omega)
      refine ⟨_, _, rfl, rfl, ?_, _, rfl, d, rfl, big_log q0 (Int.lt_of_le_of_lt (show d ≤ 60 by omega) (by decide)), _, _, rfl, rfl, ?_, ?_⟩
      · rw [strLen_append, e1]
        omega
      · rw [strLen_append, strLen_append, e1]
        show _ + (numS d).length ≤ _
        omega
      · refine ⟨_, _, _, rfl, Same.of_new sm nT, ?_, ?_⟩
        · rw [take_fold _ _ _ i _ hz, ← est]
          rfl
        · rw [strLen_append, strLen_append, strLen_append, e1]
          show st.length + 1 + _ + (numS d).length ≤ _
          omega
    · rintro σ H' ⟨v3, v4, st, rfl, sm, est, _⟩
      rw [List.take_of_length_le (Nat.le_refl _)] at est
      have e : st = labelS bs ds := by
        rw [est]
        exact worded_eq hl fun x hx => (bb x hx).2
      rw [e]
      exact ⟨_, rfl, k _ (s1.trans sm)⟩
theorem ok_writtenL {f : Addr} {fd : FuncData} (F : Fun K "_law_written" "_law_written" s_law_written f fd) (D_law_spot : DefK P w K mg base "_law_spot" ["_law_home", "_law_figure"] 1 spSpot) (D_law_numbers : DefK P w K mg base "_law_numbers" ["_law_ground_here", "_law_spot_at"] 1 (spNumbers K)) (D_law_worded : DefK P w K mg base "_law_worded" ["_law_ground_here", "_law_numbers_here"] 1 (spWordedT K)) : FnOk P w K mg base CX0 2 f fd ["_law_home", "_law_spot_at"] (spWrittenL K) := by
  have sc := sc_law_written
  refine F.ok sc (fun vs H Q E h => ?_) (fun cdv A outer s H vs Q E hr h => ?_)
  · obtain ⟨old, d, g, l, gs, rows, cs, B, c, L, n, rfl, _⟩ := h
    rfl
  · obtain ⟨old, d, g, l, gs, rows, cs, B, c, L, n, rfl, hh, hg, ct, fr, hn, k⟩ := h
    have hu := hu_of hr
    refine ⟨_, (pss_one (ps_ret (pe_d D_law_worded (hr.mono (by decide)) rfl (pa_cons (pe_dget hu (pv 0) pe_str (fun _ _ => rfl)) (pa_cons (pe_d D_law_numbers (hr.mono (by decide)) rfl (pa_cons (pe_dget hu (pv 0) pe_str (fun _ _ => rfl)) (pa_cons (pe_d D_law_spot (hr.mono (by decide)) rfl (pa_cons (pv 0) (pa_cons (pv 1) pa_nil))) pa_nil))) pa_nil))))), ?_⟩
    obtain ⟨n0, sp, be, e1, _⟩ := id hh
    obtain ⟨s', p1, b1, f1, l1⟩ := ct.at n
    have hp := ct.place31 hn
    have hb2 : ∀ y ∈ gs, 2 ≤ y := fun y hy => (fr.bb y hy).1
    have hok := label_ok gs (placeP gs cs n) hb2 hp.1
    have hfirst := label_first gs (placeP gs cs n) hb2 hp.1
    refine ⟨_, rfl, d, _, rfl, DGet.some (s := "ground") (v := .ref g) e1 rfl, ?_⟩
    rw [show (n : Int) = ((bel B c s' : Nat) : Int) from by rw [f1]]
    refine ⟨_, rfl, d, _, rfl, DGet.some (s := "ground") (v := .ref g) e1 rfl, _, rfl, _, rfl, old, d, g, l, gs, rows, cs, B, c, L, s', rfl, hh, ct, b1, fun H1 s1 => ?_⟩
    refine ⟨g, gs, _, rfl, s1.seq hg, fr.b3, fr.bb, fun t H2 s2 nt et => ?_⟩
    rw [← p1] at et
    exact ⟨g, t, gs, _, rfl, (s1.trans s2).seq hg, SqT.tup et, hok, fr.b3, fr.bb, Int.lt_of_le_of_lt hfirst (Int.lt_trans hp.2 (by decide)), fun H3 s3 => k H3 ((s1.trans s2).trans s3)⟩
end
end LM

set_option Elab.async false
set_option linter.all false
set_option maxRecDepth 100000
set_option maxHeartbeats 4000000
set_option pp.maxSteps 600
set_option pp.deepTerms false
namespace LM
open PySem PySem.Spec PyProof.Rows L2
local macro_rules | `(tactic| walk_at "hp") => `(tactic| first | assumption | exact upd_same | (rw [upd_ne (by assumption)]; assumption) | (rw [upd_ne (Ne.symm (by assumption))]; assumption) | (rw [upd_ne (by assumption)]; exact upd_same) | (rw [upd_ne (Ne.symm (by assumption))]; exact upd_same))
local macro_rules | `(tactic| walk_at "sq") => `(tactic| first | assumption | exact Or.inl (Or.inl (by assumption)) | exact Or.inl (Or.inl upd_same) | exact Or.inl (Or.inl (by walk_at "hp")))
local macro_rules | `(tactic| walk_at "ixl") => `(tactic| refine ⟨_, _, _, _, rfl, rfl, (by walk_at "sq"), (by rfl), ?_⟩)
local macro_rules | `(tactic| walk_at "setl") => `(tactic| refine ⟨_, _, _, _, rfl, rfl, (by walk_at "hp"), (by rfl), ?_⟩)
local macro_rules | `(tactic| walk_at "side") => `(tactic| refine idP ?_; first | omega | (show (0 : Int) < _; omega) | (show (0 : Int) < _ ∧ _ < _; omega) | (refine Or.inr ?_; show (-(2 ^ 64) : Int) < _ ∧ _ < _; omega) | (refine Or.inl ?_; show (-(2 ^ 64) : Int) < _ ∧ _ < _; omega) | exact divW (by omega) (by omega) _ | (refine ⟨by decide, by decide, ?_⟩; decide))
local macro_rules | `(tactic| walk_at "go1") => `(tactic| first
  | refine ⟨_, rfl, ?_⟩
  | refine ⟨_, _, rfl, rfl, (by walk_at "side"), ?_⟩
  | refine ⟨_, _, rfl, (by walk_at "side"), ?_⟩
  | refine ⟨_, _, rfl, rfl, ?_⟩
  | refine Or.inl ⟨_, rfl, ?_⟩
  | refine ⟨_, _, rfl, Or.inl (by walk_at "sq"), ?_⟩
  | walk_at "ixl"
  | walk_at "setl"
  | refine ⟨_, _, rfl, (by walk_at "sq"), rfl, ?_⟩
  | refine ⟨_, _, rfl, (by walk_at "sq"), ?_⟩
  | refine ⟨_, _, rfl, ?_⟩
  | refine ⟨rfl, ?_⟩
  | refine ⟨small (Nat.le_of_ble_eq_true rfl), ?_⟩)
local macro_rules | `(tactic| walk_at "go") => `(tactic| repeat walk_at "go1")

/-- a house with the bases at g -/
def spHouseL (K : PySem.W.Frag) : Sp := fun vs H Q _ => ∃ (p g : Addr) (gs : List Int), vs = [.ref p, .ref g] ∧ VaseAt H p ∧ g ≠ p ∧ SqL K H g (gs.map V.int) ∧ 1 ≤ gs.length ∧ gs.length ≤ 3 ∧ (∀ x ∈ gs, 2 ≤ x ∧ x ≤ 60) ∧ unitL gs ≤ 600 ∧
  ∀ (d l : Addr) (rows : List R3) (H' : Hp), H d = none → SqL K H' g (gs.map V.int) → LanesIn K H' l rows → HomeAt (fun q => q = p) H' d g l gs rows → Fair gs rows → everyL rows ≤ 12 → VaseAt H' p → Else p H H' → Q (.ref d) H'
def orH (a b : Sp) : Sp := fun vs H Q E => a vs H Q E ∨ b vs H Q E
theorem FnOk.orh {P : Program} {w : World} {K : PySem.W.Frag} {mg : Str → Option Value} {base : Heap} {CX : CXT} {k : Nat} {f : Addr} {fd : FuncData} {ps : List Str} {a b : Sp} (A : FnOk P w K mg base CX k f fd ps a) (B : FnOk P w K mg base CX k f fd ps b) : FnOk P w K mg base CX k f fd ps (orH a b) := by
  constructor
  · exact fun vs H Q E h => h.elim (A.len _ _ _ _) (B.len _ _ _ _)
  · exact fun Ar outer s H ag us vs Q E hr e0 hb r h => h.elim (A.run Ar outer s H ag us vs Q E hr e0 hb r) (B.run Ar outer s H ag us vs Q E hr e0 hb r)
theorem fair_of {gs : List Int} {rows : List R3} (g0 : 1 ≤ gs.length) (g3 : gs.length ≤ 3) (gb : ∀ x ∈ gs, 2 ≤ x ∧ x ≤ 60) (hU : unitL gs ≤ 600) (hrl : rows.length ≤ 3) (hro : ∀ r ∈ rows, RowOk 4 gs r) : Fair gs rows := by
  have hE : everyL rows ≤ 12 := every_12' fun r hm => ⟨(hro r hm).2.2.1, (hro r hm).2.2.2.1⟩
  exact ⟨g0, g3, gb, by omega, fun x hx => ⟨(hro x hx).1, (hro x hx).2.1, (hro x hx).2.2.1, by have := (hro x hx).2.2.2.1; omega, (hro x hx).2.2.2.2⟩, Nat.le_trans (Nat.mul_le_mul hU hE) (by decide)⟩
/-- the law's own house, by its counts, the groups told -/
def HomeC (old : Addr → Prop) (H : Hp) (d g l : Addr) (B : Nat) (c : Nat → Nat) (L : Nat) : Prop := ∃ (sp be : Addr), H d = some (.dK [(Sum.inr "ground", .ref g), (Sum.inr "lanes", .ref l), (Sum.inr "groups", .int (L : Int)), (Sum.inr "spots", .ref sp), (Sum.inr "below", .ref be)]) ∧
  H sp = some (.lst (natL ((List.range (L * B)).filter (bor B c)))) ∧ H be = some (.lst (natL ((List.range (L * B)).map (bel B c)))) ∧ ¬ old sp ∧ ¬ old be
theorem HomeC.by {old : Addr → Prop} {H : Hp} {d g l : Addr} {B : Nat} {c : Nat → Nat} {L : Nat} (h : HomeC old H d g l B c L) : HomeBy old H d g l B c L := by
  obtain ⟨sp, be, h⟩ := h
  exact ⟨_, sp, be, h⟩
theorem HomeAt.cby {old : Addr → Prop} {H : Hp} {d g l : Addr} {gs : List Int} {rows : List R3} {cs : List Int} {B : Nat} {c : Nat → Nat} {L : Nat} (h : HomeAt old H d g l gs rows) (k : Cnt gs rows cs B c L) (fr : Fair gs rows) : HomeC old H d g l B c L := by
  obtain ⟨s, b, cs', n, e1, e2, e3, e4, e5, e6, e7⟩ := h
  have eb : (gs.getLastD 1).toNat = B := by have := k.last; omega
  have e3' : cs' = gapsL gs rows (groupsP gs rows) := by rw [e3, e2]; rfl
  rw [e3', (k.size fr).1] at e1
  rw [eb, e3', (k.size fr).1] at e4 e5
  rw [k.spots fr (Nat.le_refl _)] at e4
  rw [k.below fr] at e5
  exact ⟨s, b, e1, e4, e5, e6, e7⟩
theorem HomeC.same {old : Addr → Prop} {H H' : Hp} {d g l : Addr} {B : Nat} {c : Nat → Nat} {L : Nat} (h : HomeC old H d g l B c L) (s : Same H H') : HomeC old H' d g l B c L := by
  obtain ⟨sp, be, e1, e2, e3, e4, e5⟩ := h
  exact ⟨sp, be, s _ _ e1, s _ _ e2, s _ _ e3, e4, e5⟩
theorem HomeC.els {old : Addr → Prop} {H H' : Hp} {d g l q : Addr} {B : Nat} {c : Nat → Nat} {L : Nat} (h : HomeC old H d g l B c L) (hd : d ≠ q) (hq : old q) (e : Else q H H') : HomeC old H' d g l B c L := by
  obtain ⟨sp, be, e1, e2, e3, e4, e5⟩ := h
  exact ⟨sp, be, e _ _ hd e1, e _ _ (fun z => e4 (z ▸ hq)) e2, e _ _ (fun z => e5 (z ▸ hq)) e3, e4, e5⟩
theorem VaseAt.here {H : Hp} {p : Addr} (h : VaseAt H p) : H p ≠ none := by
  obtain ⟨_, _, _, _, _, _, q⟩ := h
  rw [q]
  exact fun z => nomatch z
def spClockHome (K : PySem.W.Frag) : Sp := fun vs H Q _ => ∃ (p : Addr), vs = [.ref p] ∧ VaseAt H p ∧
  ∀ (d g l : Addr) (gs : List Int) (rows : List R3) (H' : Hp), d ≠ p → g ≠ p → SqL K H' g (gs.map V.int) → LanesIn K H' l rows → HomeAt (fun q => q = p) H' d g l gs rows → Fair gs rows → unitL gs * (gs.getLastD 1).toNat * everyL rows ≤ 1200 → VaseAt H' p → Else p H H' → Q (.ref d) H'
section
variable {P : Program} {w : World} {K : PySem.W.Frag} {mg : Str → Option Value} {base : Heap}
theorem ok_houseL {f : Addr} {fd : FuncData} (F : Fun K "_law_house" "_law_house" s_law_house f fd) (D_law_ground : DefK P w K mg base "_law_ground" ["_law_vase_here", "_law_most"] 3 (spGround K)) (D_law_lanes : DefK P w K mg base "_law_lanes" ["_law_vase_here", "_law_ground_here"] 3 (spLanes K))
    (D_law_place_house : DefK P w K mg base "_law_place_house" ["_law_ground_here", "_law_lanes_here"] 3 (spPlace K)) : FnOk P w K mg base CX0 4 f fd ["_law_vase_here", "_law_ground_here"] (spHouseL K) := by
  have sc := sc_law_house
  refine F.ok sc (fun vs H Q E h => ?_) (fun cdv A outer s H vs Q E hr h => ?_)
  · obtain ⟨p, g, gs, rfl, _⟩ := h
    rfl
  · obtain ⟨p, g, gs, rfl, hv, hgp, hg, g0, g3, gb, hU, k⟩ := h
    refine ⟨_, (pss_cons (ps_set (i := 1) sc.nd rfl (Or.inl rfl) (pe_ifExp (pt_cmpR op_isN (pv 1) pe_non (nomark _)) (pe_d D_law_ground (hr.mono (by decide)) rfl (pa_cons (pv 0) (pa_cons pe_int pa_nil))) (pv 1)))
      (pss_one (ps_ret (pe_d D_law_place_house (hr.mono (by decide)) rfl (pa_cons (pv 1) (pa_cons (pe_d D_law_lanes (hr.mono (by decide)) rfl (pa_cons (pv 0) (pa_cons (pv 1) pa_nil))) pa_nil)))))), ?_⟩
    refine ⟨_, rfl, rfl, _, rfl, ?_⟩
    refine ifD (fun hd => nomatch hd) (fun _ => ?_)
    refine ⟨_, rfl, _, rfl, _, rfl, _, rfl, p, g, gs, rfl, hv, hgp, hg, g0, g3, gb, fun l rows H2 nl eL hrl hro hv2 e2 => ?_⟩
    have hE : everyL rows ≤ 12 := every_12' fun r hm => ⟨(hro r hm).2.2.1, (hro r hm).2.2.2.1⟩
    refine ⟨g, l, gs, rows, 4, rfl, e2.seq hgp hg, eL.in, g0, g3, gb, by omega, by decide, hro, Nat.le_trans (Nat.mul_le_mul hU hE) (by decide), fun d H3 s3 nd hh => ?_⟩
    refine k d l rows H3 ?_ (s3.seq (e2.seq hgp hg)) (eL.in.same s3) (hh.weak fun q hq => ?_) (fair_of g0 g3 gb hU hrl hro) hE (hv2.same s3) (e2.trans (Same.els s3))
    · cases q : H d with
      | none => rfl
      | some o =>
        have hdp : d ≠ p := hv2.ne nd
        have := e2 d o hdp q
        rw [nd] at this
        cases this
    · rw [hq]
      exact hv2.here
end
end LM


set_option Elab.async false
set_option linter.all false
set_option maxRecDepth 100000
set_option maxHeartbeats 4000000
set_option pp.maxSteps 600
set_option pp.deepTerms false
namespace LM
open PySem PySem.Spec PyProof.Rows L2 RZ
local macro_rules | `(tactic| walk_at "hp") => `(tactic| first | assumption | exact upd_same | (rw [upd_ne (by assumption)]; assumption) | (rw [upd_ne (Ne.symm (by assumption))]; assumption) | (rw [upd_ne (by assumption)]; exact upd_same) | (rw [upd_ne (Ne.symm (by assumption))]; exact upd_same))
local macro_rules | `(tactic| walk_at "sq") => `(tactic| first | assumption | exact Or.inl (Or.inl (by assumption)) | exact Or.inl (Or.inl upd_same) | exact Or.inl (Or.inl (by walk_at "hp")))
local macro_rules | `(tactic| walk_at "ixl") => `(tactic| refine ⟨_, _, _, _, rfl, rfl, (by walk_at "sq"), (by rfl), ?_⟩)
local macro_rules | `(tactic| walk_at "setl") => `(tactic| refine ⟨_, _, _, _, rfl, rfl, (by walk_at "hp"), (by rfl), ?_⟩)
local macro_rules | `(tactic| walk_at "side") => `(tactic| refine idP ?_; first | omega | (show (0 : Int) < _; omega) | (show (0 : Int) < _ ∧ _ < _; omega) | (refine Or.inr ?_; show (-(2 ^ 64) : Int) < _ ∧ _ < _; omega) | (refine Or.inl ?_; show (-(2 ^ 64) : Int) < _ ∧ _ < _; omega) | exact divW (by omega) (by omega) _ | (refine ⟨by decide, by decide, ?_⟩; decide))
local macro_rules | `(tactic| walk_at "go1") => `(tactic| first
  | refine ⟨_, rfl, ?_⟩
  | refine ⟨_, _, rfl, rfl, (by walk_at "side"), ?_⟩
  | refine ⟨_, _, rfl, (by walk_at "side"), ?_⟩
  | refine ⟨_, _, rfl, rfl, ?_⟩
  | refine Or.inl ⟨_, rfl, ?_⟩
  | refine ⟨_, _, rfl, Or.inl (by walk_at "sq"), ?_⟩
  | walk_at "ixl"
  | walk_at "setl"
  | refine ⟨_, _, rfl, (by walk_at "sq"), rfl, ?_⟩
  | refine ⟨_, _, rfl, (by walk_at "sq"), ?_⟩
  | refine ⟨_, _, rfl, ?_⟩
  | refine ⟨rfl, ?_⟩
  | refine ⟨small (Nat.le_of_ble_eq_true rfl), ?_⟩)
local macro_rules | `(tactic| walk_at "go") => `(tactic| repeat walk_at "go1")

abbrev s_law_shelf : Stmt := topS 78
theorem sc_law_shelf : FnScope ["_law_vase_here", "_law_ground_here", "_law_again_here", "_law_found", "_law_turn"] ["_law_vase_here"] (defScope s_law_shelf) := ⟨rfl, rfl, rfl, by decide +kernel, rfl, by decide +kernel, by decide +kernel⟩
theorem g_nx {i : Nat} {v : V} {σ : L2.St} {H : Hp} {D : L2.St → Hp → Prop} (h : D (σ.set i (some v)) H) : gName i v σ H D := h
/-- a home of a shelf -/
structure HD where
  d : Addr
  g : Addr
  l : Addr
  gs : List Int
  rows : List R3
theorem none_back {p q : Addr} {H H' : Hp} (e : Else p H H') (hq : q ≠ p) (h : H' q = none) : H q = none := by
  cases z : H q with
  | none => rfl
  | some o =>
    have := e _ _ hq z
    rw [h] at this
    cases this
def Off (old : Addr → Prop) (H H' : Hp) : Prop := ∀ b o, ¬ old b → H b = some o → H' b = some o
theorem Off.els {old : Addr → Prop} {p : Addr} {H H' : Hp} (h : old p) (e : Else p H H') : Off old H H' := fun b o nb hb => e b o (fun z => nb (z ▸ h)) hb
theorem Off.upd {old : Addr → Prop} {m : Addr} {H : Hp} {o : HO} (h : old m) : Off old H (upd H m o) := fun b x nb hb => by rw [upd_ne (show b ≠ m from fun z => nb (by rw [z]; exact h))]; exact hb
theorem Off.trans {old : Addr → Prop} {A B C : Hp} (h : Off old A B) (k : Off old B C) : Off old A C := fun b o nb hb => k b o nb (h b o nb hb)
def LanesO (old : Addr → Prop) (H : Hp) (l : Addr) (rows : List R3) : Prop :=
  ∃ as : List Addr, ¬ old l ∧ (∀ a ∈ as, ¬ old a) ∧ H l = some (.lst (as.map V.ref)) ∧ Paired (fun a (r : R3) => H a = some (.lst [.int r.1, .int r.2.1, .int r.2.2])) as rows
def HomeOk (old : Addr → Prop) (H : Hp) (y : HD) : Prop := ¬ old y.d ∧ ¬ old y.g ∧ H y.g = some (.lst (y.gs.map V.int)) ∧ LanesO old H y.l y.rows ∧ HomeAt old H y.d y.g y.l y.gs y.rows ∧ Fair y.gs y.rows
theorem HomeOk.off {old : Addr → Prop} {H H' : Hp} {y : HD} (h : HomeOk old H y) (e : Off old H H') : HomeOk old H' y := by
  obtain ⟨h1, h2, h3, ⟨as, l1, l2, l3, l4⟩, ⟨s, b, cs, n, e1, e2, e3, e4, e5, e6, e7⟩, h6⟩ := h
  exact ⟨h1, h2, e _ _ h2 h3, ⟨as, l1, l2, e _ _ l1 l3, paired_imp l4 fun a ha b hb => e _ _ (l2 a ha) hb⟩, ⟨s, b, cs, n, e _ _ h1 e1, e2, e3, e _ _ e6 e4, e _ _ e7 e5, e6, e7⟩, h6⟩
theorem HomeOk.weak {o1 o2 : Addr → Prop} {H : Hp} {y : HD} (h : HomeOk o1 H y) (i : ∀ q, o2 q → o1 q) : HomeOk o2 H y := by
  obtain ⟨h1, h2, h3, ⟨as, l1, l2, l3, l4⟩, h5, h6⟩ := h
  exact ⟨fun z => h1 (i _ z), fun z => h2 (i _ z), h3, ⟨as, fun z => l1 (i _ z), fun a ha z => l2 a ha (i _ z), l3, l4⟩, h5.weak i, h6⟩
theorem HomeOk.more {old : Addr → Prop} {H : Hp} {y : HD} {m : Addr} (h : HomeOk old H y) (nm : H m = none) : HomeOk (fun q => old q ∨ q = m) H y := by
  obtain ⟨h1, h2, h3, ⟨as, l1, l2, l3, l4⟩, ⟨s, b, cs, n, e1, e2, e3, e4, e5, e6, e7⟩, h6⟩ := h
  have f : ∀ {q : Addr} {o : HO}, H q = some o → q ≠ m := fun hq z => by rw [z, nm] at hq; cases hq
  refine ⟨fun z => z.elim h1 (f e1), fun z => z.elim h2 (f h3), h3, ⟨as, fun z => z.elim l1 (f l3), fun a ha z => z.elim (l2 a ha) ?_, l3, l4⟩, ⟨s, b, cs, n, e1, e2, e3, e4, e5, fun z => z.elim e6 (f e4), fun z => z.elim e7 (f e5)⟩, h6⟩
  obtain ⟨r, _, hr⟩ := paired_left l4 ha
  exact f hr
def spLanesN (K : PySem.W.Frag) : Sp := fun vs H Q _ => ∃ (p g : Addr) (gs : List Int), vs = [.ref p, .ref g] ∧ VaseAt H p ∧ g ≠ p ∧ SqL K H g (gs.map V.int) ∧ 1 ≤ gs.length ∧ gs.length ≤ 3 ∧ (∀ x ∈ gs, 2 ≤ x ∧ x ≤ 60) ∧
  ∀ (l : Addr) (rows : List R3) (H' : Hp), (∃ as : List Addr, H l = none ∧ (∀ a ∈ as, H a = none) ∧ H' l = some (.lst (as.map V.ref)) ∧ Paired (fun a (r : R3) => H' a = some (.lst [.int r.1, .int r.2.1, .int r.2.2])) as rows) → rows.length ≤ 3 → (∀ r ∈ rows, RowOk 4 gs r) → VaseAt H' p → Else p H H' → Q (.ref l) H'
def spHouseN (K : PySem.W.Frag) : Sp := fun vs H Q _ => ∃ (p : Addr) (v : V) (old : Addr → Prop), vs = [.ref p, v] ∧ VaseAt H p ∧ old p ∧ (∀ q, old q → H q ≠ none) ∧ (v = .non ∨ ∃ (g : Addr) (gs : List Int), v = .ref g ∧ ¬ old g ∧ H g = some (.lst (gs.map V.int)) ∧ 1 ≤ gs.length ∧ gs.length ≤ 3 ∧ (∀ x ∈ gs, 2 ≤ x ∧ x ≤ 60) ∧ unitL gs ≤ 600) ∧
  ∀ (y : HD) (H' : Hp), HomeOk old H' y → VaseAt H' p → Else p H H' → Q (.ref y.d) H'
def spShelf (K : PySem.W.Frag) : Sp := fun vs H Q _ => ∃ (p : Addr), vs = [.ref p] ∧ VaseAt H p ∧
  ∀ (m : Addr) (ys : List HD) (H' : Hp), m ≠ p → H' m = some (.lst (ys.map fun y => V.ref y.d)) → 1 ≤ ys.length → ys.length ≤ 20 → (∀ y ∈ ys, HomeOk (fun q => q = p) H' y) → VaseAt H' p → Else p H H' → Q (.ref m) H'
section
variable {P : Program} {w : World} {K : PySem.W.Frag} {mg : Str → Option Value} {base : Heap}
theorem ok_lanesN {f : Addr} {fd : FuncData} (F : Fun K "_law_lanes" "_law_lanes" s_law_lanes f fd) (N : Names mg) (D_law_pour : DefK P w K mg base "_law_pour" ["_law_vase_here", "_law_top"] 1 spPour)
    (D_law_pluck : DefK P w K mg base "_law_pluck" ["_law_vase_here", "_law_things"] 2 (spPluck K)) : FnOk P w K mg base CX0 3 f fd ["_law_vase_here", "_law_ground_here"] (spLanesN K) := by
  have sc := sc_law_lanes
  refine F.ok sc (fun vs H Q E h => ?_) (fun cdv A outer s H vs Q E hr h => ?_)
  · obtain ⟨p, g, gs, rfl, _⟩ := h
    rfl
  · obtain ⟨p, g, gs, rfl, hv, hgp, hg, g0, g1, gb, k⟩ := h
    refine ⟨_, (pss_cons (ps_set (i := 2) sc.nd rfl (Or.inl rfl) (pe_lst pa_nil))
      (pss_cons (ps_for PassesOwn.never rfl (pi_range1 rfl N.range (pa_cons (pe_d D_law_pluck (hr.mono (by decide)) rfl (pa_cons (pv 0) (pa_cons (pe_lst (pa_cons pe_int (pa_cons pe_int (pa_cons pe_int (pa_cons pe_int (pa_cons pe_int (pa_cons pe_int pa_nil))))))) pa_nil))) pa_nil)) (pg_name (i := 3) sc.nd rfl (Or.inl rfl)) (pss_cons (ps_par (i := 4) (j := 5) rfl sc.nd rfl rfl (by decide) rfl rfl (pa_cons (pe_d D_law_pour (hr.mono (by decide)) rfl (pa_cons (pv 0) (pa_cons (pe_callB call_len_seq (by rfl) N.len (by decide +kernel) (pa_cons (pv 1) pa_nil)) pa_nil))) (pa_cons (pe_d D_law_pluck (hr.mono (by decide)) rfl (pa_cons (pv 0) (pa_cons (pe_lst (pa_cons pe_int (pa_cons pe_int (pa_cons pe_int (pa_cons pe_int (pa_cons pe_int pa_nil)))))) pa_nil))) pa_nil)) (by rfl))
      (pss_one (ps_expr (pe_bm PySem.F.plainAttrs_list PySem.F.slot_list_append PySem.F.type_list_append mt_append (pv 2) (pa_cons (pe_lst (pa_cons (pv 4) (pa_cons (pv 5) (pa_cons (pe_d D_law_pour (hr.mono (by decide)) rfl (pa_cons (pv 0) (pa_cons (pe_ix ix_list (pv 1) (pe_un un_neg pe_int) (fun _ _ => rfl)) pa_nil))) pa_nil)))) pa_nil))))))
      (pss_one (ps_ret (pv 2))))), ?_⟩
    walk_at "go"
    (intro l nl; generalize e_l : upd H l _ = H1; have s1 : Same H H1 := fun b x hb => (congrFun e_l b).symm.trans (same_new nl b x hb); have h1 := (congrFun e_l l).symm.trans upd_same; clear e_l)
    refine ⟨_, rfl, Nat.le_of_ble_eq_true rfl, ?_⟩
    (intro m nm; generalize e_m : upd H1 m _ = H2; have s2 : Same H1 H2 := fun b x hb => (congrFun e_m b).symm.trans (same_new nm b x hb); have h2 := (congrFun e_m m).symm.trans upd_same; clear e_m)
    refine ⟨p, m, _, rfl, (hv.same s1).same s2, (hv.same s1).ne nm, SqL.lst h2, (by decide), (by decide), fun v H3 hm hv3 e3 => ?_⟩
    obtain ⟨n, rfl, n1⟩ : ∃ n : Nat, v = .int (n : Int) ∧ n ≤ 3 := by
      simp at hm
      rcases hm with rfl | rfl | rfl | rfl
      · exact ⟨0, rfl, by decide⟩
      · exact ⟨1, rfl, by decide⟩
      · exact ⟨2, rfl, by decide⟩
      · exact ⟨3, rfl, by decide⟩
    have hlp : l ≠ p := hv.ne nl
    have hH3 : Else p H H3 := (Same.els (s1.trans s2)).trans e3
    have hl3 : H3 l = some (.lst []) := e3 _ _ hlp (s2 _ _ h1)
    refine ⟨_, rfl, by omega, by omega, ?_⟩
    refine for_range (n := n) (fun i σ H' => ∃ v3 v4 v5 : Option V, σ = [some (.ref p), some (.ref g), some (.ref l), v3, v4, v5] ∧ VaseAt H' p ∧ Else p H H' ∧
        ∃ (as : List Addr) (rows : List R3), H' l = some (.lst (as.map V.ref)) ∧ (∀ a ∈ as, H a = none) ∧ Paired (fun a (r : R3) => H' a = some (.lst [.int r.1, .int r.2.1, .int r.2.2])) as rows ∧ rows.length = i ∧ ∀ r ∈ rows, RowOk 4 gs r)
      ⟨none, none, none, rfl, hv3, hH3, [], [], hl3, (fun a h => nomatch h), .nil, rfl, (fun r h => nomatch h)⟩ ?_ ?_
    · rintro i σ H' hi ⟨v3, v4, v5, rfl, hv', he, as, rows, el, ha, pr, hlen, hok⟩
      have hg' : SqL K H' g (gs.map V.int) := he.seq hgp hg
      refine ⟨_, rfl, _, rfl, _, _, rfl, .inl hg', ?_⟩
      refine ⟨p, _, rfl, hv', by rw [List.length_map]; omega, by rw [List.length_map]; omega, fun d H4 d0 d1 hv4 e4 => ?_⟩
      rw [List.length_map] at d1
      refine ⟨_, rfl, Nat.le_of_ble_eq_true rfl, ?_⟩
      (intro q nq; generalize e_q : upd H4 q _ = H5; have s5 : Same H4 H5 := fun b x hb => (congrFun e_q b).symm.trans (same_new nq b x hb); have h5 := (congrFun e_q q).symm.trans upd_same; clear e_q)
      refine ⟨p, q, _, rfl, hv4.same s5, hv4.ne nq, SqL.lst h5, (by decide), (by decide), fun v H6 hm hv6 e6 => ?_⟩
      obtain ⟨ev, rfl, ev0, ev1⟩ : ∃ n : Int, v = .int n ∧ 1 ≤ n ∧ n ≤ 4 := by
        simp at hm
        rcases hm with rfl | rfl | rfl | rfl
        · exact ⟨1, rfl, by decide, by decide⟩
        · exact ⟨2, rfl, by decide, by decide⟩
        · exact ⟨3, rfl, by decide, by decide⟩
        · exact ⟨4, rfl, by decide, by decide⟩
      have e06 : Else p H' H6 := (e4.trans (Same.els s5)).trans e6
      have hg6 : SqL K H6 g (gs.map V.int) := (he.trans e06).seq hgp hg
      have el6 := e06 _ _ hlp el
      refine ⟨_, _, rfl, ?_⟩
      refine ⟨_, rfl, .inl ⟨rfl, _, SqL.lst el6⟩, _, rfl, _, rfl, _, rfl, _, rfl, _, rfl, ?_⟩
      refine ⟨g, _, _, _, rfl, rfl, hg6, getLastD_map gs g0, ?_⟩
      have hb := gb _ (lastD_mem g0)
      refine ⟨p, _, rfl, hv6, by omega, by omega, fun c H7 c0 c1 hv7 e7 => ?_⟩
      refine ⟨Nat.le_of_ble_eq_true rfl, ?_⟩
      (intro r nr; generalize e_r : upd H7 r _ = H8; have s8 : Same H7 H8 := fun b x hb => (congrFun e_r b).symm.trans (same_new nr b x hb); have h8 := (congrFun e_r r).symm.trans upd_same; clear e_r)
      have e08 : Else p H' H8 := (e06.trans e7).trans (Same.els s8)
      have el8 := e08 _ _ hlp el
      refine ⟨l, _, _, rfl, rfl, el8, smallLt (by have := pr.length; rw [List.length_map]; omega), ?_⟩
      have hrp : r ≠ p := hv7.ne nr
      have hal : ∀ a ∈ as ++ [r], a ≠ l := fun a hm z => by
        rcases List.mem_append.mp hm with hm | hm
        · obtain ⟨y, hy, fy⟩ := paired_left pr hm
          rw [z, el] at fy
          cases as with
          | nil => cases hm
          | cons a0 as => cases fy
        · simp at hm
          rw [← z, hm, h8] at el8
          cases as <;> cases el8
      refine ⟨_, _, _, rfl, ?_, fun b o nb eb => ?_, as ++ [r], rows ++ [(d, ev, c)], ?_, fun a hm => ?_, paired_app (paired_imp pr fun a hm x hx => ?_) ?_, by simp [hlen], fun x hx => ?_⟩
      · obtain ⟨a, b, c, h1, h2, h3, eb⟩ := hv7.same s8
        exact ⟨a, b, c, h1, h2, h3, by rw [upd_ne hlp.symm]; exact eb⟩
      · have nbl : b ≠ l := ne_of_none eb nl
        rw [upd_ne nbl]
        exact e08 _ _ nb (he _ _ nb eb)
      · rw [upd_same, List.map_append]
        rfl
      · rcases List.mem_append.mp hm with hm | hm
        · exact ha a hm
        · simp at hm
          rw [hm]
          exact none_back (he.trans (e06.trans e7)) hrp nr
      · rw [upd_ne (hal a (List.mem_append_left _ hm))]
        exact e08 _ _ (hv.ne (ha a hm)) hx
      · rw [upd_ne (hal r (by simp))]
        exact h8
      · rcases List.mem_append.mp hx with hx | hx
        · exact hok x hx
        · simp at hx
          rw [hx]
          exact ⟨d0, d1, ev0, ev1, c0, c1⟩
    · rintro σ H' ⟨v3, v4, v5, rfl, hv', he, as, rows, el, ha, pr, hlen, hok⟩
      exact ⟨_, rfl, k l rows H' ⟨as, nl, ha, el, pr⟩ (by omega) hok hv' he⟩
theorem ok_houseN {f : Addr} {fd : FuncData} (F : Fun K "_law_house" "_law_house" s_law_house f fd) (D_law_ground : DefK P w K mg base "_law_ground" ["_law_vase_here", "_law_most"] 3 (spGround K)) (D_law_lanes : DefK P w K mg base "_law_lanes" ["_law_vase_here", "_law_ground_here"] 3 (spLanesN K))
    (D_law_place_house : DefK P w K mg base "_law_place_house" ["_law_ground_here", "_law_lanes_here"] 3 (spPlace K)) : FnOk P w K mg base CX0 4 f fd ["_law_vase_here", "_law_ground_here"] (spHouseN K) := by
  have sc := sc_law_house
  refine F.ok sc (fun vs H Q E h => ?_) (fun cdv A outer s H vs Q E hr h => ?_)
  · obtain ⟨p, v, old, rfl, _⟩ := h
    rfl
  · obtain ⟨p, v, old, rfl, hv, hop, holds, hg, k⟩ := h
    refine ⟨_, (pss_cons (ps_set (i := 1) sc.nd rfl (Or.inl rfl) (pe_ifExp (pt_cmpR op_isN (pv 1) pe_non (nomark _)) (pe_d D_law_ground (hr.mono (by decide)) rfl (pa_cons (pv 0) (pa_cons pe_int pa_nil))) (pv 1)))
      (pss_one (ps_ret (pe_d D_law_place_house (hr.mono (by decide)) rfl (pa_cons (pv 1) (pa_cons (pe_d D_law_lanes (hr.mono (by decide)) rfl (pa_cons (pv 0) (pa_cons (pv 1) pa_nil))) pa_nil)))))), ?_⟩
    have tail : ∀ (g : Addr) (gs : List Int) (H1 : Hp) (X : V), X = .ref g → ¬ old g → H1 g = some (.lst (gs.map V.int)) → 1 ≤ gs.length → gs.length ≤ 3 → (∀ x ∈ gs, 2 ≤ x ∧ x ≤ 60) → unitL gs ≤ 600 → VaseAt H1 p → Else p H H1 →
        spLanesN K [.ref p, X] H1 (fun v H' => spPlace K [X, v] H' Q E) E := by
      rintro g gs H1 _ rfl hgo hg g0 g3 gb hU hv1 e1
      have hgp : g ≠ p := fun z => hgo (z ▸ hop)
      refine ⟨p, g, gs, rfl, hv1, hgp, SqL.lst hg, g0, g3, gb, fun l rows H2 eL hrl hro hv2 e2 => ?_⟩
      have hE : everyL rows ≤ 12 := every_12' fun r hm => ⟨(hro r hm).2.2.1, (hro r hm).2.2.2.1⟩
      obtain ⟨as, nl, na, el, pr⟩ := eL
      have keep1 : ∀ q, old q → H1 q ≠ none := fun q hq => by
        by_cases hqp : q = p
        · rw [hqp]; exact hv1.here
        · cases z : H q with
          | none => exact absurd z (holds q hq)
          | some o => rw [e1 _ _ hqp z]; exact fun w => nomatch w
      have keep2 : ∀ q, old q → H2 q ≠ none := fun q hq => by
        by_cases hqp : q = p
        · rw [hqp]; exact hv2.here
        · cases z : H q with
          | none => exact absurd z (holds q hq)
          | some o => rw [(e1.trans e2) _ _ hqp z]; exact fun w => nomatch w
      refine ⟨g, l, gs, rows, 4, rfl, SqL.lst (e2 _ _ hgp hg), ⟨as, SqL.lst el, pr⟩, g0, g3, gb, by omega, by decide, hro, Nat.le_trans (Nat.mul_le_mul hU hE) (by decide), fun d H3 s3 nd hh => ?_⟩
      refine k ⟨d, g, l, gs, rows⟩ H3 ⟨fun z => keep2 d z nd, hgo, s3 _ _ (e2 _ _ hgp hg), ⟨as, fun z => keep1 l z nl, fun a ha z => keep1 a z (na a ha), s3 _ _ el, paired_imp pr fun a ha b hb => s3 _ _ hb⟩, hh.weak fun q hq => keep2 q hq, fair_of g0 g3 gb hU hrl hro⟩ (hv2.same s3) ((e1.trans e2).trans (Same.els s3))
    refine ⟨_, rfl, rfl, _, rfl, ?_⟩
    rcases hg with rfl | ⟨g, gs, rfl, hgp, hg, g0, g3, gb, hU⟩
    · refine ifD (fun hd => ?_) (fun hd => absurd rfl hd)
      refine ⟨_, rfl, p, _, rfl, hv, by decide, by decide, fun g gs H1 ng eg g0 g1 gb hv1 e1 => ?_⟩
      have hU := unit_16 g1 gb
      exact ⟨_, rfl, _, rfl, _, rfl, tail g gs H1 _ rfl (fun z => holds g z ng) eg g0 g1 (fun x hx => ⟨(gb x hx).1, by have := (gb x hx).2; omega⟩) (by omega) hv1 e1⟩
    · refine ifD (fun hd => nomatch hd) (fun _ => ?_)
      exact ⟨_, rfl, _, rfl, _, rfl, _, rfl, tail g gs H _ rfl hgp hg g0 g3 gb hU hv (Same.els (Same.refl H))⟩
theorem ok_shelf {f : Addr} {fd : FuncData} (F : Fun K "_law_shelf" "_law_shelf" s_law_shelf f fd) (N : Names mg) (D_law_pour : DefK P w K mg base "_law_pour" ["_law_vase_here", "_law_top"] 1 spPour) (D_law_ground : DefK P w K mg base "_law_ground" ["_law_vase_here", "_law_most"] 3 (spGround K)) (D_law_house : DefK P w K mg base "_law_house" ["_law_vase_here", "_law_ground_here"] 4 (spHouseN K)) : FnOk P w K mg base CX0 5 f fd ["_law_vase_here"] (spShelf K) := by
  have sc := sc_law_shelf
  refine F.ok sc (fun vs H Q E h => ?_) (fun cdv A outer s H vs Q E hr h => ?_)
  · obtain ⟨p, rfl, _⟩ := h
    rfl
  · obtain ⟨p, rfl, hv, k⟩ := h
    refine ⟨_, (pss_cons (ps_par (i := 1) (j := 2) rfl sc.nd rfl rfl (by decide) rfl rfl (pa_cons (pe_d D_law_ground (hr.mono (by decide)) rfl (pa_cons (pv 0) (pa_cons pe_int pa_nil))) (pa_cons (pe_d D_law_pour (hr.mono (by decide)) rfl (pa_cons (pv 0) (pa_cons pe_int pa_nil))) pa_nil)) (by rfl))
      (pss_cons (ps_set (i := 3) sc.nd rfl (Or.inl rfl) (pe_lst (pa_cons (pe_d D_law_house (hr.mono (by decide)) rfl (pa_cons (pv 0) (pa_cons (pv 1) pa_nil))) pa_nil)))
      (pss_cons (ps_for PassesOwn.never rfl (pi_range1 rfl N.range (pa_cons (pe_d D_law_pour (hr.mono (by decide)) rfl (pa_cons (pv 0) (pa_cons pe_int pa_nil))) pa_nil)) (pg_name (i := 4) sc.nd rfl (Or.inl rfl)) (pss_one (ps_expr (pe_bm PySem.F.plainAttrs_list PySem.F.slot_list_append PySem.F.type_list_append mt_append (pv 3) (pa_cons (pe_d D_law_house (hr.mono (by decide)) rfl (pa_cons (pv 0) (pa_cons (pe_ifExp (pt_cmpR op_gt (pe_d D_law_pour (hr.mono (by decide)) rfl (pa_cons (pv 0) (pa_cons pe_int pa_nil))) pe_int (nomark _)) (pv 1) pe_non) pa_nil))) pa_nil)))))
      (pss_one (ps_ret (pe_ifExp (pt_cmpR op_eq (pv 2) pe_int (nomark _)) (pe_slice sl_list (pe_op op_rep (pv 3) pe_int) po_none (po_some pe_int)) (pv 3))))))), ?_⟩
    refine ⟨_, rfl, p, _, rfl, hv, by decide, by decide, fun g gs H1 ng eg g0 g1 gb hv1 e1 => ?_⟩
    have hgp := hv.ne ng
    have hU : unitL gs ≤ 600 := by have := unit_16 g1 gb; omega
    have gb' : ∀ x ∈ gs, 2 ≤ x ∧ x ≤ 60 := fun x hx => ⟨(gb x hx).1, by have := (gb x hx).2; omega⟩
    refine ⟨_, rfl, p, _, rfl, hv1, by decide, by decide, fun ag H2 ag0 ag1 hv2 e2 => ?_⟩
    refine ⟨_, _, rfl, ?_⟩
    dsimp only
    refine ⟨_, rfl, _, rfl, p, .ref g, (fun q => q = p), rfl, hv2, rfl, (fun q hq => hq ▸ hv2.here), .inr ⟨g, gs, rfl, hgp, e2 _ _ hgp eg, g0, g1, gb', hU⟩, fun y0 H3 hy0 hv3 e3 => ?_⟩
    refine ⟨Nat.le_of_ble_eq_true rfl, ?_⟩
    (intro m nm; generalize e_m : upd H3 m _ = H4; have s4 : Same H3 H4 := fun b x hb => (congrFun e_m b).symm.trans (same_new nm b x hb); have h4 := (congrFun e_m m).symm.trans upd_same; clear e_m)
    have hv4 := hv3.same s4
    have nmp : m ≠ p := hv3.ne nm
    have e04 : Else p H H4 := e1.trans (e2.trans (e3.trans (Same.els s4)))
    have nmH : H m = none := none_back (e1.trans (e2.trans e3)) nmp nm
    have hg4 : H4 g = some (.lst (gs.map V.int)) := s4 _ _ (e3 _ _ hgp (e2 _ _ hgp eg))
    have ngm : g ≠ m := fun z => by rw [z, h4] at hg4; cases gs with | nil => exact absurd g0 (by decide) | cons a r => cases hg4
    have hy4 : HomeOk (fun q => q = p ∨ q = m) H4 y0 := (hy0.more nm).off fun b o _ hb => s4 b o hb
    refine g_nx ?_
    dsimp only
    refine ⟨_, rfl, p, _, rfl, hv4, by decide, by decide, fun z H5 z0 z1 hv5 e5 => ?_⟩
    obtain ⟨n, rfl⟩ := nat_of z0
    refine ⟨_, rfl, by omega, by omega, ?_⟩
    refine for_range (n := n) (fun i σ H' => ∃ (v4 : Option V) (ys : List HD), σ = [some (.ref p), some (.ref g), some (.int ag), some (.ref m), v4] ∧ VaseAt H' p ∧ Else p H H' ∧ H' g = some (.lst (gs.map V.int)) ∧ H' m = some (.lst (ys.map fun y => V.ref y.d)) ∧ ys.length = i + 1 ∧ ∀ y ∈ ys, HomeOk (fun q => q = p ∨ q = m) H' y)
      ⟨_, [y0], rfl, hv5, e04.trans e5, e5 _ _ hgp hg4, e5 _ _ nmp h4, rfl, fun y hy => by
        obtain rfl := List.mem_singleton.mp hy
        exact hy4.off (Off.els (.inl rfl) e5)⟩ ?_ ?_
    · rintro i σ H' hi ⟨v4, ys, rfl, hv', he, hg', hm', hl, hys⟩
      refine ⟨_, rfl, .inl ⟨rfl, _, SqL.lst hm'⟩, _, rfl, _, rfl, p, _, rfl, hv', by decide, by decide, fun t H6 t0 t1 hv6 e6 => ?_⟩
      refine ⟨_, _, rfl, rfl, _, rfl, ?_⟩
      have hg6 := e6 _ _ hgp hg'
      have hm6 := e6 _ _ nmp hm'
      refine if_join (P := fun v => v = .non ∨ v = .ref g) (fun _ Q' kk => ⟨_, rfl, kk _ (.inr rfl)⟩) (fun _ Q' kk => kk _ (.inl rfl)) (fun v hv0 => ?_)
      refine ⟨p, v, (fun q => q = p ∨ q = m), rfl, hv6, .inl rfl, (fun q hq => hq.elim (fun z => z ▸ hv6.here) fun z => by rw [z, hm6]; exact fun w => nomatch w), hv0.imp id (fun z => ⟨g, gs, z, fun w => w.elim hgp ngm, hg6, g0, g1, gb', hU⟩), fun y H7 hy hv7 e7 => ?_⟩
      have hm7 := e7 _ _ nmp hm6
      have e67 := e6.trans e7
      refine ⟨m, _, _, rfl, rfl, hm7, smallLt (by rw [List.length_map]; omega), ?_⟩
      refine ⟨_, ys ++ [y], rfl, ?_, fun b o nb hb => ?_, ?_, by rw [upd_same, List.map_append]; rfl, by rw [List.length_append, hl]; rfl, fun x hx => ?_⟩
      · obtain ⟨a, b, c, h1, h2, h3, eb⟩ := hv7
        exact ⟨a, b, c, h1, h2, h3, by rw [upd_ne nmp.symm]; exact eb⟩
      · rw [upd_ne (ne_of_none hb nmH)]
        exact (he.trans e67) _ _ nb hb
      · rw [upd_ne ngm]
        exact e67 _ _ hgp hg'
      · rcases List.mem_append.mp hx with hx | hx
        · exact ((hys x hx).off (Off.els (.inl rfl) e67)).off (Off.upd (.inr rfl))
        · obtain rfl := List.mem_singleton.mp hx
          exact hy.off (Off.upd (.inr rfl))
    · rintro σ H' ⟨v4, ys, rfl, hv', he, hg', hm', hl, hys⟩
      dsimp only
      have hys' : ∀ y ∈ ys, HomeOk (fun q => q = p) H' y := fun y hy => (hys y hy).weak fun q hq => .inl hq
      refine ⟨_, rfl, rfl, _, rfl, ?_⟩
      refine ifD (fun _ => ?_) (fun _ => ?_)
      · refine ⟨_, rfl, m, _, _, rfl, rfl, hm', by decide, by decide, ?_, ?_⟩
        · have h1 : (ys.map fun y => V.ref y.d).length * Int.toNat 20 ≤ 6 * 20 := Nat.mul_le_mul_right _ (by rw [List.length_map]; omega)
          exact Nat.le_trans h1 (by decide)
        (intro t1 nt1; generalize e_t1 : upd H' t1 _ = H6; have s6 : Same H' H6 := fun b x hb => (congrFun e_t1 b).symm.trans (same_new nt1 b x hb); have h6 := (congrFun e_t1 t1).symm.trans upd_same; clear e_t1)
        refine ⟨_, rfl, t1, _, rfl, SqL.lst h6, ?_⟩
        (intro t2 nt2; generalize e_t2 : upd H6 t2 _ = H7; have s7 : Same H6 H7 := fun b x hb => (congrFun e_t2 b).symm.trans (same_new nt2 b x hb); have h7 := (congrFun e_t2 t2).symm.trans upd_same; clear e_t2)
        have s67 := s6.trans s7
        have e7 : H7 t2 = some (.lst ((((List.replicate 20 ys).flatten).take 20).map fun y => V.ref y.d)) := by
          rw [h7, show (20 : Int) = ((20 : Nat) : Int) from rfl, cut_to, List.map_take, List.map_flatten, List.map_replicate]
          rfl
        have hv6 := hv'.same s6
        have hlen : ((List.replicate 20 ys).flatten).length = 20 * ys.length := by rw [List.length_flatten, List.map_replicate, List.sum_replicate_nat]
        refine k t2 _ H7 (hv6.ne nt2) e7 (by rw [List.length_take, hlen]; omega) (by rw [List.length_take]; omega) (fun y hy => ?_) (hv'.same s67) (he.trans (Same.els s67))
        have hy1 := List.mem_of_mem_take hy
        obtain ⟨l, hl1, hl2⟩ := List.mem_flatten.mp hy1
        obtain ⟨_, rfl⟩ := List.mem_replicate.mp hl1
        exact (hys' y hl2).off fun b o _ hb => s67 b o hb
      · exact ⟨_, rfl, k m ys H' nmp hm' (by omega) (by omega) hys' hv' he⟩
end
end LM

set_option Elab.async false
set_option linter.all false
set_option maxRecDepth 100000
set_option maxHeartbeats 2000000
/-! a list of written items, the first of them an operation with a written text: behind it a token is out -/
namespace LM
open PySem PySem.Spec PyProof.Rows L2 CwR
theorem pa_consO {X : Cx} {a : Expr} {op : Operator} {r : R2} {ta : TE} {x : Str} {j : Nat} {cp pos : Pos} {es : List Expr} {t : TA} (ho : OpR X (binaryOp op) r) (ha : PE X a ta) (hr : PAT X es t)
    (hs : starEach (.BinOp a op (.Constant (.str x) j cp) pos :: es) X.env = (false, eval (.BinOp a op (.Constant (.str x) j cp) pos) X.env) :: starEach es X.env := by rfl) : PA X (.BinOp a op (.Constant (.str x) j cp) pos :: es) (tCons (tOp r ta (tC (.str x))) t) := by
  refine ⟨fun pos' pins s σ H Q I h => ?_⟩
  rw [hs]
  show wpAny _ _ (spliced ((false, eval _ X.env) :: backTo pos' (starEach es X.env))) _ _ s
  refine Calls.spliced_cons (wpAny_BinOp (thn (ha.run pins s σ H _ I h) fun v s1 ⟨y, H1, I1, r1, q1⟩ => Calls.Constant_str ?_))
  refine wpAny_mono (PySem.wpAny_toks (ho pins _ σ H1 y (V.str x) v (Value.str x s1.toks) _ (I1.tok (s1.toks + 1)) r1 ⟨_, rfl⟩ q1)) (fun w s2 q => ?_) fun _ _ z => z.2
  obtain ⟨hk, z, H2, I2, r2, q2⟩ := q
  have hk' : s1.toks + 1 ≤ s2.toks := hk
  exact thn (hr pos' pins s2 σ H2 _ (by omega) I2 q2) fun us s3 ⟨xs, H3, I3, r3, q3⟩ => ⟨z :: xs, H3, I3, .cons r2 r3, q3⟩
end LM

set_option Elab.async false
set_option linter.all false
set_option maxRecDepth 100000
set_option maxHeartbeats 4000000
set_option pp.maxSteps 600
set_option pp.deepTerms false
namespace LM
open PySem PySem.Spec PyProof.Rows L2 RZ CwR
local macro_rules | `(tactic| walk_at "hp") => `(tactic| first | assumption | exact upd_same | (rw [upd_ne (by assumption)]; assumption) | (rw [upd_ne (Ne.symm (by assumption))]; assumption) | (rw [upd_ne (by assumption)]; exact upd_same) | (rw [upd_ne (Ne.symm (by assumption))]; exact upd_same))
local macro_rules | `(tactic| walk_at "sq") => `(tactic| first | assumption | exact Or.inl (Or.inl (by assumption)) | exact Or.inl (Or.inl upd_same) | exact Or.inl (Or.inl (by walk_at "hp")))
local macro_rules | `(tactic| walk_at "ixl") => `(tactic| refine ⟨_, _, _, _, rfl, rfl, (by walk_at "sq"), (by rfl), ?_⟩)
local macro_rules | `(tactic| walk_at "setl") => `(tactic| refine ⟨_, _, _, _, rfl, rfl, (by walk_at "hp"), (by rfl), ?_⟩)
local macro_rules | `(tactic| walk_at "side") => `(tactic| refine idP ?_; first | omega | (show (0 : Int) < _; omega) | (show (0 : Int) < _ ∧ _ < _; omega) | (refine Or.inr ?_; show (-(2 ^ 64) : Int) < _ ∧ _ < _; omega) | (refine Or.inl ?_; show (-(2 ^ 64) : Int) < _ ∧ _ < _; omega) | exact divW (by omega) (by omega) _ | (refine ⟨by decide, by decide, ?_⟩; decide))
local macro_rules | `(tactic| walk_at "go1") => `(tactic| first
  | refine ⟨_, rfl, ?_⟩
  | refine ⟨_, _, rfl, rfl, (by walk_at "side"), ?_⟩
  | refine ⟨_, _, rfl, (by walk_at "side"), ?_⟩
  | refine ⟨_, _, rfl, rfl, ?_⟩
  | refine Or.inl ⟨_, rfl, ?_⟩
  | refine ⟨_, _, rfl, Or.inl (by walk_at "sq"), ?_⟩
  | walk_at "ixl"
  | walk_at "setl"
  | refine ⟨_, _, rfl, (by walk_at "sq"), rfl, ?_⟩
  | refine ⟨_, _, rfl, (by walk_at "sq"), ?_⟩
  | refine ⟨_, _, rfl, ?_⟩
  | refine ⟨rfl, ?_⟩
  | refine ⟨small (Nat.le_of_ble_eq_true rfl), ?_⟩)
local macro_rules | `(tactic| walk_at "go") => `(tactic| repeat walk_at "go1")

abbrev s_law_sight : Stmt := topS 79
theorem sc_law_sight : FnScope ["_law_vase_here", "_law_homes", "_law_chosen", "_law_spot_at", "_law_home", "_law_bend", "_law_words"] ["_law_vase_here", "_law_homes", "_law_chosen"] (defScope s_law_sight) := ⟨rfl, rfl, rfl, by decide +kernel, rfl, by decide +kernel, by decide +kernel⟩
abbrev s_law_fits : Stmt := topS 80
theorem sc_law_fits : FnScope ["_law_home", "_law_sights", "_law_spot_at", "_law_words"] ["_law_home", "_law_sights"] (defScope s_law_fits) := ⟨rfl, rfl, rfl, by decide +kernel, rfl, by decide +kernel, by decide +kernel⟩
theorem least_nat {p : Nat → Prop} : ∀ n, p n → ∃ m, p m ∧ ∀ k, k < m → ¬ p k := by
  intro n
  induction n using Nat.strongRecOn with
  | ind n ih =>
    intro hn
    by_cases h : ∃ k, k < n ∧ p k
    · obtain ⟨k, hk, pk⟩ := h
      exact ih k hk pk
    · exact ⟨n, hn, fun k hk pk => h ⟨k, hk, pk⟩⟩
def Rp (gs : List Int) (rows : List R3) (cs : List Int) : Prop := ∃ k, RepIs (countsP gs rows (groupsP gs rows)) k ∧ cs = (countsP gs rows (groupsP gs rows)).take k
theorem rp_ex {gs : List Int} {rows : List R3} (fr : Fair gs rows) : ∃ cs, Rp gs rows cs := by
  have g1 : 1 ≤ groupsP gs rows := Nat.mul_pos (unitP_pos fr.bb 0) (every_mono rows 1 (by decide) fun x hx => (fr.ro x hx).2.2.1)
  have hl := countsP_len gs rows (groupsP gs rows)
  obtain ⟨k, ⟨k1, k2, k3⟩, km⟩ := least_nat (p := fun k => 1 ≤ k ∧ k ≤ (countsP gs rows (groupsP gs rows)).length ∧ repOk (countsP gs rows (groupsP gs rows)) k) (groupsP gs rows) ⟨g1, by rw [hl]; exact Nat.le_refl _, by rw [hl, Nat.mod_self], by rw [hl, Nat.sub_self, List.take_zero, List.drop_eq_nil_of_le (by rw [hl]; exact Nat.le_refl _)]⟩
  exact ⟨_, k, ⟨k1, k2, k3, fun j j1 jk hj => km j jk ⟨j1, by omega, hj⟩⟩, rfl⟩
theorem rp_same {gs : List Int} {rows : List R3} {c1 c2 : List Int} (h1 : Rp gs rows c1) (h2 : Rp gs rows c2) : c1 = c2 := by
  obtain ⟨k, ⟨a1, a2, a3, a4⟩, rfl⟩ := h1
  obtain ⟨j, ⟨b1, b2, b3, b4⟩, rfl⟩ := h2
  have e : k = j := by
    rcases Nat.lt_trichotomy k j with z | z | z
    · exact absurd a3 (b4 k a1 z)
    · exact z
    · exact absurd b3 (a4 j b1 z)
  rw [e]
theorem rp_cnt {gs : List Int} {rows : List R3} {cs : List Int} (fr : Fair gs rows) (h : Rp gs rows cs) : Cnt gs rows cs (gs.getLastD 1).toNat (cN gs rows) cs.length := cnt_of fr h
/-- the text of a frame of a home -/
noncomputable def HD.cs (y : HD) : List Int := Classical.epsilon fun cs => Rp y.gs y.rows cs
theorem HD.rp {y : HD} (fr : Fair y.gs y.rows) : Rp y.gs y.rows y.cs := Classical.epsilon_spec (rp_ex fr)
theorem HomeOk.by {old : Addr → Prop} {H : Hp} {y : HD} (h : HomeOk old H y) : HomeBy old H y.d y.g y.l (y.gs.getLastD 1).toNat (cN y.gs y.rows) y.cs.length ∧ Cnt y.gs y.rows y.cs (y.gs.getLastD 1).toNat (cN y.gs y.rows) y.cs.length ∧ Fair y.gs y.rows := by
  obtain ⟨h1, h2, h3, h4, h5, h6⟩ := h
  have ct := rp_cnt h6 (HD.rp h6)
  exact ⟨h5.by ct h6, ct, h6⟩
theorem txt_len {gs : List Int} {rows : List R3} {cs : List Int} {B : Nat} {c : Nat → Nat} {L n : Nat} (fr : Fair gs rows) (ct : Cnt gs rows cs B c L) (hn : n ≤ 10 ^ 31) : (txtI gs cs n).length ≤ 90 := by
  have hp := ct.place31 hn
  have hb2 : ∀ y ∈ gs, 2 ≤ y := fun y hy => (fr.bb y hy).1
  have hfirst := label_first gs (placeP gs cs n) hb2 hp.1
  exact (label_len (label_ok gs (placeP gs cs n) hb2 hp.1) fr.bb fr.b3 (Int.lt_of_le_of_lt hfirst (Int.lt_trans hp.2 (by decide)))).1
theorem ints_lay : ∀ ns : List Int, PyData.canLayAll0 (ns.map PyData.int) = true ∧ PyData.depthAll (ns.map PyData.int) = 0
  | [] => by simp [PyData.canLayAll0, PyData.depthAll]
  | n :: ns => by
    obtain ⟨h1, h2⟩ := ints_lay ns
    simp only [List.map_cons, PyData.canLayAll0, PyData.depthAll, PyData.canLay0, PyData.depth, h1, h2]
    simp
theorem list_shaped (ns : List Int) : SeqAt.shaped (.list (ns.map PyData.int)) = true := by
  obtain ⟨h1, h2⟩ := ints_lay ns
  have hc : (PyData.list (ns.map PyData.int)).canLay0 = true := by simp only [PyData.canLay0, h1]
  have hd : (PyData.list (ns.map PyData.int)).depth = 1 := by simp only [PyData.depth, h2]
  unfold SeqAt.shaped
  rw [hc, hd]
  rfl
theorem list_eqv_nil (ns : List Int) : PyData.eqv (.list (ns.map PyData.int)) (.list ([].map PyData.int)) = ns.isEmpty := by
  cases ns with
  | nil => simp [PyData.eqv, PyData.eqvAll]
  | cons n ns => simp [PyData.eqv, PyData.eqvAll]
theorem fit_empty (gs cs : List Int) (ss : List (Nat × Str)) : ((ss.filter fun z => !decide (txtI gs cs z.1 = z.2)).map fun z => (z.1 : Int)).isEmpty = fitB gs cs ss := by
  unfold fitB
  induction ss with
  | nil => rfl
  | cons z ss ih =>
    by_cases h : txtI gs cs z.1 = z.2
    · simp only [List.filter_cons, h, decide_true, Bool.not_true, List.all_cons, Bool.true_and]
      exact ih
    · simp [List.filter_cons, h]
def spSight (K : PySem.W.Frag) : Sp := fun vs H Q _ => ∃ (p m : Addr) (ys : List HD) (yc : HD), vs = [.ref p, .ref m, .ref yc.d] ∧ VaseAt H p ∧ m ≠ p ∧ H m = some (.lst (ys.map fun y => V.ref y.d)) ∧ 1 ≤ ys.length ∧ ys.length ≤ 20 ∧ (∀ y ∈ ys, HomeOk (fun q => q = p) H y) ∧ yc ∈ ys ∧
  ∀ (t : Addr) (n : Nat) (x : Str) H', t ≠ p → H t = none → H' t = some (.tup [.int (n : Int), .str x]) → n ≤ 10 ^ 31 → VaseAt H' p → Else p H H' → Q (.ref t) H'
def spFitsL (K : PySem.W.Frag) : Sp := fun vs H Q _ => ∃ (s : Addr) (y : HD) (ss : List (Nat × Str)) (old : Addr → Prop), vs = [.ref y.d, .ref s] ∧ HomeOk old H y ∧ SeenAt K H s ss ∧ ss.length ≤ 100 ∧ (∀ z ∈ ss, z.1 ≤ 10 ^ 31) ∧ ∀ H', Same H H' → Q (.bl (fitB y.gs y.cs ss)) H'
section
variable {P : Program} {w : World} {K : PySem.W.Frag} {mg : Str → Option Value} {base : Heap}
theorem ok_sight {f : Addr} {fd : FuncData} (F : Fun K "_law_sight" "_law_sight" s_law_sight f fd) (N : Names mg) (D_law_pour : DefK P w K mg base "_law_pour" ["_law_vase_here", "_law_top"] 1 spPour) (D_law_pluck : DefK P w K mg base "_law_pluck" ["_law_vase_here", "_law_things"] 2 (spPluck K)) (D_law_written : DefK P w K mg base "_law_written" ["_law_home", "_law_spot_at"] 2 (spWrittenL K)) : FnOk P w K mg base CX0 3 f fd ["_law_vase_here", "_law_homes", "_law_chosen"] (spSight K) := by
  have sc := sc_law_sight
  refine F.ok sc (fun vs H Q E h => ?_) (fun cdv A outer s H vs Q E hr h => ?_)
  · obtain ⟨p, m, ys, yc, rfl, _⟩ := h
    rfl
  · obtain ⟨p, m, ys, yc, rfl, hv, nmp, hm, m1, m2, hys, hyc, k⟩ := h
    have hu := hu_of hr
    refine ⟨_, (pss_cons (ps_set (i := 3) sc.nd rfl (Or.inl rfl) (pe_op op_add (pe_d D_law_pluck (hr.mono (by decide)) rfl (pa_cons (pv 0) (pa_cons (pe_lst (pa_cons pe_int (pa_cons pe_int (pa_cons pe_int (pa_cons pe_int (pa_cons pe_int (pa_cons (pe_op op_add (pe_op op_pow pe_int pe_int) pe_int) pa_nil))))))) pa_nil))) (pe_d D_law_pour (hr.mono (by decide)) rfl (pa_cons (pv 0) (pa_cons pe_int pa_nil)))))
      (pss_cons (ps_par (i := 4) (j := 5) rfl sc.nd rfl rfl (by decide) rfl rfl (pa_cons (pe_ifExp (pt_cmpR op_gt (pe_d D_law_pour (hr.mono (by decide)) rfl (pa_cons (pv 0) (pa_cons pe_int pa_nil))) pe_int (nomark _)) (pv 2) (pe_d D_law_pluck (hr.mono (by decide)) rfl (pa_cons (pv 0) (pa_cons (pv 1) pa_nil)))) (pa_cons (pe_d D_law_pour (hr.mono (by decide)) rfl (pa_cons (pv 0) (pa_cons pe_int pa_nil))) pa_nil)) (by rfl))
      (pss_cons (ps_set (i := 6) sc.nd rfl (Or.inl rfl) (pe_d D_law_written (hr.mono (by decide)) rfl (pa_cons (pv 4) (pa_cons (pv 3) pa_nil))))
      (pss_cons (ps_if (pt_cmpR op_gt (pv 5) pe_int (nomark _)) (pss_one (ps_ret (pe_tup (pa_cons (pv 3) (pa_cons (pv 6) pa_nil))))) pss_nil)
      (pss_one (ps_ret (pe_tup (pa_cons (pv 3) (pa_cons (pe_d D_law_pluck (hr.mono (by decide)) rfl (pa_cons (pv 0) (pa_cons (pe_lst (pa_consO op_add_str (pv 6) (pat_cons (PET.of (pe_op op_add_str pe_str (pv 6))) (pat_cons (pet_replC (pv 6)) (pat_cons (PET.of pe_str) (pat_cons (PET.of (pe_slice sl_str (pv 6) (po_some pe_int) po_none)) (pat_cons (PET.of (pe_op op_add_str (pv 6) pe_str)) pat_nil))))))) pa_nil))) pa_nil))))))))), ?_⟩
    refine ⟨_, rfl, _, _, rfl, rfl, ⟨by decide, by decide, by decide⟩, _, _, rfl, rfl, Nat.le_of_ble_eq_true rfl, ?_⟩
    (intro ml nml; generalize e_ml : upd H ml _ = H1; have s1 : Same H H1 := fun b x hb => (congrFun e_ml b).symm.trans (same_new nml b x hb); have h1 := (congrFun e_ml ml).symm.trans upd_same; clear e_ml)
    refine ⟨p, ml, _, rfl, hv.same s1, hv.ne nml, SqL.lst h1, Nat.le_of_ble_eq_true rfl, Nat.le_of_ble_eq_true rfl, fun vv H2 hmem hv2 e2 => ?_⟩
    have eE : (10 : Int) ^ (30 : Int).toNat = ((10 ^ 30 : Nat) : Int) := by decide
    obtain ⟨z0, rfl, hz0⟩ : ∃ z0 : Nat, vv = .int (z0 : Int) ∧ z0 ≤ 10 ^ 30 + 7 := by
      simp only [List.mem_cons, List.not_mem_nil, or_false] at hmem
      rcases hmem with rfl | rfl | rfl | rfl | rfl | rfl
      · exact ⟨0, rfl, by decide⟩
      · exact ⟨0, rfl, by decide⟩
      · exact ⟨3, rfl, by decide⟩
      · exact ⟨9, rfl, by decide⟩
      · exact ⟨40, rfl, by decide⟩
      · exact ⟨10 ^ 30 + 7, by rw [eE]; rfl, by decide⟩
    refine ⟨_, rfl, p, _, rfl, hv2, by decide, by decide, fun kn H3 kn0 kn1 hv3 e3 => ?_⟩
    refine ⟨_, _, rfl, rfl, ?_⟩
    obtain ⟨n, hn, hn31⟩ : ∃ n : Nat, (z0 : Int) + kn = (n : Int) ∧ n ≤ 10 ^ 31 := by
      have h31 : 10 ^ 30 + 100 ≤ 10 ^ 31 := by decide
      exact ⟨((z0 : Int) + kn).toNat, by omega, by omega⟩
    refine g_nx ?_
    dsimp only
    rw [hn]
    have e03 : Else p H H3 := (Same.els s1).trans (e2.trans e3)
    refine ⟨_, rfl, p, _, rfl, hv3, by decide, by decide, fun t H4 t0 t1 hv4 e4 => ?_⟩
    refine ⟨_, _, rfl, rfl, _, rfl, ?_⟩
    have e04 := e03.trans e4
    refine if_joinH (P := fun v H' => ∃ y ∈ ys, v = .ref y.d ∧ VaseAt H' p ∧ Else p H4 H') (fun _ Q' kk => ⟨_, rfl, kk _ _ ⟨yc, hyc, rfl, hv4, Same.els (Same.refl _)⟩⟩) (fun _ Q' kk => ?_) (fun v H5 hv0 => ?_)
    · refine ⟨_, rfl, _, rfl, p, m, _, rfl, hv4, nmp, SqL.lst (e04 _ _ nmp hm), by rw [List.length_map]; omega, by rw [List.length_map]; omega, fun vv H5 hmem hv5 e5 => ?_⟩
      obtain ⟨y, hy, rfl⟩ := List.mem_map.mp hmem
      exact kk _ _ ⟨y, hy, rfl, hv5, e5⟩
    obtain ⟨y, hy, rfl, hv5, e5⟩ := hv0
    refine ⟨_, rfl, p, _, rfl, hv5, by decide, by decide, fun bd H6 bd0 bd1 hv6 e6 => ?_⟩
    refine ⟨_, _, rfl, ?_⟩
    dsimp only
    have e06 := e04.trans (e5.trans e6)
    have hy6 := (hys y hy).off (Off.els rfl e06)
    obtain ⟨hby, ct, fr⟩ := hy6.by
    refine ⟨_, rfl, _, rfl, (fun q => q = p), y.d, y.g, y.l, y.gs, y.rows, y.cs, _, _, _, n, rfl, hby, SqL.lst hy6.2.2.1, ct, fr, hn31, fun H7 s7 => ?_⟩
    refine g_nx ?_
    dsimp only
    have htl := txt_len fr ct hn31
    have e07 := e06.trans (Same.els s7)
    have hv7 := hv6.same s7
    refine ⟨_, rfl, _, _, rfl, rfl, _, rfl, ?_⟩
    refine ifD (fun _ => ?_) (fun _ => ?_)
    · refine ⟨_, rfl, _, rfl, Nat.le_of_ble_eq_true rfl, ?_⟩
      (intro tp ntp; generalize e_tp : upd H7 tp _ = H8; have s8 : Same H7 H8 := fun b x hb => (congrFun e_tp b).symm.trans (same_new ntp b x hb); have h8 := (congrFun e_tp tp).symm.trans upd_same; clear e_tp)
      exact k tp n _ H8 (hv7.ne ntp) (none_back e07 (hv7.ne ntp) ntp) h8 hn31 (hv7.same s8) (e07.trans (Same.els s8))
    generalize txtI y.gs y.cs n = wd at htl ⊢
    refine g_nx ?_
    dsimp only
    have big : 1000 ≤ sizeLine := by decide
    refine ⟨_, rfl, _, rfl, ?_⟩
    have l1 : ((" " : Str)).length = 1 := by decide
    have l2 : (("0" : Str)).length = 1 := by decide
    have l3 : ((";" : Str)).length = 1 := by decide
    have l4 : ((":0" : Str)).length = 2 := by decide
    refine ⟨_, rfl, _, _, rfl, rfl, by omega, _, rfl, _, _, rfl, rfl, by omega, _, rfl, _, rfl, by rw [l3]; omega, _, rfl, _, rfl, _, rfl, by omega, _, rfl, _, _, rfl, rfl, by omega, Nat.le_of_ble_eq_true rfl, ?_⟩
    (intro mw nmw; generalize e_mw : upd H7 mw _ = H8; have s8 : Same H7 H8 := fun b x hb => (congrFun e_mw b).symm.trans (same_new nmw b x hb); have h8 := (congrFun e_mw mw).symm.trans upd_same; clear e_mw)
    have hv8 := hv7.same s8
    refine ⟨p, mw, _, rfl, hv8, hv7.ne nmw, SqL.lst h8, Nat.le_of_ble_eq_true rfl, Nat.le_of_ble_eq_true rfl, fun vv H9 hmem hv9 e9 => ?_⟩
    obtain ⟨x, rfl⟩ : ∃ x : Str, vv = .str x := by
      simp only [List.mem_cons, List.not_mem_nil, or_false] at hmem
      rcases hmem with rfl | rfl | rfl | rfl | rfl | rfl <;> exact ⟨_, rfl⟩
    have e09 := e07.trans ((Same.els s8).trans e9)
    refine ⟨Nat.le_of_ble_eq_true rfl, ?_⟩
    (intro tp ntp; generalize e_tp : upd H9 tp _ = H10; have s10 : Same H9 H10 := fun b x hb => (congrFun e_tp b).symm.trans (same_new ntp b x hb); have h10 := (congrFun e_tp tp).symm.trans upd_same; clear e_tp)
    exact k tp n _ H10 (hv9.ne ntp) (none_back e09 (hv9.ne ntp) ntp) h10 hn31 (hv9.same s10) (e09.trans (Same.els s10))
theorem ok_fitsL {f : Addr} {fd : FuncData} (F : Fun K "_law_fits" "_law_fits" s_law_fits f fd) (N : Names mg) (D_law_written : DefK P w K mg base "_law_written" ["_law_home", "_law_spot_at"] 2 (spWrittenL K)) : FnOk P w K mg base CX0 3 f fd ["_law_home", "_law_sights"] (spFitsL K) := by
  have sc := sc_law_fits
  refine F.ok sc (fun vs H Q E h => ?_) (fun cdv A outer s H vs Q E hr h => ?_)
  · obtain ⟨s, y, ss, old, rfl, _⟩ := h
    rfl
  · obtain ⟨s', y, ss, old, rfl, hy, hS, hl, hb, k⟩ := h
    obtain ⟨as, hs, pr⟩ := id hS
    obtain ⟨hby, ct, fr⟩ := hy.by
    have hu := hu_of hr
    refine ⟨_, (pss_one (ps_ret (pe_cmpR (op_eqD (hu64 hr)) (pe_lc (own := [("_law_spot_at", 2), ("_law_words", 3)]) (g := gTup K 2 (gCons (gName 2) (gCons (gName 3) gNil))) rfl sc.nd (pi_tup (pv 1)) (blkOk_by (own := [("_law_spot_at", 2), ("_law_words", 3)]) (N := ["_law_home", "_law_sights", "_law_spot_at", "_law_words"]) (sc := defScope (topS 80)) (by decide +kernel)) (fun _ _ _ _ _ => (pg_tup rfl (pgs_cons (pg_name (i := 2) sc.nd rfl (Or.inl rfl) (Or.inr rfl)) (pgs_cons (pg_name (i := 3) sc.nd rfl (Or.inl rfl) (Or.inr rfl)) pgs_nil)))) (fun _ _ _ _ _ => (pts_one (pt_cmpR op_ne (pe_d D_law_written (hr.mono (by decide)) rfl (pa_cons (pv 0) (pa_cons (pv 2) pa_nil))) (pv 3) (nomark _)))) (fun _ _ _ _ _ => (pv 2))) (pe_lst pa_nil) (nomark _)))), ?_⟩
    refine ⟨_, rfl, s', rfl, ⟨_, hs⟩, ?_⟩
    intro D nD
    refine lc_tup (K := K) (xs := as.map V.ref) (fun i H' => Same H H' ∧ H' D = some (.lst (((ss.take i).filter fun z => !decide (txtI y.gs y.cs z.1 = z.2)).map fun z => V.int (z.1 : Int)))) ⟨same_new nD, upd_same⟩ (fun i H' _ ⟨s, _⟩ => Same.seqT s hs) ?_ ?_
    · rintro i x H' hx ⟨sm, eD⟩
      obtain ⟨ra, ha, rfl⟩ := map_ex hx
      obtain ⟨z, hz, hza⟩ := paired_at pr ha
      have hzb := hb z (List.mem_of_getElem? hz)
      refine ⟨ra, _, rfl, Same.seqT sm hza, rfl, _, _, rfl, _, _, rfl, rfl, rfl, ?_⟩
      refine ⟨_, rfl, _, rfl, old, y.d, y.g, y.l, y.gs, y.rows, y.cs, _, _, _, z.1, rfl, hby.same sm, SqL.lst (sm _ _ hy.2.2.1), ct, fr, hzb, fun H1 s1 => ?_⟩
      have hl' : i < 101 := by
        have := (List.getElem?_eq_some_iff.mp hz).1
        omega
      refine ⟨_, rfl, rfl, _, rfl, ?_⟩
      have hfl : ((ss.take i).filter fun z => !decide (txtI y.gs y.cs z.1 = z.2)).length ≤ i := Nat.le_trans (List.length_filter_le _ _) (by rw [List.length_take]; omega)
      refine ifN (fun hd => ?_) (fun hd => ?_)
      · have hne : ¬ txtI y.gs y.cs z.1 = z.2 := fun e => hd (congrArg V.str e)
        refine ⟨_, rfl, _, s1 _ _ eD, smallLt (by rw [List.length_map]; omega), same_mut (sm.trans s1) nD, ?_⟩
        rw [upd_same, List.take_add_one, hz, List.filter_append, List.map_append]
        simp [hne]
      · have heq : txtI y.gs y.cs z.1 = z.2 := V.str.inj hd
        refine ⟨sm.trans s1, ?_⟩
        rw [List.take_add_one, hz, List.filter_append, List.map_append]
        simp [heq]
        exact s1 _ _ eD
    · rintro H' ⟨sm, eD⟩
      rw [List.take_of_length_le (by rw [List.length_map]; have := pr.length; omega)] at eD
      refine ⟨Nat.le_of_ble_eq_true rfl, ?_⟩
      (intro em nem; generalize e_em : upd H' em _ = H1; have s1 : Same H' H1 := fun b x hb => (congrFun e_em b).symm.trans (same_new nem b x hb); have h1 := (congrFun e_em em).symm.trans upd_same; clear e_em)
      rw [show (fun z : Nat × Str => V.int (z.1 : Int)) = V.int ∘ (fun z : Nat × Str => (z.1 : Int)) from rfl, ← List.map_map] at eD
      refine ⟨_, _, .lst (SqL.lst (s1 _ _ eD)) (dpAll_ints _), .lst (SqL.lst h1) (dpAll_ints []), list_shaped _, list_shaped [], ?_⟩
      rw [list_eqv_nil, fit_empty]
      exact k H1 (sm.trans s1)
end
end LM

set_option Elab.async false
set_option linter.all false
set_option maxRecDepth 100000
set_option maxHeartbeats 4000000
namespace LM
open PySem PySem.Spec PyProof.Rows L2
/-! ### errors of the program: classes with an __init__ that calls their base's -/
/-- a class below ValueError without an __init__ of its own -/
structure BaseC (K : PySem.W.Frag) (W : Addr) : Prop where
  ga : PySem.W.specialIn K (.ref W) "__getattribute__" = some (some (.builtin "type.__getattribute__"))
  rd : PySem.W.readsIn K W (.type "type") = true
  vi : PySem.W.findCls K (.ref W) (.type "type") "__init__" = some (.val (.builtin "ValueError.__init__"))
section
variable {X : Cx} {W : Addr} {x : Str} {e : Expr} {es : List Expr} {ta : TA} {p1 p2 pos : Pos}
theorem pe_cinit {pl : Sem Bool} (B : BaseC X.K W) (hg : Gl X x) (hm : X.mg x = some (.ref W)) (ha : PA X (e :: es) ta) (hdb : (x == ("__debug__" : Str)) = false := by decide)
    (hc : eval (.Call (.Attribute (.Name x p1) "__init__" p2) (e :: es) [] pos) X.env = (do
      let ov ← eval (.Name x p1) X.env
      standAt p2.atName
      let (f, first) ← holding [ov] (getMethod ov "__init__" pl)
      callWith pos f first (backTo pos (starEach (e :: es) X.env)) (backToKw pos (keywordEach [] X.env))) := by rfl)
    (he : starEach (e :: es) X.env = (false, eval e X.env) :: starEach es X.env := by rfl) (hpl : (backTo pos (starEach es X.env)).any (·.1) = false := by rfl) :
    PE X (.Call (.Attribute (.Name x p1) "__init__" p2) (e :: es) [] pos) (tVeI X.K ta) := by
  refine ⟨fun pins s σ H Q I h => PySem.W.methodCall_KW (ld_glob I hg hm ?_ hdb) hc⟩
  refine PySem.W.method_cls I.kIn B.ga (PySem.W.cls_value I.kIn B.rd B.vi (by decide +kernel) ?_)
  show wpAny _ _ (callWith pos (Value.builtin "ValueError.__init__") [] (backTo pos (starEach (e :: es) X.env)) []) _ _ _
  refine PyProof.Rows.callWith_method1 (thn (ha.run pos pins _ σ H _ (I.tok _) h) fun us s1 ⟨vs, H1, I1, r1, a, C, ws, ev, hl, T, ea, q⟩ => ?_) he hpl
  subst ev
  cases r1 with
  | @cons _ u0 _ ur ra rw' =>
    obtain rfl : u0 = Value.ref a := ra
    exact oinit_ok T I1 ea (by rw [← Paired.length rw', sizeLine_eq]; omega) fun s' J => ⟨.non, H1, J, rfl, q⟩
end
/-- what __init__ leaves of the exception at a: its one field -/
def spExI (K : PySem.W.Frag) (C : Addr) (f : Str) : Sp := fun vs H Q _ => ∃ (a : Addr) (y : V), vs = [.ref a, y] ∧ H a = some (exo a C none) ∧ ∀ dx, H dx = none → dx ≠ a → Q .non (upd (upd H dx (exd dx [(f, y)])) a (exo a C (some dx)))
theorem made_read {K : PySem.W.Frag} {C : Addr} {f : Str} {H : Hp} {y : V} {Q : XK} (k : ∀ d H', Same H H' → H d = none → H' d = some (.xd [(f, y)]) → Q (.ref C) (some d) H') (a : Addr) (ha : H a = none) :
    spExI K C f [.ref a, y] (upd H a (exo a C none)) (fun v H2 => v = .non ∧ ∃ (d : Addr) (fs : List (Str × V)), H2 a = some (exo a C (some d)) ∧ H2 d = some (exd d fs) ∧ H d = none ∧ Q (.ref C) (some d) (upd (del H2 a) d (.xd fs))) (fun _ _ _ => False) := by
  refine ⟨a, y, rfl, upd_same, fun dx ndx ne => ?_⟩
  rw [upd_ne ne] at ndx
  refine ⟨rfl, dx, [(f, y)], upd_same, by rw [upd_ne ne, upd_same], ndx, k dx _ (fun b o e => ?_) ndx upd_same⟩
  rw [upd_ne (ne_of_none e ndx), del_ne (ne_of_none e ha), upd_ne (ne_of_none e ha), upd_ne (ne_of_none e ndx), upd_ne (ne_of_none e ha)]
  exact e
/-- what of the text a class of errors must have; its __init__ at fI -/
structure ErrC (P : Program) (w : World) (K : PySem.W.Frag) (mg : Str → Option Value) (base : Heap) (x : Str) (C : Addr) (f : Str) : Prop where
  ox : OexC K C
  gC : mg x = some (.ref C)
  no : PySem.W.findIn K (.ref C) f = some none
  xf : XfC K C
  te : PySem.W.exmOne K (.ref C) (.ref C) = some true
  ini : ∃ (fI : Addr) (fd : FuncData) (ps : List Str), PySem.W.findIn K (.ref C) "__init__" = some (some (.ref fI)) ∧ PySem.W.typeIn K (.ref fI) = some (.type "function") ∧ FnOk P w K mg base CX0 1 fI fd ps (spExI K C f) ∧ Binds K fd ps []
section
variable {X : Cx} {C : Addr} {x f : Str} {e : Expr} {te : TE} {p pos : Pos}
/-- X(e), to be raised -/
theorem pmk_err (E : ErrC X.prog X.w X.K X.mg X.base x C f) (hr : Room 2 X.A) (hg : Gl X x) (he : PE X e te) (hdb : (x == ("__debug__" : Str)) = false := by decide) (hs : starEach [e] X.env = (false, eval e X.env) :: starEach [] X.env := by rfl) (hpl : (backTo pos (starEach [] X.env)).any (·.1) = false := by rfl) :
    PMk X (.Call (.Name x p) [e] [] pos) (tMkO C (spExI X.K C f) [] (tCons te tNil)) := by
  obtain ⟨fI, fd, ps, iC, tI, F, hb⟩ := E.ini
  exact pmk_oex E.ox iC tI F hr hb .nil pass0 hg E.gC (pa_cons he pa_nil hs) hdb hs hpl
/-- o.m(..), where what is raised is wished for at the slots -/
def tMethS (C : Addr) (m : Str) (sp : Sp) (E : L2.St → XK) (ta : TE) (t : TA) : TE := fun σ H Q => ta σ H fun x H1 => ∃ a dx fs, x = .ref a ∧ H1 a = some (.ins C dx fs) ∧ fs.lookup m = none ∧ t σ H1 fun vs H2 => sp (x :: vs) H2 Q (E σ)
theorem pe_methS {pl : Sem Bool} {CX : CXT} {k : Nat} {C fa : Addr} {m : Str} {fd : FuncData} {ps : List Str} {sp : Sp} {E : L2.St → XK} {o : Expr} {es : List Expr} {ta : TE} {t : TA} {apos : Pos} (he : PE X o ta) (c : Cls X.K C) (hm : Meth X.K C m fa) (F : FnOk X.prog X.w X.K X.mg X.base CX k fa fd ps sp) (hr : Room k X.A) (hb : Binds X.K fd ps []) (hx : ∀ σ, PassesAt CX X σ (E σ)) (ha : PA X (e :: es) t)
    (hst : starEach (e :: es) X.env = (false, eval e X.env) :: starEach es X.env := by rfl) (hpl : (backTo pos (starEach es X.env)).any (·.1) = false := by rfl)
    (ht : eval (.Call (.Attribute o m apos) (e :: es) [] pos) X.env = (do
      let ov ← eval o X.env
      standAt apos.atName
      let (f, first) ← holding [ov] (getMethod ov m pl)
      callWith pos f first (backTo pos (starEach (e :: es) X.env)) (backToKw pos (keywordEach [] X.env))) := by rfl) :
    PE X (.Call (.Attribute o m apos) (e :: es) [] pos) (tMethS C m sp E ta t) := by
  refine ⟨fun pins s σ H Q I h => PySem.W.methodCall_KW (pl := pl) (thn (he.run pins s σ H _ I h) fun u s1 ⟨x, H1, I1, rx, a, dx, fs, ex, ea, l, q⟩ => ?_) ht⟩
  subst ex
  obtain rfl : u = Value.ref a := rx
  refine getmeth_ok I1 ea c hm l ?_
  refine PySem.W.callWith_K (first := [.ref a]) (h₀ := X.base) I.ok.mod.kin hm.kp (thn (ha.run pos pins s1 σ H1 _ I1 q) fun us s2 ⟨vs, H2, I2, r, q2⟩ => ⟨I2.kIn, ?_⟩) hst hpl
  exact run_fnS (us := .ref a :: us) (vs := .ref a :: vs) F hr hb (hx σ) I2 (.cons rfl r) q2
end
section
variable {P : Program} {w : World} {K : PySem.W.Frag} {mg : Str → Option Value} {base : Heap}
theorem exi_read {K : PySem.W.Frag} {C : Addr} {f : Str} {H : Hp} {vs : List V} {Q : VK} {E : XK} (h : spExI K C f vs H Q E) : vs.length = 2 := by
  obtain ⟨a, y, rfl, _⟩ := h
  rfl
end
end LM

set_option Elab.async false
set_option linter.all false
set_option maxRecDepth 100000
set_option maxHeartbeats 4000000
namespace LM
open PySem PySem.Spec PyProof.Rows L2
/-! ### repr of any value -/
/-- the value y at H, as data: of any kind; a dict only if it is empty -/
inductive Dv (K : PySem.W.Frag) (H : Hp) : V → PyData → Prop
  | dp {y : V} {d : PyData} (h : Dp K H y d) (n : d.hasDict = false) : Dv K H y d
  | dic {a : Addr} (h : H a = some (.dK [])) : Dv K H (.ref a) (.dict [])
theorem Dv.reads {X : Cx} {pins : List (Addr × Obj)} {σ : L2.St} {H : Hp} {s : Shared} (I : Inv X pins σ H s) {y : V} {d : PyData} {u : Value} (h : Dv X.K H y d) (r : RelV y u) : ∃ as, Reads s.heap u d as ∧ (d.hasDict = true → sysModules ∉ as) := by
  cases h with
  | dp h n =>
    obtain ⟨as, rd⟩ := Dp.reads I d y u h r
    exact ⟨as, rd, PyData.noDict_hsm n⟩
  | @dic a h =>
    obtain rfl : u = Value.ref a := r
    obtain ⟨_, hs, vs, kv, o, es, ep, ho, hx, hd, _, pr, _⟩ := I.hok a _ h
    cases kv
    have he : es.toList = [] := by
      cases e : es.toList with
      | nil => rfl
      | cons z l =>
        rw [e] at pr
        cases pr
    refine ⟨a :: [] ++ [], Reads.dict ho hx.1 hd (by rw [he]; exact .nil) (by rw [he]; exact .nil), fun _ hm => ?_⟩
    rw [List.mem_singleton.mp hm] at hs
    rw [beq_self_eq_true] at hs
    cases hs
def rReprV (K : PySem.W.Frag) : List V → Hp → VK → Prop := fun xs G R => ∃ (y : V) (d : PyData), xs = [y] ∧ Dv K G y d ∧ d.showable = true ∧ d.depth ≤ 20 ∧ d.shown.length ≤ sizeLine ∧ R (.str d.shown) G
theorem call_reprV {X : Cx} (hgd : X.A.guards = some []) (hu : X.A.units + 64 < cLine) : CallR X (.builtin "repr") (rReprV X.K) := by
  intro pins s σ G xs us R I va sat
  obtain ⟨y, d, rfl, hd, h1, h3, hz, q⟩ := sat
  obtain ⟨u, rfl, ru⟩ := vals1 va
  obtain ⟨as, rd, hs⟩ := hd.reads I ru
  cases rd with
  | none => exact PySem.P.repr_of_none ⟨.str _, G, I.tok _, ⟨_, rfl⟩, q⟩
  | bool b => exact PySem.P.repr_of_bool ⟨.str _, G, I.tok _, ⟨_, rfl⟩, q⟩
  | int i t => exact PySem.P.repr_of_int (by simpa [PyData.showable] using h1) ⟨.str _, G, I.tok _, ⟨_, rfl⟩, q⟩
  | str x t => exact PySem.P.repr_of_str ⟨.str _, G, I.tok _, ⟨_, rfl⟩, q⟩ hz
  | list a1 a2 a3 a4 => exact repr_of_reads' (.list a1 a2 a3 a4) h1 hs hgd (by omega) (fun _ _ z => z) (fun h' u tk hk => ⟨.str _, G, I.kept hk, ⟨u, rfl⟩, q⟩) hz
  | tuple a1 a2 a3 a4 => exact repr_of_reads' (.tuple a1 a2 a3 a4) h1 hs hgd (by omega) (fun _ _ z => z) (fun h' u tk hk => ⟨.str _, G, I.kept hk, ⟨u, rfl⟩, q⟩) hz
  | dict a1 a2 a3 a4 a5 => exact repr_of_reads' (.dict a1 a2 a3 a4 a5) h1 hs hgd (by omega) (fun _ _ z => z) (fun h' u tk hk => ⟨.str _, G, I.kept hk, ⟨u, rfl⟩, q⟩) hz
end LM

set_option Elab.async false
set_option linter.all false
set_option maxRecDepth 100000
set_option maxHeartbeats 4000000
/-! sets of texts: what they hold, add -/
noncomputable section
namespace LM
open PySem PySem.Spec PyProof.Rows L2 PySem.Froz
/-- the set at a holds the texts l; it can be walked -/
def SetS (P : Program) (w : World) (h : Heap) (a : Addr) (l : List Str) : Prop := ∃ D : SD, h.get? a = some (sObj "set" D) ∧ TxOk P w D l ∧ Ris D.2.2.place.toList ∧ (w.params.followText "set-order" = true ∨ D.2.2.led = true) ∧ l.Nodup
def putS (l : List Str) (k : Str) : List Str := if k ∈ l then l else k :: l
section
variable {P : Program} {w : World} {A : Around} {E : Value → Shared → Prop} {s : Shared} {a : Addr} {l : List Str}
theorem SetS.at {h h' : Heap} (R : SetS P w h a l) (k : ∀ o, h.get? a = some o → h'.get? a = some o) : SetS P w h' a l := by
  obtain ⟨D, h1, r⟩ := R
  exact ⟨D, k _ h1, r⟩
theorem SetS.lt {h : Heap} (R : SetS P w h a l) : a < h.objs.size := by
  obtain ⟨D, h1, r⟩ := R
  exact Heap.lt_size h1
theorem tailTx_ris {ep : Nat} {es : Array (Int × Value)} {t : SetTable} {b : Bool} (h : Ris t.place.toList) : Ris (tailTx ep es t b).2.2.place.toList := by
  unfold tailTx
  by_cases c : (!b && t.tooFull) = true
  · rw [if_pos c]; exact relayAll_ris ..
  · rw [if_neg c]; exact h
theorem tailTx_led {ep : Nat} {es : Array (Int × Value)} {t : SetTable} {b : Bool} : (tailTx ep es t b).2.2.led = t.led := by
  unfold tailTx
  by_cases c : (!b && t.tooFull) = true
  · rw [if_pos c]; exact relayAll_led ..
  · rw [if_neg c]
theorem addTx_ris {h : Int} {v : Value} {D : SD} (r : Ris D.2.2.place.toList) : Ris (addTx h v D).2.2.place.toList := by
  have q := layNew_ris D.2.2 D.1 h v r
  unfold addTx
  refine tailTx_ris ?_
  by_cases c : (layNew D.2.2 D.1 h v).2.1.plain = true
  · rw [if_pos c]; exact q
  · rw [if_neg c]; exact q
theorem addTx_led {h : Int} {v : Value} {D : SD} : (addTx h v D).2.2.led = D.2.2.led := by
  have q := layNew_led D.2.2 D.1 h v
  unfold addTx
  rw [tailTx_led]
  by_cases c : (layNew D.2.2 D.1 h v).2.1.plain = true
  · rw [if_pos c]; exact q
  · rw [if_neg c]; exact q
theorem setS_hashed {k : Str} {u : Tok} {Q : Bool → Shared → Prop} (R : SetS P w s.heap a l) (room : l.length + 1 < scanBound)
    (hQ : ∀ b h', Heap.SameBut a s.heap h' → SetS P w h' a (putS l k) → Q b { s with heap := h' }) : wpAny (model P w) A (setAddHashed a (.str k u) (hashStr w k)) Q E s := by
  obtain ⟨D, ho, F, r, e, nd⟩ := R
  by_cases hk : k ∈ l
  · unfold putS at hQ
    rw [if_pos hk] at hQ
    have fin := hQ false s.heap (Heap.SameBut.refl a s.heap) ⟨D, ho, F, r, e, nd⟩
    obtain ⟨es, ep, t⟩ := D
    have hf : t.fits es.size = true := F.fit
    have hel : ElemsOf (strKind P w) es.toList := F.el
    have hb0 : es.size < scanBound := by have : es.size = l.length := F.sz; omega
    have hkey : (strKind P w).is k (.str k u) = true := is_str k u
    obtain ⟨j, hj⟩ : ∃ j, List.findIdx? (fun e => (strKind P w).is k e.2) es.toList = some j := by
      cases q : List.findIdx? (fun e => (strKind P w).is k e.2) es.toList with
      | some j => exact ⟨j, rfl⟩
      | none =>
        obtain ⟨x, hx, z⟩ := (F.mem k).mp hk
        have := List.findIdx?_eq_none_iff.mp q x hx
        rw [z] at this
        cases this
    unfold setAddHashed setAddHashedIn
    refine wpAny_holding (wpAny_bind (wpAny_setState_of (ep := ep) ho rfl hf ?_))
    dsimp only
    rw [byScan_of rfl hb0 hel]
    simp only [↓reduceIte]
    unfold setAddByScan
    refine wpAny_bind (wpAny_bind (wpAny_rule (wpAny_bind (wpAny_setScan_of (knd := strKind P w) (k := k) hkey ho rfl hf hel ?_))))
    rw [hj]
    exact wpAny_pure (wpAny_pure fin)
  · unfold putS at hQ
    rw [if_neg hk] at hQ
    refine add_x ho F hk room (hQ true _ (Heap.SameBut.update _ a _) ⟨_, get_upd _ ho rfl, add_ok u F, addTx_ris r, ?_, List.nodup_cons.mpr ⟨hk, nd⟩⟩)
    rw [addTx_led]
    exact e
/-- found.add(k) -/
theorem setS_add {k : Str} {u : Tok} {Q : Value → Shared → Prop} (R : SetS P w s.heap a l) (room : l.length + 1 < scanBound)
    (hQ : ∀ h', Heap.SameBut a s.heap h' → SetS P w h' a (putS l k) → Q .none { s with heap := h', toks := s.toks + 1 }) : wpAny (model P w) A (call (.builtin "set.add") [.ref a, .str k u]) Q E s := by
  obtain ⟨D, ho, _⟩ := id R
  have ty : s.TypeIs (.ref a) "set" := ⟨_, ho, rfl⟩
  refine wpAny_call_entry F.slot_set_add ty F.entry_set_add ?_ (F.args_set_add_2 _ _)
  unfold Builtin.«set.add» Builtin.Frozenset.oneOther
  simp only [List.isEmpty_nil, bind_assoc]
  unfold Builtin.Frozenset.addrOf setAdd
  refine wpAny_bind (wpAny_pure ?_)
  try dsimp only
  refine wpAny_bind (wpAny_pure ?_)
  try dsimp only
  refine wpAny_bind (wpAny_holding (wpAny_bind ((strKind P w).pyHash (is_str k u) ?_)))
  refine setS_hashed (s := { s with toks := s.toks + 1 }) R room fun b h' sb r => ?_
  show wpAny _ _ (ret Value.none) _ _ _
  exact wpAny_pure ⟨_, rfl, hQ h' sb r⟩
theorem setS_fresh {h : Heap} (P : Program) (w : World) : SetS P w (h.push { cls := .type "set", dict := none, data := .set #[] 0 (.fresh 0 0 (!w.params.followText "set-order")) }) h.objs.size [] :=
  ⟨(#[], 0, .fresh 0 0 (!w.params.followText "set-order")), Heap.get?_push_size _ rfl, TxOk.nil rfl, List.Pairwise.nil, by
    show _ ∨ (!w.params.followText "set-order") = true
    cases w.params.followText "set-order"
    · exact .inr rfl
    · exact .inl rfl, List.nodup_nil⟩
end
/-- the set of texts, tracked -/
def SetSO (P : Program) (w : World) (a : Addr) (l : List Str) : HO := .ext fun h => SetS P w h a l
theorem setSO_new {w : World} {P P' : Program} {H : Hp} {h : Heap} {a : Addr} {l : List Str} (R : SetS P w h a l) : ObjOk P' w H h a (SetSO P w a l) := by
  obtain ⟨D, ho, _⟩ := id R
  exact ⟨R, ⟨_, ho⟩, fun h1 h2 p k => SetS.at p k⟩
section
variable {X : Cx} {pins : List (Addr × Obj)} {σ : L2.St} {H : Hp} {s : Shared} {D : Addr} {l : List Str}
theorem setSO_get (I : Inv X pins σ H s) (ha : H D = some (SetSO X.prog X.w D l)) : SetS X.prog X.w s.heap D l := (I.hok D _ ha).1
theorem addS_ok {E : Value → Shared → Prop} {k : Str} {u : Tok} {Q : Value → Shared → Prop} (I : Inv X pins σ H s) (hD : H D = some (SetSO X.prog X.w D l)) (room : l.length + 1 < scanBound)
    (h : ∀ s', Inv X pins σ (upd H D (SetSO X.prog X.w D (putS l k))) s' → Q .none s') : wpAny (model X.prog X.w) X.A (call (.builtin "set.add") [.ref D, .str k u]) Q E s := by
  refine setS_add (setSO_get I hD) room fun h' sb new => ?_
  obtain ⟨D', ho, _⟩ := id new
  exact h _ (I.write (e := D) (t' := s.toks + 1) (by rw [hD]; trivial) (.inl rfl) (fun b v hb hv => (sb.2 b hb).trans hv) ⟨_, ho⟩ (setSO_new new))
end
end LM

set_option Elab.async false
set_option linter.all false
set_option maxRecDepth 100000
set_option maxHeartbeats 4000000
/-! {elt for x in xs if ..}, for sets of any kind that can be told -/
noncomputable section
namespace LM
open PySem PySem.Spec PyProof.Rows L2 PySem.Froz PpSet
/-- sets that can be told: the empty one, and what an add makes of one -/
structure SetKd (P : Program) (w : World) where
  o0 : Addr → HO
  st : Addr → HO → V → HO → Prop
  fresh : ∀ (H : Hp) (h : Heap), ObjOk P w H (h.push { cls := .type "set", dict := none, data := .set #[] 0 (.fresh 0 0 (!w.params.followText "set-order")) }) h.objs.size (o0 h.objs.size)
  add : ∀ (X : Cx), X.prog = P → X.w = w → ∀ {pins : List (Addr × Obj)} {σ : L2.St} {H : Hp} {s : Shared} {E : Value → Shared → Prop} {D : Addr} {o o' : HO} {y : V} {u : Value} {Q : Value → Shared → Prop}, Inv X pins σ H s → H D = some o → st D o y o' → RelV y u → (∀ s', Inv X pins σ (upd H D o') s' → Q .none s') → wpAny (model X.prog X.w) X.A (call (.builtin "set.add") [.ref D, u]) Q E s
/-- sets of texts -/
def kdS (P : Program) (w : World) : SetKd P w where
  o0 := fun D => SetSO P w D []
  st := fun D o y o' => ∃ (k : Str) (l : List Str), y = .str k ∧ o = SetSO P w D l ∧ l.length + 1 < scanBound ∧ o' = SetSO P w D (putS l k)
  fresh := fun H h => setSO_new (setS_fresh P w)
  add := fun X e1 e2 {pins σ H s E D o o' y u Q} I hD h r k => by
    subst e1 e2
    obtain ⟨kx, l, rfl, rfl, hl, rfl⟩ := h
    obtain ⟨t, rfl⟩ : ∃ t, u = Value.str kx t := r
    exact addS_ok I hD hl k
/-- what a set comprehension asks -/
def tSetC {P : Program} {w : World} (kd : SetKd P w) (wi : TI) (g : TG) (tt : TT) (te : TE) (vs : List Nat) : TE := fun σ H Q => wi σ H fun J H1 => ∀ D, H1 D = none → ∃ W : Nat → Nat → Hp → Prop, (∃ m, W 0 m (upd H1 D (kd.o0 D))) ∧ ∀ i m H, W i m H →
  (J.stop i H ∧ Q (.ref D) H) ∨ (J.go i H ∧ ∃ Nx : Hp → Prop, (∀ H', Nx H' → ∃ m', m' < m ∧ W (i + 1) m' H') ∧ ∀ x H', J.yld i H x H' → g x (wipe σ vs) H' fun σ2 H2 => wipe σ2 vs = wipe σ vs ∧ tt σ2 H2 fun b H3 =>
    if b = true then te σ2 H3 fun y H4 => ∃ o o' : HO, H4 D = some o ∧ kd.st D o y o' ∧ Nx (upd H4 D o') else Nx H3)
section
variable {X : Cx}
theorem setC_core (kd : SetKd X.prog X.w) {pins : List (Addr × Obj)} {s : Shared} {σ : L2.St} {H : Hp} {Q : VK} {elt tg iter : Expr} {ifs : List Expr} {scope : Scope} {own : List (PySem.Str × Nat)} {pos pos' : Pos} {wi : TI} {g : TG} {tt : TT} {te : TE} {use : Option (Value → Sem Unit)} {Qf : Value → Shared → Prop}
    (hc : X.calm = true) (hN : X.N.Nodup) (I : Inv X pins σ H s) (hi : PI X tg iter wi) (ok : BlkOk X.N X.env.scope scope own)
    (hg : ∀ (s : Shared) (H : Hp) (C : Addr) (cl : List (PySem.Str × Addr)) (fp : List Addr), PG (X.blk s H scope (compEnvC scope cl C X.env) fp) tg g) (ht : ∀ (s : Shared) (H : Hp) (C : Addr) (cl : List (PySem.Str × Addr)) (fp : List Addr), PTs (X.blk s H scope (compEnvC scope cl C X.env) fp) ifs tt)
    (he : ∀ (s : Shared) (H : Hp) (C : Addr) (cl : List (PySem.Str × Addr)) (fp : List Addr), PE (X.blk s H scope (compEnvC scope cl C X.env) fp) elt te) (hs : ∀ x, foldedSetIterable iter X.env x = pure x)
    (h : tSetC kd wi g tt te (own.map (·.2)) σ H Q)
    (hRR : ∀ D C s' m H', Inv X pins σ H' s' → Q (.ref D) H' → s'.heap.Ns C m → FpOk X pins H' C → compPost (model X.prog X.w) X.A X.xe use Qf (.ref D) C (.ok .next) s') :
    wpAny (model X.prog X.w) X.A (comprehension (.SetComp elt [⟨tg, iter, ifs, 0⟩] scope pos) scope X.env pos' (newSet (.type "set")) false (eval iter X.env) use) Qf X.xe s := by
  have free_in : ∀ y ∈ scope.names, y.2 = .free → ∃ c, X.env.cells.lookup y.1 = some c := fun y hy e => (ok.free y hy e).elim (fun k => I.ok.has _ (.inl k)) fun k => I.ok.has _ (.inr k)
  refine wpAny_comprehension_free (use := use) rfl hs (closure_ok free_in) ok.kind (fun y hy e => by rw [ok.uniq y hy, e]) (thn (hi.run pins s σ H _ I h) fun xv sa hx => thn hx fun itv sb hb => ?_)
  obtain ⟨it, fp, tn, J, Hb, rfl, Ib, T, stb, fb, q⟩ := hb
  refine newSet_ok (newEnv_comp ?_)
  have free_D : Hb sb.heap.objs.size = none := Ib.hok.fresh (Nat.le_refl _)
  obtain ⟨W, ⟨m0, w0⟩, turn⟩ := q _ free_D
  generalize hsc : ({ sb with heap := sb.heap.push { cls := .type "set", dict := none, data := .set #[] 0 (.fresh 0 0 (!X.w.params.followText "set-order")) } } : Shared) = sc
  have hheap : sc.heap = sb.heap.push { cls := .type "set", dict := none, data := .set #[] 0 (.fresh 0 0 (!X.w.params.followText "set-order")) } := by rw [← hsc]
  have Ic : Inv X pins σ (upd Hb sb.heap.objs.size (kd.o0 sb.heap.objs.size)) sc := by
    rw [← hsc]
    exact Ib.laid (t' := sb.toks) (fun b o e => Heap.get?_push_of_some _ e) (Nat.le_refl _) (kd.fresh _ _)
  generalize hD : sb.heap.objs.size = D at free_D turn w0 Ic ⊢
  have keep : ∀ b o, sb.heap.get? b = some o → sc.heap.get? b = some o := fun b o e => by rw [hheap]; exact Heap.get?_push_of_some _ e
  have known : ∀ b ∈ fp, b < D ∧ b < sc.heap.objs.size := fun b hb => by
    obtain ⟨o, e, _⟩ := T.obj _ _ stb b hb
    exact ⟨by rw [← hD]; exact Heap.lt_size e, Heap.lt_size (keep b o e)⟩
  generalize hHc : upd Hb D (kd.o0 D) = Hc at Ic w0
  have fc : ∀ b ∈ fp, FpOk X pins Hc b ∧ b < sc.heap.objs.size := fun b hb => by
    refine ⟨⟨?_, (fb b hb).2⟩, (known b hb).2⟩
    rw [← hHc, upd_ne (Nat.ne_of_lt (known b hb).1)]
    exact (fb b hb).1
  have stc : tn 0 sc.heap := T.keep _ _ _ stb fun b _ o e => keep b o e
  have Id := block_start Ic ok hN fc
  have pg := hg sc Hc sc.heap.objs.size (cellsFrom (sc.heap.objs.size + 1) scope.names (cloFrom X.env.cells scope.names [])) fp
  have pt := ht sc Hc sc.heap.objs.size (cellsFrom (sc.heap.objs.size + 1) scope.names (cloFrom X.env.cells scope.names [])) fp
  have pe := he sc Hc sc.heap.objs.size (cellsFrom (sc.heap.objs.size + 1) scope.names (cloFrom X.env.cells scope.names [])) fp
  show codeAny _ _ (.compStart (.SetComp elt [⟨tg, iter, ifs, 0⟩] scope pos) 0 (.ref it) (.ref D) (compEnvC scope (cellsFrom (sc.heap.objs.size + 1) scope.names (cloFrom X.env.cells scope.names [])) sc.heap.objs.size X.env)) (compPost (model X.prog X.w) X.A X.xe use Qf (.ref D) sc.heap.objs.size) { sc with heap := pushCells (sc.heap.push { cls := .type "dict", data := .dict #[] }) scope.names }
  generalize hce : compEnvC scope (cellsFrom (sc.heap.objs.size + 1) scope.names (cloFrom X.env.cells scope.names [])) sc.heap.objs.size X.env = ce at Id pg pt pe ⊢
  have cL : ce.locals = sc.heap.objs.size := by rw [← hce] <;> rfl
  generalize hsd : ({ sc with heap := pushCells (sc.heap.push { cls := .type "dict", data := .dict #[] }) scope.names } : Shared) = sd at Id ⊢
  have std : tn 0 sd.heap := T.keep _ _ _ stc fun b _ o e => by rw [← hsd]; exact pushCells_keeps _ _ _ _ (Heap.get?_push_of_some _ e)
  have still : ∀ {σ' : L2.St} {H' : Hp} {s' : Shared}, Inv (X.blk sc Hc scope ce fp) [] σ' H' s' → (∀ b ∈ fp, H' b = none) → ∀ b ∈ fp, FpOk (X.blk sc Hc scope ce fp) [] H' b := fun {σ' H' s'} I' hn b hb =>
    ⟨hn b hb, (I'.ok.exf b hb).1, I'.ok.exfs b hb, .inl hb, fun x c e => (I'.ok.exf b hb).2 x c e, fun p hp => nomatch (show p ∈ ([] : List (Addr × Obj)) from hp)⟩
  suffices loop : codeAny (model X.prog X.w) X.A (.compLoop (.SetComp elt [⟨tg, iter, ifs, 0⟩] scope pos) 0 (.ref it) (.ref D) ce) (compPost (model X.prog X.w) X.A X.xe use Qf (.ref D) sc.heap.objs.size) sd from codeAny_compStart_set loop (T.self X.A 0 _ _ _ std loop)
  refine compLoopS_any (fun n s' => ∃ i H', Inv (X.blk sc Hc scope ce fp) [] (wipe σ (own.map (·.2))) H' s' ∧ tn i s'.heap ∧ (∀ b ∈ fp, H' b = none) ∧ W i n H') ?_ m0 ⟨0, Hc, Id, std, fun b hb => (fc b hb).1.1, w0⟩
  rintro n se ⟨i, He, Ie, ste, ne, we⟩
  rcases turn i n He we with ⟨stop, qq⟩ | ⟨go, Nx, hNx, step⟩
  · refine thnF (T.done (X.blk sc Hc scope ce fp) rfl rfl rfl hc i [] se _ He (fun _ _ => False) Ie (still Ie ne) ste stop) fun r sf ⟨hr, If⟩ => ?_
    subst hr
    have out : Inv X pins σ He sf := Ic.call' (ch := fp) If.os If.base If.hok If.bare fun b hb => ⟨(fc b hb).1.2.2.2.1, (fc b hb).1.2.1, (fc b hb).1.2.2.2.2.1, (fc b hb).1.2.2.2.2.2⟩
    have nC : He ce.locals = none := If.free
    obtain ⟨m, hn, _⟩ := If.loc
    have hn : sf.heap.Ns ce.locals m := hn
    rw [cL] at nC hn
    exact hRR D sc.heap.objs.size sf m He out qq hn (Ic.fpOk (Nat.le_refl _) nC)
  · refine thnF (T.item (X.blk sc Hc scope ce fp) rfl rfl rfl hc i [] se _ He (fun _ _ => False) Ie (still Ie ne) ste go) fun r sf ⟨u, hr, hf⟩ => ?_
    subst hr
    refine thnF hf fun _ sg ⟨x, Hg, Ig, rg, yg, stg, ng⟩ => ?_
    have Ip := Ig.pinned (still Ig ng) (T.obj _ _ stg)
    refine thnF (pg.run _ sg _ Hg x u _ Ip rg (step x Hg yg)) fun _ sh ⟨σh, Hh, Ih, wh, qh⟩ => ?_
    refine thnF (pt.run _ sh σh Hh _ Ih qh) fun b si ⟨Hi, Ii, qi⟩ => ?_
    -- a turn is over
    have over : ∀ {s' : Shared} {H' : Hp}, Inv (X.blk sc Hc scope ce fp) ([] ++ pinsAt fp sg.heap) σh H' s' → Nx H' → ∃ m, m < n ∧ ∃ i H', Inv (X.blk sc Hc scope ce fp) [] (wipe σ (own.map (·.2))) H' s' ∧ tn i s'.heap ∧ (∀ b ∈ fp, H' b = none) ∧ W i m H' := fun {s' H'} I' nx => by
      obtain ⟨m', lt, w'⟩ := hNx H' nx
      have pinned : ∀ b ∈ fp, ∀ o, sg.heap.get? b = some o → s'.heap.get? b = some o ∧ H' b = none := fun b hb o e => by
        have z := I'.pin (b, o) (List.mem_append_right _ (List.mem_append_right _ (mem_pinsAt hb e)))
        exact ⟨z.1, z.2.1⟩
      have hl : (wipe σ (own.map (·.2))).length = σh.length := by rw [← wh, wipe_length]
      refine ⟨m', lt, i + 1, H', (I'.unpinned (pins := [])).weak hl (fun j v e => ?_), T.keep _ _ _ stg fun b hb o e => (pinned b hb o e).1, fun b hb => ?_, w'⟩
      · rw [← wh] at e
        exact (wipe_some e).1
      · obtain ⟨o, e, _⟩ := T.obj _ _ stg b hb
        exact (pinned b hb o e).2
    cases b with
    | false =>
      rw [if_neg Bool.false_ne_true] at qi ⊢
      exact over Ii qi
    | true =>
      rw [if_pos rfl] at qi ⊢
      refine thnF (pe.run _ si σh Hi _ Ii qi) fun z sj ⟨yv, Hj, Ij, rj, o, o', hDj, hst, nx⟩ => ?_
      exact kd.add (X.blk sc Hc scope ce fp) rfl rfl Ij hDj hst rj fun sk Ik => over Ik nx
/-- as a value -/
theorem pe_setC (kd : SetKd X.prog X.w) {elt tg iter : Expr} {ifs : List Expr} {scope : Scope} {own : List (PySem.Str × Nat)} {pos : Pos} {wi : TI} {g : TG} {tt : TT} {te : TE} (hc : X.calm = true) (hN : X.N.Nodup) (hi : PI X tg iter wi) (ok : BlkOk X.N X.env.scope scope own)
    (hg : ∀ (s : Shared) (H : Hp) (C : Addr) (cl : List (PySem.Str × Addr)) (fp : List Addr), PG (X.blk s H scope (compEnvC scope cl C X.env) fp) tg g) (ht : ∀ (s : Shared) (H : Hp) (C : Addr) (cl : List (PySem.Str × Addr)) (fp : List Addr), PTs (X.blk s H scope (compEnvC scope cl C X.env) fp) ifs tt)
    (he : ∀ (s : Shared) (H : Hp) (C : Addr) (cl : List (PySem.Str × Addr)) (fp : List Addr), PE (X.blk s H scope (compEnvC scope cl C X.env) fp) elt te) (hs : ∀ x, foldedSetIterable iter X.env x = pure x := by intro _; rfl) :
    PE X (.SetComp elt [⟨tg, iter, ifs, 0⟩] scope pos) (tSetC kd wi g tt te (own.map (·.2))) := by
  refine ⟨fun pins s σ H Q I h => ?_⟩
  rw [eval_SetComp]
  refine setC_core kd hc hN I hi ok hg ht he hs h fun D C s' m H' I' q hn f => ⟨m, hn, fun h'' sb => ?_⟩
  obtain ⟨f0, f1, f2, f3, f4, f5⟩ := f
  exact ⟨.ref D, H', I'.turned (t' := s'.toks) (fun b o hb e => (sb.2 b hb).trans e) f0 f1 f3 f4 f5, rfl, q⟩
end
end LM

set_option Elab.async false
set_option linter.all false
set_option maxRecDepth 100000
set_option maxHeartbeats 4000000
/-! sorted(set(xs)), xs a list of fewer than 64 ints -/
namespace L2
open PySem PySem.Spec PyProof.Rows
def fresh0 (w : World) : Obj := { cls := .type "set", dict := none, data := .set #[] 0 (.fresh 0 0 (!w.params.followText "set-order")) }
section
variable {P : Program} {w : World} {A : Around} {E : Value → Shared → Prop} {s : Shared}
set_option maxHeartbeats 3200000 in
theorem set_of_listI {l : Addr} {xs : Array Value} (ns : List Int) {Q : Value → Shared → Prop} (nh : A.handled = none) (il : s.heap.IsList l xs) (ix : IntsAre xs.toList ns) (few : ns.length + 1 < scanBound)
    (q : ∀ (g : Heap) (t c : Nat), SetR w g s.heap.objs.size (fun j => decide (j ∈ ns)) c → c ≤ ns.length → (∀ b o, s.heap.get? b = some o → g.get? b = some o) → Q (.ref s.heap.objs.size) { s with heap := g, toks := t }) :
    wpAny (model P w) A (call (.type "set") [.ref l]) Q E s := by
  have hz : xs.size = ns.length := by have z := IntsAre.length ix; rw [Array.length_toList] at z; exact z
  have m0 := F.called_set.mro
  obtain ⟨c, tl, mro⟩ := m0
  have made := F.called_set.made
  have sub := F.called_set.sub
  have k1 := F.called_set.notType
  have k2 := F.called_set.canCreate
  have k3 := F.typeCall_set_1 (.ref l)
  refine wpAny_call (codeAny_of_tree ?_)
  show wpAny _ _ (callAny (.type "set") _) _ _ _
  refine wpAny_pure ⟨Code.quiet_builtin _ (by decide +kernel), codeAny_builtin F.entry_type_call ?_⟩
  rw [(Around.under_plain (weight_type_call_type "set" [.ref l] []) rfl)]
  repeat (any_goals (first | assumption | wp_step))
  refine codeAny_mono (code_set_led1 (.ref l) (E := E) (Q₁ := fun u s1 => u = .ref s.heap.objs.size ∧ s1 = { s with heap := s.heap.push (fresh0 w) }) ⟨rfl, rfl⟩) fun r s1 hr => ?_
  cases r with
  | error e => exact hr
  | ok fl =>
    cases fl with
    | ret u =>
      obtain ⟨rfl, rfl⟩ := hr
      have at0 : (s.heap.push (fresh0 w)).get? s.heap.objs.size = some (fresh0 w) := Heap.get?_push_size _ rfl
      have ty0 : Shared.TypeIs { s with heap := s.heap.push (fresh0 w) } (.ref s.heap.objs.size) "set" := ⟨_, at0, rfl⟩
      have i1 := F.called_set.init.lookup
      have i2 := F.called_set.init.bind (.ref s.heap.objs.size)
      repeat (any_goals (first | assumption | wp_step))
      refine codeAny_mono (codeAny_call_builtin (R := wants (fun r s2 => r = .none ∧ ∃ g t c, s2 = { s with heap := g, toks := t } ∧ SetR w g s.heap.objs.size (fun j => decide (j ∈ ns)) c ∧ c ≤ ns.length ∧ (∀ b o, s.heap.get? b = some o → g.get? b = some o)) E) F.called_set.init.plain F.entry_set_init (check_set_init_1 ty0 ?_)) fun r2 s2 hr2 => ?_
      · obtain ⟨ob, oe, ec, nl, ed⟩ := il
        obtain ⟨c1, d1, t1, s1⟩ := ob
        simp only at ec ed
        subst ec; subst ed
        have oe' : (s.heap.push (fresh0 w)).get? l = some { cls := .type "list", dict := d1, data := .seq xs nl, slots := s1 } := Heap.get?_push_of_some _ oe
        have n1 := F.sub_list_set
        have n2 := F.sub_list_frozenset
        have n3 : (Value.type "list" == Value.type "dict") = false := by decide
        have il1 : (s.heap.push (fresh0 w)).IsList l xs := ⟨_, oe', rfl, nl, rfl⟩
        unfold Builtin.«set.__init__» noKeywords Builtin.Frozenset.updateFrom
        generalize ePI : pyIter = PI
        wp_walk
        subst ePI
        refine wpAny_pyIter_list il1 (wpAny_bind (wpAny_runValue ?_))
        have lt : l < s.heap.objs.size := Heap.lt_size oe
        have nh3 : A.in1.in1.in1.handled = none := by simp [nh]
        have sz : (s.heap.push (fresh0 w)).objs.size = s.heap.objs.size + 1 := Heap.size_push ..
        have ne : l ≠ (s.heap.push (fresh0 w)).objs.size := by rw [sz]; exact Nat.ne_of_lt (Nat.lt_succ_of_lt lt)
        have nf : s.heap.objs.size ∉ [(s.heap.push (fresh0 w)).objs.size, l] := by
          intro z
          rcases List.mem_cons.mp z with z | z
          · rw [sz] at z
            exact Nat.ne_of_lt (Nat.lt_succ_self _) z
          · exact Nat.ne_of_gt lt (List.mem_singleton.mp z)
        have val : ∀ (i : Nat) (v : Value), xs[i]? = some v → ∃ k t, ns[i]? = some k ∧ v = .int k t := fun i v hv => by
          have hi : i < ns.length := hz ▸ (Array.getElem?_eq_some_iff.mp hv).1
          obtain ⟨t, e⟩ := PyProof.Rows.IntsAre.int_at ix i v (by rw [Array.getElem?_toList]; exact hv)
          have e2 : ns[i]? = some ns[i] := List.getElem?_eq_getElem hi
          exact ⟨ns[i], t, e2, by rw [e, List.getD_eq_getElem?_getD, e2]; rfl⟩
        refine set_update_ints ((Walks.list nh3 _ l ne xs).toS) s.heap.objs.size nf ns hz few val (xs.size - 0) 0 _ (by omega) (Nat.zero_le _) ⟨⟨_, Heap.get?_push_size _ rfl, rfl, rfl⟩, (il1.push _)⟩ ⟨0, Nat.le_refl 0, setR_new_at (Heap.get?_push_of_some _ at0)⟩ ?_
        intro s3 c3 mv le3 R3
        obtain ⟨g3, gs3, dr3, tk3, os3⟩ := s3
        have x1 : gs3 = s.gens := mv.gens
        have x2 : dr3 = s.drawn := mv.drawn
        have x3 : os3 = s.os := mv.os
        subst x1; subst x2; subst x3
        show wpAny _ _ _ _ _ _
        refine wpAny_pure ?_
        show wpAny _ _ (ret Value.none) _ _ _
        refine wpAny_pure ⟨rfl, g3, tk3, c3, rfl, R3, by omega, fun b o e => ?_⟩
        have y0 : b < s.heap.objs.size := Heap.lt_size e
        refine mv.heap b o (fun z => ?_) (Heap.get?_push_of_some _ (Heap.get?_push_of_some _ e))
        rcases List.mem_cons.mp z with z | z
        · exact Nat.ne_of_lt y0 z
        · have z := List.mem_singleton.mp z
          rw [sz] at z
          exact Nat.ne_of_lt (Nat.lt_succ_of_lt y0) z
      · cases r2 with
        | error e => exact hr2
        | ok fl2 =>
          cases fl2 with
          | ret r =>
            obtain ⟨rfl, g, t, c, rfl, R, le, kp⟩ := hr2
            repeat (any_goals (first | assumption | wp_step))
            exact q _ _ _ R le kp
          | _ => exact hr2.elim
    | _ => exact hr.elim
end
section
variable {X : Cx}
def tSortSet (K : PySem.W.Frag) (ta : TE) : TE := fun σ H Q => ta σ H fun x H1 => ∃ (l : Addr) (ns : List Int), x = V.ref l ∧ SqL K H1 l (ns.map V.int) ∧ ns.length < 64 ∧ ∀ (ms : List Int) (p : Addr), ms.Pairwise (· < ·) → (∀ k : Int, k ∈ ms ↔ k ∈ ns) → H1 p = none → Q (.ref p) (upd H1 p (.lst (ms.map V.int)))
theorem pe_sortSet {a : Expr} {ta : TE} {p p2 q pos : Pos} (hc : X.calm = true) (hg : Gl X "sorted") (hm : X.mg "sorted" = none) (hg2 : Gl X "set") (hm2 : X.mg "set" = none) (ha : PE X a ta)
    (na : starEach [a] X.env = (false, eval a X.env) :: starEach [] X.env := by rfl) : PE X (.Call (.Name "sorted" p) [.Call (.Name "set" p2) [a] [] q] [] pos) (tSortSet X.K ta) := by
  refine ⟨fun pins s σ H Q I h => ?_⟩
  refine Call_ (ld_blt I hg hm (show bootBuiltins "sorted" = some (.builtin "sorted") by decide +kernel) (PyProof.Rows.callWith_builtin1 (PyProof.Rows.args_cons ?_ rfl) rfl rfl))
  refine Call_ (ld_blt I hg2 hm2 PyProof.Rows.boot_set (PyProof.Rows.callWith_type1 (PyProof.Rows.args_cons (thn (ha.run pins s σ H _ I h) fun v s1 ⟨x, H1, I1, r1, q1⟩ => PyProof.Rows.args_nil ?_) na) na rfl))
  obtain ⟨l, ns, rfl, hq, h1, q1⟩ := q1
  cases r1
  obtain ⟨its, r, pl, hz⟩ := I1.list hq
  refine set_of_listI ns (I1.ok.hd hc) pl.isList (by simpa using ints_of_vals r) (by unfold scanBound; omega) fun h' tk c R le kp => PyProof.Rows.args_nil ?_
  have I2 : Inv X pins σ H1 { s1 with heap := h', toks := tk } := I1.kept fun b o e => kp b o e
  refine sorted_set (s := { s1 with heap := h', toks := tk }) R (I2.ok.hd hc) (by omega) fun s' p out c' ms k g o hp hgt hi hs hmm hl => ?_
  have hp' : s1.heap.objs.size ≤ p := by
    have hlt : s1.heap.objs.size < h'.objs.size := R.lt
    have := hp
    dsimp only at this
    omega
  have hlen : (ms.map V.int).length ≤ sizeLine := by rw [List.length_map, hl, sizeLine_eq]; omega
  have hn : H1 p = none := I1.hok.fresh hp'
  have J : Inv X pins σ (upd H1 p (.lst (ms.map V.int))) { s1 with heap := s'.heap, gens := s'.gens, drawn := s'.drawn, toks := s'.toks } :=
    I1.call (ch := []) (Un.laid (fun b o e => k b o (kp b o e)) hp' hn) (I1.hok.laid (fun b o e => k b o (kp b o e)) hp' ⟨hlen, out.toList, c', vals_of_ints hi, hgt⟩) (by rw [g]; exact I1.bare) (fun _ z => nomatch z)
  have e : s' = { s1 with heap := s'.heap, gens := s'.gens, drawn := s'.drawn, toks := s'.toks } := by
    cases s'
    cases s1
    cases o
    rfl
  rw [e]
  exact ⟨.ref p, _, J, rfl, q1 ms p hs (fun k => by rw [hmm k, decide_eq_true_eq]) hn⟩
end
end L2

set_option Elab.async false
set_option linter.all false
set_option maxRecDepth 100000
set_option maxHeartbeats 4000000
/-! sorted(a set of texts); a set of a list's texts -/
noncomputable section
namespace LM
open PySem PySem.Spec PyProof.Rows L2 PySem.Froz
/-- not behind -/
def leS (a b : Str) : Prop := ¬ b.cps.toList < a.cps.toList
theorem leS_trans {a b c : Str} (h : leS a b) (k : leS b c) : leS a c := List.le_trans (l₁ := a.cps.toList) (l₂ := b.cps.toList) (l₃ := c.cps.toList) h k
theorem leS_anti {a b : Str} (h : leS a b) (k : leS b a) : a = b := by
  have e : a.cps.toList = b.cps.toList := List.le_antisymm h k
  cases a
  cases b
  exact congrArg Str.mk (Array.toList_inj.mp e)
theorem rising_pw : ∀ (l : List Str) (p : Str), risingS p l = true → (p :: l).Pairwise leS
  | [], p, _ => List.pairwise_singleton ..
  | x :: r, p, h => by
    rw [risingS, Bool.and_eq_true, Bool.not_eq_true', ltCps_eq, decide_eq_false_iff_not] at h
    have ih := rising_pw r x h.2
    refine List.pairwise_cons.mpr ⟨fun y hy => ?_, ih⟩
    rcases List.mem_cons.mp hy with rfl | hy
    · exact h.1
    · exact leS_trans h.1 ((List.pairwise_cons.mp ih).1 y hy)
theorem sorted_pw : ∀ (l : List Str), sortedS l = true → l.Pairwise leS
  | [], _ => List.Pairwise.nil
  | x :: r, h => rising_pw r x h
/-- two lists in order with the same texts -/
theorem sorted_one {l m : List Str} (p : l.Perm m) (hl : l.Pairwise leS) (hm : m.Pairwise leS) : l = m := p.eq_of_pairwise (fun a b _ _ h k => leS_anti h k) hl hm
theorem perm_of_sub {α : Type} [DecidableEq α] : ∀ {l m : List α}, l.Nodup → (∀ x ∈ l, x ∈ m) → m.length ≤ l.length → m.Perm l
  | [], m, _, _, hz => by
    cases m with
    | nil => exact .refl _
    | cons x m => exact absurd hz (by simp)
  | x :: l, m, hd, hs, hz => by
    obtain ⟨m1, m2, rfl⟩ := List.append_of_mem (hs x List.mem_cons_self)
    obtain ⟨nx, nd⟩ := List.nodup_cons.mp hd
    have p : (m1 ++ x :: m2).Perm (x :: (m1 ++ m2)) := List.perm_middle
    refine p.trans (List.Perm.cons x (perm_of_sub nd (fun y hy => ?_) ?_))
    · rcases List.mem_append.mp (hs y (List.mem_cons_of_mem _ hy)) with z | z
      · exact List.mem_append_left _ z
      · rcases List.mem_cons.mp z with z | z
        · exact absurd hy (z ▸ nx)
        · exact List.mem_append_right _ z
    · rw [List.length_append, List.length_cons] at hz
      rw [List.length_cons] at hz
      rw [List.length_append]
      omega
section
variable {P : Program} {w : World} {A : Around} {E : Value → Shared → Prop} {s : Shared} {a : Addr} {l : List Str}
theorem str_of_is {k : Str} {v : Value} (h : (strKind P w).is k v = true) : ∃ t, v = .str k t := by
  cases v with
  | str x t =>
    have e : x = k := by simpa [PySem.strKind, Value.isStrOf] using h
    exact ⟨t, by rw [e]⟩
  | _ => exact absurd h (by simp [PySem.strKind, Value.isStrOf])
theorem sorted_setS {Q : Value → Shared → Prop} (R : SetS P w s.heap a l) (hh : A.handled = none) (hb : l.length < scanBound)
    (hQ : ∀ s' p (out : Array Value) (c : Nat) (ms : List Str), (∀ b o, s.heap.get? b = some o → s'.heap.get? b = some o) → s'.gens = s.gens → s'.os = s.os → s.heap.objs.size ≤ p →
      s'.heap.get? p = some (seqObj "list" out c) → StrsAre out.toList ms → ms.Pairwise leS → ms.Perm l → Q (.ref p) s') :
    wpAny (model P w) A (call (.builtin "sorted") [.ref a]) Q E s := by
  obtain ⟨⟨es, ep, t⟩, ho, F, r, e, nd⟩ := R
  have hsz : es.size = l.length := F.sz
  have hz : es.size < scanBound := by omega
  refine Calls.call_function_entry kind_sorted plain_sorted entry_sorted (args_sorted1 _) ?_
  unfold Builtin.«sorted»
  refine wpAny_bind (m := checkCount "sorted" 1 1 _) (wpAny_pure ?_)
  refine wpAny_bind (collect_set (A := A.in1) hh (es := es) (ep := ep) (t := t) ⟨_, ho, rfl, rfl⟩ F.fit hz r e fun s1 vs k1 z1 g1 o1 pm => ?_)
  have hvl : vs.length = l.length := by rw [pm.length_eq, List.length_map, Array.length_toList]; exact hsz
  have hS : StrsAre vs (vs.map strOf) := strsAre_map vs fun v hv => by
    obtain ⟨x, hx, q⟩ := List.mem_map.mp (pm.mem_iff.mp hv)
    obtain ⟨⟨k, h1, _⟩, _⟩ := F.el x hx
    obtain ⟨t, e2⟩ := str_of_is h1
    exact ⟨k, t, by rw [← q, e2]⟩
  have pk : (vs.map strOf).Perm l := perm_of_sub nd (fun k hk => by
    obtain ⟨x, hx, h1⟩ := (F.mem k).mp hk
    obtain ⟨t, e2⟩ := str_of_is h1
    refine List.mem_map.mpr ⟨x.2, pm.mem_iff.mpr (List.mem_map.mpr ⟨x, hx, rfl⟩), by rw [e2]; rfl⟩) (by rw [List.length_map, hvl]; exact Nat.le_refl _)
  have hL : vs.length ≤ sizeLine := by rw [hvl]; exact fits_of_scanBound hb
  refine wpAny_bind (wpAny_newList ?_ hL)
  have hoL : (s1.heap.push (seqObj "list" vs.toArray 0)).get? s1.heap.objs.size = some (seqObj "list" vs.toArray 0) := Heap.get?_push_size _ rfl
  refine wpAny_bind (wpAny_holding (wpAny_call_entry slot_list_sort ⟨_, hoL, rfl⟩ entry_list_sort (list_sort_treeKAny strKind_oneLt hoL hS.keysOf (fun v₁ v₂ rest e => keyKind_strs (by rw [← e]; exact hS)) hL fun st' hp hs => ⟨_, rfl, ?_⟩) (args_list_sort _)))
  obtain ⟨ms, h1, h2, h3⟩ := sorted_out_str hS hp hs
  obtain ⟨c, hc⟩ := sortedHeap_at (vs := vs) (out := (arrOf st').map (·.2)) hoL
  refine wpAny_pure ⟨_, rfl, hQ _ s1.heap.objs.size _ c ms (fun b u e => ?_) g1 o1 z1 hc h1 (sorted_pw ms h3) (h2.trans pk)⟩
  have q := k1 b u e
  have hlt := Heap.lt_size q
  rw [sortedHeap_old (Nat.ne_of_lt hlt) (by rw [size_push']; exact Nat.lt_succ_of_lt hlt)]
  exact Heap.get?_push_of_some _ q
end
/-- sorted(a set of texts) -/
def rSortS (P : Program) (w : World) : List V → Hp → VK → Prop := fun vs H Q => ∃ (a : Addr) (l : List Str), vs = [V.ref a] ∧ H a = some (SetSO P w a l) ∧ l.length < scanBound ∧
  ∀ (ms : List Str) (p : Addr), ms.Pairwise leS → ms.Perm l → H p = none → Q (.ref p) (upd H p (.lst (ms.map V.str)))
theorem cr_sortS {X : Cx} (hc : X.calm = true) : CallR X (.builtin "sorted") (rSortS X.prog X.w) := by
  intro pins s σ H vs us Q I r h
  obtain ⟨a, l, rfl, ha, hb, q⟩ := h
  have R := setSO_get I ha
  rw [Vals.ref1 r]
  refine sorted_setS R (I.ok.hd hc) hb fun s' p out c ms k g o hp hg hi hs hm => ?_
  have hlen : (ms.map V.str).length ≤ sizeLine := by rw [List.length_map, hm.length_eq]; exact fits_of_scanBound hb
  have hn : H p = none := I.hok.fresh hp
  have J : Inv X pins σ (upd H p (.lst (ms.map V.str))) { s with heap := s'.heap, gens := s'.gens, drawn := s'.drawn, toks := s'.toks } :=
    I.call (ch := []) (Un.laid k hp hn) (I.hok.laid k hp ⟨hlen, out.toList, c, vals_of_strs hi, hg⟩) (by rw [g]; exact I.bare) (fun _ z => nomatch z)
  have e : s' = { s with heap := s'.heap, gens := s'.gens, drawn := s'.drawn, toks := s'.toks } := by
    cases s'
    cases s
    cases o
    rfl
  rw [e]
  exact ⟨.ref p, _, J, rfl, q ms p hs hm hn⟩
end LM

set_option Elab.async false
set_option linter.all false
set_option maxRecDepth 100000
set_option maxHeartbeats 4000000
/-! set(xs), xs a list of texts; sorted(set(xs)) -/
noncomputable section
namespace LM
open PySem PySem.Spec PyProof.Rows L2 PySem.Froz
/-- the texts of a list, each once -/
def onceS (xs : List Str) (n : Nat) : List Str := (xs.take n).foldl putS []
theorem putS_mem {l : List Str} {k x : Str} : x ∈ putS l k ↔ x ∈ l ∨ x = k := by
  unfold putS
  by_cases h : k ∈ l
  · rw [if_pos h]
    exact ⟨.inl, fun z => z.elim id fun e => e ▸ h⟩
  · rw [if_neg h, List.mem_cons]
    exact Or.comm
theorem putS_len {l : List Str} {k : Str} : (putS l k).length ≤ l.length + 1 := by
  unfold putS
  by_cases h : k ∈ l
  · rw [if_pos h]; exact Nat.le_succ _
  · rw [if_neg h]; exact Nat.le_refl _
theorem onceS_succ {xs : List Str} {n : Nat} {k : Str} (h : xs[n]? = some k) : onceS xs (n + 1) = putS (onceS xs n) k := by
  unfold onceS
  rw [List.take_add_one, h, List.foldl_append]
  rfl
theorem onceS_all {xs : List Str} {n : Nat} : ∀ x, x ∈ onceS xs n ↔ x ∈ xs.take n := by
  induction n with
  | zero => intro x; simp [onceS]
  | succ n ih =>
    intro x
    cases e : xs[n]? with
    | none =>
      have e2 : xs.take (n + 1) = xs.take n := by rw [List.take_add_one, e]; exact List.append_nil _
      unfold onceS at ih ⊢
      rw [e2]
      exact ih x
    | some k =>
      rw [onceS_succ e, putS_mem]
      refine (or_congr (ih x) Iff.rfl).trans ?_
      rw [List.take_add_one, e]
      simp
theorem onceS_len {xs : List Str} {n : Nat} : (onceS xs n).length ≤ n := by
  induction n with
  | zero => simp [onceS]
  | succ n ih =>
    cases e : xs[n]? with
    | none =>
      have e2 : xs.take (n + 1) = xs.take n := by rw [List.take_add_one, e]; exact List.append_nil _
      unfold onceS at ih ⊢
      rw [e2]
      omega
    | some k =>
      rw [onceS_succ e]
      have := putS_len (l := onceS xs n) (k := k)
      omega
theorem texts_at {L : List Value} {xs : List Str} (h : StrsAre L xs) : ∀ (i : Nat) (v : Value), L[i]? = some v → ∃ k t, xs[i]? = some k ∧ v = .str k t := by
  induction h with
  | nil => intro i v hv; simp at hv
  | cons x t r ih =>
    intro i v hv
    cases i with
    | zero => exact ⟨x, t, rfl, (Option.some.inj hv).symm⟩
    | succ i => exact ih i v (by simpa using hv)
section
variable {P : Program} {w : World} {A : Around} {E : Value → Shared → Prop} {s : Shared}
theorem update_texts {I : Addr} {fp wr : List Addr} {G : Array GenState → Array GenState → Prop} {n : Nat} {Pv : Nat → Value → Prop} {St : Nat → Shared → Prop} {R : Result → Shared → Prop}
    (W : WalksS P w A.in1 I fp wr G n Pv St) (S : Addr) (nf : S ∉ fp) (xs : List Str) (hn : n = xs.length) (few : xs.length + 1 < scanBound) (val : ∀ i v, Pv i v → ∃ k t, xs[i]? = some k ∧ v = .str k t) :
    ∀ (m i : Nat) (s : Shared), n - i = m → i ≤ n → St i s → SetS P w s.heap S (onceS xs i) →
      (∀ s', Moved (S :: wr) G s s' → SetS P w s'.heap S (onceS xs n) → R (.ok (.ret .none)) s') →
      codeAny (model P w) A (.builtin "set.update.loop" ⟨[.ref S, .ref I], []⟩) R s := by
  have nw : S ∉ wr := fun h => nf (W.sub _ h)
  have wider : ∀ b ∈ wr, b ∈ S :: wr := fun b hb => List.mem_cons_of_mem _ hb
  intro m
  induction m with
  | zero =>
    intro i s hm hi st hS hR
    obtain rfl : i = n := by omega
    refine codeAny_builtin F.entry_set_update_loop ?_
    rw [Around.under_plainId F.plain_set_update_loop _]
    show wpAny _ A.in1 (pyNext (.ref I) >>= _) _ _ s
    refine wpAny_bind (W.done s _ _ st fun s' mv => ?_)
    show wpAny _ A.in1 (ret Value.none) _ _ s'
    exact wpAny_pure (hR s' (mv.mono wider) (hS.at fun o e => mv.heap S o nw e))
  | succ m ih =>
    intro i s hm hi st hS hR
    have lt : i < n := by omega
    refine codeAny_builtin F.entry_set_update_loop ?_
    rw [Around.under_plainId F.plain_set_update_loop _]
    show wpAny _ A.in1 (pyNext (.ref I) >>= _) _ _ s
    refine wpAny_bind (W.item i s _ _ lt st fun v s' pv st' mv => ?_)
    obtain ⟨k, t, hk, rfl⟩ := val i v pv
    have hS' : SetS P w s'.heap S (onceS xs i) := hS.at fun o e => mv.heap S o nw e
    show wpAny _ A.in1 (holding [Value.str k t] (setAdd S (.str k t)) >>= _) _ _ s'
    refine wpAny_bind (wpAny_holding ?_)
    unfold setAdd
    refine wpAny_holding (wpAny_bind ((strKind P w).pyHash (is_str k t) ?_))
    have sml := onceS_len (xs := xs) (n := i)
    refine setS_hashed (s := { s' with toks := s'.toks + 1 }) hS' (by omega) fun b h' sb new => ?_
    rw [← onceS_succ hk] at new
    have other : ∀ b o, b ≠ S → s'.heap.get? b = some o → h'.get? b = some o := fun b o hb e => (sb.2 b hb).trans e
    refine wpAny_pure ⟨plainId_quiet F.plain_set_update_loop _, ih (i + 1) _ (by omega) lt (W.frame _ s' _ _ st' (Nat.le_succ _) fun b hb o e => other b o (fun h => nf (h ▸ hb)) e) new fun s2 mv2 hS2 => ?_⟩
    exact hR s2 (Moved.trans W.gtrans ((mv.mono wider).then_heap (Nat.le_succ _) fun b o hb e => other b o (fun h => hb (by rw [h]; exact List.mem_cons_self)) e) mv2) hS2
set_option maxHeartbeats 3200000 in
theorem set_of_texts {l : Addr} {its : Array Value} (xs : List Str) {Q : Value → Shared → Prop} (nh : A.handled = none) (il : s.heap.IsList l its) (ix : StrsAre its.toList xs) (few : xs.length + 1 < scanBound)
    (q : ∀ (g : Heap) (t : Nat), SetS P w g s.heap.objs.size (onceS xs xs.length) → (∀ b o, s.heap.get? b = some o → g.get? b = some o) → Q (.ref s.heap.objs.size) { s with heap := g, toks := t }) :
    wpAny (model P w) A (call (.type "set") [.ref l]) Q E s := by
  have hz : its.size = xs.length := by have z := StrsAre.length ix; rw [Array.length_toList] at z; exact z
  obtain ⟨c, tl, mro⟩ := F.called_set.mro
  have made := F.called_set.made
  have sub := F.called_set.sub
  have k1 := F.called_set.notType
  have k2 := F.called_set.canCreate
  have k3 := F.typeCall_set_1 (.ref l)
  refine wpAny_call (codeAny_of_tree ?_)
  show wpAny _ _ (callAny (.type "set") _) _ _ _
  refine wpAny_pure ⟨Code.quiet_builtin _ (by decide +kernel), codeAny_builtin F.entry_type_call ?_⟩
  rw [(Around.under_plain (weight_type_call_type "set" [.ref l] []) rfl)]
  repeat (any_goals (first | assumption | wp_step))
  refine codeAny_mono (code_set_led1 (.ref l) (E := E) (Q₁ := fun u s1 => u = .ref s.heap.objs.size ∧ s1 = { s with heap := s.heap.push (fresh0 w) }) ⟨rfl, rfl⟩) fun r s1 hr => ?_
  cases r with
  | error e => exact hr
  | ok fl =>
    cases fl with
    | ret u =>
      obtain ⟨rfl, rfl⟩ := hr
      have at0 : (s.heap.push (fresh0 w)).get? s.heap.objs.size = some (fresh0 w) := Heap.get?_push_size _ rfl
      have ty0 : Shared.TypeIs { s with heap := s.heap.push (fresh0 w) } (.ref s.heap.objs.size) "set" := ⟨_, at0, rfl⟩
      have i1 := F.called_set.init.lookup
      have i2 := F.called_set.init.bind (.ref s.heap.objs.size)
      repeat (any_goals (first | assumption | wp_step))
      refine codeAny_mono (codeAny_call_builtin (R := wants (fun r s2 => r = .none ∧ ∃ g t, s2 = { s with heap := g, toks := t } ∧ SetS P w g s.heap.objs.size (onceS xs xs.length) ∧ (∀ b o, s.heap.get? b = some o → g.get? b = some o)) E) F.called_set.init.plain F.entry_set_init (check_set_init_1 ty0 ?_)) fun r2 s2 hr2 => ?_
      · obtain ⟨ob, oe, ec, nl, ed⟩ := il
        obtain ⟨c1, d1, t1, s1⟩ := ob
        simp only at ec ed
        subst ec; subst ed
        have oe' : (s.heap.push (fresh0 w)).get? l = some { cls := .type "list", dict := d1, data := .seq its nl, slots := s1 } := Heap.get?_push_of_some _ oe
        have n1 := F.sub_list_set
        have n2 := F.sub_list_frozenset
        have n3 : (Value.type "list" == Value.type "dict") = false := by decide
        have il1 : (s.heap.push (fresh0 w)).IsList l its := ⟨_, oe', rfl, nl, rfl⟩
        unfold Builtin.«set.__init__» noKeywords Builtin.Frozenset.updateFrom
        generalize ePI : pyIter = PI
        wp_walk
        subst ePI
        refine wpAny_pyIter_list il1 (wpAny_bind (wpAny_runValue ?_))
        have lt : l < s.heap.objs.size := Heap.lt_size oe
        have nh3 : A.in1.in1.in1.handled = none := by simp [nh]
        have sz : (s.heap.push (fresh0 w)).objs.size = s.heap.objs.size + 1 := Heap.size_push ..
        have ne : l ≠ (s.heap.push (fresh0 w)).objs.size := by rw [sz]; exact Nat.ne_of_lt (Nat.lt_succ_of_lt lt)
        have nf : s.heap.objs.size ∉ [(s.heap.push (fresh0 w)).objs.size, l] := by
          intro z
          rcases List.mem_cons.mp z with z | z
          · rw [sz] at z
            exact Nat.ne_of_lt (Nat.lt_succ_self _) z
          · exact Nat.ne_of_gt lt (List.mem_singleton.mp z)
        have val : ∀ (i : Nat) (v : Value), its[i]? = some v → ∃ k t, xs[i]? = some k ∧ v = .str k t := fun i v hv => by
          exact texts_at ix i v (by rw [Array.getElem?_toList]; exact hv)
        refine update_texts ((Walks.list nh3 _ l ne its).toS) s.heap.objs.size nf xs hz few val (its.size - 0) 0 _ (by omega) (Nat.zero_le _) ⟨⟨_, Heap.get?_push_size _ rfl, rfl, rfl⟩, (il1.push _)⟩ ((setS_fresh P w).at fun o e => Heap.get?_push_of_some _ e) ?_
        intro s3 mv R3
        obtain ⟨g3, gs3, dr3, tk3, os3⟩ := s3
        have x1 : gs3 = s.gens := mv.gens
        have x2 : dr3 = s.drawn := mv.drawn
        have x3 : os3 = s.os := mv.os
        subst x1; subst x2; subst x3
        show wpAny _ _ _ _ _ _
        refine wpAny_pure ?_
        show wpAny _ _ (ret Value.none) _ _ _
        refine wpAny_pure ⟨rfl, g3, tk3, rfl, by rw [← hz]; exact R3, fun b o e => ?_⟩
        have y0 : b < s.heap.objs.size := Heap.lt_size e
        refine mv.heap b o (fun z => ?_) (Heap.get?_push_of_some _ (Heap.get?_push_of_some _ e))
        rcases List.mem_cons.mp z with z | z
        · exact Nat.ne_of_lt y0 z
        · have z := List.mem_singleton.mp z
          rw [sz] at z
          exact Nat.ne_of_lt (Nat.lt_succ_of_lt y0) z
      · cases r2 with
        | error e => exact hr2
        | ok fl2 =>
          cases fl2 with
          | ret r =>
            obtain ⟨rfl, g, t, rfl, R, kp⟩ := hr2
            repeat (any_goals (first | assumption | wp_step))
            exact q _ _ R kp
          | _ => exact hr2.elim
    | _ => exact hr.elim
end
section
variable {X : Cx}
def tSortSetS (K : PySem.W.Frag) (ta : TE) : TE := fun σ H Q => ta σ H fun x H1 => ∃ (l : Addr) (xs : List Str), x = V.ref l ∧ SqL K H1 l (xs.map V.str) ∧ xs.length + 1 < scanBound ∧ ∀ (ms : List Str) (p : Addr), ms.Pairwise leS → ms.Perm (onceS xs xs.length) → H1 p = none → Q (.ref p) (upd H1 p (.lst (ms.map V.str)))
theorem pe_sortSetS {a : Expr} {ta : TE} {p p2 q pos : Pos} (hc : X.calm = true) (hg : Gl X "sorted") (hm : X.mg "sorted" = none) (hg2 : Gl X "set") (hm2 : X.mg "set" = none) (ha : PE X a ta)
    (na : starEach [a] X.env = (false, eval a X.env) :: starEach [] X.env := by rfl) : PE X (.Call (.Name "sorted" p) [.Call (.Name "set" p2) [a] [] q] [] pos) (tSortSetS X.K ta) := by
  refine ⟨fun pins s σ H Q I h => ?_⟩
  refine Call_ (ld_blt I hg hm (show bootBuiltins "sorted" = some (.builtin "sorted") by decide +kernel) (PyProof.Rows.callWith_builtin1 (PyProof.Rows.args_cons ?_ rfl) rfl rfl))
  refine Call_ (ld_blt I hg2 hm2 PyProof.Rows.boot_set (PyProof.Rows.callWith_type1 (PyProof.Rows.args_cons (thn (ha.run pins s σ H _ I h) fun v s1 ⟨x, H1, I1, r1, q1⟩ => PyProof.Rows.args_nil ?_) na) na rfl))
  obtain ⟨l, xs, rfl, hq, h1, q1⟩ := q1
  cases r1
  obtain ⟨its, r, pl, hz⟩ := I1.list hq
  refine set_of_texts xs (I1.ok.hd hc) pl.isList (by simpa using r.strs) h1 fun h' tk R kp => PyProof.Rows.args_nil ?_
  have I2 : Inv X pins σ H1 { s1 with heap := h', toks := tk } := I1.kept fun b o e => kp b o e
  have few : (onceS xs xs.length).length < scanBound := by
    have := onceS_len (xs := xs) (n := xs.length)
    omega
  refine sorted_setS (s := { s1 with heap := h', toks := tk }) R (I2.ok.hd hc) few fun s' p out c' ms k g o hp hgt hi hs hmm => ?_
  have hp' : s1.heap.objs.size ≤ p := by
    have hlt : s1.heap.objs.size < h'.objs.size := R.lt
    have := hp
    dsimp only at this
    omega
  have hlen : (ms.map V.str).length ≤ sizeLine := by rw [List.length_map, hmm.length_eq]; exact fits_of_scanBound few
  have hn : H1 p = none := I1.hok.fresh hp'
  have J : Inv X pins σ (upd H1 p (.lst (ms.map V.str))) { s1 with heap := s'.heap, gens := s'.gens, drawn := s'.drawn, toks := s'.toks } :=
    I1.call (ch := []) (Un.laid (fun b o e => k b o (kp b o e)) hp' hn) (I1.hok.laid (fun b o e => k b o (kp b o e)) hp' ⟨hlen, out.toList, c', vals_of_strs hi, hgt⟩) (by rw [g]; exact I1.bare) (fun _ z => nomatch z)
  have e : s' = { s1 with heap := s'.heap, gens := s'.gens, drawn := s'.drawn, toks := s'.toks } := by
    cases s'
    cases s1
    cases o
    rfl
  rw [e]
  exact ⟨.ref p, _, J, rfl, q1 ms p hs hmm hn⟩
end
end LM

set_option Elab.async false
set_option linter.all false
set_option maxRecDepth 100000
set_option maxHeartbeats 4000000
/-! a set comprehension over a tuple -/
noncomputable section
namespace LM
open PySem PySem.Spec PyProof.Rows L2 PySem.Froz
theorem setC_tup {P : Program} {w : World} {kd : SetKd P w} {K : PySem.W.Frag} {a : Addr} {xs : List V} {g : TG} {tt : TT} {te : TE} {vs : List Nat} {σ : L2.St} {H1 : Hp} {D : Addr} {Qd : Hp → Prop} (Pv : Nat → Hp → Prop) (h0 : Pv 0 (upd H1 D (kd.o0 D))) (hl : ∀ i H, i ≤ xs.length → Pv i H → SqT K H a xs)
    (hs : ∀ i x H, xs[i]? = some x → Pv i H → g x (wipe σ vs) H fun σ2 H2 => wipe σ2 vs = wipe σ vs ∧ tt σ2 H2 fun b H3 => if b = true then te σ2 H3 fun y H4 => ∃ o o' : HO, H4 D = some o ∧ kd.st D o y o' ∧ Pv (i + 1) (upd H4 D o') else Pv (i + 1) H3) (hd : ∀ H, Pv xs.length H → Qd H) :
    ∃ W : Nat → Nat → Hp → Prop, (∃ m, W 0 m (upd H1 D (kd.o0 D))) ∧ ∀ i m H, W i m H →
      ((Itt K a).stop i H ∧ Qd H) ∨ ((Itt K a).go i H ∧ ∃ Nx : Hp → Prop, (∀ H', Nx H' → ∃ m', m' < m ∧ W (i + 1) m' H') ∧ ∀ x H', (Itt K a).yld i H x H' → g x (wipe σ vs) H' fun σ2 H2 => wipe σ2 vs = wipe σ vs ∧ tt σ2 H2 fun b H3 =>
        if b = true then te σ2 H3 fun y H4 => ∃ o o' : HO, H4 D = some o ∧ kd.st D o y o' ∧ Nx (upd H4 D o') else Nx H3) := by
  refine ⟨fun i m H => i ≤ xs.length ∧ m = xs.length - i ∧ Pv i H, ⟨_, Nat.zero_le _, rfl, h0⟩, fun i m H ⟨hi, hm, p⟩ => ?_⟩
  subst hm
  have q := hl i H hi p
  rcases Nat.lt_or_ge i xs.length with lt | ge
  · have at_ : xs[i]? = some xs[i] := List.getElem?_eq_getElem lt
    refine .inr ⟨⟨xs, xs[i], q, at_⟩, Pv (i + 1), fun H' p' => ⟨xs.length - (i + 1), by omega, lt, rfl, p'⟩, fun x H' y => ?_⟩
    obtain ⟨rfl, y⟩ := y
    exact hs i x _ (y xs q) p
  · obtain rfl : i = xs.length := Nat.le_antisymm hi ge
    exact .inl ⟨⟨xs, q, Nat.le_refl _⟩, hd H p⟩
theorem onceS_nodup {xs : List Str} : ∀ n, (onceS xs n).Nodup
  | 0 => List.nodup_nil
  | n + 1 => by
    have ih := onceS_nodup (xs := xs) n
    cases e : xs[n]? with
    | none =>
      have e2 : xs.take (n + 1) = xs.take n := by rw [List.take_add_one, e]; exact List.append_nil _
      unfold onceS at ih ⊢
      rw [e2]
      exact ih
    | some k =>
      rw [onceS_succ e]
      unfold putS
      by_cases h : k ∈ onceS xs n
      · rw [if_pos h]; exact ih
      · rw [if_neg h]; exact List.nodup_cons.mpr ⟨h, ih⟩
/-- these texts, each once, in order -/
structure Told (ms xs : List Str) : Prop where
  up : ms.Pairwise leS
  one : ms.Nodup
  mem : ∀ x, x ∈ ms ↔ x ∈ xs
theorem Told.of {ms xs : List Str} (h : ms.Pairwise leS) (p : ms.Perm (onceS xs xs.length)) : Told ms xs := ⟨h, p.nodup_iff.mpr (onceS_nodup _), fun x => by rw [p.mem_iff, onceS_all, List.take_length]⟩
theorem Told.eq {ms ns xs ys : List Str} (h : Told ms xs) (k : Told ns ys) (e : ∀ x, x ∈ xs ↔ x ∈ ys) : ms = ns :=
  sorted_one ((List.perm_ext_iff_of_nodup h.one k.one).mpr fun x => by rw [h.mem, k.mem, e]) h.up k.up
theorem Told.len {ms xs : List Str} (h : Told ms xs) : ms.length ≤ xs.length := by
  have key : ∀ {l m : List Str}, l.Nodup → (∀ x ∈ l, x ∈ m) → l.length ≤ m.length := by
    intro l
    induction l with
    | nil => intro m _ _; exact Nat.zero_le _
    | cons x l ih =>
      intro m hd hs
      obtain ⟨m1, m2, rfl⟩ := List.append_of_mem (hs x List.mem_cons_self)
      obtain ⟨nx, nd⟩ := List.nodup_cons.mp hd
      have := ih (m := m1 ++ m2) nd fun y hy => by
        rcases List.mem_append.mp (hs y (List.mem_cons_of_mem _ hy)) with z | z
        · exact List.mem_append_left _ z
        · rcases List.mem_cons.mp z with z | z
          · exact absurd hy (z ▸ nx)
          · exact List.mem_append_right _ z
      rw [List.length_append] at this
      rw [List.length_append, List.length_cons, List.length_cons]
      omega
  exact key h.one fun x hx => (h.mem x).mp hx
end LM

set_option Elab.async false
set_option linter.all false
set_option maxRecDepth 100000
set_option maxHeartbeats 2000000
/-! a def called by its parameters' names, and a tuple's turn-around -/
namespace LM
open PySem PySem.Spec PyProof.Rows L2
/-! ### t[::-1] -/
theorem places_rev (n : Nat) : Builtin.Slice.slicePlaces ((n : Int) - 1) (-1) (-1) = n := by
  unfold Builtin.Slice.slicePlaces
  rw [if_neg (by decide)]
  by_cases h : (n : Int) - 1 > -1
  · rw [if_pos h]
    have : -(-1 : Int) = 1 := by decide
    rw [this, Int.ediv_one]
    omega
  · rw [if_neg h]
    show (0 : Int).toNat = n
    omega
theorem range_pick : ∀ l : List Value, (List.range l.length).filterMap (fun m => l[m]?) = l := by
  intro l
  have h : ∀ k, k ≤ l.length → (List.range k).filterMap (fun m => l[m]?) = l.take k := by
    intro k
    induction k with
    | zero => intro _; rfl
    | succ k ih =>
      intro hk
      rw [List.range_succ, List.filterMap_append, ih (by omega), List.take_add_one]
      congr 1
  rw [h _ (Nat.le_refl _), List.take_length]
theorem fm_congr {f g : Nat → Option Value} : ∀ l : List Nat, (∀ m ∈ l, f m = g m) → l.filterMap f = l.filterMap g
  | [], _ => rfl
  | m :: l, h => by rw [List.filterMap_cons, List.filterMap_cons, h m List.mem_cons_self, fm_congr l fun k hk => h k (List.mem_cons_of_mem _ hk)]
theorem pick_rev (xs : Array Value) : ((List.range xs.size).filterMap fun (m : Nat) => xs[(((xs.size : Int) - 1) + (m : Int) * (-1)).toNat]?).toArray = xs.toList.reverse.toArray := by
  congr 1
  have e := range_pick xs.toList.reverse
  rw [List.length_reverse, Array.length_toList] at e
  refine Eq.trans (fm_congr _ fun m hm => ?_) e
  have hm' : m < xs.size := List.mem_range.mp hm
  rw [List.getElem?_reverse (by rw [Array.length_toList]; exact hm'), Array.length_toList, Array.getElem?_toList]
  congr 1
  omega
theorem sliceApplied_rev {prog : Program} {w : World} {A : Around} {E : Value → Shared → Prop} {s : Shared} {sl : Addr} {vl vu vs : Value} {n : Nat} {Q : Int × Int × Nat → Shared → Prop} (hs : s.heap.IsSliceOf sl vl vu vs) (pl : IsPart vl none) (pu : IsPart vu none) (ps : IsPart vs (some (-1)))
    (h : Q ((n : Int) - 1, -1, n) s) : wpAny (model prog w) A (Builtin.Slice.sliceApplied (.ref sl) (pure (n : Int))) Q E s := by
  obtain ⟨os, hos, hcs, hds⟩ := id hs
  unfold Builtin.Slice.sliceApplied Builtin.Slice.sliceFields
  refine wpAny_bind (wpAny_bind (wpAny_field hos hds (x := vl) rfl (wpAny_bind (wpAny_field hos hds (x := vu) rfl (wpAny_bind (wpAny_field hos hds (x := vs) rfl (wpAny_pure ?_)))))))
  refine wpAny_bind (HT.slicePart_ ps ?_)
  show wpAny _ _ (if ((-1 : Int) == 0) = true then _ else _) _ _ s
  rw [if_neg (by decide)]
  refine wpAny_bind (HT.slicePart_ pl (wpAny_bind (HT.slicePart_ pu (wpAny_bind (wpAny_pure ?_)))))
  show wpAny _ _ (pure ((n : Int) - 1, (-1 : Int), Builtin.Slice.slicePlaces ((n : Int) - 1) (-1) (-1))) _ _ s
  rw [places_rev]
  exact wpAny_pure h
theorem getItem_tuple_rev {prog : Program} {w : World} {A : Around} {E : Value → Shared → Prop} {s : Shared} {t sl : Addr} {items : Array Value} {vl vu vs : Value} {Q : Value → Shared → Prop} (ht : IsTup s.heap t items) (hs : s.heap.IsSliceOf sl vl vu vs) (pl : IsPart vl none) (pu : IsPart vu none) (ps : IsPart vs (some (-1)))
    (h : Q (.ref s.heap.objs.size) { s with heap := s.heap.push { cls := .type "tuple", data := .seq items.toList.reverse.toArray } })
    (hsz : items.size ≤ sizeLine) : wpAny (model prog w) A (getItem (.ref t) (.ref sl)) Q E s := by
  have htake : sizeOk (.seq items.toList.reverse.toArray) := by
    show items.toList.reverse.toArray.size ≤ sizeLine
    rw [List.size_toArray, List.length_reverse, Array.length_toList]
    exact hsz
  obtain ⟨os, hos, hcs, hds⟩ := id hs
  have hTs : s.TypeIs (.ref sl) "slice" := ⟨os, hos, hcs⟩
  unfold getItem
  try with_reducible refine wpAny_holding ?_
  first | refine wpAny_bind (wpAny_pure ?_) | skip
  refine wpAny_bind (wpAny_sequenceKey ht.typeIs (by decide) ?_)
  refine wpAny_bind (wpAny_callSpecial?_slot (name := Str.ofString "__getitem__") ht.typeIs PyProof.Rows.slot_tuple_getitem
    (wpAny_call_entry PyProof.Rows.slot_tuple_getitem ht.typeIs entry_tuple_getitem ?_ (args_tuple_getitem _ _)))
  show wpAny _ _ (Builtin.Tuple.tupleItemsOf (.ref t) >>= _) _ _ s
  refine wpAny_bind (tupleItemsOf_ ht ?_)
  refine wpAny_bind (wpAny_typeOf hTs ?_)
  rw [if_pos (by decide)]
  refine wpAny_bind (sliceApplied_rev hs pl pu ps ?_)
  have hno : ¬ ((((items.size : Int) - 1) == 0 && (-1 : Int) == 1 && items.size == items.size) = true) := by
    intro q
    rw [Bool.and_eq_true, Bool.and_eq_true] at q
    exact absurd q.1.2 (by decide)
  show wpAny _ _ (if (((items.size : Int) - 1) == 0 && (-1 : Int) == 1 && items.size == items.size) = true then _ else _) _ _ s
  rw [if_neg hno, pick_rev]
  first
    | exact wpAny_bind (m := Builtin.Tuple.tupleExact _) (wpAny_newObj_type (wpAny_pure ⟨_, rfl, wpAny_pure h⟩) htake)
    | exact wpAny_bind (m := Builtin.Tuple.tupleExact _) (wpAny_newObj_type (wpAny_bind (wpAny_pure (wpAny_pure ⟨_, rfl, wpAny_pure h⟩))) htake)
    | exact wpAny_bind (wpAny_bind (m := Builtin.Tuple.tupleExact _) (wpAny_newObj_type (wpAny_pure (wpAny_pure ⟨_, rfl, wpAny_pure h⟩)) htake))
    | exact wpAny_bind (wpAny_bind (m := Builtin.Tuple.tupleExact _) (wpAny_newObj_type (wpAny_pure ⟨_, rfl, wpAny_pure h⟩) htake))
def tRevT (K : PySem.W.Frag) (te : TE) : TE := fun σ H Q => te σ H fun x H1 => ∃ a xs, x = .ref a ∧ SqT K H1 a xs ∧ ∀ p, H1 p = none → Q (.ref p) (upd H1 p (.tup xs.reverse))
theorem pe_revT {X : Cx} {e : Expr} {te : TE} {k : Nat} {p1 p2 p3 pos : Pos} (he : PE X e te) : PE X (.Subscript e (.Slice none none (some (.UnaryOp .USub (.Constant (.int 1) k p1) p2)) p3) pos) (tRevT X.K te) := by
  refine ⟨fun pins s σ H Q I h => ?_⟩
  refine Subscript_ (thn (he.run pins s σ H _ I h) fun v s1 ⟨x, H1, I1, r1, q1⟩ => ?_)
  obtain ⟨a, xs, ex, hx, q⟩ := q1
  subst ex
  cases r1
  have hst : PO X (some (.UnaryOp .USub (.Constant (.int 1) k p1) p2)) (tPart (tUn (rU fun i => .int (-i)) (tC (.int 1)))) := po_some (pe_un un_neg pe_int)
  refine wpAny_Slice (thn (po_none.run pins s1 σ H1 (fun o H2 => o = none ∧ H2 = H1) I1 ⟨rfl, rfl⟩) fun vl s2 ⟨l, H2, I2, pl, el, e2⟩ => ?_)
  subst el e2
  refine thn (po_none.run pins s2 σ H2 (fun o H3 => o = none ∧ H3 = H2) I2 ⟨rfl, rfl⟩) fun vu s3 ⟨u, H3, I3, pu, eu, e3⟩ => ?_
  subst eu e3
  refine thn (hst.run pins s3 σ H3 (fun o H4 => o = some (-1) ∧ H4 = H3) I3 ⟨1, rfl, -1, rfl, rfl, rfl⟩) fun vs s4 ⟨o, H4, I4, ps, eo, e4⟩ => ?_
  subst eo e4
  have I5 : Inv X pins σ H4 { s4 with heap := s4.heap.push { cls := .type "slice", data := .fields #[vl, vu, vs] } } := I4.kept (t' := s4.toks) fun b ob q => Heap.get?_push_of_some _ q
  obtain ⟨its, r, ht, hz⟩ := I5.tuple hx
  have hlen := r.length
  show wpAny (model X.prog X.w) X.A (subscriptTail e (.Slice none none (some (.UnaryOp .USub (.Constant (.int 1) k p1) p2)) p3) (.ref a) (.ref s4.heap.objs.size)) (EP X pins σ Q) X.xe { s4 with heap := s4.heap.push { cls := .type "slice", data := .fields #[vl, vu, vs] } }
  refine tail_any (ops := [.ref a, .ref s4.heap.objs.size]) ht.typeIs (PyProof.Rows.slot_tuple_getitem.lookup) ?_ (by with_unfolding_all rfl)
  refine getItem_tuple_rev ht (Heap.IsSliceOf.new _ vl vu vs) pl pu ps ?_ (by rw [List.size_toArray]; omega)
  refine ⟨.ref _, _, I5.laid (t' := s4.toks) (o := .tup xs.reverse) (fun b ob q => Heap.get?_push_of_some _ q) (Nat.le_refl _) ?_, rfl, q _ (I5.hok.fresh (Nat.le_refl _))⟩
  exact ⟨by rw [List.length_reverse]; exact hz, _, r.reverse, IsTup.new _ _⟩
/-! ### f(k = v, ..), nothing by position -/
def tCallK0 (sp : Sp) (gV : List V → List V → List V) (E : XK) (tk : TA) : TE := fun σ H Q => tk σ H fun zs H2 => sp (gV [] zs) H2 Q E
theorem pe_callK0 {X : Cx} {CX : CXT} {k : Nat} {f : Addr} {fd : FuncData} {ps ks : List Str} {sp : Sp} {E : XK} {x : Str} {p pos : Pos} {kws : List Keyword} {tk : TA} {g : List Value → List Value → List Value} {gV : List V → List V → List V}
    (F : FnOk X.prog X.w X.K X.mg X.base CX k f fd ps sp) (hr : Room k X.A) (hg : Gl X x) (hm : X.mg x = some (.ref f)) (hk : PySem.W.keepIn X.K (.ref f) = true) (hb : KBinds X.K fd ps ks g gV) (hx : Passes CX X E)
    (hkw : PK X kws tk) (hall : (backToKw pos (keywordEach kws X.env)).all (·.1.isSome) = true := by rfl) (hks : (backToKw pos (keywordEach kws X.env)).filterMap (·.1) = ks := by rfl)
    (hdb : (x == ("__debug__" : Str)) = false := by decide)
    (hpl : ((backTo pos (starEach [] X.env)).any (·.1) || (backToKw pos (keywordEach kws X.env)).any (·.1.isNone)) = false := by rfl) :
    PE X (.Call (.Name x p) [] kws pos) (tCallK0 sp gV E tk) := by
  refine ⟨fun pins s σ H Q I h => ?_⟩
  refine wpAny_Call_Name_kw (ld_glob I hg hm ?_ hdb)
  refine PySem.W.callWith_KW0 (h₀ := X.base) I.ok.mod.kin hk hall (thn (hkw.run pos pins s σ H _ I h) fun ws s2 ⟨zs, H2, I2, rz, q2⟩ => ⟨I2.kIn, ?_⟩) hpl
  rw [hks]
  exact run_fnk (us := []) (vs := []) F hr hb hx I2 .nil rz q2
/-- the keywords in the parameters' order turned round -/
def kwR {α : Type} : List α → List α → List α
  | [], ws => ws.reverse
  | _ :: _, _ => []
/-- a def of the top, called by its parameters' names in that order -/
structure DefKw (P : Program) (w : World) (K : PySem.W.Frag) (mg : Str → Option Value) (base : Heap) (x : Str) (ps : List Str) (k : Nat) (sp : Sp) : Prop where
  all : ∃ (f : Addr) (fd : FuncData), FnOk P w K mg base CX0 k f fd ps sp ∧ mg x = some (.ref f) ∧ PySem.W.keepIn K (.ref f) = true ∧ KBinds K fd ps ps.reverse kwR kwR
theorem DefKw.mk' {P : Program} {w : World} {K : PySem.W.Frag} {mg : Str → Option Value} {base : Heap} {x : Str} {st : Stmt} {ps : List Str} {k : Nat} {sp : Sp} (t : ∃ (f : Addr) (fd : FuncData), Fun K x x st f fd ∧ mg x = some (.ref f) ∧ PySem.W.keepIn K (.ref f) = true ∧ Binds K fd ps []) (ok : ∀ {f : Addr} {fd : FuncData}, Fun K x x st f fd → FnOk P w K mg base CX0 k f fd ps sp) (hp : 0 < ps.length)
    (h : ∀ (kV doc pm : Value) (an : Option Addr) (cdv ct : Value) (ws : List Value), ws.length = ps.length → bindArgs (PySem.W.fnOf x x (defArgs st) (defBody st) (defScope st) .none kV doc pm an cdv ct) ⟨[], ps.reverse.zip ws⟩ = pure (ps.zip ws.reverse)) : DefKw P w K mg base x ps k sp := by
  obtain ⟨f, fd, F, m, kp, _⟩ := t
  refine ⟨f, fd, ok F, m, kp, ⟨fun s us ws _ hl => ?_, fun {vs us zs ws} h1 h2 => ?_⟩⟩
  · obtain ⟨oc, od, kV, doc, pm, an, cdv, ct, osl, rfl, lk, hcd⟩ := F.ex
    match us, hl with
    | [], hl =>
      have hl' : ws.reverse.length = ps.length := hl
      exact .of_eq (h kV doc pm an cdv ct ws (by rw [← hl', List.length_reverse]))
    | _ :: _, hl =>
      have : 0 = ps.length := hl
      omega
  · cases h1 with
    | nil => exact h2.reverse
    | cons _ _ => exact .nil
theorem pe_dK {X : Cx} {x : Str} {p pos : Pos} {kws : List Keyword} {tk : TA} {ps : List Str} {k : Nat} {sp : Sp} (D : DefKw X.prog X.w X.K X.mg X.base x ps k sp) (hr : Room k X.A) (hg : Gl X x) (hkw : PK X kws tk)
    (hall : (backToKw pos (keywordEach kws X.env)).all (·.1.isSome) = true := by rfl) (hks : (backToKw pos (keywordEach kws X.env)).filterMap (·.1) = ps.reverse := by rfl)
    (hdb : (x == ("__debug__" : Str)) = false := by decide)
    (hpl : ((backTo pos (starEach [] X.env)).any (·.1) || (backToKw pos (keywordEach kws X.env)).any (·.1.isNone)) = false := by rfl) :
    PE X (.Call (.Name x p) [] kws pos) (tCallK0 sp kwR E0 tk) := by
  obtain ⟨f, fd, F, m, kp, b⟩ := D.all
  exact pe_callK0 F hr hg m kp b pass0 hkw hall hks hdb hpl
end LM

set_option Elab.async false
set_option linter.all false
set_option maxRecDepth 100000
set_option maxHeartbeats 4000000
/-! tuples of texts, shown -/
namespace LM
open PySem PySem.Spec PyProof.Rows L2 RZ CwR
theorem app_small {x y : Str} (hx : ∀ d ∈ sg x, d < 128) (hy : ∀ d ∈ sg y, d < 128) : ∀ d ∈ sg (x ++ y), d < 128 := fun d hd => by
  rw [sg_app] at hd
  rcases List.mem_append.mp hd with z | z
  · exact hx d z
  · exact hy d z
theorem join_small (sep : Str) (hs : ∀ d ∈ sg sep, d < 128) : ∀ ws : List Str, (∀ w ∈ ws, ∀ d ∈ sg w, d < 128) → ∀ d ∈ sg (Str.join sep ws), d < 128
  | [], _ => by
    show ∀ d ∈ sg Str.empty, d < 128
    exact fun d z => nomatch z
  | [x], h => h x (List.mem_singleton.mpr rfl)
  | x :: y :: r, h => by
    show ∀ d ∈ sg (x ++ sep ++ Str.join sep (y :: r)), d < 128
    exact app_small (app_small (h x List.mem_cons_self) hs) (join_small sep hs (y :: r) (fun w hw => h w (List.mem_cons_of_mem _ hw)))
theorem shownAll_small : ∀ ds : List PyData, (∀ d ∈ ds, ∀ e ∈ sg d.shown, e < 128) → ∀ w ∈ PyData.shownAll ds, ∀ e ∈ sg w, e < 128
  | [], _, w, hw => by simp [PyData.shownAll] at hw
  | d :: ds, h, w, hw => by
    rcases List.mem_cons.mp (show w ∈ d.shown :: PyData.shownAll ds from hw) with rfl | hw
    · exact h d List.mem_cons_self
    · exact shownAll_small ds (fun e he => h e (List.mem_cons_of_mem _ he)) w hw
theorem tup_small {ds : List PyData} (h : ∀ d ∈ ds, ∀ e ∈ sg d.shown, e < 128) : ∀ e ∈ sg (PyData.tuple ds).shown, e < 128 := by
  rw [PyData.shown_tuple]
  refine app_small (app_small (by decide) (join_small _ (by decide) _ (shownAll_small ds h))) ?_
  split <;> decide
theorem strOk_small {x : Str} (h : ∀ d ∈ sg x, d < 128) : PyData.strOk x = true := by
  unfold PyData.strOk
  rw [Array.all_eq_true_iff_forall_mem]
  intro d hd
  have := h d (Array.mem_def.mp hd)
  exact decide_eq_true (by omega)
theorem join_chars {c k : Nat} (hk : c < k) : ∀ ws : List Str, (∀ w ∈ ws, ∀ d ∈ sg w, d < k) → ∀ d ∈ sg (Str.join ⟨#[c]⟩ ws), d < k
  | [], _, d, hd => by
    have : sg (Str.join ⟨#[c]⟩ []) = [] := rfl
    rw [this] at hd
    cases hd
  | [w], h, d, hd => h w List.mem_cons_self d hd
  | w :: x :: r, h, d, hd => by
    rw [sg_join] at hd
    rcases List.mem_append.mp hd with hd | hd
    · exact h w List.mem_cons_self d hd
    · rcases List.mem_cons.mp hd with rfl | hd
      · exact hk
      · exact join_chars hk (x :: r) (fun y hy => h y (List.mem_cons_of_mem _ hy)) d hd
theorem label_chars {bs ds : List Int} (h : labelB bs ds = true) (hb : ∀ x ∈ bs, x ≤ 60) : ∀ d ∈ sg (labelS bs ds), d < 128 := by
  unfold labelS
  rw [join_glued, col_eq]
  refine join_chars (by decide) _ fun w hw d hd => ?_
  have := (figB_iff.mp (words_fig h hb w hw)).2 d hd
  omega
/-- a short text of plain signs -/
def OkS (x : Str) : Prop := x.length ≤ 200 ∧ ∀ d ∈ sg x, d < 128
theorem txt_ok {gs : List Int} {rows : List R3} {cs : List Int} {B : Nat} {c : Nat → Nat} {L n : Nat} (fr : Fair gs rows) (ct : Cnt gs rows cs B c L) (hn : n ≤ 10 ^ 31) : OkS (txtI gs cs n) :=
  ⟨Nat.le_trans (txt_len fr ct hn) (by decide), label_chars (label_ok gs (placeP gs cs n) (fun y hy => (fr.bb y hy).1) (ct.place31 hn).1) fun x hx => (fr.bb x hx).2⟩
theorem quote_small (x : Str) : reprQuote x = 34 ∨ reprQuote x = 39 := by
  unfold reprQuote
  split
  · first | exact .inl rfl | exact .inr rfl
  · first | exact .inl rfl | exact .inr rfl
theorem char_small {q c : Nat} (hq : q = 34 ∨ q = 39) (hc : c < 128) : ∀ d ∈ Builtin.Str.reprChar q c, d < 128 := by
  have k1 : ∀ c : _root_.Fin 128, ∀ d ∈ Builtin.Str.reprChar 34 c.val, d < 128 := by decide +kernel
  have k2 : ∀ c : _root_.Fin 128, ∀ d ∈ Builtin.Str.reprChar 39 c.val, d < 128 := by decide +kernel
  rcases hq with rfl | rfl
  · exact k1 ⟨c, hc⟩
  · exact k2 ⟨c, hc⟩
theorem foldl_small {q : Nat} (hq : q = 34 ∨ q = 39) : ∀ (l : List Nat) (acc : Array Nat), (∀ d ∈ acc.toList, d < 128) → (∀ c ∈ l, c < 128) → ∀ d ∈ (l.foldl (fun out c => out ++ (Builtin.Str.reprChar q c).toArray) acc).toList, d < 128
  | [], acc, h, _ => h
  | c :: r, acc, h, k => by
    refine foldl_small hq r _ (fun d hd => ?_) fun x hx => k x (List.mem_cons_of_mem _ hx)
    rw [Array.toList_append] at hd
    rcases List.mem_append.mp hd with z | z
    · exact h d z
    · exact char_small hq (k c List.mem_cons_self) d z
theorem repr_small {x : Str} (h : ∀ d ∈ sg x, d < 128) : ∀ d ∈ sg (reprText x), d < 128 := by
  intro d hd
  have hq := quote_small x
  have hd' : d ∈ ((x.cps.foldl (fun out c => out ++ (Builtin.Str.reprChar (reprQuote x) c).toArray) #[reprQuote x]).push (reprQuote x)).toList := hd
  rw [Array.toList_push, ← Array.foldl_toList] at hd'
  rcases List.mem_append.mp hd' with z | z
  · exact foldl_small hq x.cps.toList _ (fun e he => by
      rw [List.mem_singleton.mp he]
      omega) h d z
  · rw [List.mem_singleton.mp z]
    omega
theorem dpAll_strs {K : PySem.W.Frag} {H : Hp} : ∀ xs : List Str, DpAll K H (xs.map V.str) (xs.map PyData.str)
  | [] => .nil
  | _ :: r => .cons (.str _) (dpAll_strs r)
theorem strs_plain : ∀ xs : List Str, PyData.showableAll (xs.map PyData.str) = true ∧ PyData.hasDictAll (xs.map PyData.str) = false ∧ PyData.depthAll (xs.map PyData.str) = 0
  | [] => by simp [PyData.showableAll, PyData.hasDictAll, PyData.depthAll]
  | x :: r => by
    obtain ⟨h1, h2, h3⟩ := strs_plain r
    simp only [List.map_cons, PyData.showableAll, PyData.hasDictAll, PyData.depthAll, PyData.showable, PyData.hasDict, PyData.depth, h1, h2, h3]
    simp
/-- how a tuple of texts is shown -/
def shT (ms : List Str) : Str := (PyData.tuple (ms.map PyData.str)).shown
theorem txts_facts {K : PySem.W.Frag} {H : Hp} {t : Addr} {ms : List Str} (h : SqT K H t (ms.map V.str)) (hl : ms.length ≤ 20) (hb : ∀ x ∈ ms, OkS x) :
    Dv K H (.ref t) (.tuple (ms.map PyData.str)) ∧ (PyData.tuple (ms.map PyData.str)).showable = true ∧ (PyData.tuple (ms.map PyData.str)).depth ≤ 20 ∧ (PyData.tuple (ms.map PyData.str)).shown.length ≤ sizeLine := by
  obtain ⟨a1, a2, a3⟩ := strs_plain ms
  refine ⟨.dp (.tup h (dpAll_strs _)) (by simp only [PyData.hasDict, a2]), by simp only [PyData.showable, a1], by simp only [PyData.depth, a3]; decide, ?_⟩
  have := shown_tuple_le (m := 2100) (ds := ms.map PyData.str) fun d hd => by
    obtain ⟨x, hx, rfl⟩ := List.mem_map.mp hd
    have := StrLaws.reprText_len x fun c hc => Nat.lt_trans ((hb x hx).2 c hc) (by decide)
    have h1 := (hb x hx).1
    rw [PyData.shown_str]
    omega
  rw [List.length_map] at this
  have h2 : ms.length * (2100 + 2) ≤ 20 * (2100 + 2) := Nat.mul_le_mul_right _ hl
  exact Nat.le_trans this (Nat.le_trans (Nat.add_le_add_right h2 3) (by decide))
theorem txts_small {ms : List Str} (hb : ∀ x ∈ ms, OkS x) : ∀ e ∈ sg (shT ms), e < 128 := tup_small fun d hd => by
  obtain ⟨x, hx, rfl⟩ := List.mem_map.mp hd
  rw [PyData.shown_str]
  exact repr_small (hb x hx).2
theorem txts_strOk {ms : List Str} (hb : ∀ x ∈ ms, OkS x) : PyData.strOk (shT ms) = true := strOk_small (txts_small hb)
theorem rSlA_join {K : PySem.W.Frag} {x : V} {lo hi : Option Int} {H : Hp} {Q : VK} (J : Addr → Hp → Prop) {a : Addr} {xs : List V} (ex : x = .ref a) (hs : SqT K H a xs) (h1 : HT.sIx xs.length 0 lo = 0 ∧ HT.sIx xs.length xs.length hi = xs.length → J a H)
    (h2 : ∀ p, H p = none → J p (upd H p (.tup (cutV xs lo hi)))) (k : ∀ s1 H1, J s1 H1 → Q (.ref s1) H1) : rSlA K x lo hi H Q := ⟨a, xs, ex, hs, fun w => k _ _ (h1 w), fun _ p np => k _ _ (h2 p np)⟩
theorem paired_take {α β : Type} {F : α → β → Prop} : ∀ {as : List α} {bs : List β} (k : Nat), Paired F as bs → Paired F (as.take k) (bs.take k)
  | _, _, 0, _ => .nil
  | _, _, _ + 1, .nil => .nil
  | _, _, k + 1, .cons h t => .cons h (paired_take k t)
theorem paired_rev {α β : Type} {F : α → β → Prop} {as : List α} {bs : List β} (h : Paired F as bs) : Paired F as.reverse bs.reverse := by
  induction h with
  | nil => exact .nil
  | cons r t ih => rw [List.reverse_cons, List.reverse_cons]; exact paired_app ih r
end LM

set_option Elab.async false
set_option linter.all false
set_option maxRecDepth 100000
set_option maxHeartbeats 4000000
set_option pp.maxSteps 600
set_option pp.deepTerms false
/-! what is told surely -/
namespace LM
open PySem PySem.Spec PyProof.Rows L2 RZ CwR
local macro_rules | `(tactic| walk_at "hp") => `(tactic| first | assumption | exact upd_same | (rw [upd_ne (by assumption)]; assumption) | (rw [upd_ne (Ne.symm (by assumption))]; assumption) | (rw [upd_ne (by assumption)]; exact upd_same) | (rw [upd_ne (Ne.symm (by assumption))]; exact upd_same))
local macro_rules | `(tactic| walk_at "sq") => `(tactic| first | assumption | exact Or.inl (Or.inl (by assumption)) | exact Or.inl (Or.inl upd_same) | exact Or.inl (Or.inl (by walk_at "hp")))
local macro_rules | `(tactic| walk_at "ixl") => `(tactic| refine ⟨_, _, _, _, rfl, rfl, (by walk_at "sq"), (by rfl), ?_⟩)
local macro_rules | `(tactic| walk_at "setl") => `(tactic| refine ⟨_, _, _, _, rfl, rfl, (by walk_at "hp"), (by rfl), ?_⟩)
local macro_rules | `(tactic| walk_at "side") => `(tactic| refine idP ?_; first | omega | (show (0 : Int) < _; omega) | (show (0 : Int) < _ ∧ _ < _; omega) | (refine Or.inr ?_; show (-(2 ^ 64) : Int) < _ ∧ _ < _; omega) | (refine Or.inl ?_; show (-(2 ^ 64) : Int) < _ ∧ _ < _; omega) | exact divW (by omega) (by omega) _ | (refine ⟨by decide, by decide, ?_⟩; decide))
local macro_rules | `(tactic| walk_at "go1") => `(tactic| first
  | refine ⟨_, rfl, ?_⟩
  | refine ⟨_, _, rfl, rfl, (by walk_at "side"), ?_⟩
  | refine ⟨_, _, rfl, (by walk_at "side"), ?_⟩
  | refine ⟨_, _, rfl, rfl, ?_⟩
  | refine Or.inl ⟨_, rfl, ?_⟩
  | refine ⟨_, _, rfl, Or.inl (by walk_at "sq"), ?_⟩
  | walk_at "ixl"
  | walk_at "setl"
  | refine ⟨_, _, rfl, (by walk_at "sq"), rfl, ?_⟩
  | refine ⟨_, _, rfl, (by walk_at "sq"), ?_⟩
  | refine ⟨_, _, rfl, ?_⟩
  | refine ⟨rfl, ?_⟩
  | refine ⟨small (Nat.le_of_ble_eq_true rfl), ?_⟩)
local macro_rules | `(tactic| walk_at "go") => `(tactic| repeat walk_at "go1")

abbrev stold_surely : Stmt := topS 60
theorem sctold_surely : FnScope ["menu", "seen", "frame", "index"] ["menu", "seen", "frame"] (defScope stold_surely) := ⟨rfl, rfl, rfl, by decide +kernel, rfl, by decide +kernel, by decide +kernel⟩
/-- the texts of a frame in the houses of a menu that fit -/
def txO (hs : List HI) (ss : List (Nat × Str)) (n : Nat) : List Str := ((List.range hs.length).filter (fitO hs ss)).map fun i => match hs[i]? with
  | some h => txtI h.bs h.cs n
  | none => Str.empty
def spSurely (K : PySem.W.Frag) (C : Addr) : Sp := fun vs H Q _ => ∃ (old : Addr → Prop) (m s : Addr) (hs : List HI) (ss : List (Nat × Str)) (n : Nat), vs = [.ref m, .ref s, .int (n : Int)] ∧ MenuAt K C old H m hs ∧ SeenAt K H s ss ∧ ss.length ≤ 100 ∧ (∀ z ∈ ss, z.1 ≤ 10 ^ 31) ∧ n ≤ 10 ^ 31 ∧
  ∀ (t : Addr) (ms : List Str) H', Same H H' → H t = none → Told ms (txO hs ss n) → H' t = some (.tup (ms.map V.str)) → Q (.ref t) H'
section
variable {P : Program} {w : World} {K : PySem.W.Frag} {mg : Str → Option Value} {base : Heap}
theorem ok_surely {f C fWr : Addr} {fd fdWr : FuncData} (F : Fun K "told_surely" "told_surely" stold_surely f fd) (T : HouseTxt K mg C) (N : Names mg) (Dcheck_menu : DefK P w K mg base "check_menu" ["menu"] 1 (spChkMenu K C)) (Dcheck_seen : DefK P w K mg base "check_seen" ["seen"] 4 (spChkSeen K)) (Dcheck_number : DefK P w K mg base "check_number" ["given"] 3 spChkNum) (Dfitting : DefK P w K mg base "fitting" ["menu", "seen"] 6 (spFitting K C)) (mWr : Meth K C "written" fWr) (GWr : FnOk P w K mg base CX0 4 fWr fdWr ["self", "frame"] (spWritten K C)) (bWr : Binds K fdWr ["self", "frame"] []) : FnOk P w K mg base CX0 7 f fd ["menu", "seen", "frame"] (spSurely K C) := by
  have sc := sctold_surely
  refine F.ok sc (fun vs H Q E h => ?_) (fun cdv A outer s H vs Q E hr h => ?_)
  · obtain ⟨old, m, s, hs, ss, n, rfl, _⟩ := h
    rfl
  · obtain ⟨old, m, s', hs, ss, n, rfl, hM, hS, hl, hb, hn, k⟩ := h
    refine ⟨_, (pss_cons (ps_expr (pe_d Dcheck_menu (hr.mono (by decide)) rfl (pa_cons (pv 0) pa_nil)))
      (pss_cons (ps_expr (pe_d Dcheck_seen (hr.mono (by decide)) rfl (pa_cons (pv 1) pa_nil)))
      (pss_cons (ps_expr (pe_d Dcheck_number (hr.mono (by decide)) rfl (pa_cons (pv 2) pa_nil)))
      (pss_one (ps_ret (pe_callTy (T := "tuple") call_tuple_of (by rfl) N.tuple (by decide +kernel) (pa_cons (pe_callB (cr_sortS rfl) (by rfl) N.sorted (by decide +kernel) (pa_cons (pe_setC (kdS _ _) (own := [("index", 3)]) rfl sc.nd (pi_tup (pe_d Dfitting (hr.mono (by decide)) rfl (pa_cons (pv 0) (pa_cons (pv 1) pa_nil)))) (blkOk_by (own := [("index", 3)]) (N := ["menu", "seen", "frame", "index"]) (sc := defScope (topS 60)) (by decide +kernel)) (fun _ _ _ _ _ => (pg_name (i := 3) sc.nd rfl (Or.inl rfl))) (fun _ _ _ _ _ => pts_nil) (fun _ _ _ _ _ => (pe_meth (pe_ix (show IxR _ (rIxT K) from ix_tup) (pv 0) (pv 3) (fun _ _ => rfl)) T.cl mWr GWr (hr.mono (by decide)) bWr .nil pass0 (pa_cons (pv 2) pa_nil)))) pa_nil)) pa_nil))))))), ?_⟩
    obtain ⟨hm, m1, m2, hH⟩ := id hM
    refine ⟨_, rfl, old, m, hs, rfl, hM, fun H1 s1 => ?_⟩
    refine ⟨_, rfl, s', ss, rfl, hS.same s1, fun H2 s2 => ?_⟩
    have s12 := s1.trans s2
    refine ⟨_, rfl, (n : Int), rfl, by omega, ?_⟩
    refine ⟨_, rfl, _, rfl, old, m, s', hs, ss, rfl, hM.same s12, hS.same s12, hl, hb, fun t1 H3 s3 nt1 ht1 => ?_⟩
    refine ⟨t1, rfl, ⟨_, SqT.tup ht1⟩, ?_⟩
    intro D nD
    have s13 := s12.trans s3
    have few : (txO hs ss n).length ≤ 20 := by
      unfold txO
      rw [List.length_map]
      exact Nat.le_trans (List.length_filter_le _ _) (by rw [List.length_range]; exact m2)
    have many : ((atF (fitO hs ss) hs.length).map V.int).length = (txO hs ss n).length := by
      unfold atF txO
      rw [List.length_map, List.length_map, List.length_map]
    have room : ∀ i, i ≤ 20 → i + 1 < scanBound := fun i hi => by unfold scanBound; omega
    refine setC_tup (K := K) (xs := (atF (fitO hs ss) hs.length).map V.int) (fun i H' => Same H3 H' ∧ H' D = some (SetSO P w D (onceS (txO hs ss n) i))) ⟨same_new nD, upd_same⟩ (fun i H' _ ⟨s, _⟩ => Same.seqT s (SqT.tup ht1)) ?_ ?_
    · rintro i x H' hx ⟨sm, eD⟩
      have hil : i < 20 := by have := (List.getElem?_eq_some_iff.mp hx).1; omega
      rw [List.getElem?_map] at hx
      obtain ⟨z, hz, rfl⟩ := Option.map_eq_some_iff.mp hx
      unfold atF at hz
      rw [List.getElem?_map] at hz
      obtain ⟨j, hj, rfl⟩ := Option.map_eq_some_iff.mp hz
      have hjl : j < hs.length := List.mem_range.mp (List.mem_filter.mp (List.mem_of_getElem? hj)).1
      obtain ⟨h, hh⟩ : ∃ h, hs[j]? = some h := ⟨_, List.getElem?_eq_getElem hjl⟩
      have hA := (hH h (List.mem_of_getElem? hh)).same (s13.trans sm)
      obtain ⟨dx, sk, ah, rd, eo, _⟩ := id hA.ob
      have hp := hA.by.2.place31 hn
      have tx : (txO hs ss n)[i]? = some (txtI h.bs h.cs n) := by
        unfold txO
        rw [List.getElem?_map, hj]
        show some (match hs[j]? with | some h => txtI h.bs h.cs n | none => Str.empty) = _
        rw [hh]
      have hati : atI (hs.map fun h => V.ref h.p) ((j : Nat) : Int) = some (V.ref h.p) := atI_nat (by rw [List.getElem?_map, hh]; rfl)
      refine ⟨rfl, ?_⟩
      refine ⟨_, rfl, _, rfl, m, _, _, V.ref h.p, rfl, rfl, Same.seqT (s13.trans sm) hm, hati, h.p, dx, _, rfl, eo, (hf_nm _ _ _ _ _ _).2.2, _, rfl, old, h.p, h.b, h.r, h.bs, h.rows, h.cs, _, rfl, hA, by omega, hp.1, Int.lt_trans hp.2 (by decide), fun H5 s5 => ?_⟩
      refine ⟨_, _, s5 _ _ eD, ⟨txtI h.bs h.cs n, _, rfl, rfl, ?_, rfl⟩, same_mut (sm.trans s5) nD, ?_⟩
      · exact Nat.lt_of_le_of_lt (Nat.succ_le_succ (onceS_len (n := i))) (room i (by omega))
      · rw [upd_same, onceS_succ tx]
        rfl
    · rintro H' ⟨sm, eD⟩
      rw [many] at eD
      refine ⟨D, _, rfl, eD, Nat.lt_of_le_of_lt (onceS_len (n := _)) (Nat.lt_of_succ_lt (room _ few)), fun ms p hms hpm np => ?_⟩
      obtain ⟨H4, e4⟩ : ∃ H4, H4 = upd H' p (.lst (ms.map V.str)) := ⟨_, rfl⟩
      rw [← e4]
      have s4 : Same H' H4 := by rw [e4]; exact same_new np
      have e4p : H4 p = some (.lst (ms.map V.str)) := by rw [e4]; exact upd_same
      refine ⟨p, _, rfl, .inl ⟨SqL.lst e4p, ?_⟩⟩
      (intro t nt; generalize e_t : upd H4 t _ = H5; have s5 : Same H4 H5 := fun b x hb => (congrFun e_t b).symm.trans (same_new nt b x hb); have h5 := (congrFun e_t t).symm.trans upd_same; clear e_t)
      have sAll : Same H H4 := s13.trans (sm.trans s4)
      exact k t ms H5 (sAll.trans s5) (by
        cases q : H t with
        | none => rfl
        | some o =>
          have := sAll _ _ q
          rw [nt] at this
          cases this) (Told.of hms hpm) h5
end
end LM

set_option Elab.async false
set_option linter.all false
set_option maxRecDepth 100000
set_option maxHeartbeats 4000000
set_option pp.maxSteps 600
set_option pp.deepTerms false
/-! a label that was seen: its text has plain signs -/
namespace LM
open PySem PySem.Spec PyProof.Rows L2 RZ CwR StrLaws
local macro_rules | `(tactic| walk_at "hp") => `(tactic| first | assumption | exact upd_same | (rw [upd_ne (by assumption)]; assumption) | (rw [upd_ne (Ne.symm (by assumption))]; assumption) | (rw [upd_ne (by assumption)]; exact upd_same) | (rw [upd_ne (Ne.symm (by assumption))]; exact upd_same))
local macro_rules | `(tactic| walk_at "sq") => `(tactic| first | assumption | exact Or.inl (Or.inl (by assumption)) | exact Or.inl (Or.inl upd_same) | exact Or.inl (Or.inl (by walk_at "hp")))
local macro_rules | `(tactic| walk_at "ixl") => `(tactic| refine ⟨_, _, _, _, rfl, rfl, (by walk_at "sq"), (by rfl), ?_⟩)
local macro_rules | `(tactic| walk_at "setl") => `(tactic| refine ⟨_, _, _, _, rfl, rfl, (by walk_at "hp"), (by rfl), ?_⟩)
local macro_rules | `(tactic| walk_at "side") => `(tactic| refine idP ?_; first | omega | (show (0 : Int) < _; omega) | (show (0 : Int) < _ ∧ _ < _; omega) | (refine Or.inr ?_; show (-(2 ^ 64) : Int) < _ ∧ _ < _; omega) | (refine Or.inl ?_; show (-(2 ^ 64) : Int) < _ ∧ _ < _; omega) | exact divW (by omega) (by omega) _ | (refine ⟨by decide, by decide, ?_⟩; decide))
local macro_rules | `(tactic| walk_at "go1") => `(tactic| first
  | refine ⟨_, rfl, ?_⟩
  | refine ⟨_, _, rfl, rfl, (by walk_at "side"), ?_⟩
  | refine ⟨_, _, rfl, (by walk_at "side"), ?_⟩
  | refine ⟨_, _, rfl, rfl, ?_⟩
  | refine Or.inl ⟨_, rfl, ?_⟩
  | refine ⟨_, _, rfl, Or.inl (by walk_at "sq"), ?_⟩
  | walk_at "ixl"
  | walk_at "setl"
  | refine ⟨_, _, rfl, (by walk_at "sq"), rfl, ?_⟩
  | refine ⟨_, _, rfl, (by walk_at "sq"), ?_⟩
  | refine ⟨_, _, rfl, ?_⟩
  | refine ⟨rfl, ?_⟩
  | refine ⟨small (Nat.le_of_ble_eq_true rfl), ?_⟩)
local macro_rules | `(tactic| walk_at "go") => `(tactic| repeat walk_at "go1")

theorem replS_mem {y z : List Nat} {d : Nat} (hne : y ≠ []) : ∀ (n : Nat) (l : List Nat), l.length ≤ n → d ∈ replL y z l → d ∈ l ∨ d ∈ z := by
  intro n
  induction n with
  | zero =>
    intro l hl hd
    cases l with
    | nil => rw [replL_nil] at hd; cases hd
    | cons c r => cases hl
  | succ n ih =>
    intro l hl hd
    cases l with
    | nil => rw [replL_nil] at hd; cases hd
    | cons c r =>
      by_cases h : (c :: r).take y.length = y
      · by_cases hy : y = []
        · exact absurd hy hne
        · rw [replL_hit hy h] at hd
          rcases List.mem_append.mp hd with hd | hd
          · exact .inr hd
          · have hlen : ((c :: r).drop y.length).length ≤ n := by
              have : 1 ≤ y.length := List.length_pos_iff.mpr hy
              rw [List.length_drop]
              rw [List.length_cons] at hl ⊢
              omega
            rcases ih _ hlen hd with z | z
            · exact .inl (List.mem_of_mem_drop z)
            · exact .inr z
      · rw [replL_miss h] at hd
        rcases List.mem_cons.mp hd with rfl | hd
        · exact .inl List.mem_cons_self
        · rcases ih r (by rw [List.length_cons] at hl; omega) hd with z | z
          · exact .inl (List.mem_cons_of_mem _ z)
          · exact .inr z
theorem cutS_small {x : Str} {lo hi : Option Int} (h : ∀ d ∈ sg x, d < 128) : ∀ d ∈ sg (cutS x lo hi), d < 128 := by
  intro d hd
  have hd' : d ∈ (x.cps.toList.drop (HT.sIx x.length 0 lo)).take (HT.sIx x.length x.length hi - HT.sIx x.length 0 lo) := by
    unfold cutS at hd
    simpa [sg] using hd
  exact h d (List.mem_of_mem_drop (List.mem_of_mem_take hd'))
theorem repl_small {x : Str} (hz : ∀ d ∈ sg (";" : Str), d < 128) (h : ∀ d ∈ sg x, d < 128) : ∀ d ∈ sg (Txt.replace x ":" ";"), d < 128 := by
  intro d hd
  have e : sg (Txt.replace x ":" ";") = replL (":" : Str).cps.toList (";" : Str).cps.toList x.cps.toList := replace_list (by decide)
  rw [e] at hd
  rcases replS_mem (by decide) _ _ (Nat.le_refl _) hd with z | z
  · exact h d z
  · exact hz d z
def spSightP (K : PySem.W.Frag) : Sp := fun vs H Q _ => ∃ (p m : Addr) (ys : List HD) (yc : HD), vs = [.ref p, .ref m, .ref yc.d] ∧ VaseAt H p ∧ m ≠ p ∧ H m = some (.lst (ys.map fun y => V.ref y.d)) ∧ 1 ≤ ys.length ∧ ys.length ≤ 20 ∧ (∀ y ∈ ys, HomeOk (fun q => q = p) H y) ∧ yc ∈ ys ∧
  ∀ (t : Addr) (n : Nat) (x : Str) H', OkS x → t ≠ p → H t = none → H' t = some (.tup [.int (n : Int), .str x]) → n ≤ 10 ^ 31 → VaseAt H' p → Else p H H' → Q (.ref t) H'
section
variable {P : Program} {w : World} {K : PySem.W.Frag} {mg : Str → Option Value} {base : Heap}
theorem ok_sightP {f : Addr} {fd : FuncData} (F : Fun K "_law_sight" "_law_sight" s_law_sight f fd) (N : Names mg) (D_law_pour : DefK P w K mg base "_law_pour" ["_law_vase_here", "_law_top"] 1 spPour) (D_law_pluck : DefK P w K mg base "_law_pluck" ["_law_vase_here", "_law_things"] 2 (spPluck K)) (D_law_written : DefK P w K mg base "_law_written" ["_law_home", "_law_spot_at"] 2 (spWrittenL K)) : FnOk P w K mg base CX0 3 f fd ["_law_vase_here", "_law_homes", "_law_chosen"] (spSightP K) := by
  have sc := sc_law_sight
  refine F.ok sc (fun vs H Q E h => ?_) (fun cdv A outer s H vs Q E hr h => ?_)
  · obtain ⟨p, m, ys, yc, rfl, _⟩ := h
    rfl
  · obtain ⟨p, m, ys, yc, rfl, hv, nmp, hm, m1, m2, hys, hyc, k⟩ := h
    have hu := hu_of hr
    refine ⟨_, (pss_cons (ps_set (i := 3) sc.nd rfl (Or.inl rfl) (pe_op op_add (pe_d D_law_pluck (hr.mono (by decide)) rfl (pa_cons (pv 0) (pa_cons (pe_lst (pa_cons pe_int (pa_cons pe_int (pa_cons pe_int (pa_cons pe_int (pa_cons pe_int (pa_cons (pe_op op_add (pe_op op_pow pe_int pe_int) pe_int) pa_nil))))))) pa_nil))) (pe_d D_law_pour (hr.mono (by decide)) rfl (pa_cons (pv 0) (pa_cons pe_int pa_nil)))))
      (pss_cons (ps_par (i := 4) (j := 5) rfl sc.nd rfl rfl (by decide) rfl rfl (pa_cons (pe_ifExp (pt_cmpR op_gt (pe_d D_law_pour (hr.mono (by decide)) rfl (pa_cons (pv 0) (pa_cons pe_int pa_nil))) pe_int (nomark _)) (pv 2) (pe_d D_law_pluck (hr.mono (by decide)) rfl (pa_cons (pv 0) (pa_cons (pv 1) pa_nil)))) (pa_cons (pe_d D_law_pour (hr.mono (by decide)) rfl (pa_cons (pv 0) (pa_cons pe_int pa_nil))) pa_nil)) (by rfl))
      (pss_cons (ps_set (i := 6) sc.nd rfl (Or.inl rfl) (pe_d D_law_written (hr.mono (by decide)) rfl (pa_cons (pv 4) (pa_cons (pv 3) pa_nil))))
      (pss_cons (ps_if (pt_cmpR op_gt (pv 5) pe_int (nomark _)) (pss_one (ps_ret (pe_tup (pa_cons (pv 3) (pa_cons (pv 6) pa_nil))))) pss_nil)
      (pss_one (ps_ret (pe_tup (pa_cons (pv 3) (pa_cons (pe_d D_law_pluck (hr.mono (by decide)) rfl (pa_cons (pv 0) (pa_cons (pe_lst (pa_consO op_add_str (pv 6) (pat_cons (PET.of (pe_op op_add_str pe_str (pv 6))) (pat_cons (pet_replC (pv 6)) (pat_cons (PET.of pe_str) (pat_cons (PET.of (pe_slice sl_str (pv 6) (po_some pe_int) po_none)) (pat_cons (PET.of (pe_op op_add_str (pv 6) pe_str)) pat_nil))))))) pa_nil))) pa_nil))))))))), ?_⟩
    refine ⟨_, rfl, _, _, rfl, rfl, ⟨by decide, by decide, by decide⟩, _, _, rfl, rfl, Nat.le_of_ble_eq_true rfl, ?_⟩
    (intro ml nml; generalize e_ml : upd H ml _ = H1; have s1 : Same H H1 := fun b x hb => (congrFun e_ml b).symm.trans (same_new nml b x hb); have h1 := (congrFun e_ml ml).symm.trans upd_same; clear e_ml)
    refine ⟨p, ml, _, rfl, hv.same s1, hv.ne nml, SqL.lst h1, Nat.le_of_ble_eq_true rfl, Nat.le_of_ble_eq_true rfl, fun vv H2 hmem hv2 e2 => ?_⟩
    have eE : (10 : Int) ^ (30 : Int).toNat = ((10 ^ 30 : Nat) : Int) := by decide
    obtain ⟨z0, rfl, hz0⟩ : ∃ z0 : Nat, vv = .int (z0 : Int) ∧ z0 ≤ 10 ^ 30 + 7 := by
      simp only [List.mem_cons, List.not_mem_nil, or_false] at hmem
      rcases hmem with rfl | rfl | rfl | rfl | rfl | rfl
      · exact ⟨0, rfl, by decide⟩
      · exact ⟨0, rfl, by decide⟩
      · exact ⟨3, rfl, by decide⟩
      · exact ⟨9, rfl, by decide⟩
      · exact ⟨40, rfl, by decide⟩
      · exact ⟨10 ^ 30 + 7, by rw [eE]; rfl, by decide⟩
    refine ⟨_, rfl, p, _, rfl, hv2, by decide, by decide, fun kn H3 kn0 kn1 hv3 e3 => ?_⟩
    refine ⟨_, _, rfl, rfl, ?_⟩
    obtain ⟨n, hn, hn31⟩ : ∃ n : Nat, (z0 : Int) + kn = (n : Int) ∧ n ≤ 10 ^ 31 := by
      have h31 : 10 ^ 30 + 100 ≤ 10 ^ 31 := by decide
      exact ⟨((z0 : Int) + kn).toNat, by omega, by omega⟩
    refine g_nx ?_
    dsimp only
    rw [hn]
    have e03 : Else p H H3 := (Same.els s1).trans (e2.trans e3)
    refine ⟨_, rfl, p, _, rfl, hv3, by decide, by decide, fun t H4 t0 t1 hv4 e4 => ?_⟩
    refine ⟨_, _, rfl, rfl, _, rfl, ?_⟩
    have e04 := e03.trans e4
    refine if_joinH (P := fun v H' => ∃ y ∈ ys, v = .ref y.d ∧ VaseAt H' p ∧ Else p H4 H') (fun _ Q' kk => ⟨_, rfl, kk _ _ ⟨yc, hyc, rfl, hv4, Same.els (Same.refl _)⟩⟩) (fun _ Q' kk => ?_) (fun v H5 hv0 => ?_)
    · refine ⟨_, rfl, _, rfl, p, m, _, rfl, hv4, nmp, SqL.lst (e04 _ _ nmp hm), by rw [List.length_map]; omega, by rw [List.length_map]; omega, fun vv H5 hmem hv5 e5 => ?_⟩
      obtain ⟨y, hy, rfl⟩ := List.mem_map.mp hmem
      exact kk _ _ ⟨y, hy, rfl, hv5, e5⟩
    obtain ⟨y, hy, rfl, hv5, e5⟩ := hv0
    refine ⟨_, rfl, p, _, rfl, hv5, by decide, by decide, fun bd H6 bd0 bd1 hv6 e6 => ?_⟩
    refine ⟨_, _, rfl, ?_⟩
    dsimp only
    have e06 := e04.trans (e5.trans e6)
    have hy6 := (hys y hy).off (Off.els rfl e06)
    obtain ⟨hby, ct, fr⟩ := hy6.by
    refine ⟨_, rfl, _, rfl, (fun q => q = p), y.d, y.g, y.l, y.gs, y.rows, y.cs, _, _, _, n, rfl, hby, SqL.lst hy6.2.2.1, ct, fr, hn31, fun H7 s7 => ?_⟩
    refine g_nx ?_
    dsimp only
    have htl := txt_len fr ct hn31
    have e07 := e06.trans (Same.els s7)
    have hv7 := hv6.same s7
    refine ⟨_, rfl, _, _, rfl, rfl, _, rfl, ?_⟩
    refine ifD (fun _ => ?_) (fun _ => ?_)
    · refine ⟨_, rfl, _, rfl, Nat.le_of_ble_eq_true rfl, ?_⟩
      (intro tp ntp; generalize e_tp : upd H7 tp _ = H8; have s8 : Same H7 H8 := fun b x hb => (congrFun e_tp b).symm.trans (same_new ntp b x hb); have h8 := (congrFun e_tp tp).symm.trans upd_same; clear e_tp)
      exact k tp n _ H8 (txt_ok fr ct hn31) (hv7.ne ntp) (none_back e07 (hv7.ne ntp) ntp) h8 hn31 (hv7.same s8) (e07.trans (Same.els s8))
    have hwd := txt_ok fr ct hn31
    generalize txtI y.gs y.cs n = wd at htl hwd ⊢
    refine g_nx ?_
    dsimp only
    have big : 1000 ≤ sizeLine := by decide
    refine ⟨_, rfl, _, rfl, ?_⟩
    have l1 : ((" " : Str)).length = 1 := by decide
    have l2 : (("0" : Str)).length = 1 := by decide
    have l3 : ((";" : Str)).length = 1 := by decide
    have l4 : ((":0" : Str)).length = 2 := by decide
    refine ⟨_, rfl, _, _, rfl, rfl, by omega, _, rfl, _, _, rfl, rfl, by omega, _, rfl, _, rfl, by rw [l3]; omega, _, rfl, _, rfl, _, rfl, by omega, _, rfl, _, _, rfl, rfl, by omega, Nat.le_of_ble_eq_true rfl, ?_⟩
    (intro mw nmw; generalize e_mw : upd H7 mw _ = H8; have s8 : Same H7 H8 := fun b x hb => (congrFun e_mw b).symm.trans (same_new nmw b x hb); have h8 := (congrFun e_mw mw).symm.trans upd_same; clear e_mw)
    have hv8 := hv7.same s8
    refine ⟨p, mw, _, rfl, hv8, hv7.ne nmw, SqL.lst h8, Nat.le_of_ble_eq_true rfl, Nat.le_of_ble_eq_true rfl, fun vv H9 hmem hv9 e9 => ?_⟩
    obtain ⟨x, rfl, hx⟩ : ∃ x : Str, vv = .str x ∧ OkS x := by
      simp only [List.mem_cons, List.not_mem_nil, or_false] at hmem
      have a1 : ∀ d ∈ sg (" " : Str), d < 128 := by decide
      have a2 : ∀ d ∈ sg ("0" : Str), d < 128 := by decide
      have a3 : ∀ d ∈ sg (":0" : Str), d < 128 := by decide
      rcases hmem with rfl | rfl | rfl | rfl | rfl | rfl
      · exact ⟨_, rfl, by rw [Str.length_append]; omega, app_small hwd.2 a1⟩
      · exact ⟨_, rfl, by rw [Str.length_append]; omega, app_small a2 hwd.2⟩
      · exact ⟨_, rfl, Nat.le_trans (TK.replace_len _ _ _) (by rw [l3]; omega), repl_small (by decide) hwd.2⟩
      · exact ⟨_, rfl, by decide, by decide⟩
      · exact ⟨_, rfl, Nat.le_trans (cutS_length _ _ _) (by omega), cutS_small hwd.2⟩
      · exact ⟨_, rfl, by rw [Str.length_append]; omega, app_small hwd.2 a3⟩
    have e09 := e07.trans ((Same.els s8).trans e9)
    refine ⟨Nat.le_of_ble_eq_true rfl, ?_⟩
    (intro tp ntp; generalize e_tp : upd H9 tp _ = H10; have s10 : Same H9 H10 := fun b x hb => (congrFun e_tp b).symm.trans (same_new ntp b x hb); have h10 := (congrFun e_tp tp).symm.trans upd_same; clear e_tp)
    exact k tp n _ H10 hx (hv9.ne ntp) (none_back e09 (hv9.ne ntp) ntp) h10 hn31 (hv9.same s10) (e09.trans (Same.els s10))
end
end LM

set_option Elab.async false
set_option linter.all false
set_option maxRecDepth 100000
set_option maxHeartbeats 4000000
/-! drawn homes and the texts of a frame in those that fit -/
namespace LM
open PySem PySem.Spec PyProof.Rows L2 RZ CwR
/-- which homes fit -/
noncomputable def fitY (ys : List HD) (ss : List (Nat × Str)) (i : Nat) : Bool := match ys[i]? with
  | some y => fitB y.gs y.cs ss
  | none => false
theorem fit_same {hs : List HI} {ys : List HD} (pr : Paired (fun (h : HI) (y : HD) => h.bs = y.gs ∧ h.cs = y.cs) hs ys) (ss : List (Nat × Str)) : ∀ i, fitO hs ss i = fitY ys ss i := by
  induction pr with
  | nil => intro i; rfl
  | cons h t ih =>
    intro i
    cases i with
    | zero =>
      show fitB _ _ ss = fitB _ _ ss
      rw [h.1, h.2]
    | succ i => exact ih i
noncomputable def txA (ys : List HD) (n i : Nat) : Str := match ys[i]? with
  | some y => txtI y.gs y.cs n
  | none => Str.empty
/-- the texts of a frame in the first homes that fit -/
noncomputable def txN (ys : List HD) (ss : List (Nat × Str)) (n k : Nat) : List Str := ((List.range k).filter (fitY ys ss)).map (txA ys n)
theorem txN_succ (ys : List HD) (ss : List (Nat × Str)) (n k : Nat) : txN ys ss n (k + 1) = txN ys ss n k ++ if fitY ys ss k = true then [txA ys n k] else [] := by
  unfold txN
  rw [List.range_succ, List.filter_append, List.map_append]
  congr 1
  cases h : fitY ys ss k <;> simp [h]
theorem txN_len (ys : List HD) (ss : List (Nat × Str)) (n k : Nat) : (txN ys ss n k).length ≤ k := by
  unfold txN
  rw [List.length_map]
  exact Nat.le_trans (List.length_filter_le _ _) (by rw [List.length_range]; exact Nat.le_refl _)
theorem tx_same {hs : List HI} {ys : List HD} (pr : Paired (fun (h : HI) (y : HD) => h.bs = y.gs ∧ h.cs = y.cs) hs ys) (ss : List (Nat × Str)) (n : Nat) : txO hs ss n = txN ys ss n ys.length := by
  have hl := pr.length
  have e : ∀ i, (match hs[i]? with | some h => txtI h.bs h.cs n | none => Str.empty) = txA ys n i := by
    intro i
    unfold txA
    clear hl
    induction pr generalizing i with
    | nil => rfl
    | cons h t ih =>
      cases i with
      | zero =>
        show txtI _ _ n = txtI _ _ n
        rw [h.1, h.2]
      | succ i => exact ih i
  unfold txO txN
  rw [hl, funext (fit_same pr ss)]
  exact List.map_congr_left fun i _ => e i
/-- each of them is a text of a home that fits -/
theorem txN_mem {ys : List HD} {ss : List (Nat × Str)} {n : Nat} {x : Str} (h : x ∈ txN ys ss n ys.length) : ∃ y ∈ ys, fitB y.gs y.cs ss = true ∧ x = txtI y.gs y.cs n := by
  unfold txN at h
  obtain ⟨i, hi, rfl⟩ := List.mem_map.mp h
  obtain ⟨h1, h2⟩ := List.mem_filter.mp hi
  have hl := List.mem_range.mp h1
  have e : ys[i]? = some ys[i] := List.getElem?_eq_getElem hl
  unfold fitY at h2
  rw [e] at h2
  refine ⟨ys[i], List.getElem_mem hl, h2, ?_⟩
  unfold txA
  rw [e]
theorem told_ok {old : Addr → Prop} {H : Hp} {ys : List HD} {ss : List (Nat × Str)} {n : Nat} {ms : List Str} (hy : ∀ y ∈ ys, HomeOk old H y) (hn : n ≤ 10 ^ 31) (h : Told ms (txN ys ss n ys.length)) : ∀ x ∈ ms, OkS x := fun x hx => by
  obtain ⟨y, hm, _, rfl⟩ := txN_mem ((h.mem x).mp hx)
  obtain ⟨_, ct, fr⟩ := (hy y hm).by
  exact txt_ok fr ct hn
theorem told_len {ys : List HD} {ss : List (Nat × Str)} {n : Nat} {ms : List Str} (hl : ys.length ≤ 20) (h : Told ms (txN ys ss n ys.length)) : ms.length ≤ 20 := Nat.le_trans h.len (Nat.le_trans (txN_len _ _ _ _) hl)
end LM

set_option Elab.async false
set_option linter.all false
set_option maxRecDepth 100000
set_option maxHeartbeats 4000000
set_option pp.maxSteps 600
set_option pp.deepTerms false
/-! what is due, as a text; all of it right -/
namespace LM
open PySem PySem.Spec PyProof.Rows L2 RZ CwR
local macro_rules | `(tactic| walk_at "hp") => `(tactic| first | assumption | exact upd_same | (rw [upd_ne (by assumption)]; assumption) | (rw [upd_ne (Ne.symm (by assumption))]; assumption) | (rw [upd_ne (by assumption)]; exact upd_same) | (rw [upd_ne (Ne.symm (by assumption))]; exact upd_same))
local macro_rules | `(tactic| walk_at "sq") => `(tactic| first | assumption | exact Or.inl (Or.inl (by assumption)) | exact Or.inl (Or.inl upd_same) | exact Or.inl (Or.inl (by walk_at "hp")))
local macro_rules | `(tactic| walk_at "ixl") => `(tactic| refine ⟨_, _, _, _, rfl, rfl, (by walk_at "sq"), (by rfl), ?_⟩)
local macro_rules | `(tactic| walk_at "setl") => `(tactic| refine ⟨_, _, _, _, rfl, rfl, (by walk_at "hp"), (by rfl), ?_⟩)
local macro_rules | `(tactic| walk_at "side") => `(tactic| refine idP ?_; first | omega | (show (0 : Int) < _; omega) | (show (0 : Int) < _ ∧ _ < _; omega) | (refine Or.inr ?_; show (-(2 ^ 64) : Int) < _ ∧ _ < _; omega) | (refine Or.inl ?_; show (-(2 ^ 64) : Int) < _ ∧ _ < _; omega) | exact divW (by omega) (by omega) _ | (refine ⟨by decide, by decide, ?_⟩; decide))
local macro_rules | `(tactic| walk_at "go1") => `(tactic| first
  | refine ⟨_, rfl, ?_⟩
  | refine ⟨_, _, rfl, rfl, (by walk_at "side"), ?_⟩
  | refine ⟨_, _, rfl, (by walk_at "side"), ?_⟩
  | refine ⟨_, _, rfl, rfl, ?_⟩
  | refine Or.inl ⟨_, rfl, ?_⟩
  | refine ⟨_, _, rfl, Or.inl (by walk_at "sq"), ?_⟩
  | walk_at "ixl"
  | walk_at "setl"
  | refine ⟨_, _, rfl, (by walk_at "sq"), rfl, ?_⟩
  | refine ⟨_, _, rfl, (by walk_at "sq"), ?_⟩
  | refine ⟨_, _, rfl, ?_⟩
  | refine ⟨rfl, ?_⟩
  | refine ⟨small (Nat.le_of_ble_eq_true rfl), ?_⟩)
local macro_rules | `(tactic| walk_at "go") => `(tactic| repeat walk_at "go1")

abbrev s_law_due : Stmt := topS 81
theorem sc_law_due : FnScope ["_law_homes", "_law_sights", "_law_spot_at", "_law_home"] ["_law_homes", "_law_sights", "_law_spot_at"] (defScope s_law_due) := ⟨rfl, rfl, rfl, by decide +kernel, rfl, by decide +kernel, by decide +kernel⟩
abbrev s_law_right : Stmt := topS 82
theorem sc_law_right : FnScope ["_law_vase_here", "_law_homes", "_law_chosen", "_law_sights", "_law_spot_at", "_law_shelf_here", "_law_due_here", "_law_told", "_law_known", "_law_words", "_law_turn", "_law_each", "_law_home"] ["_law_vase_here"] (defScope s_law_right) := ⟨rfl, rfl, rfl, by decide +kernel, rfl, by decide +kernel, by decide +kernel⟩
theorem tupP {K : PySem.W.Frag} {H H' : Hp} {p a : Addr} {xs : List V} (hv : VaseAt H p) (e : Else p H H') (z : SqT K H a xs) : SqT K H' a xs := by
  obtain ⟨_, _, _, _, _, _, hq⟩ := hv
  rcases z with (z | ⟨o, z⟩) | z
  · exact .inl (.inl (e _ _ (fun y => by rw [y, hq] at z; cases z) z))
  · exact .inl (.inr ⟨o, e _ _ (fun y => by rw [y, hq] at z; cases z) z⟩)
  · exact .inr z
/-- where one house's text was seen, no other one is told -/
theorem told_one {ys : List HD} {z : Nat × Str} {ms : List Str} (h : Told ms (txN ys [z] z.1 ys.length)) : ms = [] ∨ ms = [z.2] := by
  have key : ∀ x ∈ ms, x = z.2 := fun x hx => by
    obtain ⟨y, _, hf, rfl⟩ := txN_mem ((h.mem x).mp hx)
    have : (decide (txtI y.gs y.cs z.1 = z.2) && true) = true := hf
    rw [Bool.and_true] at this
    exact of_decide_eq_true this
  cases ms with
  | nil => exact .inl rfl
  | cons a r =>
    cases r with
    | nil => rw [key a List.mem_cons_self]; exact .inr rfl
    | cons b r =>
      have nd := (List.nodup_cons.mp h.one).1
      rw [key a List.mem_cons_self, key b (List.mem_cons_of_mem _ List.mem_cons_self)] at nd
      exact absurd List.mem_cons_self nd
theorem in_first (a b : Str) : inV (V.str a) [V.str a, V.str b] = true := by
  have e : ∀ x : Str, eqV (V.str x) (V.str x) = true := fun x => by simp [eqV]
  simp [inV, e]
theorem in_second (a b : Str) : inV (V.str a) [V.str b, V.str a] = true := by
  have e : ∀ x : Str, eqV (V.str x) (V.str x) = true := fun x => by simp [eqV]
  simp [inV, e]
theorem two_shaped {S : Str} (h : PyData.strOk S = true) : SeqAt.shaped (.list [.str S, .str S]) = true ∧ PyData.eqv (.list [.str S, .str S]) (.list [.str S, .str S]) = true := by
  have hc : (PyData.list [.str S, .str S]).canLay0 = true := by simp [PyData.canLay0, PyData.canLayAll0, h]
  have hd : (PyData.list [.str S, .str S]).depth = 1 := by simp [PyData.depth, PyData.depthAll]
  refine ⟨?_, SeqAt.eqv_refl _ hc⟩
  unfold SeqAt.shaped
  rw [hc, hd]
  rfl
def spDueT (K : PySem.W.Frag) : Sp := fun vs H Q _ => ∃ (m s : Addr) (ys : List HD) (ss : List (Nat × Str)) (n : Nat) (old : Addr → Prop), vs = [.ref m, .ref s, .int (n : Int)] ∧ H m = some (.lst (ys.map fun y => V.ref y.d)) ∧ ys.length ≤ 20 ∧ (∀ y ∈ ys, HomeOk old H y) ∧ SeenAt K H s ss ∧ ss.length ≤ 100 ∧ (∀ z ∈ ss, z.1 ≤ 10 ^ 31) ∧ n ≤ 10 ^ 31 ∧
  ∀ (ms : List Str) H', Same H H' → Told ms (txN ys ss n ys.length) → Q (.str (shT ms)) H'
def spRight (K : PySem.W.Frag) : Sp := fun vs H Q _ => ∃ (p : Addr), vs = [.ref p] ∧ VaseAt H p ∧ ∀ H', Else p H H' → Q (.bl true) H'
section
variable {P : Program} {w : World} {K : PySem.W.Frag} {mg : Str → Option Value} {base : Heap}
theorem ok_dueT {f : Addr} {fd : FuncData} (F : Fun K "_law_due" "_law_due" s_law_due f fd) (N : Names mg) (D_law_fits : DefK P w K mg base "_law_fits" ["_law_home", "_law_sights"] 3 (spFitsL K)) (D_law_written : DefK P w K mg base "_law_written" ["_law_home", "_law_spot_at"] 2 (spWrittenL K)) : FnG P w K mg base 4 f fd ["_law_homes", "_law_sights", "_law_spot_at"] (spDueT K) := by
  have sc := sc_law_due
  refine funG_ok F sc (fun vs H Q E h => ?_) (fun cdv A outer s H vs Q E hgd hr h => ?_)
  · obtain ⟨m, s, ys, ss, n, old, rfl, _⟩ := h
    rfl
  · obtain ⟨m, s', ys, ss, n, old, rfl, hm, hl, hys, hS, hsl, hsb, hn, k⟩ := h
    refine ⟨_, (pss_one (ps_ret (pe_callB (show CallR _ (.builtin "repr") (rReprV K) from call_reprV hgd (hu64 hr)) (by rfl) N.repr (by decide +kernel) (pa_cons (pe_callTy (T := "tuple") call_tuple_of (by rfl) N.tuple (by decide +kernel) (pa_cons (pe_sortSetS rfl (by rfl) N.sorted (by rfl) N.set (pe_lc (own := [("_law_home", 3)]) rfl sc.nd (pi_list (pv 0)) (blkOk_by (own := [("_law_home", 3)]) (N := ["_law_homes", "_law_sights", "_law_spot_at", "_law_home"]) (sc := defScope (topS 81)) (by decide +kernel)) (fun _ _ _ _ _ => (pg_name (i := 3) sc.nd rfl (Or.inl rfl))) (fun _ _ _ _ _ => (pts_one (pt_val (pe_d D_law_fits (hr.mono (by decide)) rfl (pa_cons (pv 3) (pa_cons (pv 1) pa_nil)))))) (fun _ _ _ _ _ => (pe_d D_law_written (hr.mono (by decide)) rfl (pa_cons (pv 3) (pa_cons (pv 2) pa_nil)))))) pa_nil)) pa_nil)))), ?_⟩
    refine ⟨_, rfl, m, rfl, ⟨_, SqL.lst hm⟩, ?_⟩
    intro D nD
    refine lc_list (K := K) (xs := ys.map fun y => V.ref y.d) (fun i H' => Same H H' ∧ H' D = some (.lst ((txN ys ss n i).map V.str))) ⟨same_new nD, upd_same⟩ (fun i H' _ ⟨sm, _⟩ => SqL.lst (sm _ _ hm)) ?_ ?_
    · rintro i x H1 hx ⟨sm, eD⟩
      obtain ⟨y, hy, rfl⟩ := map_ex hx
      have hil : i < 20 := by have := (List.getElem?_eq_some_iff.mp hy).1; omega
      have hyo := hys y (List.mem_of_getElem? hy)
      refine ⟨rfl, ?_⟩
      refine ⟨_, rfl, _, rfl, s', y, ss, old, rfl, hyo.off (fun b o _ hb => sm b o hb), hS.same sm, hsl, hsb, fun H2 s2 => ?_⟩
      refine ⟨_, rfl, ?_⟩
      have hfy : fitY ys ss i = fitB y.gs y.cs ss := by
        unfold fitY
        rw [hy]
      have hta : txA ys n i = txtI y.gs y.cs n := by
        unfold txA
        rw [hy]
      rw [← hfy]
      have eD2 := s2 _ _ eD
      refine ifB (fun hf => ?_) (fun hf => ?_)
      · have hy2 := hyo.off (H' := H2) (fun b o _ hb => (sm.trans s2) b o hb)
        obtain ⟨hby, ct, fr⟩ := hy2.by
        refine ⟨_, rfl, _, rfl, old, y.d, y.g, y.l, y.gs, y.rows, y.cs, _, _, _, n, rfl, hby, SqL.lst hy2.2.2.1, ct, fr, hn, fun H3 s3 => ?_⟩
        refine ⟨_, s3 _ _ eD2, smallLt (by have := txN_len ys ss n i; rw [List.length_map]; omega), same_mut (sm.trans (s2.trans s3)) nD, ?_⟩
        rw [upd_same, txN_succ, if_pos hf, List.map_append, hta]
        rfl
      · refine ⟨sm.trans s2, ?_⟩
        rw [txN_succ, if_neg (by rw [hf]; exact Bool.false_ne_true), List.append_nil]
        exact eD2
    · rintro H1 ⟨sm, eD⟩
      rw [List.length_map] at eD
      refine ⟨D, _, rfl, SqL.lst eD, by have := txN_len ys ss n ys.length; unfold scanBound; omega, fun ms q hms hpm nq => ?_⟩
      obtain ⟨H2, e2⟩ : ∃ H2, H2 = upd H1 q (.lst (ms.map V.str)) := ⟨_, rfl⟩
      rw [← e2]
      have s2 : Same H1 H2 := by rw [e2]; exact same_new nq
      have e2q : H2 q = some (.lst (ms.map V.str)) := by rw [e2]; exact upd_same
      refine ⟨q, _, rfl, .inl ⟨SqL.lst e2q, ?_⟩⟩
      (intro t nt; generalize e_t : upd H2 t _ = H3; have s3 : Same H2 H3 := fun b x hb => (congrFun e_t b).symm.trans (same_new nt b x hb); have h3 := (congrFun e_t t).symm.trans upd_same; clear e_t)
      have ht := Told.of hms hpm
      obtain ⟨f1, f2, f3, f4⟩ := txts_facts (K := K) (SqT.tup h3) (told_len hl ht) (told_ok hys hn ht)
      exact ⟨.ref t, _, rfl, f1, f2, f3, f4, k ms H3 (sm.trans (s2.trans s3)) ht⟩
theorem ok_right {f C : Addr} {fd : FuncData} (F : Fun K "_law_right" "_law_right" s_law_right f fd) (T : HouseTxt K mg C) (N : Names mg)
    (D_law_pour : DefK P w K mg base "_law_pour" ["_law_vase_here", "_law_top"] 1 spPour) (D_law_pluck : DefK P w K mg base "_law_pluck" ["_law_vase_here", "_law_things"] 2 (spPluck K)) (D_law_shelf : DefK P w K mg base "_law_shelf" ["_law_vase_here"] 5 (spShelf K)) (D_law_sight : DefK P w K mg base "_law_sight" ["_law_vase_here", "_law_homes", "_law_chosen"] 3 (spSightP K)) (D_law_built : DefK P w K mg base "_law_built" ["_law_home"] 7 (spBuilt K C))
    (D_law_due : DefG P w K mg base "_law_due" ["_law_homes", "_law_sights", "_law_spot_at"] 4 (spDueT K)) (Dtold_surely : DefK P w K mg base "told_surely" ["menu", "seen", "frame"] 7 (spSurely K C)) (Ksurely : DefKw P w K mg base "told_surely" ["menu", "seen", "frame"] 7 (spSurely K C)) :
    FnG P w K mg base 9 f fd ["_law_vase_here"] (spRight K) := by
  have sc := sc_law_right
  refine funG_ok F sc (fun vs H Q E h => ?_) (fun cdv A outer s H vs Q E hgd hr h => ?_)
  · obtain ⟨p, rfl, _⟩ := h
    rfl
  · obtain ⟨p, rfl, hv, k⟩ := h
    have hu := hu_of hr
    refine ⟨_, (pss_cons (ps_set (i := 1) sc.nd rfl (Or.inr rfl) (pe_d D_law_shelf (hr.mono (by decide)) rfl (pa_cons (pv 0) pa_nil)))
      (pss_cons (ps_set (i := 2) sc.nd rfl (Or.inr rfl) (pe_d D_law_pluck (hr.mono (by decide)) rfl (pa_cons (pv 0) (pa_cons (pv 1) pa_nil))))
      (pss_cons (ps_set (i := 3) sc.nd rfl (Or.inl rfl) (pe_callTy (T := "tuple") call_tuple_of (by rfl) N.tuple (by decide +kernel) (pa_cons (pe_lc (own := [("_law_turn", 10)]) rfl sc.nd (pi_range1 rfl N.range (pa_cons (pe_d D_law_pour (hr.mono (by decide)) rfl (pa_cons (pv 0) (pa_cons pe_int pa_nil))) pa_nil)) (blkOk_by (own := [("_law_turn", 10)]) (N := ["_law_vase_here", "_law_homes", "_law_chosen", "_law_sights", "_law_spot_at", "_law_shelf_here", "_law_due_here", "_law_told", "_law_known", "_law_words", "_law_turn", "_law_each", "_law_home"]) (sc := defScope (topS 82)) (by decide +kernel)) (fun _ _ _ _ _ => (pg_name (i := 10) sc.nd rfl (Or.inl rfl))) (fun _ _ _ _ _ => pts_nil) (fun _ _ _ _ _ => (pe_d D_law_sight (hr.mono (by decide)) rfl (pa_cons (pv 0) (pa_cons (pv 1) (pa_cons (pv 2) pa_nil)))))) pa_nil)))
      (pss_cons (ps_set (i := 4) sc.nd rfl (Or.inl rfl) (pe_op op_add (pe_d D_law_pluck (hr.mono (by decide)) rfl (pa_cons (pv 0) (pa_cons (pe_lst (pa_cons pe_int (pa_cons pe_int (pa_cons pe_int (pa_cons pe_int (pa_cons (pe_op op_pow pe_int pe_int) pa_nil)))))) pa_nil))) (pe_d D_law_pour (hr.mono (by decide)) rfl (pa_cons (pv 0) (pa_cons pe_int pa_nil)))))
      (pss_cons (ps_par (i := 5) (j := 6) rfl sc.nd rfl rfl (by decide) rfl rfl (pa_cons (pe_callTy (T := "tuple") call_tuple_of (by rfl) N.tuple (by decide +kernel) (pa_cons (pe_lc (own := [("_law_home", 12)]) rfl sc.nd (pi_list (pv 1)) (blkOk_by (own := [("_law_home", 12)]) (N := ["_law_vase_here", "_law_homes", "_law_chosen", "_law_sights", "_law_spot_at", "_law_shelf_here", "_law_due_here", "_law_told", "_law_known", "_law_words", "_law_turn", "_law_each", "_law_home"]) (sc := defScope (topS 82)) (by decide +kernel)) (fun _ _ _ _ _ => (pg_name (i := 12) sc.nd rfl (Or.inl rfl))) (fun _ _ _ _ _ => pts_nil) (fun _ _ _ _ _ => (pe_d D_law_built (hr.mono (by decide)) rfl (pa_cons (pv 12) pa_nil)))) pa_nil)) (pa_cons (pe_dG D_law_due hgd (hr.mono (by decide)) rfl (pa_cons (pv 1) (pa_cons (pv 3) (pa_cons (pv 4) pa_nil)))) pa_nil)) (by rfl))
      (pss_cons (ps_set (i := 7) sc.nd rfl (Or.inl rfl) (pe_lst (pa_cons (pe_d Dtold_surely (hr.mono (by decide)) rfl (pa_cons (pv 5) (pa_cons (pv 3) (pa_cons (pv 4) pa_nil)))) (pa_cons (pe_dK Ksurely (hr.mono (by decide)) rfl (pk_cons (pv 4) (pk_cons (pv 3) (pk_cons (pv 5) pk_nil)))) pa_nil))))
      (pss_cons (ps_if (pt_cmpR (op_neD (hu64 hr)) (pe_lc (own := [("_law_each", 11)]) rfl sc.nd (pi_list (pv 7)) (blkOk_by (own := [("_law_each", 11)]) (N := ["_law_vase_here", "_law_homes", "_law_chosen", "_law_sights", "_law_spot_at", "_law_shelf_here", "_law_due_here", "_law_told", "_law_known", "_law_words", "_law_turn", "_law_each", "_law_home"]) (sc := defScope (topS 82)) (by decide +kernel)) (fun _ _ _ _ _ => (pg_name (i := 11) sc.nd rfl (Or.inl rfl))) (fun _ _ _ _ _ => pts_nil) (fun _ _ _ _ _ => (pe_callB (show CallR _ (.builtin "repr") (rReprV K) from call_reprV hgd (hu64 hr)) (by rfl) N.repr (by decide +kernel) (pa_cons (pv 11) pa_nil)))) (pe_lst (pa_cons (pv 6) (pa_cons (pv 6) pa_nil))) (nomark _)) (pss_one (ps_ret pe_bl)) pss_nil)
      (pss_cons (ps_for PassesOwn.never rfl (pi_tup (pv 3)) (pg_tup rfl (pgs_cons (pg_name (i := 8) sc.nd rfl (Or.inl rfl)) (pgs_cons (pg_name (i := 9) sc.nd rfl (Or.inl rfl)) pgs_nil))) (pss_cons (ps_if (pt_cmpR op_ne (pe_callB (show CallR _ (.builtin "repr") (rReprV K) from call_reprV hgd (hu64 hr)) (by rfl) N.repr (by decide +kernel) (pa_cons (pe_d Dtold_surely (hr.mono (by decide)) rfl (pa_cons (pv 5) (pa_cons (pv 3) (pa_cons (pv 8) pa_nil)))) pa_nil)) (pe_dG D_law_due hgd (hr.mono (by decide)) rfl (pa_cons (pv 1) (pa_cons (pv 3) (pa_cons (pv 8) pa_nil)))) (nomark _)) (pss_one (ps_ret pe_bl)) pss_nil)
      (pss_one (ps_if (pt_cmpR op_notIn_seq (pe_callB (show CallR _ (.builtin "repr") (rReprV K) from call_reprV hgd (hu64 hr)) (by rfl) N.repr (by decide +kernel) (pa_cons (pe_d Dtold_surely (hr.mono (by decide)) rfl (pa_cons (pv 5) (pa_cons (pe_tup (pa_cons (pe_tup (pa_cons (pv 8) (pa_cons (pv 9) pa_nil))) pa_nil)) (pa_cons (pv 8) pa_nil)))) pa_nil)) (pe_lst (pa_cons (pe_callB (show CallR _ (.builtin "repr") (rReprV K) from call_reprV hgd (hu64 hr)) (by rfl) N.repr (by decide +kernel) (pa_cons (pe_tup pa_nil) pa_nil)) (pa_cons (pe_callB (show CallR _ (.builtin "repr") (rReprV K) from call_reprV hgd (hu64 hr)) (by rfl) N.repr (by decide +kernel) (pa_cons (pe_tup (pa_cons (pv 9) pa_nil)) pa_nil)) pa_nil))) (by rfl)) (pss_one (ps_ret pe_bl)) pss_nil))))
      (pss_one (ps_ret (pe_cmpR op_eq (pe_callB (show CallR _ (.builtin "repr") (rReprV K) from call_reprV hgd (hu64 hr)) (by rfl) N.repr (by decide +kernel) (pa_cons (pe_d Dtold_surely (hr.mono (by decide)) rfl (pa_cons (pv 5) (pa_cons (pe_tup pa_nil) (pa_cons (pv 4) pa_nil)))) pa_nil)) (pe_dG D_law_due hgd (hr.mono (by decide)) rfl (pa_cons (pv 1) (pa_cons (pe_tup pa_nil) (pa_cons (pv 4) pa_nil)))) (nomark _)))))))))))), ?_⟩
    refine ⟨_, rfl, p, rfl, hv, fun m ys H1 nmp hm hl1 hl2 hys hv1 e1 => ?_⟩
    refine g_nx ?_
    dsimp only
    refine ⟨_, rfl, _, rfl, p, m, _, rfl, hv1, nmp, SqL.lst hm, by rw [List.length_map]; omega, by rw [List.length_map]; omega, fun vv H2 hmem hv2 e2 => ?_⟩
    obtain ⟨yc, hyc, rfl⟩ := List.mem_map.mp hmem
    refine g_nx ?_
    dsimp only
    refine ⟨_, rfl, p, _, rfl, hv2, by decide, by decide, fun z H3 z0 z1 hv3 e3 => ?_⟩
    obtain ⟨n, rfl⟩ := nat_of z0
    refine ⟨_, rfl, by omega, by omega, ?_⟩
    rw [Int.toNat_natCast]
    have e13 := e2.trans e3
    intro D nD
    have nDp : D ≠ p := hv3.ne nD
    refine lc_range (n := n) (fun i H' => VaseAt H' p ∧ Else p H3 H' ∧ ∃ (as : List Addr) (ss : List (Nat × Str)), H' D = some (.lst (as.map V.ref)) ∧ Paired (fun a (z : Nat × Str) => a ≠ p ∧ H' a = some (.tup [.int (z.1 : Int), .str z.2])) as ss ∧ ss.length = i ∧ ∀ z ∈ ss, z.1 ≤ 10 ^ 31 ∧ OkS z.2)
      ⟨?_, fun b o _ hb => by rw [upd_ne (ne_of_none hb nD)]; exact hb, [], [], upd_same, .nil, rfl, fun z hz => nomatch hz⟩ ?_ ?_
    · obtain ⟨a, b, c, h1, h2, h3, eb⟩ := hv3
      exact ⟨a, b, c, h1, h2, h3, by rw [upd_ne nDp.symm]; exact eb⟩
    · rintro i H4 hi ⟨hv4, e4, as, ss, eD, pr, hsl, hsb⟩
      have hm4 := (e13.trans e4) _ _ nmp hm
      refine ⟨rfl, ?_⟩
      refine ⟨_, rfl, _, rfl, _, rfl, p, m, ys, yc, rfl, hv4, nmp, hm4, hl1, hl2, fun y hy => (hys y hy).off (Off.els rfl (e13.trans e4)), hyc, fun t k x H5 hxo ntp nt ht hk hv5 e5 => ?_⟩
      have hpl := pr.length
      refine ⟨_, e5 _ _ nDp eD, smallLt (by rw [List.length_map]; omega), ?_, fun b o nb hb => ?_, as ++ [t], ss ++ [(k, x)], by rw [upd_same, List.map_append]; rfl, ?_, by rw [List.length_append, hsl]; rfl, fun z hz => ?_⟩
      · obtain ⟨a, b, c, h1, h2, h3, eb⟩ := hv5
        exact ⟨a, b, c, h1, h2, h3, by rw [upd_ne nDp.symm]; exact eb⟩
      · rw [upd_ne (ne_of_none hb nD)]
        exact (e4.trans e5) _ _ nb hb
      · have off : ∀ {a : Addr} {vs : List V}, H5 a = some (.tup vs) → a ≠ D := fun ha z => by
          rw [z, e5 _ _ nDp eD] at ha
          cases ha
        refine paired_app (paired_imp pr fun a ha z hz => ⟨hz.1, ?_⟩) ⟨ntp, ?_⟩
        · have h5 := e5 _ _ hz.1 hz.2
          rw [upd_ne (off h5)]
          exact h5
        · rw [upd_ne (off ht)]
          exact ht
      · rcases List.mem_append.mp hz with hz | hz
        · exact hsb z hz
        · obtain rfl := List.mem_singleton.mp hz
          exact ⟨hk, hxo⟩
    rintro H4 ⟨hv4, e4, as, ss, eD, pr, hsl, hsb⟩
    refine ⟨D, _, rfl, .inl ⟨SqL.lst eD, ?_⟩⟩
    (intro st nst; generalize e_st : upd H4 st _ = H5; have s5 : Same H4 H5 := fun b x hb => (congrFun e_st b).symm.trans (same_new nst b x hb); have h5 := (congrFun e_st st).symm.trans upd_same; clear e_st)
    have e15 : Else p H1 H5 := e13.trans (e4.trans (Same.els s5))
    have hm5 := e15 _ _ nmp hm
    have hy5 : ∀ y ∈ ys, HomeOk (fun q => q = p) H5 y := fun y hy => (hys y hy).off (Off.els rfl e15)
    have hS5 : SeenAt K H5 st ss := ⟨as, SqT.tup h5, paired_imp pr fun a ha z hz => SqT.tup (s5 _ _ hz.2)⟩
    have e05 := e1.trans e15
    have hv5 := hv4.same s5
    have hok : ∀ z ∈ ss, OkS z.2 := fun z hz => (hsb z hz).2
    have hsb : ∀ z ∈ ss, z.1 ≤ 10 ^ 31 := fun z hz => (hsb z hz).1
    clear hys hm hv1 hv2 hv3 hmem e13 e4 e15 e2 e3 nD nDp eD pr s5 h5 e1
    have hsl' : ss.length ≤ 100 := by omega
    refine g_nx ?_
    dsimp only
    refine ⟨_, rfl, _, _, rfl, rfl, ⟨by decide, by decide, by decide⟩, Nat.le_of_ble_eq_true rfl, ?_⟩
    (intro ml nml; generalize e_ml : upd H5 ml _ = Ha; have sa : Same H5 Ha := fun b x hb => (congrFun e_ml b).symm.trans (same_new nml b x hb); have ha := (congrFun e_ml ml).symm.trans upd_same; clear e_ml)
    refine ⟨p, ml, _, rfl, hv5.same sa, hv5.ne nml, SqL.lst ha, Nat.le_of_ble_eq_true rfl, Nat.le_of_ble_eq_true rfl, fun vv Hb hmem hvb eb => ?_⟩
    have eE : (10 : Int) ^ (30 : Int).toNat = ((10 ^ 30 : Nat) : Int) := by decide
    obtain ⟨z0, rfl, hz0⟩ : ∃ z0 : Nat, vv = .int (z0 : Int) ∧ z0 ≤ 10 ^ 30 := by
      simp only [List.mem_cons, List.not_mem_nil, or_false] at hmem
      rcases hmem with rfl | rfl | rfl | rfl | rfl
      · exact ⟨0, rfl, by decide⟩
      · exact ⟨1, rfl, by decide⟩
      · exact ⟨7, rfl, by decide⟩
      · exact ⟨30, rfl, by decide⟩
      · exact ⟨10 ^ 30, by rw [eE], by decide⟩
    refine ⟨_, rfl, p, _, rfl, hvb, by decide, by decide, fun kn Hc kn0 kn1 hvc ec => ?_⟩
    refine ⟨_, _, rfl, rfl, ?_⟩
    obtain ⟨sp, hsp, hsp31⟩ : ∃ n : Nat, (z0 : Int) + kn = (n : Int) ∧ n ≤ 10 ^ 31 := by
      have h31 : 10 ^ 30 + 100 ≤ 10 ^ 31 := by decide
      exact ⟨((z0 : Int) + kn).toNat, by omega, by omega⟩
    refine g_nx ?_
    dsimp only
    rw [hsp]
    have e5c : Else p H5 Hc := (Same.els sa).trans (eb.trans ec)
    have hmc := e5c _ _ nmp hm5
    have hyc_ : ∀ y ∈ ys, HomeOk (fun q => q = p) Hc y := fun y hy => (hy5 y hy).off (Off.els rfl e5c)
    have hSc : SeenAt K Hc st ss := by
      obtain ⟨as, h1, h2⟩ := hS5
      have nf : ∀ {a : Addr} {xs : List V}, SqT K H5 a xs → SqT K Hc a xs := fun z => tupP hv5 e5c z
      exact ⟨as, nf h1, paired_imp h2 fun a _ z hz => nf hz⟩
    have e0c := e05.trans e5c
    clear hm5 hy5 hS5 e05 e5c sa ha eb ec hmem hv5 hvb hv4
    refine ⟨_, rfl, m, rfl, ⟨_, SqL.lst hmc⟩, ?_⟩
    intro D nD
    refine lc_list (K := K) (xs := ys.map fun y => V.ref y.d) (fun i H' => Same Hc H' ∧ ∃ hs : List HI, H' D = some (.lst (hs.map fun h => V.ref h.p)) ∧ Paired (fun (h : HI) (y : HD) => h.bs = y.gs ∧ h.cs = y.cs) hs (ys.take i) ∧ ∀ h ∈ hs, HouseAt K C (fun q => q = D) H' h.p h.b h.r h.bs h.rows h.cs)
      ⟨same_new nD, [], upd_same, .nil, fun h hh => nomatch hh⟩ (fun i H' _ ⟨sm, _⟩ => SqL.lst (sm _ _ hmc)) ?_ ?_
    · rintro i x H6 hx ⟨sm, hs, eD, pr, hhs⟩
      obtain ⟨y, hy, rfl⟩ := map_ex hx
      have hyo := (hyc_ y (List.mem_of_getElem? hy)).off (H' := H6) (fun b o _ hb => sm b o hb)
      obtain ⟨q1, q2, q3, ⟨las, q4, q5, q6, q7⟩, q8, q9⟩ := id hyo
      refine ⟨rfl, ?_⟩
      refine ⟨_, rfl, y.d, y.g, y.l, y.gs, y.rows, rfl, q8.dict, SqL.lst q3, ⟨las, SqL.lst q6, q7⟩, q9, fun pp bb rr cs H7 s7 npp hH => ?_⟩
      have ecs : cs = y.cs := rp_same hH.rep (HD.rp q9)
      have hpl := pr.length
      have hil : i < 20 := by have := (List.getElem?_eq_some_iff.mp hy).1; omega
      rw [List.length_take] at hpl
      have eD7 := s7 _ _ eD
      refine ⟨_, eD7, smallLt (by rw [List.length_map]; omega), same_mut (sm.trans s7) nD, hs ++ [⟨pp, bb, rr, y.gs, y.rows, cs⟩], by rw [upd_same, List.map_append]; rfl, ?_, fun h hh => ?_⟩
      · rw [List.take_add_one, hy]
        exact paired_app pr ⟨rfl, ecs⟩
      · rcases List.mem_append.mp hh with hh | hh
        · exact ((hhs h hh).same s7).els eD7 rfl els_upd
        · obtain rfl := List.mem_singleton.mp hh
          exact (hH.weak (o2 := fun q => q = D) fun q hq => by rw [hq, eD]; exact fun w => nomatch w).els eD7 rfl els_upd
    rintro H6 ⟨s6, hs, eD, pr, hhs⟩
    rw [List.length_map, List.take_length] at pr
    have hpl := pr.length
    refine ⟨D, _, rfl, .inl ⟨SqL.lst eD, ?_⟩⟩
    (intro mt nmt; generalize e_mt : upd H6 mt _ = H7; have s7 : Same H6 H7 := fun b x hb => (congrFun e_mt b).symm.trans (same_new nmt b x hb); have h7 := (congrFun e_mt mt).symm.trans upd_same; clear e_mt)
    have hM7 : MenuAt K C (fun q => q = D) H7 mt hs := ⟨SqT.tup h7, by omega, by omega, fun h hh => (hhs h hh).same s7⟩
    have hY7 : ∀ y ∈ ys, HomeOk (fun q => q = p) H7 y := fun y hy => (hyc_ y hy).off fun b o _ hb => (s6.trans s7) b o hb
    have hS7 := hSc.same (s6.trans s7)
    have hm7 := (s6.trans s7) _ _ hmc
    have e07 : Else p H H7 := e0c.trans (Same.els (s6.trans s7))
    have hfit : ∀ ss', fitO hs ss' = fitY ys ss' := fun ss' => funext fun i => fit_same pr ss' i
    refine ⟨_, rfl, _, rfl, _, rfl, m, st, ys, ss, sp, (fun q => q = p), rfl, hm7, hl2, hY7, hS7, hsl', hsb, hsp31, fun ms H8 s8 hms => ?_⟩
    refine ⟨_, _, rfl, ?_⟩
    dsimp only
    have hM8 := hM7.same s8
    have hS8 := hS7.same s8
    obtain ⟨as, hsq, prS⟩ := id hS8
    have txE : ∀ (ss' : List (Nat × Str)) (n : Nat) (x : Str), x ∈ txO hs ss' n ↔ x ∈ txN ys ss' n ys.length := fun ss' n x => by rw [tx_same pr]
    refine ⟨_, rfl, _, rfl, _, rfl, (fun q => q = D), mt, st, hs, ss, sp, rfl, hM8, hS8, hsl', hsb, hsp31, fun t1 m1 H9 s9 nt1 ht1 et1 => ?_⟩
    obtain rfl : m1 = ms := ht1.eq hms (txE ss sp)
    refine ⟨_, rfl, _, rfl, _, rfl, (fun q => q = D), mt, st, hs, ss, sp, rfl, hM8.same s9, hS8.same s9, hsl', hsb, hsp31, fun t2 m2 H10 s10 nt2 ht2 et2 => ?_⟩
    obtain rfl : m2 = m1 := ht2.eq hms (txE ss sp)
    refine ⟨Nat.le_of_ble_eq_true rfl, ?_⟩
    (intro tl ntl; generalize e_tl : upd H10 tl _ = H11; have s11 : Same H10 H11 := fun b x hb => (congrFun e_tl b).symm.trans (same_new ntl b x hb); have h11 := (congrFun e_tl tl).symm.trans upd_same; clear e_tl)
    have s811 : Same H8 H11 := s9.trans (s10.trans s11)
    refine g_nx ?_
    dsimp only
    have okm := told_ok hY7 hsp31 hms
    have lem := told_len hl2 hms
    have hfacts : ∀ (i : Nat) (z : V), ([V.ref t1, V.ref t2] : List V)[i]? = some z → ∃ t, z = .ref t ∧ H11 t = some (.tup (m2.map V.str)) ∧ i < 2 := by
      intro i z hz
      match i, hz with
      | 0, hz => exact ⟨t1, (Option.some.inj hz).symm, (s10.trans s11) _ _ et1, by decide⟩
      | 1, hz => exact ⟨t2, (Option.some.inj hz).symm, s11 _ _ et2, by decide⟩
      | i + 2, hz => cases hz
    refine ⟨_, rfl, tl, rfl, ⟨_, SqL.lst h11⟩, ?_⟩
    intro D2 nD2
    refine lc_list (K := K) (xs := [V.ref t1, V.ref t2]) (fun i H' => Same H11 H' ∧ H' D2 = some (.lst (List.replicate i (V.str (shT m2))))) ⟨same_new nD2, upd_same⟩ (fun i H' _ ⟨sm, _⟩ => SqL.lst (sm _ _ h11)) ?_ ?_
    · rintro i x H14 hx ⟨sm, eD2⟩
      obtain ⟨t, rfl, ht, hi3⟩ := hfacts i x hx
      obtain ⟨f1, f2, f3, f4⟩ := txts_facts (K := K) (SqT.tup (sm _ _ ht)) lem okm
      refine ⟨rfl, _, rfl, .ref t, _, rfl, f1, f2, f3, f4, _, eD2, smallLt (by rw [List.length_replicate]; omega), same_mut sm nD2, ?_⟩
      rw [upd_same, List.replicate_succ']
      rfl
    rintro H14 ⟨s14, eD2⟩
    refine ⟨_, rfl, _, rfl, Nat.le_of_ble_eq_true rfl, ?_⟩
    (intro cl ncl; generalize e_cl : upd H14 cl _ = H15; have s15 : Same H14 H15 := fun b x hb => (congrFun e_cl b).symm.trans (same_new ncl b x hb); have h15 := (congrFun e_cl cl).symm.trans upd_same; clear e_cl)
    obtain ⟨g1, g2⟩ := two_shaped (txts_strOk okm)
    refine ⟨_, _, .lst (SqL.lst (s15 _ _ eD2)) (.cons (.str _) (.cons (.str _) .nil)), .lst (SqL.lst h15) (.cons (.str _) (.cons (.str _) .nil)), g1, g1, _, rfl, ?_⟩
    rw [g2]
    refine iteF ?_
    refine g_nx ?_
    dsimp only
    have s815 : Same H8 H15 := s811.trans (s14.trans s15)
    have hM15 := hM8.same s815
    have hY15 : ∀ y ∈ ys, HomeOk (fun q => q = p) H15 y := fun y hy => (hY7 y hy).off fun b o _ hb => (s8.trans s815) b o hb
    have hm15 := (s8.trans s815) _ _ hm7
    have hsq15 := Same.seqT s815 hsq
    have prS15 : Paired (fun a (z : Nat × Str) => SqT K H15 a [.int (z.1 : Int), .str z.2]) as ss := paired_imp prS fun a _ z hz => Same.seqT s815 hz
    have hS15 := hS8.same s815
    have e015 : Else p H H15 := e07.trans (Same.els (s8.trans s815))
    clear hM8 hY7 hm7 hsq prS hS8 s815 s811 e07 hM7 hS7 hfacts h11 h15 eD2 et1 et2
    refine ⟨_, rfl, st, rfl, ⟨_, hsq15⟩, for_tup (K := K) (xs := as.map V.ref) (fun i σ H' => Same H15 H' ∧ ∃ v8 v9 v10 v11 v12 : Option V, σ = [some (.ref p), some (.ref m), some (.ref yc.d), some (.ref st), some (.int (sp : Int)), some (.ref mt), some (.str (shT m2)), some (.ref tl), v8, v9, v10, v11, v12]) ⟨Same.refl _, _, _, _, _, _, rfl⟩ (fun i σ H' _ ⟨s, _⟩ => Same.seqT s hsq15) ?_ ?_⟩
    · rintro i x σ G1 hx ⟨sm, v8, v9, v10, v11, v12, rfl⟩
      obtain ⟨ra, ha, rfl⟩ := map_ex hx
      obtain ⟨z, hz, hza⟩ := paired_at prS15 ha
      have hzm := List.mem_of_getElem? hz
      have hzb := hsb z hzm
      have hzo := hok z hzm
      refine ⟨ra, _, rfl, Same.seqT sm hza, rfl, _, _, rfl, _, _, rfl, rfl, ?_⟩
      have hM1 := hM15.same sm
      have hS1 := hS15.same sm
      have hY1 : ∀ y ∈ ys, HomeOk (fun q => q = p) G1 y := fun y hy => (hY15 y hy).off fun b o _ hb => sm b o hb
      have hm1 := sm _ _ hm15
      refine ⟨_, rfl, _, rfl, _, rfl, (fun q => q = D), mt, st, hs, ss, z.1, rfl, hM1, hS1, hsl', hsb, hzb, fun t3 m3 G2 s2 nt3 ht3 et3 => ?_⟩
      have ht3' : Told m3 (txN ys ss z.1 ys.length) := ⟨ht3.up, ht3.one, fun x => (ht3.mem x).trans (txE ss z.1 x)⟩
      obtain ⟨f1, f2, f3, f4⟩ := txts_facts (K := K) (SqT.tup et3) (told_len hl2 ht3') (told_ok hY1 hzb ht3')
      refine ⟨.ref t3, _, rfl, f1, f2, f3, f4, ?_⟩
      have hY2 : ∀ y ∈ ys, HomeOk (fun q => q = p) G2 y := fun y hy => (hY1 y hy).off fun b o _ hb => s2 b o hb
      refine ⟨_, rfl, _, rfl, _, rfl, m, st, ys, ss, z.1, (fun q => q = p), rfl, s2 _ _ hm1, hl2, hY2, hS1.same s2, hsl', hsb, hzb, fun m4 G3 s3 ht4 => ?_⟩
      obtain rfl : m4 = m3 := ht4.eq ht3' fun x => Iff.rfl
      refine ⟨rfl, _, rfl, ?_⟩
      refine ifN (fun hd => absurd rfl hd) (fun _ => ?_)
      refine g_nx ?_
      dsimp only
      have s13 : Same G1 G3 := s2.trans s3
      refine ⟨_, rfl, _, rfl, _, rfl, Nat.le_of_ble_eq_true rfl, ?_⟩
      (intro q1 n_q1; generalize e_q1 : upd G3 q1 _ = G4; have s4 : Same G3 G4 := fun b x hb => (congrFun e_q1 b).symm.trans (same_new n_q1 b x hb); have h_q1 := (congrFun e_q1 q1).symm.trans upd_same; clear e_q1)
      refine ⟨Nat.le_of_ble_eq_true rfl, ?_⟩
      (intro q2 n_q2; generalize e_q2 : upd G4 q2 _ = G5; have s5 : Same G4 G5 := fun b x hb => (congrFun e_q2 b).symm.trans (same_new n_q2 b x hb); have h_q2 := (congrFun e_q2 q2).symm.trans upd_same; clear e_q2)
      have s15_ : Same G1 G5 := s13.trans (s4.trans s5)
      have hO : SeenAt K G5 q2 [z] := ⟨[q1], SqT.tup h_q2, .cons (SqT.tup (s5 _ _ h_q1)) .nil⟩
      have hzb1 : ∀ y ∈ [z], y.1 ≤ 10 ^ 31 := fun y hy => by rw [List.mem_singleton.mp hy]; exact hzb
      refine ⟨_, rfl, (fun q => q = D), mt, q2, hs, [z], z.1, rfl, hM1.same s15_, hO, by show 1 ≤ 100; decide, hzb1, hzb, fun t5 m5 G6 s6 nt5 ht5 et5 => ?_⟩
      have hY5 : ∀ y ∈ ys, HomeOk (fun q => q = p) G5 y := fun y hy => (hY1 y hy).off fun b o _ hb => s15_ b o hb
      have ht5' : Told m5 (txN ys [z] z.1 ys.length) := ⟨ht5.up, ht5.one, fun x => (ht5.mem x).trans (txE [z] z.1 x)⟩
      obtain ⟨f1, f2, f3, f4⟩ := txts_facts (K := K) (SqT.tup et5) (told_len hl2 ht5') (told_ok hY5 hzb ht5')
      refine ⟨.ref t5, _, rfl, f1, f2, f3, f4, ?_⟩
      refine ⟨Nat.le_of_ble_eq_true rfl, ?_⟩
      (intro q3 n_q3; generalize e_q3 : upd G6 q3 _ = G7; have s7_ : Same G6 G7 := fun b x hb => (congrFun e_q3 b).symm.trans (same_new n_q3 b x hb); have h_q3 := (congrFun e_q3 q3).symm.trans upd_same; clear e_q3)
      obtain ⟨f1, f2, f3, f4⟩ := txts_facts (K := K) (ms := []) (SqT.tup h_q3) (Nat.zero_le _) (fun x hx => nomatch hx)
      refine ⟨.ref q3, _, rfl, f1, f2, f3, f4, ?_⟩
      refine ⟨_, rfl, Nat.le_of_ble_eq_true rfl, ?_⟩
      (intro q4 n_q4; generalize e_q4 : upd G7 q4 _ = G8; have s8_ : Same G7 G8 := fun b x hb => (congrFun e_q4 b).symm.trans (same_new n_q4 b x hb); have h_q4 := (congrFun e_q4 q4).symm.trans upd_same; clear e_q4)
      obtain ⟨f1, f2, f3, f4⟩ := txts_facts (K := K) (ms := [z.2]) (SqT.tup h_q4) (by show 1 ≤ 20; decide) (fun x hx => by rw [List.mem_singleton.mp hx]; exact hzo)
      refine ⟨.ref q4, _, rfl, f1, f2, f3, f4, Nat.le_of_ble_eq_true rfl, ?_⟩
      (intro q5 n_q5; generalize e_q5 : upd G8 q5 _ = G9; have s9_ : Same G8 G9 := fun b x hb => (congrFun e_q5 b).symm.trans (same_new n_q5 b x hb); have h_q5 := (congrFun e_q5 q5).symm.trans upd_same; clear e_q5)
      have one := told_one ht5'
      refine ⟨q5, _, rfl, .inl (SqL.lst h_q5), rfl, rfl, _, rfl, ?_⟩
      have e : inV (V.str (shT m5)) [V.str (shT []), V.str (shT [z.2])] = true := by
        rcases one with rfl | rfl
        · exact in_first _ _
        · exact in_second _ _
      have e' : (if true = true then !inV (V.str (PyData.tuple (m5.map PyData.str)).shown) [V.str (PyData.tuple ([].map PyData.str)).shown, V.str (PyData.tuple ([z.2].map PyData.str)).shown] else inV (V.str (PyData.tuple (m5.map PyData.str)).shown) [V.str (PyData.tuple ([].map PyData.str)).shown, V.str (PyData.tuple ([z.2].map PyData.str)).shown]) = false := by
        rw [if_pos rfl]
        show (!inV (V.str (shT m5)) [V.str (shT []), V.str (shT [z.2])]) = false
        rw [e]
        rfl
      rw [e']
      refine iteF ?_
      exact ⟨sm.trans (s15_.trans (s6.trans (s7_.trans (s8_.trans s9_)))), _, _, _, _, _, rfl⟩
    · rintro σ G1 ⟨sm, v8, v9, v10, v11, v12, rfl⟩
      dsimp only
      have hY1 : ∀ y ∈ ys, HomeOk (fun q => q = p) G1 y := fun y hy => (hY15 y hy).off fun b o _ hb => sm b o hb
      refine ⟨_, rfl, Nat.le_of_ble_eq_true rfl, ?_⟩
      (intro q1 n_q1; generalize e_q1 : upd G1 q1 _ = G2; have s2 : Same G1 G2 := fun b x hb => (congrFun e_q1 b).symm.trans (same_new n_q1 b x hb); have h_q1 := (congrFun e_q1 q1).symm.trans upd_same; clear e_q1)
      have hO : SeenAt K G2 q1 [] := ⟨[], SqT.tup h_q1, .nil⟩
      refine ⟨_, rfl, (fun q => q = D), mt, q1, hs, [], sp, rfl, hM15.same (sm.trans s2), hO, by decide, (fun y hy => nomatch hy), hsp31, fun t5 m5 G3 s3 nt5 ht5 et5 => ?_⟩
      have ht5' : Told m5 (txN ys [] sp ys.length) := ⟨ht5.up, ht5.one, fun x => (ht5.mem x).trans (txE [] sp x)⟩
      obtain ⟨f1, f2, f3, f4⟩ := txts_facts (K := K) (SqT.tup et5) (told_len hl2 ht5') (told_ok hY1 hsp31 ht5')
      refine ⟨.ref t5, _, rfl, f1, f2, f3, f4, ?_⟩
      refine ⟨_, rfl, Nat.le_of_ble_eq_true rfl, ?_⟩
      (intro q2 n_q2; generalize e_q2 : upd G3 q2 _ = G4; have s4 : Same G3 G4 := fun b x hb => (congrFun e_q2 b).symm.trans (same_new n_q2 b x hb); have h_q2 := (congrFun e_q2 q2).symm.trans upd_same; clear e_q2)
      have hO2 : SeenAt K G4 q2 [] := ⟨[], SqT.tup h_q2, .nil⟩
      have s14_ : Same G1 G4 := s2.trans (s3.trans s4)
      refine ⟨_, rfl, m, q2, ys, [], sp, (fun q => q = p), rfl, (sm.trans s14_) _ _ hm15, hl2, (fun y hy => (hY1 y hy).off fun b o _ hb => s14_ b o hb), hO2, by decide, (fun y hy => nomatch hy), hsp31, fun m6 G5 s5 ht6 => ?_⟩
      obtain rfl : m6 = m5 := ht6.eq ht5' fun x => Iff.rfl
      refine ⟨rfl, ?_⟩
      rw [decide_eq_true (show V.str (PyData.tuple (List.map PyData.str m6)).shown = V.str (shT m6) from rfl)]
      exact k G5 (e015.trans (Same.els (sm.trans (s14_.trans s5))))
end
end LM

set_option Elab.async false
set_option linter.all false
set_option maxRecDepth 100000
set_option maxHeartbeats 4000000
set_option pp.maxSteps 600
set_option pp.deepTerms false
namespace LM
open PySem PySem.Spec PyProof.Rows L2
local macro_rules | `(tactic| walk_at "hp") => `(tactic| first | assumption | exact upd_same | (rw [upd_ne (by assumption)]; assumption) | (rw [upd_ne (Ne.symm (by assumption))]; assumption) | (rw [upd_ne (by assumption)]; exact upd_same) | (rw [upd_ne (Ne.symm (by assumption))]; exact upd_same))
local macro_rules | `(tactic| walk_at "sq") => `(tactic| first | assumption | exact Or.inl (Or.inl (by assumption)) | exact Or.inl (Or.inl upd_same) | exact Or.inl (Or.inl (by walk_at "hp")))
local macro_rules | `(tactic| walk_at "ixl") => `(tactic| refine ⟨_, _, _, _, rfl, rfl, (by walk_at "sq"), (by rfl), ?_⟩)
local macro_rules | `(tactic| walk_at "setl") => `(tactic| refine ⟨_, _, _, _, rfl, rfl, (by walk_at "hp"), (by rfl), ?_⟩)
local macro_rules | `(tactic| walk_at "side") => `(tactic| refine idP ?_; first | omega | (show (0 : Int) < _; omega) | (show (0 : Int) < _ ∧ _ < _; omega) | (refine Or.inr ?_; show (-(2 ^ 64) : Int) < _ ∧ _ < _; omega) | (refine Or.inl ?_; show (-(2 ^ 64) : Int) < _ ∧ _ < _; omega) | exact divW (by omega) (by omega) _ | (refine ⟨by decide, by decide, ?_⟩; decide))
local macro_rules | `(tactic| walk_at "go1") => `(tactic| first
  | refine ⟨_, rfl, ?_⟩
  | refine ⟨_, _, rfl, rfl, (by walk_at "side"), ?_⟩
  | refine ⟨_, _, rfl, (by walk_at "side"), ?_⟩
  | refine ⟨_, _, rfl, rfl, ?_⟩
  | refine Or.inl ⟨_, rfl, ?_⟩
  | refine ⟨_, _, rfl, Or.inl (by walk_at "sq"), ?_⟩
  | walk_at "ixl"
  | walk_at "setl"
  | refine ⟨_, _, rfl, (by walk_at "sq"), rfl, ?_⟩
  | refine ⟨_, _, rfl, (by walk_at "sq"), ?_⟩
  | refine ⟨_, _, rfl, ?_⟩
  | refine ⟨rfl, ?_⟩
  | refine ⟨small (Nat.le_of_ble_eq_true rfl), ?_⟩)
local macro_rules | `(tactic| walk_at "go") => `(tactic| repeat walk_at "go1")

abbrev slaw : Stmt := topS 83
theorem sclaw : FnScope ["_law_cells", "_law_turn"] ["_law_cells"] (defScope slaw) := ⟨rfl, rfl, rfl, by decide +kernel, rfl, by decide +kernel, by decide +kernel⟩
theorem clamp {x : Int} (h : 0 ≤ x) : 2 ≤ (if (if (6 : Int) < x then 6 else x) > 2 then (if (6 : Int) < x then 6 else x) else 2) ∧ (if (if (6 : Int) < x then 6 else x) > 2 then (if (6 : Int) < x then 6 else x) else 2) ≤ 6 := by
  by_cases h1 : (6 : Int) < x
  · rw [if_pos h1]
    decide
  · rw [if_neg h1]
    by_cases h2 : x > 2
    · rw [if_pos h2]
      omega
    · rw [if_neg h2]
      decide
def spLaw (K : PySem.W.Frag) : Sp := fun vs H Q _ => ∃ (a : Addr) (ns : List Int), vs = [.ref a] ∧ SqL K H a (ns.map V.int) ∧ ns.length ≤ 63 ∧ ∀ H', Q (.bl true) H'
section
variable {P : Program} {w : World} {K : PySem.W.Frag} {mg : Str → Option Value} {base : Heap}
theorem ok_law {f : Addr} {fd : FuncData} (F : Fun K "law" "law" slaw f fd) (N : Names mg) (D_law_vase : DefK P w K mg base "_law_vase" ["_law_cells", "_law_turn"] 1 (spVase K)) (D_law_right : DefG P w K mg base "_law_right" ["_law_vase_here"] 9 (spRight K)) : FnG P w K mg base 10 f fd ["_law_cells"] (spLaw K) := by
  have sc := sclaw
  refine funG_ok F sc (fun vs H Q E h => ?_) (fun cdv A outer s H vs Q E hgd hr h => ?_)
  · obtain ⟨a, ns, rfl, _⟩ := h
    rfl
  · obtain ⟨a, ns, rfl, ha, hl, k⟩ := h
    refine ⟨_, (pss_one (ps_ret (pe_callB (cr_all rfl) (by rfl) N.all (by decide +kernel) (pa_cons (pe_lc (own := [("_law_turn", 1)]) rfl sc.nd (pi_range1 rfl N.range (pa_cons (pe_callB (call_max2 rfl) (by rfl) N.max (by decide +kernel) (pa_cons pe_int (pa_cons (pe_callB (call_min2 rfl) (by rfl) N.min (by decide +kernel) (pa_cons (pe_callB call_len_seq (by rfl) N.len (by decide +kernel) (pa_cons (pv 0) pa_nil)) (pa_cons pe_int pa_nil))) pa_nil))) pa_nil)) (blkOk_by (own := [("_law_turn", 1)]) (N := ["_law_cells", "_law_turn"]) (sc := defScope (topS 83)) (by decide +kernel)) (fun _ _ _ _ _ => (pg_name (i := 1) sc.nd rfl (Or.inl rfl))) (fun _ _ _ _ _ => pts_nil) (fun _ _ _ _ _ => (pe_dG D_law_right hgd (hr.mono (by decide)) rfl (pa_cons (pe_d D_law_vase (hr.mono (by decide)) rfl (pa_cons (pv 0) (pa_cons (pv 1) pa_nil))) pa_nil)))) pa_nil)))), ?_⟩
    refine ⟨_, rfl, a, _, rfl, .inl ha, _, _, rfl, _, _, rfl, ?_⟩
    obtain ⟨b1, b2⟩ := clamp (x := (((ns.map V.int).length : Nat) : Int)) (by omega)
    generalize (if (if (6 : Int) < (((ns.map V.int).length : Nat) : Int) then 6 else (((ns.map V.int).length : Nat) : Int)) > 2 then (if (6 : Int) < (((ns.map V.int).length : Nat) : Int) then 6 else (((ns.map V.int).length : Nat) : Int)) else 2) = M at b1 b2 ⊢
    obtain ⟨n, rfl⟩ := nat_of (show 0 ≤ M by omega)
    refine ⟨_, rfl, by omega, by omega, ?_⟩
    intro D nD
    refine lc_range (n := n) (fun i H' => Same H H' ∧ H' D = some (.lst ((List.replicate i true).map V.bl))) ⟨same_new nD, upd_same⟩ ?_ ?_
    · rintro i H' hi ⟨sm, eD⟩
      refine ⟨rfl, ?_⟩
      refine ⟨_, rfl, _, rfl, a, ns, i, (by rw [Int.zero_add]; rfl), sm.seq ha, hl, fun H1 p s1 np hv => ?_⟩
      refine ⟨p, rfl, hv, fun H2 e2 => ?_⟩
      have s02 : Same H' H2 := fun b o e => e2 b o (ne_of_none e np) (s1 _ _ e)
      refine ⟨_, s02 _ _ eD, smallLt (by rw [List.length_map, List.length_replicate]; omega), same_mut (sm.trans s02) nD, ?_⟩
      rw [upd_same, List.replicate_succ', List.map_append]
      rfl
    · rintro H' ⟨sm, eD⟩
      refine ⟨D, List.replicate n true, rfl, SqL.lst eD, ?_⟩
      have e : (List.replicate n true).all id = true := by simp
      rw [e]
      exact k H'
end
end LM

set_option Elab.async false
set_option linter.all false
set_option maxRecDepth 100000
set_option maxHeartbeats 4000000
namespace LM
open PySem PySem.Spec PyProof.Rows L2
/-- a def of the top -/
def TopD (K : PySem.W.Frag) (mg : Str → Option Value) (x : Str) (st : Stmt) (ps : List Str) : Prop := ∃ (f : Addr) (fd : FuncData), Fun K x x st f fd ∧ mg x = some (.ref f) ∧ PySem.W.keepIn K (.ref f) = true ∧ Binds K fd ps []
theorem TopD.mk {K : PySem.W.Frag} {h : Heap} {mg : Str → Option Value} (X : K.In h) (G : h.Ns mainGlobals mg) {x : Str} {st : Stmt} {ps : List Str} {f : Addr} {oc : Value} {od an : Option Addr} {osl : Array (Option Value)} {kV doc pm cdv ct : Value}
    (a : PySem.W.nsIn K mainGlobals x = some (some (.ref f))) (l : K.lookup f = some ⟨oc, od, .func (PySem.W.fnOf x x (defArgs st) (defBody st) (defScope st) .none kV doc pm an cdv ct), osl⟩) (c : PySem.W.codeIn K cdv x = true) (k : PySem.W.keepIn K (.ref f) = true)
    (b : ∀ (kV doc pm : Value) (an : Option Addr) (cdv ct : Value) (us : List Value), us.length = ps.length → bindArgs (PySem.W.fnOf x x (defArgs st) (defBody st) (defScope st) .none kV doc pm an cdv ct) ⟨us, []⟩ = pure (ps.zip us)) : TopD K mg x st ps := by
  have F := fun_mk (st := st) l c k
  exact ⟨f, _, F, PySem.W.mg_of X G a, k, F.binds b⟩
theorem TopD.defK {P : Program} {w : World} {K : PySem.W.Frag} {mg : Str → Option Value} {base : Heap} {x : Str} {st : Stmt} {ps : List Str} {k : Nat} {sp : Sp} (t : TopD K mg x st ps) (ok : ∀ {f : Addr} {fd : FuncData}, Fun K x x st f fd → FnOk P w K mg base CX0 k f fd ps sp) : DefK P w K mg base x ps k sp := by
  obtain ⟨f, fd, F, m, kp, b⟩ := t
  exact ⟨f, fd, ok F, m, kp, b⟩
theorem TopD.defG {P : Program} {w : World} {K : PySem.W.Frag} {mg : Str → Option Value} {base : Heap} {x : Str} {st : Stmt} {ps : List Str} {k : Nat} {sp : Sp} (t : TopD K mg x st ps) (ok : ∀ {f : Addr} {fd : FuncData}, Fun K x x st f fd → FnG P w K mg base k f fd ps sp) : DefG P w K mg base x ps k sp := by
  obtain ⟨f, fd, F, m, kp, b⟩ := t
  exact ⟨f, fd, ok F, m, kp, b⟩
/-- a method of the class -/
def MethD (K : PySem.W.Frag) (C : Addr) (m qual : Str) (st : Stmt) (ps : List Str) : Prop := ∃ (f : Addr) (fd : FuncData), Meth K C m f ∧ Fun K m qual st f fd ∧ Binds K fd ps []
theorem MethD.mk {K : PySem.W.Frag} {C : Addr} {m qual : Str} {st : Stmt} {ps : List Str} {f : Addr} {oc : Value} {od an : Option Addr} {osl : Array (Option Value)} {kV doc pm cdv ct : Value}
    (a : PySem.W.findIn K (.ref C) m = some (some (.ref f))) (i : PySem.W.isFn K (.ref f) = true) (l : K.lookup f = some ⟨oc, od, .func (PySem.W.fnOf m qual (defArgs st) (defBody st) (defScope st) .none kV doc pm an cdv ct), osl⟩) (c : PySem.W.codeIn K cdv qual = true) (k : PySem.W.keepIn K (.ref f) = true)
    (b : ∀ (kV doc pm : Value) (an : Option Addr) (cdv ct : Value) (us : List Value), us.length = ps.length → bindArgs (PySem.W.fnOf m qual (defArgs st) (defBody st) (defScope st) .none kV doc pm an cdv ct) ⟨us, []⟩ = pure (ps.zip us)) : MethD K C m qual st ps := by
  have F := fun_mk (st := st) l c k
  exact ⟨f, _, ⟨a, i, k⟩, F, F.binds b⟩
/-- __init__ with its default -/
def InitD (K : PySem.W.Frag) (C : Addr) : Prop := ∃ (f : Addr) (fd : FuncData) (dv : List V), Mk K C f ∧ FunD K "__init__" "House.__init__" (defArgs sHouse__init_) (defBody sHouse__init_) (defScope sHouse__init_) dv [] f fd ∧ Binds K fd ["self", "bases", "rows"] []
theorem InitD.mk {K : PySem.W.Frag} {C f T e : Addr} {oc ocT : Value} {od an odT : Option Addr} {osl oslT : Array (Option Value)} {kV doc pm cdv ct : Value} {n : Nat}
    (mk : PySem.W.makesIn K C = true) (a : PySem.W.findIn K (.ref C) "__init__" = some (some (.ref f))) (i : PySem.W.isFn K (.ref f) = true) (kc : PySem.W.keepIn K (.ref C) = true)
    (l : K.lookup f = some ⟨oc, od, .func (PySem.W.fnOf "__init__" "House.__init__" (defArgs sHouse__init_) (defBody sHouse__init_) (defScope sHouse__init_) (.ref T) kV doc pm an cdv ct), osl⟩) (lT : K.lookup T = some ⟨ocT, odT, .seq #[.ref e] n, oslT⟩) (c : PySem.W.codeIn K cdv "House.__init__" = true) (k : PySem.W.keepIn K (.ref f) = true) : InitD K C := by
  have F : FunD K "__init__" "House.__init__" (defArgs sHouse__init_) (defBody sHouse__init_) (defScope sHouse__init_) [V.ref e] [] f _ := ⟨⟨oc, od, _, kV, doc, pm, an, cdv, ct, osl, rfl, l, c, .inr ⟨(fun z => nomatch z), T, _, [.ref e], n, rfl, lT, rfl, .cons rfl .nil⟩, .inl rfl⟩, k⟩
  obtain ⟨ds, hv, b⟩ := FunD.binds1 (ps := ["self", "bases", "rows"]) F 3 1 (fun z => nomatch z) rfl fun T kV doc pm an cdv ct us its hu hi => match us, its, hu, hi with | [_, _, _], [_], _, _ => ⟨_, rfl, rfl⟩
  cases hv
  exact ⟨f, _, _, ⟨mk, a, i, kc⟩, F, b⟩

theorem mg_const {K : PySem.W.Frag} {h : Heap} {mg : Str → Option Value} (X : K.In h) (G : h.Ns mainGlobals mg) {x : Str} {i : Int} {t : Tok} (a : PySem.W.nsIn K mainGlobals x = some (some (.int i t))) : ∃ t, mg x = some (.int i t) := ⟨t, PySem.W.mg_of X G a⟩
/-- more of the class -/
structure MoreD (K : PySem.W.Frag) (C : Addr) : Prop where
  ot : Other K C
  ow : OwnT K C
  ne : PySem.W.findIn K (.ref C) "__ne__" = some (some (.builtin "object.__ne__"))
  bo : PySem.W.findIn K (.ref C) "__bool__" = some none
  le : PySem.W.findIn K (.ref C) "__len__" = some none
theorem MoreD.of {K : PySem.W.Frag} {C : Addr} (own1 : PySem.W.notFirst K C (.ref C) = true) (str1 : PySem.W.notFirst K C (.type "str") = true) (str2 : PySem.W.kitOne K (.type "str") (.ref C) = some false) (int1 : PySem.W.notFirst K C (.type "int") = true) (int2 : PySem.W.kitOne K (.type "int") (.ref C) = some false) (non1 : PySem.W.notFirst K C (.type "NoneType") = true) (non2 : PySem.W.kitOne K (.type "NoneType") (.ref C) = some false) (lst1 : PySem.W.notFirst K C (.type "list") = true) (lst2 : PySem.W.kitOne K (.type "list") (.ref C) = some false) (tup1 : PySem.W.notFirst K C (.type "tuple") = true) (tup2 : PySem.W.kitOne K (.type "tuple") (.ref C) = some false) (dic1 : PySem.W.notFirst K C (.type "dict") = true) (dic2 : PySem.W.kitOne K (.type "dict") (.ref C) = some false) (ha : PySem.W.findIn K (.ref C) "__class__" = some (some (.builtin "object.__class__"))) (hn : PySem.W.specialIn K (.builtin "object.__class__") "__get__" = some (some (.builtin "getset_descriptor.__get__"))) (htk : PySem.W.takesIn K (.builtin "object.__class__") = some true) (hm : PySem.W.mroIn K C (.type "object") = some true)
  (ne : PySem.W.findIn K (.ref C) "__ne__" = some (some (.builtin "object.__ne__"))) (bo : PySem.W.findIn K (.ref C) "__bool__" = some none) (le : PySem.W.findIn K (.ref C) "__len__" = some none) : MoreD K C := ⟨⟨own1, if_pos (beq_self_eq_true _), str1, str2, int1, int2, non1, non2, lst1, lst2, tup1, tup2, dic1, dic2⟩, ⟨ha, hn, htk, hm⟩, ne, bo, le⟩

/-- the class -/
def HouseD (K : PySem.W.Frag) (mg : Str → Option Value) : Prop := ∃ C : Addr, HouseTxt K mg C ∧ InitD K C ∧ MethD K C "_place_borne" "House._place_borne" sHouse_place_borne ["self", "frame"] ∧ MethD K C "written" "House.written" sHouse_written ["self", "frame"] ∧ MoreD K C ∧ (∃ t, mg "MOST_IN_MENU" = some (.int 20 t))

theorem all_mk {P : Program} {w : World} {K : PySem.W.Frag} {h : Heap} {mg : Str → Option Value} {fa : Addr} (X : K.In h) (G : h.Ns mainGlobals mg) (hfa : mg "law" = some (.ref fa)) (N : Names mg) (M : Consts mg) (hD : HouseD K mg)
    (t__law_vase : TopD K mg "_law_vase" s_law_vase ["_law_cells", "_law_turn"]) (t__law_pour : TopD K mg "_law_pour" s_law_pour ["_law_vase_here", "_law_top"]) (t__law_pluck : TopD K mg "_law_pluck" s_law_pluck ["_law_vase_here", "_law_things"]) (t__law_ground : TopD K mg "_law_ground" s_law_ground ["_law_vase_here", "_law_most"]) (t__law_lanes : TopD K mg "_law_lanes" s_law_lanes ["_law_vase_here", "_law_ground_here"]) (t__law_gap : TopD K mg "_law_gap" s_law_gap ["_law_ground_here", "_law_lanes_here", "_law_group"]) (t__law_divisor : TopD K mg "_law_divisor" s_law_divisor ["_law_high", "_law_low"]) (t__law_multiple : TopD K mg "_law_multiple" s_law_multiple ["_law_high", "_law_low"]) (t__law_again : TopD K mg "_law_again" s_law_again ["_law_gaps", "_law_size"]) (t__law_place_house : TopD K mg "_law_place_house" s_law_place_house ["_law_ground_here", "_law_lanes_here"]) (t__law_house : TopD K mg "_law_house" s_law_house ["_law_vase_here", "_law_ground_here"]) (t_is_integer : TopD K mg "is_integer" sis_integer ["value"]) (t_is_integer_within : TopD K mg "is_integer_within" sis_integer_within ["value", "low", "high"]) (t_is_number : TopD K mg "is_number" sis_number ["value"]) (t_check_number : TopD K mg "check_number" scheck_number ["given"]) (t_check_bases : TopD K mg "check_bases" scheck_bases ["bases"]) (t_is_row : TopD K mg "is_row" sis_row ["bases", "value"]) (t_check_rows : TopD K mg "check_rows" scheck_rows ["bases", "rows"]) (t_spaced : TopD K mg "spaced" sspaced ["parts"]) (t_house_text : TopD K mg "house_text" shouse_text ["bases", "rows"]) (t_groups_in_unit : TopD K mg "groups_in_unit" sgroups_in_unit ["bases", "field"]) (t_groups_to_repeat : TopD K mg "groups_to_repeat" sgroups_to_repeat ["bases", "rows"]) (t_fitted_groups : TopD K mg "fitted_groups" sfitted_groups ["bases", "row", "groups"]) (t_skipped_counts : TopD K mg "skipped_counts" sskipped_counts ["bases", "rows", "groups"]) (t_least_repeat : TopD K mg "least_repeat" sleast_repeat ["counts"]) (t_sums_ahead : TopD K mg "sums_ahead" ssums_ahead ["numbers"]) (t_last_not_above : TopD K mg "last_not_above" slast_not_above ["ascending", "number"]) (t_label_at : TopD K mg "label_at" slabel_at ["bases", "place"]) (t_written_number : TopD K mg "written_number" swritten_number ["number"]) (t_written_label : TopD K mg "written_label" swritten_label ["bases", "label"]) (t_is_sight : TopD K mg "is_sight" sis_sight ["value"]) (t_check_seen : TopD K mg "check_seen" scheck_seen ["seen"]) (t__law_spot : TopD K mg "_law_spot" s_law_spot ["_law_home", "_law_figure"]) (t__law_numbers : TopD K mg "_law_numbers" s_law_numbers ["_law_ground_here", "_law_spot_at"]) (t__law_worded : TopD K mg "_law_worded" s_law_worded ["_law_ground_here", "_law_numbers_here"]) (t__law_written : TopD K mg "_law_written" s_law_written ["_law_home", "_law_spot_at"]) (t__law_shelf : TopD K mg "_law_shelf" s_law_shelf ["_law_vase_here"]) (t__law_sight : TopD K mg "_law_sight" s_law_sight ["_law_vase_here", "_law_homes", "_law_chosen"]) (t__law_fits : TopD K mg "_law_fits" s_law_fits ["_law_home", "_law_sights"]) (t__law_built : TopD K mg "_law_built" s_law_built ["_law_home"]) (t_check_menu : TopD K mg "check_menu" scheck_menu ["menu"]) (t_fits : TopD K mg "fits" sfits ["house", "seen"]) (t_fitting : TopD K mg "fitting" sfitting ["menu", "seen"]) (t_told_surely : TopD K mg "told_surely" stold_surely ["menu", "seen", "frame"]) (t__law_due : TopD K mg "_law_due" s_law_due ["_law_homes", "_law_sights", "_law_spot_at"]) (t__law_right : TopD K mg "_law_right" s_law_right ["_law_vase_here"])
    {f : Addr} {oc : Value} {od an : Option Addr} {osl : Array (Option Value)} {kV doc pm cdv ct : Value} (a : PySem.W.nsIn K mainGlobals "law" = some (some (.ref f))) (l : K.lookup f = some ⟨oc, od, .func (PySem.W.fnOf "law" "law" (defArgs slaw) (defBody slaw) (defScope slaw) .none kV doc pm an cdv ct), osl⟩) (c : PySem.W.codeIn K cdv "law" = true) (k : PySem.W.keepIn K (.ref f) = true) :
    ∃ fd : FuncData, (∀ (s : Shared) (v : Value), BindsTo s fd ⟨[v], []⟩ [("_law_cells", v)]) ∧ ∀ base : Heap, K.In base → base.Ns mainGlobals mg → FnG P w K mg base 10 fa fd ["_law_cells"] (spLaw K) := by
  have e := hfa.symm.trans (PySem.W.mg_of X G a)
  cases e
  have FL := fun_mk (st := slaw) l c k
  refine ⟨_, fun s v => .of_eq rfl, fun base _ _ => ok_law FL N ?_ ?_⟩
  · exact t__law_vase.defK fun F => ok_vase F N
  have D_law_vase : DefK P w K mg base "_law_vase" ["_law_cells", "_law_turn"] 1 (spVase K) := t__law_vase.defK fun F => ok_vase F N
  have D_law_pour : DefK P w K mg base "_law_pour" ["_law_vase_here", "_law_top"] 1 (spPour) := t__law_pour.defK fun F => ok_pour F N
  have D_law_pluck : DefK P w K mg base "_law_pluck" ["_law_vase_here", "_law_things"] 2 (spPluck K) := t__law_pluck.defK fun F => ok_pluck F N D_law_pour
  have D_law_ground : DefK P w K mg base "_law_ground" ["_law_vase_here", "_law_most"] 3 (spGround K) := t__law_ground.defK fun F => ok_ground F N D_law_pour D_law_pluck
  have D_law_lanes : DefK P w K mg base "_law_lanes" ["_law_vase_here", "_law_ground_here"] 3 (spLanesN K) := t__law_lanes.defK fun F => ok_lanesN F N D_law_pour D_law_pluck
  have D_law_gap : DefK P w K mg base "_law_gap" ["_law_ground_here", "_law_lanes_here", "_law_group"] 1 (spGap K) := t__law_gap.defK fun F => ok_gap F N
  have D_law_divisor : DefK P w K mg base "_law_divisor" ["_law_high", "_law_low"] 1 (spGcd) := t__law_divisor.defK fun F => ok_divisor F N
  have D_law_multiple : DefK P w K mg base "_law_multiple" ["_law_high", "_law_low"] 2 (spLcm) := t__law_multiple.defK fun F => ok_multiple F D_law_divisor
  have D_law_again : DefK P w K mg base "_law_again" ["_law_gaps", "_law_size"] 1 (spAgain K) := t__law_again.defK fun F => ok_again F N
  have D_law_place_house : DefK P w K mg base "_law_place_house" ["_law_ground_here", "_law_lanes_here"] 3 (spPlace K) := t__law_place_house.defK fun F => ok_place F N D_law_gap D_law_multiple D_law_again
  have D_law_house : DefK P w K mg base "_law_house" ["_law_vase_here", "_law_ground_here"] 4 (spHouseN K) := t__law_house.defK fun F => ok_houseN F D_law_ground D_law_lanes D_law_place_house
  have Dis_integer : DefK P w K mg base "is_integer" ["value"] 1 (spIsInt) := t_is_integer.defK fun F => ok_isint F N
  have Dis_integer_within : DefK P w K mg base "is_integer_within" ["value", "low", "high"] 2 (spWithin) := t_is_integer_within.defK fun F => ok_within F Dis_integer
  have Dis_number : DefK P w K mg base "is_number" ["value"] 2 (spIsNum) := t_is_number.defK fun F => ok_isnum F Dis_integer
  have Dcheck_number : DefK P w K mg base "check_number" ["given"] 3 (spChkNum) := t_check_number.defK fun F => ok_chknum F Dis_number
  have Dcheck_bases : DefK P w K mg base "check_bases" ["bases"] 3 (spChkBases K) := t_check_bases.defK fun F => ok_chkbases F N M Dis_integer_within
  have Dis_row : DefK P w K mg base "is_row" ["bases", "value"] 3 (spIsRow K) := t_is_row.defK fun F => ok_isrow F N M Dis_integer_within
  have Dcheck_rows : DefK P w K mg base "check_rows" ["bases", "rows"] 4 (spChkRows K) := t_check_rows.defK fun F => ok_chkrows F N M Dis_row
  have Dspaced : DefK P w K mg base "spaced" ["parts"] 1 (spSpaced K) := t_spaced.defK fun F => ok_spaced F N
  have Dhouse_text : DefK P w K mg base "house_text" ["bases", "rows"] 2 (spHouseText K) := t_house_text.defK fun F => ok_housetext F Dspaced
  have Dgroups_in_unit : DefK P w K mg base "groups_in_unit" ["bases", "field"] 1 (spUnit K) := t_groups_in_unit.defK fun F => ok_unit F
  have Dgroups_to_repeat : DefK P w K mg base "groups_to_repeat" ["bases", "rows"] 2 (spRepeat K) := t_groups_to_repeat.defK fun F => ok_repeat F N Dgroups_in_unit
  have Dfitted_groups : DefK P w K mg base "fitted_groups" ["bases", "row", "groups"] 2 (spFitted K) := t_fitted_groups.defK fun F => ok_fitted F N Dgroups_in_unit
  have Dskipped_counts : DefK P w K mg base "skipped_counts" ["bases", "rows", "groups"] 3 (spSkipped K) := t_skipped_counts.defK fun F => ok_skipped F Dfitted_groups
  have Dleast_repeat : DefK P w K mg base "least_repeat" ["counts"] 1 (spLeast K) := t_least_repeat.defK fun F => ok_least F N
  have Dsums_ahead : DefK P w K mg base "sums_ahead" ["numbers"] 1 (spSums K) := t_sums_ahead.defK fun F => ok_sums F
  have Dlast_not_above : DefK P w K mg base "last_not_above" ["ascending", "number"] 1 (spLna K) := t_last_not_above.defK fun F => ok_lna F N
  have Dlabel_at : DefK P w K mg base "label_at" ["bases", "place"] 1 (spLabelAt K) := t_label_at.defK fun F => ok_labelat F N
  have Dwritten_number : DefK P w K mg base "written_number" ["number"] 1 (spNumText) := t_written_number.defK fun F => ok_numtext F N
  have Dwritten_label : DefK P w K mg base "written_label" ["bases", "label"] 2 (spLabelText K) := t_written_label.defK fun F => ok_labeltext F N Dwritten_number
  have Dis_sight : DefK P w K mg base "is_sight" ["value"] 3 (spIsSight K) := t_is_sight.defK fun F => ok_issight F N Dis_number
  have Dcheck_seen : DefK P w K mg base "check_seen" ["seen"] 4 (spChkSeen K) := t_check_seen.defK fun F => ok_chkseen F N Dis_sight
  have D_law_spot : DefK P w K mg base "_law_spot" ["_law_home", "_law_figure"] 1 (spSpot) := t__law_spot.defK fun F => ok_spot F N
  have D_law_numbers : DefK P w K mg base "_law_numbers" ["_law_ground_here", "_law_spot_at"] 1 (spNumbers K) := t__law_numbers.defK fun F => ok_numbers F N
  have D_law_worded : DefK P w K mg base "_law_worded" ["_law_ground_here", "_law_numbers_here"] 1 (spWordedT K) := t__law_worded.defK fun F => ok_wordedT F N
  have D_law_written : DefK P w K mg base "_law_written" ["_law_home", "_law_spot_at"] 2 (spWrittenL K) := t__law_written.defK fun F => ok_writtenL F D_law_spot D_law_numbers D_law_worded
  have D_law_shelf : DefK P w K mg base "_law_shelf" ["_law_vase_here"] 5 (spShelf K) := t__law_shelf.defK fun F => ok_shelf F N D_law_pour D_law_ground D_law_house
  have D_law_sight : DefK P w K mg base "_law_sight" ["_law_vase_here", "_law_homes", "_law_chosen"] 3 (spSightP K) := t__law_sight.defK fun F => ok_sightP F N D_law_pour D_law_pluck D_law_written
  have D_law_fits : DefK P w K mg base "_law_fits" ["_law_home", "_law_sights"] 3 (spFitsL K) := t__law_fits.defK fun F => ok_fitsL F N D_law_written
  obtain ⟨C, T, ⟨fI, fdI, dv, MK, FI, bI⟩, ⟨fB, fdB, mB, FB, bB⟩, ⟨fWr, fdWr, mWr, FWr, bWr⟩, XD, hMM⟩ := hD
  have XO := XD.ot
  have XW := XD.ow
  have GI := ok_init (P := P) (w := w) (base := base) FI T N M Dcheck_bases Dcheck_rows Dgroups_to_repeat Dskipped_counts Dhouse_text Dleast_repeat Dsums_ahead
  have GB := ok_placeborne (P := P) (w := w) (base := base) FB T N Dlast_not_above
  have GWr := ok_written (P := P) (w := w) (base := base) FWr T Dcheck_number Dlabel_at Dwritten_label mB GB bB
  have D_law_built : DefK P w K mg base "_law_built" ["_law_home"] 7 (spBuilt K C) := t__law_built.defK fun F => ok_built F T N MK GI bI
  have Dcheck_menu : DefK P w K mg base "check_menu" ["menu"] 1 (spChkMenu K C) := t_check_menu.defK fun F => ok_chkmenu F T N XO XW hMM
  have Dfits : DefK P w K mg base "fits" ["house", "seen"] 5 (spFits K C) := t_fits.defK fun F => ok_fits F T N mWr GWr bWr
  have Dfitting : DefK P w K mg base "fitting" ["menu", "seen"] 6 (spFitting K C) := t_fitting.defK fun F => ok_fitting F T N Dcheck_menu Dcheck_seen Dfits
  have Dtold_surely : DefK P w K mg base "told_surely" ["menu", "seen", "frame"] 7 (spSurely K C) := t_told_surely.defK fun F => ok_surely F T N Dcheck_menu Dcheck_seen Dcheck_number Dfitting mWr GWr bWr
  have Ksurely : DefKw P w K mg base "told_surely" ["menu", "seen", "frame"] 7 (spSurely K C) := DefKw.mk' t_told_surely (fun F => ok_surely F T N Dcheck_menu Dcheck_seen Dcheck_number Dfitting mWr GWr bWr) (by decide) (fun _ _ _ _ _ _ ws hl => match ws, hl with | [_, _, _], _ => rfl)
  have D_law_due : DefG P w K mg base "_law_due" ["_law_homes", "_law_sights", "_law_spot_at"] 4 (spDueT K) := t__law_due.defG fun F => ok_dueT F N D_law_fits D_law_written
  exact t__law_right.defG fun F => ok_right F T N D_law_pour D_law_pluck D_law_shelf D_law_sight D_law_built D_law_due Dtold_surely Ksurely
theorem walk {l : PySem.W.OpenLaw} {q : Program} {loose : List Str} {XP : (Str → Option Value) → Heap → Prop} {YP : World → Heap → Prop} {d : DefRec} {K : Params → PySem.W.Frag} (hn : l.most = some 63) (hdf : d.params.defaults = [])
    (hY : ∀ (w : World) (h : Heap), YP w h → (K w.params).In h)
    (F : ∀ (w : World) (mg : Str → Option Value) (fa : Addr) (h : Heap), (K w.params).In h → h.Ns mainGlobals mg → mg d.name = some (.ref fa) →
      ∃ fd : FuncData, (∀ (s : Shared) (u : Value), BindsTo s fd ⟨[u], []⟩ [("_law_cells", u)]) ∧ ∀ base : Heap, (K w.params).In base → base.Ns mainGlobals mg → FnG l.prog w (K w.params) mg base 10 fa fd ["_law_cells"] (spLaw (K w.params))) :
    PySem.W.WalkO q loose XP YP l.row.toRowW d [] (fun f vs => PySem.call f vs) :=
  walk_ofG (n := 63) (k := 10) (x := "_law_cells") (sp := spLaw) hn (by decide) hdf ⟨rfl, by decide, by decide⟩ rfl hY F fun _ _ a ns hl _ hS => ⟨a, ns, rfl, hS, hl, fun _ => rfl⟩
end LM

set_option Elab.async false
set_option linter.all false
set_option maxRecDepth 100000
open PySem PySem.W PyProof.Rows
set_option maxHeartbeats 0 in
theorem PySem.Challenge.cw_labelmoves_k47_texts_told_surely_holds : PySem.Challenge.rw_labelmoves_k47_texts_told_surely.Holds := by
  w_on; o_law; (refine LM.head_top3 (r := LM.HX.R) (q := LM.HX.q) (H := LM.HX.H) (M := 20000) (loose := LM.HX.loose) (d := LM.HX.dR) LM.HX.said ?run (by assumption) ?hw ?hc); (case run => (intro w; exact ⟨LM.HX.looks w, LM.HX.seen w, LM.HX.ob w⟩)); (case hw => w_witness2)
  show PySem.W.WalkO _ _ _ (PySem.W.kHook LM.HX.HP.heap_1 _ (fun _ => by kernel_rfl)).says _ _ _ _
  k_fill
  refine LM.walk (l := PySem.Challenge.rw_labelmoves_k47_texts_told_surely) rfl LM.HX.said.noDf (fun w h Y => PySem.W.kIn_of Y) ?F
  case F =>
    intro w mg fa h KX G hmg
    refine' LM.all_mk KX G hmg ?zN ?zM ?zH ?t__law_vase ?t__law_pour ?t__law_pluck ?t__law_ground ?t__law_lanes ?t__law_gap ?t__law_divisor ?t__law_multiple ?t__law_again ?t__law_place_house ?t__law_house ?t_is_integer ?t_is_integer_within ?t_is_number ?t_check_number ?t_check_bases ?t_is_row ?t_check_rows ?t_spaced ?t_house_text ?t_groups_in_unit ?t_groups_to_repeat ?t_fitted_groups ?t_skipped_counts ?t_least_repeat ?t_sums_ahead ?t_last_not_above ?t_label_at ?t_written_number ?t_written_label ?t_is_sight ?t_check_seen ?t__law_spot ?t__law_numbers ?t__law_worded ?t__law_written ?t__law_shelf ?t__law_sight ?t__law_fits ?t__law_built ?t_check_menu ?t_fits ?t_fitting ?t_told_surely ?t__law_due ?t__law_right ?za ?zl ?zc ?zk
    case zN => exact ⟨PySem.W.mg_none_of KX G (by k_is), PySem.W.mg_none_of KX G (by k_is), PySem.W.mg_none_of KX G (by k_is), PySem.W.mg_none_of KX G (by k_is), PySem.W.mg_none_of KX G (by k_is), PySem.W.mg_none_of KX G (by k_is), PySem.W.mg_none_of KX G (by k_is), PySem.W.mg_none_of KX G (by k_is), PySem.W.mg_none_of KX G (by k_is), PySem.W.mg_none_of KX G (by k_is), PySem.W.mg_none_of KX G (by k_is), PySem.W.mg_none_of KX G (by k_is), PySem.W.mg_none_of KX G (by k_is), PySem.W.mg_none_of KX G (by k_is), PySem.W.mg_none_of KX G (by k_is), PySem.W.mg_none_of KX G (by k_is), PySem.W.mg_none_of KX G (by k_is), PySem.W.mg_none_of KX G (by k_is), PySem.W.mg_none_of KX G (by k_is), PySem.W.mg_none_of KX G (by k_is), PySem.W.mg_none_of KX G (by k_is), PySem.W.mg_of KX G (by k_is)⟩
    case zM => exact ⟨⟨_, PySem.W.mg_of KX G (by k_is)⟩, ⟨_, PySem.W.mg_of KX G (by k_is)⟩, ⟨_, PySem.W.mg_of KX G (by k_is)⟩, ⟨_, PySem.W.mg_of KX G (by k_is)⟩, ⟨_, PySem.W.mg_of KX G (by k_is)⟩, ⟨_, PySem.W.mg_of KX G (by k_is)⟩⟩
    (case t__law_vase => (refine' LM.TopD.mk KX G ?a_1 ?l_1 ?c_1 ?k_1 ?b_1; (case a_1 => k_is); (case l_1 => k_is); (case c_1 => k_is); (case k_1 => k_is); (case b_1 => exact fun _ _ _ _ _ _ us hl => match us, hl with | [_, _], _ => rfl)))
    (case t__law_pour => (refine' LM.TopD.mk KX G ?a_2 ?l_2 ?c_2 ?k_2 ?b_2; (case a_2 => k_is); (case l_2 => k_is); (case c_2 => k_is); (case k_2 => k_is); (case b_2 => exact fun _ _ _ _ _ _ us hl => match us, hl with | [_, _], _ => rfl)))
    (case t__law_pluck => (refine' LM.TopD.mk KX G ?a_3 ?l_3 ?c_3 ?k_3 ?b_3; (case a_3 => k_is); (case l_3 => k_is); (case c_3 => k_is); (case k_3 => k_is); (case b_3 => exact fun _ _ _ _ _ _ us hl => match us, hl with | [_, _], _ => rfl)))
    (case t__law_ground => (refine' LM.TopD.mk KX G ?a_4 ?l_4 ?c_4 ?k_4 ?b_4; (case a_4 => k_is); (case l_4 => k_is); (case c_4 => k_is); (case k_4 => k_is); (case b_4 => exact fun _ _ _ _ _ _ us hl => match us, hl with | [_, _], _ => rfl)))
    (case t__law_lanes => (refine' LM.TopD.mk KX G ?a_5 ?l_5 ?c_5 ?k_5 ?b_5; (case a_5 => k_is); (case l_5 => k_is); (case c_5 => k_is); (case k_5 => k_is); (case b_5 => exact fun _ _ _ _ _ _ us hl => match us, hl with | [_, _], _ => rfl)))
    (case t__law_gap => (refine' LM.TopD.mk KX G ?a_6 ?l_6 ?c_6 ?k_6 ?b_6; (case a_6 => k_is); (case l_6 => k_is); (case c_6 => k_is); (case k_6 => k_is); (case b_6 => exact fun _ _ _ _ _ _ us hl => match us, hl with | [_, _, _], _ => rfl)))
    (case t__law_divisor => (refine' LM.TopD.mk KX G ?a_7 ?l_7 ?c_7 ?k_7 ?b_7; (case a_7 => k_is); (case l_7 => k_is); (case c_7 => k_is); (case k_7 => k_is); (case b_7 => exact fun _ _ _ _ _ _ us hl => match us, hl with | [_, _], _ => rfl)))
    (case t__law_multiple => (refine' LM.TopD.mk KX G ?a_8 ?l_8 ?c_8 ?k_8 ?b_8; (case a_8 => k_is); (case l_8 => k_is); (case c_8 => k_is); (case k_8 => k_is); (case b_8 => exact fun _ _ _ _ _ _ us hl => match us, hl with | [_, _], _ => rfl)))
    (case t__law_again => (refine' LM.TopD.mk KX G ?a_9 ?l_9 ?c_9 ?k_9 ?b_9; (case a_9 => k_is); (case l_9 => k_is); (case c_9 => k_is); (case k_9 => k_is); (case b_9 => exact fun _ _ _ _ _ _ us hl => match us, hl with | [_, _], _ => rfl)))
    (case t__law_place_house => (refine' LM.TopD.mk KX G ?a_10 ?l_10 ?c_10 ?k_10 ?b_10; (case a_10 => k_is); (case l_10 => k_is); (case c_10 => k_is); (case k_10 => k_is); (case b_10 => exact fun _ _ _ _ _ _ us hl => match us, hl with | [_, _], _ => rfl)))
    (case t__law_house => (refine' LM.TopD.mk KX G ?a_11 ?l_11 ?c_11 ?k_11 ?b_11; (case a_11 => k_is); (case l_11 => k_is); (case c_11 => k_is); (case k_11 => k_is); (case b_11 => exact fun _ _ _ _ _ _ us hl => match us, hl with | [_, _], _ => rfl)))
    (case t_is_integer => (refine' LM.TopD.mk KX G ?a_12 ?l_12 ?c_12 ?k_12 ?b_12; (case a_12 => k_is); (case l_12 => k_is); (case c_12 => k_is); (case k_12 => k_is); (case b_12 => exact fun _ _ _ _ _ _ us hl => match us, hl with | [_], _ => rfl)))
    (case t_is_integer_within => (refine' LM.TopD.mk KX G ?a_13 ?l_13 ?c_13 ?k_13 ?b_13; (case a_13 => k_is); (case l_13 => k_is); (case c_13 => k_is); (case k_13 => k_is); (case b_13 => exact fun _ _ _ _ _ _ us hl => match us, hl with | [_, _, _], _ => rfl)))
    (case t_is_number => (refine' LM.TopD.mk KX G ?a_14 ?l_14 ?c_14 ?k_14 ?b_14; (case a_14 => k_is); (case l_14 => k_is); (case c_14 => k_is); (case k_14 => k_is); (case b_14 => exact fun _ _ _ _ _ _ us hl => match us, hl with | [_], _ => rfl)))
    (case t_check_number => (refine' LM.TopD.mk KX G ?a_15 ?l_15 ?c_15 ?k_15 ?b_15; (case a_15 => k_is); (case l_15 => k_is); (case c_15 => k_is); (case k_15 => k_is); (case b_15 => exact fun _ _ _ _ _ _ us hl => match us, hl with | [_], _ => rfl)))
    (case t_check_bases => (refine' LM.TopD.mk KX G ?a_16 ?l_16 ?c_16 ?k_16 ?b_16; (case a_16 => k_is); (case l_16 => k_is); (case c_16 => k_is); (case k_16 => k_is); (case b_16 => exact fun _ _ _ _ _ _ us hl => match us, hl with | [_], _ => rfl)))
    (case t_is_row => (refine' LM.TopD.mk KX G ?a_17 ?l_17 ?c_17 ?k_17 ?b_17; (case a_17 => k_is); (case l_17 => k_is); (case c_17 => k_is); (case k_17 => k_is); (case b_17 => exact fun _ _ _ _ _ _ us hl => match us, hl with | [_, _], _ => rfl)))
    (case t_check_rows => (refine' LM.TopD.mk KX G ?a_18 ?l_18 ?c_18 ?k_18 ?b_18; (case a_18 => k_is); (case l_18 => k_is); (case c_18 => k_is); (case k_18 => k_is); (case b_18 => exact fun _ _ _ _ _ _ us hl => match us, hl with | [_, _], _ => rfl)))
    (case t_spaced => (refine' LM.TopD.mk KX G ?a_19 ?l_19 ?c_19 ?k_19 ?b_19; (case a_19 => k_is); (case l_19 => k_is); (case c_19 => k_is); (case k_19 => k_is); (case b_19 => exact fun _ _ _ _ _ _ us hl => match us, hl with | [_], _ => rfl)))
    (case t_house_text => (refine' LM.TopD.mk KX G ?a_20 ?l_20 ?c_20 ?k_20 ?b_20; (case a_20 => k_is); (case l_20 => k_is); (case c_20 => k_is); (case k_20 => k_is); (case b_20 => exact fun _ _ _ _ _ _ us hl => match us, hl with | [_, _], _ => rfl)))
    (case t_groups_in_unit => (refine' LM.TopD.mk KX G ?a_21 ?l_21 ?c_21 ?k_21 ?b_21; (case a_21 => k_is); (case l_21 => k_is); (case c_21 => k_is); (case k_21 => k_is); (case b_21 => exact fun _ _ _ _ _ _ us hl => match us, hl with | [_, _], _ => rfl)))
    (case t_groups_to_repeat => (refine' LM.TopD.mk KX G ?a_22 ?l_22 ?c_22 ?k_22 ?b_22; (case a_22 => k_is); (case l_22 => k_is); (case c_22 => k_is); (case k_22 => k_is); (case b_22 => exact fun _ _ _ _ _ _ us hl => match us, hl with | [_, _], _ => rfl)))
    (case t_fitted_groups => (refine' LM.TopD.mk KX G ?a_23 ?l_23 ?c_23 ?k_23 ?b_23; (case a_23 => k_is); (case l_23 => k_is); (case c_23 => k_is); (case k_23 => k_is); (case b_23 => exact fun _ _ _ _ _ _ us hl => match us, hl with | [_, _, _], _ => rfl)))
    (case t_skipped_counts => (refine' LM.TopD.mk KX G ?a_24 ?l_24 ?c_24 ?k_24 ?b_24; (case a_24 => k_is); (case l_24 => k_is); (case c_24 => k_is); (case k_24 => k_is); (case b_24 => exact fun _ _ _ _ _ _ us hl => match us, hl with | [_, _, _], _ => rfl)))
    (case t_least_repeat => (refine' LM.TopD.mk KX G ?a_25 ?l_25 ?c_25 ?k_25 ?b_25; (case a_25 => k_is); (case l_25 => k_is); (case c_25 => k_is); (case k_25 => k_is); (case b_25 => exact fun _ _ _ _ _ _ us hl => match us, hl with | [_], _ => rfl)))
    (case t_sums_ahead => (refine' LM.TopD.mk KX G ?a_26 ?l_26 ?c_26 ?k_26 ?b_26; (case a_26 => k_is); (case l_26 => k_is); (case c_26 => k_is); (case k_26 => k_is); (case b_26 => exact fun _ _ _ _ _ _ us hl => match us, hl with | [_], _ => rfl)))
    (case t_last_not_above => (refine' LM.TopD.mk KX G ?a_27 ?l_27 ?c_27 ?k_27 ?b_27; (case a_27 => k_is); (case l_27 => k_is); (case c_27 => k_is); (case k_27 => k_is); (case b_27 => exact fun _ _ _ _ _ _ us hl => match us, hl with | [_, _], _ => rfl)))
    (case t_label_at => (refine' LM.TopD.mk KX G ?a_28 ?l_28 ?c_28 ?k_28 ?b_28; (case a_28 => k_is); (case l_28 => k_is); (case c_28 => k_is); (case k_28 => k_is); (case b_28 => exact fun _ _ _ _ _ _ us hl => match us, hl with | [_, _], _ => rfl)))
    (case t_written_number => (refine' LM.TopD.mk KX G ?a_29 ?l_29 ?c_29 ?k_29 ?b_29; (case a_29 => k_is); (case l_29 => k_is); (case c_29 => k_is); (case k_29 => k_is); (case b_29 => exact fun _ _ _ _ _ _ us hl => match us, hl with | [_], _ => rfl)))
    (case t_written_label => (refine' LM.TopD.mk KX G ?a_30 ?l_30 ?c_30 ?k_30 ?b_30; (case a_30 => k_is); (case l_30 => k_is); (case c_30 => k_is); (case k_30 => k_is); (case b_30 => exact fun _ _ _ _ _ _ us hl => match us, hl with | [_, _], _ => rfl)))
    (case t_is_sight => (refine' LM.TopD.mk KX G ?a_31 ?l_31 ?c_31 ?k_31 ?b_31; (case a_31 => k_is); (case l_31 => k_is); (case c_31 => k_is); (case k_31 => k_is); (case b_31 => exact fun _ _ _ _ _ _ us hl => match us, hl with | [_], _ => rfl)))
    (case t_check_seen => (refine' LM.TopD.mk KX G ?a_32 ?l_32 ?c_32 ?k_32 ?b_32; (case a_32 => k_is); (case l_32 => k_is); (case c_32 => k_is); (case k_32 => k_is); (case b_32 => exact fun _ _ _ _ _ _ us hl => match us, hl with | [_], _ => rfl)))
    (case t__law_spot => (refine' LM.TopD.mk KX G ?a_33 ?l_33 ?c_33 ?k_33 ?b_33; (case a_33 => k_is); (case l_33 => k_is); (case c_33 => k_is); (case k_33 => k_is); (case b_33 => exact fun _ _ _ _ _ _ us hl => match us, hl with | [_, _], _ => rfl)))
    (case t__law_numbers => (refine' LM.TopD.mk KX G ?a_34 ?l_34 ?c_34 ?k_34 ?b_34; (case a_34 => k_is); (case l_34 => k_is); (case c_34 => k_is); (case k_34 => k_is); (case b_34 => exact fun _ _ _ _ _ _ us hl => match us, hl with | [_, _], _ => rfl)))
    (case t__law_worded => (refine' LM.TopD.mk KX G ?a_35 ?l_35 ?c_35 ?k_35 ?b_35; (case a_35 => k_is); (case l_35 => k_is); (case c_35 => k_is); (case k_35 => k_is); (case b_35 => exact fun _ _ _ _ _ _ us hl => match us, hl with | [_, _], _ => rfl)))
    (case t__law_written => (refine' LM.TopD.mk KX G ?a_36 ?l_36 ?c_36 ?k_36 ?b_36; (case a_36 => k_is); (case l_36 => k_is); (case c_36 => k_is); (case k_36 => k_is); (case b_36 => exact fun _ _ _ _ _ _ us hl => match us, hl with | [_, _], _ => rfl)))
    (case t__law_shelf => (refine' LM.TopD.mk KX G ?a_37 ?l_37 ?c_37 ?k_37 ?b_37; (case a_37 => k_is); (case l_37 => k_is); (case c_37 => k_is); (case k_37 => k_is); (case b_37 => exact fun _ _ _ _ _ _ us hl => match us, hl with | [_], _ => rfl)))
    (case t__law_sight => (refine' LM.TopD.mk KX G ?a_38 ?l_38 ?c_38 ?k_38 ?b_38; (case a_38 => k_is); (case l_38 => k_is); (case c_38 => k_is); (case k_38 => k_is); (case b_38 => exact fun _ _ _ _ _ _ us hl => match us, hl with | [_, _, _], _ => rfl)))
    (case t__law_fits => (refine' LM.TopD.mk KX G ?a_39 ?l_39 ?c_39 ?k_39 ?b_39; (case a_39 => k_is); (case l_39 => k_is); (case c_39 => k_is); (case k_39 => k_is); (case b_39 => exact fun _ _ _ _ _ _ us hl => match us, hl with | [_, _], _ => rfl)))
    (case t__law_built => (refine' LM.TopD.mk KX G ?a_40 ?l_40 ?c_40 ?k_40 ?b_40; (case a_40 => k_is); (case l_40 => k_is); (case c_40 => k_is); (case k_40 => k_is); (case b_40 => exact fun _ _ _ _ _ _ us hl => match us, hl with | [_], _ => rfl)))
    (case t_check_menu => (refine' LM.TopD.mk KX G ?a_41 ?l_41 ?c_41 ?k_41 ?b_41; (case a_41 => k_is); (case l_41 => k_is); (case c_41 => k_is); (case k_41 => k_is); (case b_41 => exact fun _ _ _ _ _ _ us hl => match us, hl with | [_], _ => rfl)))
    (case t_fits => (refine' LM.TopD.mk KX G ?a_42 ?l_42 ?c_42 ?k_42 ?b_42; (case a_42 => k_is); (case l_42 => k_is); (case c_42 => k_is); (case k_42 => k_is); (case b_42 => exact fun _ _ _ _ _ _ us hl => match us, hl with | [_, _], _ => rfl)))
    (case t_fitting => (refine' LM.TopD.mk KX G ?a_43 ?l_43 ?c_43 ?k_43 ?b_43; (case a_43 => k_is); (case l_43 => k_is); (case c_43 => k_is); (case k_43 => k_is); (case b_43 => exact fun _ _ _ _ _ _ us hl => match us, hl with | [_, _], _ => rfl)))
    (case t_told_surely => (refine' LM.TopD.mk KX G ?a_44 ?l_44 ?c_44 ?k_44 ?b_44; (case a_44 => k_is); (case l_44 => k_is); (case c_44 => k_is); (case k_44 => k_is); (case b_44 => exact fun _ _ _ _ _ _ us hl => match us, hl with | [_, _, _], _ => rfl)))
    (case t__law_due => (refine' LM.TopD.mk KX G ?a_45 ?l_45 ?c_45 ?k_45 ?b_45; (case a_45 => k_is); (case l_45 => k_is); (case c_45 => k_is); (case k_45 => k_is); (case b_45 => exact fun _ _ _ _ _ _ us hl => match us, hl with | [_, _, _], _ => rfl)))
    (case t__law_right => (refine' LM.TopD.mk KX G ?a_46 ?l_46 ?c_46 ?k_46 ?b_46; (case a_46 => k_is); (case l_46 => k_is); (case c_46 => k_is); (case k_46 => k_is); (case b_46 => exact fun _ _ _ _ _ _ us hl => match us, hl with | [_], _ => rfl)))
    case zH =>
      refine' ⟨_, ⟨⟨?y_pg, ?y_hd, ?y_po, ?y_sa⟩, ?y_nB, ?y_nR, ?y_nT, ?y_nS, ?y_nA, ?y_nD, PySem.W.mg_of KX G ?y_aC⟩, ?y_I, ?y_mB, ?y_mWr, ?y_xmore, ?y_xmm⟩
      (case y_aC => k_is); (case y_pg => k_is); (case y_hd => k_is); (case y_po => k_is); (case y_sa => k_is)
      (case y_nB => (unfold L2.NoAttr; k_is)); (case y_nR => (unfold L2.NoAttr; k_is)); (case y_nT => (unfold L2.NoAttr; k_is)); (case y_nS => (unfold L2.NoAttr; k_is)); (case y_nA => (unfold L2.NoAttr; k_is)); (case y_nD => (unfold L2.NoAttr; k_is))
      (case y_I => (refine' LM.InitD.mk ?mk_47 ?a_47 ?i_47 ?kc_47 ?l_47 ?lT_47 ?c_47 ?k_47; (case mk_47 => k_is); (case a_47 => k_is); (case i_47 => k_is); (case kc_47 => k_is); (case l_47 => k_is); (case lT_47 => k_is); (case c_47 => k_is); (case k_47 => k_is)))
      (case y_mB => (refine' LM.MethD.mk ?a_48 ?i_48 ?l_48 ?c_48 ?k_48 ?b_48; (case a_48 => k_is); (case i_48 => k_is); (case l_48 => k_is); (case c_48 => k_is); (case k_48 => k_is); (case b_48 => exact fun _ _ _ _ _ _ us hl => match us, hl with | [_, _], _ => rfl)))
      (case y_mWr => (refine' LM.MethD.mk ?a_49 ?i_49 ?l_49 ?c_49 ?k_49 ?b_49; (case a_49 => k_is); (case i_49 => k_is); (case l_49 => k_is); (case c_49 => k_is); (case k_49 => k_is); (case b_49 => exact fun _ _ _ _ _ _ us hl => match us, hl with | [_, _], _ => rfl)))
      (case y_xmore => (refine' LM.MoreD.of ?own1_50 ?str1_50 ?str2_50 ?int1_50 ?int2_50 ?non1_50 ?non2_50 ?lst1_50 ?lst2_50 ?tup1_50 ?tup2_50 ?dic1_50 ?dic2_50 ?ha_50 ?hn_50 ?htk_50 ?hm_50 ?ne_50 ?bo_50 ?le_50; (case own1_50 => k_is); (case str1_50 => k_is); (case str2_50 => kit_is); (case int1_50 => k_is); (case int2_50 => kit_is); (case non1_50 => k_is); (case non2_50 => kit_is); (case lst1_50 => k_is); (case lst2_50 => kit_is); (case tup1_50 => k_is); (case tup2_50 => kit_is); (case dic1_50 => k_is); (case dic2_50 => kit_is); (case ha_50 => k_is); (case hn_50 => k_is); (case htk_50 => k_is); (case hm_50 => k_is); (case ne_50 => k_is); (case bo_50 => k_is); (case le_50 => k_is)))
      (case y_xmm => (refine' LM.mg_const KX G ?a_51; (case a_51 => k_is)))
    (case za => k_is); (case zl => k_is); (case zc => k_is); (case zk => k_is)
