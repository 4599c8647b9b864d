import PyProof.Rows.All
import Wide.All
import OpenK.AllK
import Wide.FinOn
import KE.KStateDown
import HandS.Head0
import HandS.Head1
import HandS.Head2
import HandS.Head3
import PySem.Challenge.RW_labelmoves_k43_lists_and_their_frames
import KE.RegKIsAll
import HandS.ForMost
import HandS.ForExc
import HandS.ExcInit
import HandS.Wide
import HandS.WideMore
import HandS.WideBits
import HandS.IsInst
import HandS.Defaults
import HandS.FStr
import HandS.Property
import HandS.ClsMeth
import HandS.OwnEq
import HandS.Flow
import HandS.Style
import HandS.Conv
import HandS.Evl
import HandS.Codes
import HandS.StrMore
import HandS.DeepEq
import HandS.TryMany
import HandS.CallLocal
import HandS.EndBits
import HandS.MakeKw
import HandS.NoneIn
import HandS.RaiseMore
import KE.GoesEnum
import KE.KEqDeep
import KE.KMathG
import HandS.Gcd
import HandS.Rev
import PyProof.ReprRoads
import PyProof.ReprText
import HandS.FStrTup
import PyProof.JoinWalk
import PyProof.Rows.StrJoin2
import HandS.RevTup
import HandS.MapJoin
import HandS.Zip
import HandS.Walk
import PyProof.StrBlock2
import KE.GoesNew
import KE.GoesMore
import OpenK.KOps
import KE.KCallOwn
import KE.KUnpackStar
import PyProof.InstNe
import HandS.TryOnly
import KE.KIntText
import KE.IntTextText
import PyProof.StrLawsTight
import PyProof.StrLawsChain
import PyProof.Rows.StrItems
import HandS.ExcField
import HandS.ExcOwn
import HandS.WordsExc
import HandS.MakeKwOnly
set_option Elab.async false
set_option linter.all false
set_option maxRecDepth 100000
/-! an end's top, run by the kernel in three equations of their own -/
namespace LM
open PySem PySem.W PySem.Calls PyProof.Rows HandSHeadRun
/-- the whole run at a world -/
noncomputable def topW (p : Program) (M : Nat) (w : World) : Option (Shared × SharedT) := wholeF (fun p => stepQ (denQ tabQ) p w) fenceQ M p
theorem top3 {α β γ δ : Type} {o : Option α} {f : α → β} {g : α → γ} {h : α → δ} {b : β} {c : γ} {d : δ} (e1 : o.map f = some b) (e2 : o.map g = some c) (e3 : o.map h = some d) : o.map (fun x => (f x, g x, h x)) = some (b, c, d) := by
  cases o with
  | none => cases e1
  | some x =>
    have e1' : f x = b := Option.some.inj e1
    have e2' : g x = c := Option.some.inj e2
    have e3' : h x = d := Option.some.inj e3
    show some (f x, g x, h x) = _
    rw [e1', e2', e3']
/-- the three ends of a run -/
structure Top3 (r : OpenRow) (q : Program) (H : Hook) (M : Nat) (loose : List PySem.Str) (w : World) : Prop where
  looks : (topW r.prog M w).map (fun x => looksF r.prog x.1.heap x.2.abs) = some true
  seen : (topW r.prog M w).map (fun x => seenQ q loose (importedModules r.prog.main.body) (fun s => xlAt q [] s && recOk r.toRowW.records s) x.2.abs) = some (openGood q loose)
  obs : (topW r.prog M w).map (fun x => H.obs x.2.abs) = some (H.val w)
theorem obsK {K : Params → PySem.W.Frag} {as : List Addr} {e : ∀ P, as = (K P).map (·.1)} {w : World} {o : Option (Shared × SharedT)} (h : o.map (fun x => as.map (getT x.2)) = some ((K w.params).map fun p => some p.2)) :
    o.map (fun x => (PySem.W.kHook K as e).obs x.2.abs) = some ((PySem.W.kHook K as e).val w) := by
  have z : (fun x : Shared × SharedT => (PySem.W.kHook K as e).obs x.2.abs) = fun x => as.map (getT x.2) := funext fun x => by
    show as.map x.2.abs.heap.get? = _
    exact congrArg (fun f => as.map f) (funext fun a => (getT_eq x.2 a).symm)
  rw [z]
  exact h
theorem Top3.run {r : OpenRow} {q : Program} {H : Hook} {M : Nat} {loose : List PySem.Str} {w : World} (t : Top3 r q H M loose w) : RunEqI r q H (fun s => H.obs s.abs) M loose w := top3 t.looks t.seen t.obs
/-- what a row asks of its text, the law's def as d -/
structure RowSaid (r : OpenRow) (q : Program) (d : DefRec) : Prop where
  inView : defOf q r.name = some (d, [])
  inText : r.prog.theDef r.name = some (d.params, d.body, d.scope)
  noKw : kwWritten? d.params.kwonlyargs d.params.kw_defaults = some []
  noDf : d.params.defaults = []
  tame : (!r.writes || r.records.isEmpty) = true
  opens : (chainsOk q && opensWell r.prog && (frees r.toRowW && r.within.isEmpty)) = true
  bare : r.prog.bare
theorem head_top3 {r : OpenRow} {q : Program} {H : Hook} {M : Nat} {loose : List PySem.Str} {d : DefRec} (sd : RowSaid r q d) (run : ∀ w, Top3 r q H M loose w) (said : r.wellSaid = true) (wit : r.toRowW.promised)
    (walk : WalkO q loose (XL q []) H.says r.toRowW d [] fun f vs => PySem.call f vs) : r.Holds :=
  head_imp (ob := fun s => H.obs s.abs) (fun _ => rfl) (fun w => (run w).run) sd.inView sd.inText sd.noKw sd.tame said sd.opens sd.bare wit walk
/-- a world's row, both ways -/
theorem byRow {P : World → Prop} (row : String) (t : ∀ w : World, P (w.withFollow row true)) (f : ∀ w : World, P (w.withFollow row false)) (w : World) : P w := by
  have e := World.withFollow_self w row
  cases hb : w.params.followText row <;> rw [hb] at e
  · rw [← e]; exact f w
  · rw [← e]; exact t w
end LM

set_option Elab.async false
set_option linter.all false
set_option maxRecDepth 100000
set_option maxHeartbeats 0
/-! the run of the top -/
namespace LM.HX
open PySem PySem.Spec PySem.W PyProof.Rows HandSHeadRun
abbrev R : PySem.W.OpenRow := PySem.W.OpenLaw.row PySem.Challenge.rw_labelmoves_k43_lists_and_their_frames
def q : Program := PySem.W.view R.prog [0, 83]
def loose : List PySem.Str := (["_wall", "__name__", "WrongValue", "NotAHouse", "InvalidLabel", "InvalidText", "InvalidNumber", "InvalidWay", "InvalidBases", "InvalidRows", "InvalidClips", "NoAnswer", "TooLong", "is_integer", "is_integer_within", "is_number", "check_number", "is_way", "check_way", "written_number", "has_figures_alone", "worth", "read_number", "is_label", "place_of", "label_at", "written_label", "MOST_BASES", "MOST_ROWS", "MOST_GROUPS"] : List PySem.Str) ++ (["MOST_CLIPS", "groups_in_unit", "groups_to_repeat", "fitted_groups", "skipped_counts", "least_repeat", "sums_ahead", "last_not_above", "LEAST_BASE", "GREATEST_BASE", "GREATEST_EVERY", "check_bases", "is_row", "check_rows", "spaced", "house_text", "numbers_behind", "House", "check_house", "is_clip", "check_clips", "goes_on", "Cutlist", "_law_vase", "_law_pour", "_law_pluck", "_law_divisor", "_law_multiple", "_law_ground", "_law_lanes"] : List PySem.Str) ++ (["_law_gap", "_law_place_house", "_law_house", "_law_stated", "_law_built", "_law_homes", "_law_again", "_law_same", "_law_clips", "_law_filmed", "_law_is_list", "_law_goes_on", "_law_looks_right", "_law_right", "_law_twenty_right"] : List PySem.Str)
theorem looks_true (w : World) : (LM.topW R.prog 20000 (w.withFollow "special-get-raises" true)).map (fun x => looksF R.prog x.1.heap x.2.abs) = some true := by
  unfold LM.topW
  kernel_rfl
theorem looks_false (w : World) : (LM.topW R.prog 20000 (w.withFollow "special-get-raises" false)).map (fun x => looksF R.prog x.1.heap x.2.abs) = some true := by
  unfold LM.topW
  kernel_rfl
theorem looks (w : World) : (LM.topW R.prog 20000 w).map (fun x => looksF R.prog x.1.heap x.2.abs) = some true := LM.byRow (P := fun w => (LM.topW R.prog 20000 w).map (fun x => looksF R.prog x.1.heap x.2.abs) = some true) "special-get-raises" looks_true looks_false w
theorem seen_true (w : World) : (LM.topW R.prog 20000 (w.withFollow "special-get-raises" true)).map (fun x => seenQ q loose (importedModules R.prog.main.body) (fun s => xlAt q [] s && recOk R.toRowW.records s) x.2.abs) = some (openGood q loose) := by
  unfold LM.topW
  kernel_rfl
theorem seen_false (w : World) : (LM.topW R.prog 20000 (w.withFollow "special-get-raises" false)).map (fun x => seenQ q loose (importedModules R.prog.main.body) (fun s => xlAt q [] s && recOk R.toRowW.records s) x.2.abs) = some (openGood q loose) := by
  unfold LM.topW
  kernel_rfl
theorem seen (w : World) : (LM.topW R.prog 20000 w).map (fun x => seenQ q loose (importedModules R.prog.main.body) (fun s => xlAt q [] s && recOk R.toRowW.records s) x.2.abs) = some (openGood q loose) := LM.byRow (P := fun w => (LM.topW R.prog 20000 w).map (fun x => seenQ q loose (importedModules R.prog.main.body) (fun s => xlAt q [] s && recOk R.toRowW.records s) x.2.abs) = some (openGood q loose)) "special-get-raises" seen_true seen_false w
def dL : DefRec := topDef R.prog 83
abbrev dR : DefRec := ⟨("law" : PySem.Str), dL.params, dL.body, dL.scope, dL.pos⟩
theorem said : LM.RowSaid R q dR := ⟨by kernel_rfl, by kernel_rfl, by kernel_rfl, by kernel_rfl, by kernel_rfl, by kernel_rfl, ⟨by kernel_rfl, by kernel_rfl, by kernel_rfl, by kernel_rfl, by kernel_rfl, by decide +kernel⟩⟩
end LM.HX

set_option Elab.async false
set_option linter.all false
set_option maxRecDepth 100000
set_option maxHeartbeats 0
open PySem PySem.W PyProof.Rows
namespace LM.HX
noncomputable section
@[reducible] def HW (_ : Hook) : Prop := LM.HX.R.Holds
theorem HW.mk (H : Hook) (h : LM.HX.R.Holds) : HW H := h
section
set_option hygiene false in
local macro_rules | `(tactic| o_head $H) => `(tactic| exact HW.mk $H h)
def HP : {H : Hook // LM.HX.R.Holds → HW H} := by
  refine ⟨?a, fun h => ?b⟩
  case b => k_head
end
abbrev H : Hook := HP.1
theorem ob_true (w : World) : (LM.topW R.prog 20000 (w.withFollow "special-get-raises" true)).map (fun x => H.obs x.2.abs) = some (H.val (w.withFollow "special-get-raises" true)) := by
  refine LM.obsK (e := fun _ => by kernel_rfl) ?_
  unfold LM.topW
  kernel_rfl
theorem ob_false (w : World) : (LM.topW R.prog 20000 (w.withFollow "special-get-raises" false)).map (fun x => H.obs x.2.abs) = some (H.val (w.withFollow "special-get-raises" false)) := by
  refine LM.obsK (e := fun _ => by kernel_rfl) ?_
  unfold LM.topW
  kernel_rfl
theorem ob (w : World) : (LM.topW R.prog 20000 w).map (fun x => H.obs x.2.abs) = some (H.val w) := LM.byRow (P := fun w => (LM.topW R.prog 20000 w).map (fun x => H.obs x.2.abs) = some (H.val w)) "special-get-raises" ob_true ob_false w
end
end LM.HX

set_option Elab.async false
set_option linter.all false
set_option maxRecDepth 100000
set_option maxHeartbeats 4000000
namespace LM
open PySem PySem.Spec PyProof.Rows L2

/-- a def of the text that stands at its name and keeps its promise, nothing leaving it -/
structure DefK (P : Program) (w : World) (K : PySem.W.Frag) (mg : Str → Option Value) (base : Heap) (x : Str) (ps : List Str) (k : Nat) (sp : Sp) : Prop where
  all : ∃ (f : Addr) (fd : FuncData), FnOk P w K mg base CX0 k f fd ps sp ∧ mg x = some (.ref f) ∧ PySem.W.keepIn K (.ref f) = true ∧ Binds K fd ps []
theorem pe_d {X : Cx} {x : Str} {p pos : Pos} {e : Expr} {es : List Expr} {t : TA} {ps : List Str} {k : Nat} {sp : Sp} (D : DefK X.prog X.w X.K X.mg X.base x ps k sp) (hr : Room k X.A) (hg : Gl X x) (ha : PA X (e :: es) t)
    (hdb : (x == ("__debug__" : Str)) = false := by decide) (he : starEach (e :: es) X.env = (false, eval e X.env) :: starEach es X.env := by rfl) (hpl : (backTo pos (starEach es X.env)).any (·.1) = false := by rfl) :
    PE X (.Call (.Name x p) (e :: es) [] pos) (tCall sp [] E0 t) := by
  obtain ⟨f, fd, F, m, kp, b⟩ := D.all
  exact pe_call F hr hg m kp b .nil pass0 ha hdb he hpl
/-- a new thing leaves the rest as it was -/
theorem same_new {H : Hp} {p : Addr} {o : HO} (h : H p = none) : Same H (upd H p o) := fun b x e => by
  rw [upd_ne (ne_of_none e h)]
  exact e
theorem same_mut {H H' : Hp} {p : Addr} {o : HO} (s : Same H H') (h : H p = none) : Same H (upd H' p o) := fun b x e => by
  rw [upd_ne (ne_of_none e h)]
  exact s b x e
end LM
namespace LM
open PySem PySem.Spec PyProof.Rows L2
theorem ifD {p A B : Prop} [Decidable p] (h1 : p → A) (h2 : ¬ p → B) : if decide p = true then A else B := by
  by_cases h : p
  · rw [decide_eq_true h]
    exact iteT (h1 h)
  · rw [decide_eq_false h]
    exact iteF (h2 h)
theorem ifN {p A B : Prop} [Decidable p] (h1 : ¬ p → A) (h2 : p → B) : if (!decide p) = true then A else B := by
  by_cases h : p
  · rw [decide_eq_true h]
    exact iteF (h2 h)
  · rw [decide_eq_false h]
    exact iteT (h1 h)
theorem ifB {b : Bool} {A B : Prop} (h1 : b = true → A) (h2 : b = false → B) : if b = true then A else B := by
  cases b with
  | true => exact iteT (h1 rfl)
  | false => exact iteF (h2 rfl)
end LM
namespace LM
open PySem PySem.Spec PyProof.Rows L2
/-- both ways of a conditional expression hand on a value with P, the heap as it was -/
theorem if_join {p : Prop} [Decidable p] {ta tb : TE} {σ : L2.St} {H : Hp} {Q : VK} (P : V → Prop) (h1 : p → ∀ Q' : VK, (∀ v, P v → Q' v H) → ta σ H Q') (h2 : ¬ p → ∀ Q' : VK, (∀ v, P v → Q' v H) → tb σ H Q') (k : ∀ v, P v → Q v H) :
    if decide p = true then ta σ H Q else tb σ H Q := ifD (fun h => h1 h Q k) (fun h => h2 h Q k)
theorem Same.of_new {H H' : Hp} {p : Addr} {o : HO} (s : Same H H') (h : H' p = none) : Same H (upd H' p o) := s.trans (same_new h)
theorem nat_of {i : Int} (h : 0 ≤ i) : ∃ j : Nat, i = (j : Int) := ⟨i.toNat, by omega⟩
theorem map_get {ns : List Int} {j : Nat} (h : j < ns.length) : (ns.map V.int)[j]? = some (V.int ns[j]) := by
  rw [List.getElem?_map, List.getElem?_eq_getElem h]
  rfl
/-- the vase stands at p, the rest is as it was -/
def Else (p : Addr) (H H' : Hp) : Prop := ∀ b o, b ≠ p → H b = some o → H' b = some o
theorem Else.refl (p : Addr) (H : Hp) : Else p H H := fun _ _ _ h => h
theorem Else.trans {p : Addr} {H H1 H2 : Hp} (a : Else p H H1) (b : Else p H1 H2) : Else p H H2 := fun c o n h => b c o n (a c o n h)
theorem Same.els {p : Addr} {H H' : Hp} (s : Same H H') : Else p H H' := fun c o _ h => s c o h
theorem Else.seq {K : PySem.W.Frag} {p : Addr} {H H' : Hp} {a : Addr} {xs : List V} (e : Else p H H') (n : a ≠ p) (h : SqL K H a xs) : SqL K H' a xs := by
  rcases h with (h | ⟨o, h⟩) | h
  · exact .inl (.inl (e _ _ n h))
  · exact .inl (.inr ⟨o, e _ _ n h⟩)
  · exact .inr h
theorem Same.seqT {K : PySem.W.Frag} {H H' : Hp} {a : Addr} {xs : List V} (e : Same H H') (h : SqT K H a xs) : SqT K H' a xs := by
  rcases h with (h | ⟨o, h⟩) | h
  · exact .inl (.inl (e _ _ h))
  · exact .inl (.inr ⟨o, e _ _ h⟩)
  · exact .inr h
theorem divW {n : Int} (h0 : 0 < n) (h1 : n < 2 ^ 220) (i : Int) : CDivP i n := by
  refine ⟨h0, ?_⟩
  have hl : n.natAbs.log2 < 220 := (Nat.log2_lt (by omega)).mpr (by
    have : ((2 : Int) ^ 220) = ((2 ^ 220 : Nat) : Int) := by decide
    omega)
  unfold Builtin.divisionGoesByPylong
  simp only [Bool.and_eq_false_imp, decide_eq_true_eq]
  intro h
  exfalso
  split at h <;> omega
end LM
namespace LM
open PySem PySem.Spec PyProof.Rows L2
theorem cut_to (xs : List V) (n : Nat) : cutV xs none (some (n : Int)) = xs.take n := by
  unfold cutV
  rw [HT.sIx_none, HT.sIx_nat, List.drop_zero, Nat.sub_zero]
  by_cases h : n ≤ xs.length
  · rw [Nat.min_eq_left h]
  · rw [Nat.min_eq_right (by omega), List.take_of_length_le (Nat.le_refl _), List.take_of_length_le (by omega)]
theorem cut_from (xs : List V) (n : Nat) : cutV xs (some (n : Int)) none = xs.drop n := by
  unfold cutV
  rw [HT.sIx_none, HT.sIx_nat]
  by_cases h : n ≤ xs.length
  · rw [Nat.min_eq_left h, List.take_of_length_le (by rw [List.length_drop]; exact Nat.le_refl _)]
  · rw [Nat.min_eq_right (by omega), List.drop_eq_nil_of_le (Nat.le_refl _), List.drop_eq_nil_of_le (by omega), List.take_nil]
theorem sIx_last (n d : Nat) : HT.sIx n d (some (-1)) = n - 1 := by
  show (if (-1 : Int) < 0 then (-1 + (n : Int)).toNat else min (-1 : Int).toNat n) = n - 1
  rw [if_pos (by decide)]
  omega
theorem cut_but (xs : List V) : cutV xs none (some (-1)) = xs.dropLast := by
  unfold cutV
  rw [HT.sIx_none, sIx_last, List.drop_zero, Nat.sub_zero, List.dropLast_eq_take]
theorem cut_fb (xs : List V) (n : Nat) (h : n + 1 ≤ xs.length) : cutV xs (some (n : Int)) (some (-1)) = xs.dropLast.drop n := by
  unfold cutV
  rw [HT.sIx_nat, sIx_last, Nat.min_eq_left (by omega), List.dropLast_eq_take, List.drop_take]
theorem cut_ft (xs : List V) (a b : Nat) (hb : b ≤ xs.length) (hab : a ≤ b) : cutV xs (some (a : Int)) (some (b : Int)) = (xs.drop a).take (b - a) := by
  unfold cutV
  rw [HT.sIx_nat, HT.sIx_nat, Nat.min_eq_left hb, Nat.min_eq_left (by omega)]
/-- a new list, what is known of it -/
theorem lst_new {H : Hp} {xs : List V} {Q : V → Hp → Prop} (h : ∀ p H', H p = none → Same H H' → H' p = some (.lst xs) → Q (.ref p) H') : ∀ p, H p = none → Q (.ref p) (upd H p (.lst xs)) := fun p n => h p _ n (same_new n) upd_same
theorem tup_new {H : Hp} {xs : List V} {Q : V → Hp → Prop} (h : ∀ p H', H p = none → Same H H' → H' p = some (.tup xs) → Q (.ref p) H') : ∀ p, H p = none → Q (.ref p) (upd H p (.tup xs)) := fun p n => h p _ n (same_new n) upd_same
theorem small {n : Nat} (h : n ≤ 1000000) : n ≤ sizeLine := Nat.le_trans h (by decide)
theorem smallLt {n : Nat} (h : n ≤ 1000000) : n < sizeLine := Nat.lt_of_le_of_lt h (by decide)
theorem SqL.lst {K : PySem.W.Frag} {H : Hp} {a : Addr} {xs : List V} (h : H a = some (.lst xs)) : SqL K H a xs := .inl (.inl h)
theorem SqT.tup {K : PySem.W.Frag} {H : Hp} {a : Addr} {xs : List V} (h : H a = some (.tup xs)) : SqT K H a xs := .inl (.inl h)
end LM
namespace LM
theorem idP {p : Prop} (h : p) : p := h
end LM
namespace LM
open PySem PySem.Spec PyProof.Rows L2
theorem pe_const {X : Cx} {x : Str} {pos : Pos} {i : Int} (hg : Gl X x) (h : ∃ t, X.mg x = some (.int i t)) (hdb : (x == ("__debug__" : Str)) = false := by decide) : PE X (.Name x pos) (tC (.int i)) := by
  obtain ⟨t, e⟩ := h
  exact pe_glob hg e ⟨t, rfl⟩ hdb
theorem pe_ty {X : Cx} {x : Str} {pos : Pos} (T : String) (hg : Gl X x) (hm : X.mg x = none) (hv : bootBuiltins x = some (.type T)) (hn : x ≠ "__name__" := by decide) (hdb : (x == ("__debug__" : Str)) = false := by decide) : PE X (.Name x pos) (tC (.ty T)) :=
  pe_bltn hg hm hv rfl hn hdb
end LM

set_option Elab.async false
set_option linter.all false
set_option maxRecDepth 100000
set_option maxHeartbeats 4000000
namespace LM
open PySem PySem.Spec PyProof.Rows L2

/-! ### any(xs) of a list of ints -/
theorem nz_range : ∀ ks : List Int, (List.range ks.length).any (fun j => decide (ks.getD j 0 ≠ 0)) = ks.any (fun k => decide (k ≠ 0))
  | [] => rfl
  | k :: ks => by
    rw [List.length_cons, List.range_succ_eq_map, List.any_cons, List.any_map, List.any_cons, ← nz_range ks]
    all_goals rfl
theorem truth_nums {prog : Program} {w : World} {A : Around} {ks : List Int} {vs : List Value} (e : Vals (ks.map V.int) vs) :
    TruthOf prog w A (fun j v => vs.toArray[j]? = some v) (fun j => decide (ks.getD j 0 ≠ 0)) := fun j v s Q E hv hq => by
  have hv' : vs[j]? = some v := by simpa using hv
  have hl : (ks.map V.int).length = vs.length := e.length
  have hj : j < ks.length := by
    have := (List.getElem?_eq_some_iff.mp hv').1
    rw [← hl, List.length_map] at this
    exact this
  have hk : (ks.map V.int)[j]? = some (V.int ks[j]) := by rw [List.getElem?_map, List.getElem?_eq_getElem hj]; rfl
  obtain ⟨u, hu, ru⟩ := e.get hk
  rw [hv'] at hu
  cases hu
  obtain ⟨t, rfl⟩ := ru
  have hg : ks.getD j 0 = ks[j] := by rw [List.getD_eq_getElem?_getD, List.getElem?_eq_getElem hj]; rfl
  have hq' : Q (decide (ks.getD j 0 ≠ 0)) s := hq
  rw [hg] at hq'
  have eb : decide (ks[j] ≠ 0) = (ks[j] != 0) := by
    by_cases z : ks[j] = 0
    · rw [z]; rfl
    · rw [decide_eq_true z]; exact (bne_iff_ne.mpr z).symm
  rw [eb] at hq'
  first | exact PyProof.Rows.truthy_int hq' | exact PySem.P.truthy_int hq'
def rAnyI (K : PySem.W.Frag) : List V → Hp → VK → Prop := fun vs H Q => ∃ (a : Addr) (ks : List Int), vs = [V.ref a] ∧ SqL K H a (ks.map V.int) ∧ Q (.bl (ks.any fun k => decide (k ≠ 0))) H
theorem cr_anyI {X : Cx} (hc : X.calm = true) : CallR X (.builtin "any") (rAnyI X.K) := by
  intro pins s σ H vs us Q I r h
  obtain ⟨a, ks, rfl, hs, q⟩ := h
  obtain ⟨its, rv, hl, _⟩ := I.list hs
  rw [Vals.ref1 r]
  have hlen : (ks.map V.int).length = its.length := rv.length
  refine call_any_walk (iter_any hl.isList fun s2 e2 st hne => ?_)
  subst e2
  refine ⟨_, _, _, _, _, _, _, rfl, Walks.list (A := X.A.in1) (I.ok.hd hc) _ a hne its.toArray, st, truth_nums rv, fun h' tk hk => ?_⟩
  refine ⟨.bl _, H, I.kept fun b o eo => hk b o (fun hm => ?_) (Heap.get?_push_of_some _ eo), ?_, q⟩
  · rcases List.mem_cons.mp hm with z | hm
    · exact absurd (z ▸ Heap.lt_size eo) (Nat.lt_irrefl _)
    · cases hm
  · show Value.bool _ = Value.bool _
    rw [← nz_range, List.size_toArray, ← hlen, List.length_map]

/-! ### math.lcm -/
def rLcm : List V → Hp → VK → Prop := fun vs H Q => ∃ a b : Int, vs = [.int a, .int b] ∧ a.natAbs < 2 ^ 30 ∧ b.natAbs < 2 ^ 30 ∧ Q (.int ((Nat.lcm a.natAbs b.natAbs : Nat) : Int)) H
theorem lcm_small {a b : Nat} (ha : a < 2 ^ 30) (hb : b < 2 ^ 30) : (Nat.lcm a b).log2 < 60 := by
  have h1 : Nat.lcm a b ≤ a * b := by
    rcases Nat.eq_zero_or_pos (a * b) with z | z
    · have e : Nat.lcm a b = 0 := by
        unfold Nat.lcm
        rw [z, Nat.zero_div]
      omega
    · exact Nat.le_of_dvd z (Nat.lcm_dvd (Nat.dvd_mul_right a b) (Nat.dvd_mul_left b a))
  have h2 : a * b < 2 ^ 30 * 2 ^ 30 := Nat.lt_of_le_of_lt (Nat.mul_le_mul_right b (Nat.le_of_lt ha)) (Nat.mul_lt_mul_of_pos_left hb (by decide))
  have h3 : Nat.lcm a b < 2 ^ 60 := by
    have : (2 : Nat) ^ 30 * 2 ^ 30 = 2 ^ 60 := by decide
    omega
  rcases Nat.eq_zero_or_pos (Nat.lcm a b) with z | z
  · rw [z]; decide
  · exact (Nat.log2_lt (by omega)).mpr h3
theorem cr_lcm {X : Cx} : CallR X (.builtin "math.lcm") rLcm := by
  intro pins s σ H vs us Q I r h
  obtain ⟨a, b, rfl, ha, hb, q⟩ := h
  obtain ⟨t, u, rfl⟩ := Vals.int2 r
  have e1 : (Nat.lcm 1 a.natAbs) = a.natAbs := Nat.lcm_one_left _
  have hs : (((((Nat.lcm 1 a.natAbs).lcm b.natAbs : Nat) : Int)).natAbs).log2 < bitsLine := by
    rw [e1, Int.natAbs_natCast]
    exact Nat.lt_trans (lcm_small ha hb) (by decide)
  refine PySem.W.mg_lcm (Nat.lt_trans ha (by decide)) (Nat.lt_trans hb (by decide)) hs ?_
  rw [e1]
  exact ⟨.int _, H, I.tok _, ⟨_, rfl⟩, q⟩

/-! ### a *= b -/
theorem ip_mul {X : Cx} : PIp X .Mult (rI CMul fun i j => .int (i * j)) := fun pins s σ H x y v u Q I rx ry h => iop_mul pins s σ H x y v u Q I rx ry h

/-! ### enumerate(t), t a tuple -/
theorem enumT_new {v : Value} {o : Obj} {J : Heap → Prop} (B : Begins v o J) :
    Meets (Builtin.«enumerate.__new__» ⟨[.type "enumerate", v], []⟩) (fun _ R s => J s.heap ∧
      R (.ok (.ret (.ref (s.heap.push o).objs.size))) { s with heap := (s.heap.push o).push { cls := .type "enumerate", data := .fields #[.none, .bool false, .ref s.heap.objs.size, rawInt 0, .none, .none] } }) :=
  .of_wp fun prog w A R s h => by
    obtain ⟨hp, gs, dr, tk, os⟩ := s
    obtain ⟨hj, hr⟩ := h
    have hsub := sub_enumerate
    have go : ∀ {A' : Around} {E Q : Value → Shared → Prop}, Q (.ref hp.objs.size) ⟨hp.push o, gs, dr, tk, os⟩ → wpAny (model prog w) A' (pyIter v) Q E ⟨hp, gs, dr, tk, os⟩ :=
      fun q => B.iter prog w _ _ ⟨hp, gs, dr, tk, os⟩ _ hj q
    wp_walk using go
    refine wpAny_stack_any fun st => wpAny_pure ?_
    split
    · rename_i c _ _ _ _ _
      cases (c == Value.type "enumerate") <;> (wp_walk using go; exact ⟨_, rfl, hr⟩)
    · wp_walk using go
      exact ⟨_, rfl, hr⟩
theorem enumT_call {prog : Program} {w : World} {A : Around} {E : Value → Shared → Prop} {s : Shared} {v : Value} {o : Obj} {J : Heap → Prop} {Q : Value → Shared → Prop} (B : Begins v o J) (hj : J s.heap)
    (h : ∀ h', IsEnum h' (s.heap.objs.size + 1) s.heap.objs.size 0 .none → h'.get? s.heap.objs.size = some o → (∀ b u, s.heap.get? b = some u → h'.get? b = some u) → Q (.ref (s.heap.objs.size + 1)) { s with heap := h' }) :
    wpAny (model prog w) A (call (.type "enumerate") [v]) Q E s := by
  refine callType_new F.called_enumerate (by decide) (F.typeCall_enumerate_1 _) (F.newCall_enumerate_1 _) (fun obj => F.args_object_init_2 obj _) F.entry_enumerate_new (enumT_new B) ⟨hj, ?_⟩
  have z : (s.heap.push o).objs.size = s.heap.objs.size + 1 := Heap.size_push ..
  show _ ∧ _
  rw [z]
  have he : IsEnum ((s.heap.push o).push { cls := .type "enumerate", data := .fields #[.none, .bool false, .ref s.heap.objs.size, rawInt 0, .none, .none] }) (s.heap.objs.size + 1) s.heap.objs.size 0 .none := by
    have y := Heap.get?_push_size (s.heap.push o) (o := { cls := .type "enumerate", data := .fields #[.none, .bool false, .ref s.heap.objs.size, rawInt 0, .none, .none] }) rfl
    rw [z] at y
    exact y
  exact ⟨⟨_, he, rfl⟩, h _ he (Heap.get?_push_of_some _ (Heap.get?_push_size _ B.free)) fun b u x => Heap.get?_push_of_some _ (Heap.get?_push_of_some _ x)⟩
/-- the tuple at a, each item in a new pair with its index -/
def IteT (K : PySem.W.Frag) (a : Addr) : It :=
  ⟨fun i H => ∃ (xs : List V) (x : V), SqT K H a xs ∧ xs[i]? = some x,
   fun i H v H' => ∃ T x, v = .ref T ∧ H T = none ∧ H' = upd H T (.tup [.int (i : Nat), x]) ∧ ∀ xs, SqT K H a xs → xs[i]? = some x,
   fun i H => ∃ xs : List V, SqT K H a xs ∧ xs.length ≤ i⟩
theorem turn_enumT {P : Program} {w : World} {K : PySem.W.Frag} {elts : List Expr} {kk : Nat} {tpos : Pos} (a e it : Addr) (hai : a ≠ it) (hae : a ≠ e) :
    Turn P w K (.Tuple elts kk tpos) (IteT K a) [e, it] e (fun i h => (∃ old, IsEnum h e it ((i : Nat) : Int) old) ∧ h.IsTupleIter it a i ∧ e ≠ it) where
  mem := by simp
  obj := fun i h st b hb => by
    obtain ⟨⟨old, he⟩, ⟨o, ho, hc, hd⟩, _⟩ := st
    rcases (show b = e ∨ b = it by simpa using hb) with z | z
    · rw [z]
      exact ⟨_, he, fun v q => nomatch q⟩
    · rw [z]
      exact ⟨o, ho, fun v q => by rw [hd] at q; cases q⟩
  keep := fun i h h' st k => by
    obtain ⟨⟨old, he⟩, hi, hne⟩ := st
    exact ⟨⟨old, k e (by simp) _ he⟩, hi.at fun o q => k it (by simp) o q, hne⟩
  item := by
    intro X hP hw hK hc i pins s σ H E I hf st hg
    subst hP hw hK
    obtain ⟨⟨old, he⟩, hit, hne⟩ := st
    obtain ⟨xs, x, hq, hx⟩ := hg
    obtain ⟨its, rv, p, hz⟩ := I.tuple hq
    obtain ⟨u, hu, ru⟩ := rv.get hx
    have hel : e < s.heap.objs.size := Heap.lt_size he
    have hil : it < s.heap.objs.size := by obtain ⟨_, q, _⟩ := hit; exact Heap.lt_size q
    have D := Draws.tuple (prog := X.prog) (w := X.w) (A := X.A.in1) (I.ok.hd hc) it a hai its.toArray
    have hlt : i < its.toArray.size := by
      have := (List.getElem?_eq_some_iff.mp hu).1
      simpa using this
    refine wpAny_pyNext_enum_itemD D he ⟨hit, show s.heap.IsTuple a its.toArray from p⟩ hlt hne (fun hm => ?_) fun y h' tk hy ho hst hT hsz hk => ?_
    · rcases (show e = it ∨ e = a by simpa using hm) with z | z
      · exact hne z
      · exact hae z.symm
    have ey : y = u := by
      have h1 : its.toArray[i]? = some y := hy
      have h2 : its[i]? = some y := by simpa using h1
      exact Option.some.inj (h2.symm.trans hu)
    subst ey
    refine ⟨_, rfl, wpAny_letOwnedTupleGo_enum (s := { s with heap := h', toks := tk + 1 }) ho fun h2 he2 sb => ?_⟩
    have hT2 : h2.get? s.heap.objs.size = some { cls := .type "tuple", data := .seq #[.int i tk, y] } := (sb.2 _ (Nat.ne_of_gt hel)).trans hT
    have new : ObjOk X.prog X.w (upd H s.heap.objs.size (.tup [.int (i : Nat), x])) h2 s.heap.objs.size (.tup [.int (i : Nat), x]) :=
      ⟨by show 2 ≤ sizeLine; decide, [.int i tk, y], .cons ⟨_, rfl⟩ (.cons ru .nil), ⟨_, hT2, rfl, _, rfl⟩⟩
    have J : Inv X pins σ (upd H s.heap.objs.size (.tup [.int (i : Nat), x])) { s with heap := h2, toks := tk + 1 } :=
      I.turnedNew (ch := [e, it]) (fun b ob hb q => (sb.2 b (fun z => hb (by simp [z]))).trans (hk b ob (fun z => hb (by simp [z])) (fun z => hb (by simp [z])) q)) hf (Nat.le_refl _) new
    refine ⟨.ref s.heap.objs.size, _, J, rfl, ⟨_, x, rfl, I.hok.fresh (Nat.le_refl _), rfl, fun ys hys => by rw [I.tuple_inj hys hq]; exact hx⟩, ⟨⟨y, ?_⟩, hst.1.at fun o q => (sb.2 it (Ne.symm hne)).trans q, hne⟩, fun b hb => ?_⟩
    · have e1 : ((i + 1 : Nat) : Int) = (i : Int) + 1 := by omega
      rw [e1]
      exact he2
    · have hb' : b < s.heap.objs.size := by
        rcases (show b = e ∨ b = it by simpa using hb) with z | z
        · rw [z]; exact hel
        · rw [z]; exact hil
      rw [upd_ne (Nat.ne_of_lt hb')]
      exact (hf b hb).1
  done := by
    intro X hP hw hK hc i pins s σ H E I hf st hg
    subst hP hw hK
    obtain ⟨⟨old, he⟩, hit, hne⟩ := st
    obtain ⟨xs, hq, hx⟩ := hg
    obtain ⟨its, rv, p, hz⟩ := I.tuple hq
    obtain ⟨f0, f1, f2, f3, f4, f5⟩ := hf it (by simp)
    have hl := rv.length
    have D := Draws.tuple (prog := X.prog) (w := X.w) (A := X.A.in1) (I.ok.hd hc) it a hai its.toArray
    have hT : s.TypeIs (.ref e) "enumerate" := ⟨_, he, rfl⟩
    unfold pyNext
    refine wpAny_bind (wpAny_attempt (wpAny_callSpecial?_slot (name := Str.ofString "__next__") hT F.slot_enumerate_next
      (wpAny_call_entry F.slot_enumerate_next hT F.entry_enumerate_next ?_ (F.args_enumerate_next_1 _))))
    show wpAny _ _ (field (.ref e) 2 >>= _) _ _ _
    refine wpAny_bind (wpAny_field he rfl (x := .ref it) rfl ?_)
    refine wpAny_bind (wpAny_nextOf_tuple_end (I.ok.hd hc) hit (show s.heap.IsTuple a its.toArray from p) (by simp; omega) fun h' y hy hy' => ?_)
    obtain ⟨o, ho, hcl⟩ := hy'
    refine wpAny_bind (wpAny_isInstance (T := "StopIteration") (b := true) ⟨o, ho, hcl⟩ isSubtype_stop ?_)
    exact wpAny_pure ⟨rfl, I.turned (t' := s.toks) (fun b o hb q => hy b o hb q) f0 f1 f3 f4 f5⟩
  self := fun A i s Q E st h => by
    obtain ⟨⟨_, he⟩, _⟩ := st
    exact wpAny_pyIter_enum he h
def iEnumT (K : PySem.W.Frag) (ta : TA) : TI := fun σ H R => ta σ H fun vs H1 => ∃ a xs, vs = [.ref a] ∧ SqT K H1 a xs ∧ R (IteT K a) H1
theorem pi_enumT {X : Cx} {e : Expr} {ta : TA} {p pos tpos : Pos} {elts : List Expr} {kk : Nat} (hg : Gl X "enumerate") (hm : X.mg "enumerate" = none) (ha : PA X [e] ta) (hs : starEach [e] X.env = [(false, eval e X.env)] := by rfl) :
    PI X (.Tuple elts kk tpos) (.Call (.Name "enumerate" p) [e] [] pos) (iEnumT X.K ta) := by
  refine ⟨fun pins s σ H R I h => ?_⟩
  refine Call_ (ld_blt I hg hm boot_enumerate (PyProof.Rows.callWith_type1 (thn (ha.run pos pins s σ H _ I h) fun us s1 ⟨vs, H1, I1, r1, q1⟩ => ?_) hs rfl))
  obtain ⟨a, xs, ex, hq, q⟩ := q1
  subst ex
  rw [Vals.ref1 r1]
  obtain ⟨its, rv, tp, hz⟩ := I1.tuple hq
  have hla : a < s1.heap.objs.size := by obtain ⟨o, ho, _⟩ := tp; exact Heap.lt_size ho
  refine enumT_call (begins_tuple a its.toArray) (show s1.heap.IsTuple a its.toArray from tp) fun h' he hit hk => wpAny_pyIter_enum he ?_
  have I2 : Inv X pins σ H1 { s1 with heap := h' } := I1.kept (t' := s1.toks) hk
  refine ⟨s1.heap.objs.size + 1, [s1.heap.objs.size + 1, s1.heap.objs.size], _, _, H1, rfl, I2, turn_enumT a (s1.heap.objs.size + 1) s1.heap.objs.size (Nat.ne_of_lt hla) (Nat.ne_of_lt (Nat.lt_succ_of_lt hla)), ⟨⟨.none, he⟩, ⟨_, hit, rfl, rfl⟩, Nat.succ_ne_self _⟩, fun b hb => ?_, q⟩
  have hle : s1.heap.objs.size ≤ b := by
    rcases (show b = s1.heap.objs.size + 1 ∨ b = s1.heap.objs.size by simpa using hb) with z | z
    · rw [z]; exact Nat.le_add_right _ _
    · rw [z]; exact Nat.le_refl _
  exact I1.fpOk hle (I1.hok.fresh hle)
theorem for_enumT {K : PySem.W.Frag} {a : Addr} {xs : List V} {g : TG} {tb : TS} {D : Ends} {σ : L2.St} {H : Hp} (Pv : Nat → L2.St → Hp → Prop) (h0 : Pv 0 σ H) (hl : ∀ i σ H, i ≤ xs.length → Pv i σ H → SqT K H a xs)
    (hs : ∀ i x T σ H, xs[i]? = some x → H T = none → Pv i σ H → g (.ref T) σ (upd H T (.tup [.int (i : Nat), x])) fun σ2 H2 => tb { D with nx := Pv (i + 1), ct := Pv (i + 1), bk := D.nx } σ2 H2) (hd : ∀ σ H, Pv xs.length σ H → D.nx σ H) :
    ∃ W : Nat → Nat → L2.St → Hp → Prop, (∃ m, W 0 m σ H) ∧ ∀ i m σ H, W i m σ H →
      ((IteT K a).stop i H ∧ D.nx σ H) ∨ ((IteT K a).go i H ∧ ∃ N : L2.St → Hp → Prop, (∀ σ' H', N σ' H' → ∃ m', m' < m ∧ W (i + 1) m' σ' H') ∧ ∀ x H', (IteT K a).yld i H x H' → g x σ H' fun σ2 H2 => tb { D with nx := N, ct := N, bk := D.nx } σ2 H2) := by
  refine ⟨fun i m σ H => m = xs.length - i ∧ i ≤ xs.length ∧ Pv i σ H, ⟨xs.length, by simp, Nat.zero_le _, h0⟩, ?_⟩
  rintro i m σ H ⟨rfl, hi, p⟩
  have q := hl i σ H hi p
  by_cases hlt : i < xs.length
  · refine .inr ⟨⟨xs, xs[i], q, by simp [hlt]⟩, Pv (i + 1), fun σ' H' p' => ⟨xs.length - (i + 1), by omega, rfl, hlt, p'⟩, fun v H' y => ?_⟩
    obtain ⟨T, x, rfl, nT, rfl, f⟩ := y
    exact hs i x T σ H (f xs q) nT p
  · have e : i = xs.length := by omega
    subst e
    exact .inl ⟨⟨xs, q, Nat.le_refl _⟩, hd σ H p⟩
end LM
namespace LM
open PySem PySem.Spec PyProof.Rows L2
theorem hu64 {k : Nat} {A : Around} (hr : Room k A) : A.units + 64 < cLine := by
  have := hr.units
  omega
theorem dp_ints {K : PySem.W.Frag} {H : Hp} : ∀ ns : List Int, DpAll K H (ns.map V.int) (ns.map PyData.int)
  | [] => .nil
  | n :: ns => .cons (.int n) (dp_ints ns)
theorem lay_ints : ∀ ns : List Int, PyData.canLayAll0 (ns.map PyData.int) = true
  | [] => by simp [PyData.canLayAll0]
  | n :: ns => by simp [PyData.canLayAll0, PyData.canLay0, lay_ints ns]
theorem dep_ints : ∀ ns : List Int, PyData.depthAll (ns.map PyData.int) = 0
  | [] => by simp [PyData.depthAll]
  | n :: ns => by simp [PyData.depthAll, PyData.depth, dep_ints ns]
theorem shaped_ints (ns : List Int) : SeqAt.shaped (.list (ns.map PyData.int)) = true := by
  unfold SeqAt.shaped
  rw [PyData.canLay0, lay_ints, PyData.depth, dep_ints]
  rfl
theorem shaped_intsT (ns : List Int) : SeqAt.shaped (.tuple (ns.map PyData.int)) = true := by
  unfold SeqAt.shaped
  rw [PyData.canLay0, lay_ints, PyData.depth, dep_ints]
  rfl
/-- two lists of ints, two tuples of ints compared -/
def rEqIs (K : PySem.W.Frag) : R2 := fun x y H Q => ∃ (a b : Addr) (ns ms : List Int), x = .ref a ∧ y = .ref b ∧ ((SqL K H a (ns.map V.int) ∧ SqL K H b (ms.map V.int)) ∨ (SqT K H a (ns.map V.int) ∧ SqT K H b (ms.map V.int))) ∧ Q (.bl (decide (ns = ms))) H
theorem op_eqIs {X : Cx} (hu : X.A.units + 64 < cLine) : OpR X (compareOp .Eq) (rEqIs X.K) := by
  intro pins s σ H x y v u Q I rx ry h
  obtain ⟨a, b, ns, ms, rfl, rfl, h1, q⟩ := h
  rcases h1 with ⟨h1, h2⟩ | ⟨h1, h2⟩
  · refine op_eqD hu pins s σ H _ _ v u Q I rx ry ⟨.list (ns.map .int), .list (ms.map .int), .lst h1 (dp_ints ns), .lst h2 (dp_ints ms), shaped_ints ns, shaped_ints ms, ?_⟩
    rw [PyData.eqv, PySem.W.ked_eqvAll]
    exact q
  · refine op_eqD hu pins s σ H _ _ v u Q I rx ry ⟨.tuple (ns.map .int), .tuple (ms.map .int), .tup h1 (dp_ints ns), .tup h2 (dp_ints ms), shaped_intsT ns, shaped_intsT ms, ?_⟩
    rw [PyData.eqv, PySem.W.ked_eqvAll]
    exact q
def rNeIs (K : PySem.W.Frag) : R2 := fun x y H Q => ∃ (a b : Addr) (ns ms : List Int), x = .ref a ∧ y = .ref b ∧ ((SqL K H a (ns.map V.int) ∧ SqL K H b (ms.map V.int)) ∨ (SqT K H a (ns.map V.int) ∧ SqT K H b (ms.map V.int))) ∧ Q (.bl (!decide (ns = ms))) H
theorem op_neIs {X : Cx} (hu : X.A.units + 64 < cLine) : OpR X (compareOp .NotEq) (rNeIs X.K) := by
  intro pins s σ H x y v u Q I rx ry h
  obtain ⟨a, b, ns, ms, rfl, rfl, h1, q⟩ := h
  rcases h1 with ⟨h1, h2⟩ | ⟨h1, h2⟩
  · refine op_neD hu pins s σ H _ _ v u Q I rx ry ⟨.list (ns.map .int), .list (ms.map .int), .lst h1 (dp_ints ns), .lst h2 (dp_ints ms), shaped_ints ns, shaped_ints ms, ?_⟩
    rw [PyData.eqv, PySem.W.ked_eqvAll]
    exact q
  · refine op_neD hu pins s σ H _ _ v u Q I rx ry ⟨.tuple (ns.map .int), .tuple (ms.map .int), .tup h1 (dp_ints ns), .tup h2 (dp_ints ms), shaped_intsT ns, shaped_intsT ms, ?_⟩
    rw [PyData.eqv, PySem.W.ked_eqvAll]
    exact q
end LM

set_option Elab.async false
set_option linter.all false
set_option maxRecDepth 100000
set_option maxHeartbeats 4000000
namespace LM
open PySem PySem.Spec PyProof.Rows L2
local macro_rules | `(tactic| walk_at "hp") => `(tactic| first | assumption | exact upd_same | (rw [upd_ne (by assumption)]; assumption) | (rw [upd_ne (Ne.symm (by assumption))]; assumption) | (rw [upd_ne (by assumption)]; exact upd_same) | (rw [upd_ne (Ne.symm (by assumption))]; exact upd_same))
local macro_rules | `(tactic| walk_at "sq") => `(tactic| first | assumption | exact Or.inl (Or.inl (by assumption)) | exact Or.inl (Or.inl upd_same) | exact Or.inl (Or.inl (by walk_at "hp")))
local macro_rules | `(tactic| walk_at "ixl") => `(tactic| refine ⟨_, _, _, _, rfl, rfl, (by walk_at "sq"), (by rfl), ?_⟩)
local macro_rules | `(tactic| walk_at "setl") => `(tactic| refine ⟨_, _, _, _, rfl, rfl, (by walk_at "hp"), (by rfl), ?_⟩)
local macro_rules | `(tactic| walk_at "side") => `(tactic| refine idP ?_; first | omega | (show (0 : Int) < _; omega) | (show (0 : Int) < _ ∧ _ < _; omega) | (refine Or.inr ?_; show (-(2 ^ 64) : Int) < _ ∧ _ < _; omega) | (refine Or.inl ?_; show (-(2 ^ 64) : Int) < _ ∧ _ < _; omega) | exact divW (by omega) (by omega) _ | (refine ⟨by decide, by decide, ?_⟩; decide))
local macro_rules | `(tactic| walk_at "go1") => `(tactic| first
  | refine ⟨_, rfl, ?_⟩
  | refine ⟨_, _, rfl, rfl, (by walk_at "side"), ?_⟩
  | refine ⟨_, _, rfl, (by walk_at "side"), ?_⟩
  | refine ⟨_, _, rfl, rfl, ?_⟩
  | refine Or.inl ⟨_, rfl, ?_⟩
  | refine ⟨_, _, rfl, Or.inl (by walk_at "sq"), ?_⟩
  | walk_at "ixl"
  | walk_at "setl"
  | refine ⟨_, _, rfl, (by walk_at "sq"), rfl, ?_⟩
  | refine ⟨_, _, rfl, (by walk_at "sq"), ?_⟩
  | refine ⟨_, _, rfl, ?_⟩
  | refine ⟨rfl, ?_⟩
  | refine ⟨small (Nat.le_of_ble_eq_true rfl), ?_⟩)
local macro_rules | `(tactic| walk_at "go") => `(tactic| repeat walk_at "go1")

def topS (i : Nat) : Stmt := PySem.Challenge.pw_labelmoves_k43_lists_and_their_frames.main.body.getD i (.Pass ⟨0, 0, 0, 0⟩)
/-- the names of the built-ins that no def of the text takes -/
structure Names (mg : Str → Option Value) : Prop where
  len : mg "len" = none
  int : mg "int" = none
  str : mg "str" = none
  abs : mg "abs" = none
  divmod : mg "divmod" = none
  range : mg "range" = none
  any : mg "any" = none
  all : mg "all" = none
  sum : mg "sum" = none
  min : mg "min" = none
  max : mg "max" = none
  list : mg "list" = none
  tuple : mg "tuple" = none
  enumerate : mg "enumerate" = none
  reversed : mg "reversed" = none
  isinstance : mg "isinstance" = none
  bool : mg "bool" = none
  repr : mg "repr" = none
  zip : mg "zip" = none
  sorted : mg "sorted" = none
  set : mg "set" = none
  lcm : mg "lcm" = some (.builtin "math.lcm")
abbrev s_law_vase : Stmt := topS 61
theorem sc_law_vase : FnScope ["_law_cells", "_law_turn", "_law_cell", "_law_blend", "_law_each"] ["_law_cells", "_law_turn"] (defScope s_law_vase) := ⟨rfl, rfl, rfl, by decide +kernel, rfl, by decide +kernel, by decide +kernel⟩
abbrev s_law_pour : Stmt := topS 62
theorem sc_law_pour : FnScope ["_law_vase_here", "_law_top", "_law_digit"] ["_law_vase_here", "_law_top"] (defScope s_law_pour) := ⟨rfl, rfl, rfl, by decide +kernel, rfl, by decide +kernel, by decide +kernel⟩
abbrev s_law_pluck : Stmt := topS 63
theorem sc_law_pluck : FnScope ["_law_vase_here", "_law_menu"] ["_law_vase_here", "_law_menu"] (defScope s_law_pluck) := ⟨rfl, rfl, rfl, by decide +kernel, rfl, by decide +kernel, by decide +kernel⟩
/-- a vase at p: two numbers from 0 on, and a count -/
def VaseAt (H : Hp) (p : Addr) : Prop := ∃ a b c : Int, 0 ≤ a ∧ 0 ≤ b ∧ 0 ≤ c ∧ H p = some (.lst [.int a, .int b, .int c])
def spVase (K : PySem.W.Frag) : Sp := fun vs H Q _ => ∃ (a : Addr) (ns : List Int) (t : Nat), vs = [.ref a, .int t] ∧ SqL K H a (ns.map V.int) ∧ ns.length ≤ 63 ∧
  ∀ H' p, Same H H' → H p = none → VaseAt H' p → Q (.ref p) H'
def spPour : Sp := fun vs H Q _ => ∃ (p : Addr) (n : Int), vs = [.ref p, .int n] ∧ VaseAt H p ∧ 0 < n ∧ n < 2 ^ 220 ∧ ∀ (d : Int) H', 0 ≤ d → d < n → VaseAt H' p → Else p H H' → Q (.int d) H'
def spPluck (K : PySem.W.Frag) : Sp := fun vs H Q _ => ∃ (p m : Addr) (ys : List V), vs = [.ref p, .ref m] ∧ VaseAt H p ∧ m ≠ p ∧ SqL K H m ys ∧ 0 < ys.length ∧ ys.length ≤ 20000 ∧
  ∀ v H', v ∈ ys → VaseAt H' p → Else p H H' → Q v H'
section
variable {P : Program} {w : World} {K : PySem.W.Frag} {mg : Str → Option Value} {base : Heap}
theorem ok_vase {f : Addr} {fd : FuncData} (F : Fun K "_law_vase" "_law_vase" s_law_vase f fd) (N : Names mg) : FnOk P w K mg base CX0 1 f fd ["_law_cells", "_law_turn"] (spVase K) := by
  have sc := sc_law_vase
  refine F.ok sc (fun vs H Q E h => ?_) (fun cdv A outer s H vs Q E hr h => ?_)
  · obtain ⟨a, ns, t, rfl, _⟩ := h
    rfl
  · obtain ⟨a, ns, t, rfl, hS, hl, k⟩ := h
    have hu := hu_of hr
    refine ⟨_, (pss_cons (ps_set (i := 2) sc.nd rfl (Or.inl rfl) (pe_ifExp (pt_cmpR op_lt (pv 1) (pe_callB call_len_seq (by rfl) N.len (by decide +kernel) (pa_cons (pv 0) pa_nil)) (nomark _)) (pe_ix ix_list (pv 0) (pv 1) (fun _ _ => rfl)) (pe_op op_add (pe_op op_mul pe_int (pv 1)) pe_int)))
      (pss_cons (ps_set (i := 3) sc.nd rfl (Or.inl rfl) (pe_op op_add pe_int (pe_op op_mul pe_int (pv 1))))
      (pss_cons (ps_for PassesOwn.never rfl (pi_list (pe_op op_cat (pe_slice sl_list (pv 0) po_none (po_some pe_int)) (pe_lst (pa_cons (pv 2) pa_nil)))) (pg_name (i := 4) sc.nd rfl (Or.inl rfl)) (pss_one (ps_set (i := 3) sc.nd rfl (Or.inl rfl) (pe_op op_mod (pe_callTy (T := "int") call_int1 (by rfl) N.int (by decide +kernel) (pa_cons (pe_op op_add (pe_op op_mul (pv 3) pe_int) (pv 4)) pa_nil)) pe_int))))
      (pss_one (ps_ret (pe_lst (pa_cons (pe_ifExp (PW.pt (pw_or (pt_cmpR op_lt (pv 2) pe_int (nomark _)) (pw_or1 (pt_cmpR op_ge (pv 2) (pe_op op_pow pe_int pe_int) (nomark _))))) (pe_callB call_abs (by rfl) N.abs (by decide +kernel) (pa_cons (pv 2) pa_nil)) pe_int) (pa_cons (pv 3) (pa_cons pe_int pa_nil))))))))), ?_⟩
    walk_at "go"
    refine if_join (fun v => ∃ c : Int, v = .int c) (fun hd Q' k' => ?_) (fun hd Q' k' => ?_) ?_
    · have ht : t < ns.length := by
        rw [List.length_map] at hd
        omega
      exact ⟨_, rfl, _, rfl, _, _, _, _, rfl, rfl, hS, atI_nat (map_get ht), k' _ ⟨_, rfl⟩⟩
    · walk_at "go"
      exact k' _ ⟨_, rfl⟩
    rintro v ⟨c, rfl⟩
    walk_at "go"
    (intro p1 n1; generalize e_p1 : upd H p1 _ = H1; have s1 : Same H H1 := fun b x hb => (congrFun e_p1 b).symm.trans (same_new n1 b x hb); have h1 := (congrFun e_p1 p1).symm.trans upd_same; clear e_p1)
    walk_at "go"
    (intro p2 n2; generalize e_p2 : upd H1 p2 _ = H2; have s2 : Same H1 H2 := fun b x hb => (congrFun e_p2 b).symm.trans (same_new n2 b x hb); have h2 := (congrFun e_p2 p2).symm.trans upd_same; clear e_p2)
    have h12 : H2 p1 = some (.lst ((ns.take 6).map V.int)) := by
      rw [s2 _ _ h1]
      exact congrArg (fun l => some (HO.lst l)) ((cut_to _ 6).trans List.map_take.symm)
    refine ⟨p1, p2, _, _, rfl, rfl, h12, h2, ?_, ?_⟩
    · exact small (by simp; omega)
    (intro p3 n3; generalize e_p3 : upd H2 p3 _ = H3; have s3 : Same H2 H3 := fun b x hb => (congrFun e_p3 b).symm.trans (same_new n3 b x hb); have h3 := (congrFun e_p3 p3).symm.trans upd_same; clear e_p3)
    have h3' : H3 p3 = some (.lst ((ns.take 6 ++ [c]).map V.int)) := by
      rw [h3, List.map_append]
      rfl
    have sa : Same H H3 := (s1.trans s2).trans s3
    refine ⟨p3, rfl, ⟨_, SqL.lst h3'⟩, for_list (K := K) (xs := (ns.take 6 ++ [c]).map V.int) (fun i σ H' => ∃ (b : Int) (v : Option V), 0 ≤ b ∧ σ = [some (.ref a), some (.int t), some (.int c), some (.int b), v] ∧ Same H H' ∧ H' p3 = some (.lst ((ns.take 6 ++ [c]).map V.int)))
      ⟨70003 + 7919 * (t : Int), none, by omega, rfl, sa, h3'⟩ (fun i σ H' _ ⟨b, v, _, _, _, e⟩ => SqL.lst e) ?_ ?_⟩
    · rintro i x σ H' hx ⟨b, v, hb, rfl, sm, e⟩
      obtain ⟨z, hz, rfl⟩ : ∃ z, (ns.take 6 ++ [c])[i]? = some z ∧ x = V.int z := by
        rw [List.getElem?_map] at hx
        obtain ⟨z, hz, e⟩ := Option.map_eq_some_iff.mp hx
        exact ⟨z, hz, e.symm⟩
      walk_at "go"
      exact ⟨_, _, Int.emod_nonneg _ (by decide), rfl, sm, e⟩
    · rintro σ H' ⟨b, v, hb, rfl, sm, e⟩
      have fin : ∀ x : Int, 0 ≤ x → ∀ p, H' p = none → Q (.ref p) (upd H' p (.lst [.int x, .int b, .int 0])) := fun x hx p n => k _ p (Same.of_new sm n) (sm.free n) ⟨x, b, 0, hx, hb, by omega, upd_same⟩
      walk_at "go"
      refine ifD (fun h1 => iteT ?_) (fun h1 => ?_)
      · walk_at "go"
        exact fin _ (by split <;> omega)
      · walk_at "go"
        refine ifD (fun h2 => ?_) (fun h2 => ?_)
        · walk_at "go"
          refine fin _ (by split <;> omega)
        · walk_at "go"
          refine fin _ (by omega)
theorem ok_pour {f : Addr} {fd : FuncData} (F : Fun K "_law_pour" "_law_pour" s_law_pour f fd) (N : Names mg) : FnOk P w K mg base CX0 1 f fd ["_law_vase_here", "_law_top"] spPour := by
  have sc := sc_law_pour
  refine F.ok sc (fun vs H Q E h => ?_) (fun cdv A outer s H vs Q E hr h => ?_)
  · obtain ⟨p, n, rfl, _⟩ := h
    rfl
  · obtain ⟨p, n, rfl, ⟨a, b, c, ha, hb, hc, hp⟩, h0, h1, k⟩ := h
    have hu := hu_of hr
    refine ⟨_, (pss_cons (ps_asg (pe_op op_add (pe_ix ix_list (pv 0) pe_int (fun _ _ => rfl)) pe_int) (pg_sub (pv 0) pe_int set_list))
      (pss_cons (ps_if (pt_cmpR op_gt (pe_ix ix_list (pv 0) pe_int (fun _ _ => rfl)) pe_int (nomark _)) (pss_cons (ps_asg (pe_callB call_divmodW (by rfl) N.divmod (by decide +kernel) (pa_cons (pe_ix ix_list (pv 0) pe_int (fun _ _ => rfl)) (pa_cons (pv 1) pa_nil))) (pg_tup rfl (pgs_cons (pg_sub (pv 0) pe_int set_list) (pgs_cons (pg_name (i := 2) sc.nd rfl (Or.inl rfl)) pgs_nil))))
      (pss_one (ps_ret (pv 2)))) pss_nil)
      (pss_cons (ps_asg (pe_op op_mod (pe_callTy (T := "int") call_int1 (by rfl) N.int (by decide +kernel) (pa_cons (pe_op op_add (pe_op op_mul (pe_ix ix_list (pv 0) pe_int (fun _ _ => rfl)) pe_int) (pe_op op_mul pe_int (pe_ix ix_list (pv 0) pe_int (fun _ _ => rfl)))) pa_nil)) pe_int) (pg_sub (pv 0) pe_int set_list))
      (pss_one (ps_ret (pe_op op_mod (pe_callTy (T := "int") call_int1 (by rfl) N.int (by decide +kernel) (pa_cons (pe_op op_fdiv (pe_ix ix_list (pv 0) pe_int (fun _ _ => rfl)) pe_int) pa_nil)) (pv 1))))))), ?_⟩
    walk_at "go"
    refine ifD (fun hd => ?_) (fun hd => ?_)
    · walk_at "go"
      intro t ht
      have htp : t ≠ p := fun e => by rw [e, upd_same] at ht; cases ht
      have hbp : ∀ {x : Addr} {o : HO}, x ≠ p → H x = some o → x ≠ t := fun hx e => ne_of_none (by rw [upd_ne hx]; exact e) ht
      walk_at "go"
      refine k (a % n) _ (Int.emod_nonneg _ (by omega)) (Int.emod_lt_of_pos _ h0) ⟨a / n, b, c + 1, Int.ediv_nonneg ha (by omega), hb, by omega, upd_same⟩ (fun x o hx e => ?_)
      rw [upd_ne hx, upd_ne (hbp hx e), upd_ne hx]
      exact e
    · walk_at "go"
      refine k _ _ (Int.emod_nonneg _ (by omega)) (Int.emod_lt_of_pos _ h0) ⟨a, _, c + 1, ha, Int.emod_nonneg _ (by omega), by omega, upd_same⟩ (fun x o hx e => ?_)
      rw [upd_ne hx, upd_ne hx]
      exact e
theorem ok_pluck {f : Addr} {fd : FuncData} (F : Fun K "_law_pluck" "_law_pluck" s_law_pluck f fd) (N : Names mg) (D_law_pour : DefK P w K mg base "_law_pour" ["_law_vase_here", "_law_top"] 1 spPour) : FnOk P w K mg base CX0 2 f fd ["_law_vase_here", "_law_menu"] (spPluck K) := by
  have sc := sc_law_pluck
  refine F.ok sc (fun vs H Q E h => ?_) (fun cdv A outer s H vs Q E hr h => ?_)
  · obtain ⟨p, m, ys, rfl, _⟩ := h
    rfl
  · obtain ⟨p, m, ys, rfl, hv, hmp, hm, h0, h1, k⟩ := h
    refine ⟨_, (pss_one (ps_ret (pe_ix ix_list (pv 1) (pe_d D_law_pour (hr.mono (by decide)) rfl (pa_cons (pv 0) (pa_cons (pe_callB call_len_seq (by rfl) N.len (by decide +kernel) (pa_cons (pv 1) pa_nil)) pa_nil))) (fun _ _ => rfl)))), ?_⟩
    refine ⟨_, rfl, _, rfl, _, rfl, _, _, rfl, .inl hm, _, _, rfl, hv, by omega, by omega, fun d H' hd0 hd1 hv' he => ?_⟩
    obtain ⟨j, rfl⟩ := nat_of hd0
    have hj : j < ys.length := by omega
    exact ⟨_, _, _, _, rfl, rfl, he.seq hmp hm, atI_nat (List.getElem?_eq_getElem hj), k _ _ (List.getElem_mem hj) hv' he⟩
end
end LM

set_option Elab.async false
set_option linter.all false
set_option maxRecDepth 100000
set_option maxHeartbeats 4000000
namespace LM
open PySem PySem.Spec PyProof.Rows L2
local macro_rules | `(tactic| walk_at "hp") => `(tactic| first | assumption | exact upd_same | (rw [upd_ne (by assumption)]; assumption) | (rw [upd_ne (Ne.symm (by assumption))]; assumption) | (rw [upd_ne (by assumption)]; exact upd_same) | (rw [upd_ne (Ne.symm (by assumption))]; exact upd_same))
local macro_rules | `(tactic| walk_at "sq") => `(tactic| first | assumption | exact Or.inl (Or.inl (by assumption)) | exact Or.inl (Or.inl upd_same) | exact Or.inl (Or.inl (by walk_at "hp")))
local macro_rules | `(tactic| walk_at "ixl") => `(tactic| refine ⟨_, _, _, _, rfl, rfl, (by walk_at "sq"), (by rfl), ?_⟩)
local macro_rules | `(tactic| walk_at "setl") => `(tactic| refine ⟨_, _, _, _, rfl, rfl, (by walk_at "hp"), (by rfl), ?_⟩)
local macro_rules | `(tactic| walk_at "side") => `(tactic| refine idP ?_; first | omega | (show (0 : Int) < _; omega) | (show (0 : Int) < _ ∧ _ < _; omega) | (refine Or.inr ?_; show (-(2 ^ 64) : Int) < _ ∧ _ < _; omega) | (refine Or.inl ?_; show (-(2 ^ 64) : Int) < _ ∧ _ < _; omega) | exact divW (by omega) (by omega) _ | (refine ⟨by decide, by decide, ?_⟩; decide))
local macro_rules | `(tactic| walk_at "go1") => `(tactic| first
  | refine ⟨_, rfl, ?_⟩
  | refine ⟨_, _, rfl, rfl, (by walk_at "side"), ?_⟩
  | refine ⟨_, _, rfl, (by walk_at "side"), ?_⟩
  | refine ⟨_, _, rfl, rfl, ?_⟩
  | refine Or.inl ⟨_, rfl, ?_⟩
  | refine ⟨_, _, rfl, Or.inl (by walk_at "sq"), ?_⟩
  | walk_at "ixl"
  | walk_at "setl"
  | refine ⟨_, _, rfl, (by walk_at "sq"), rfl, ?_⟩
  | refine ⟨_, _, rfl, (by walk_at "sq"), ?_⟩
  | refine ⟨_, _, rfl, ?_⟩
  | refine ⟨rfl, ?_⟩
  | refine ⟨small (Nat.le_of_ble_eq_true rfl), ?_⟩)
local macro_rules | `(tactic| walk_at "go") => `(tactic| repeat walk_at "go1")

abbrev s_law_ground : Stmt := topS 66
theorem sc_law_ground : FnScope ["_law_vase_here", "_law_most", "_law_turn"] ["_law_vase_here", "_law_most"] (defScope s_law_ground) := ⟨rfl, rfl, rfl, by decide +kernel, rfl, by decide +kernel, by decide +kernel⟩
abbrev s_law_lanes : Stmt := topS 67
theorem sc_law_lanes : FnScope ["_law_vase_here", "_law_ground_here", "_law_found", "_law_turn", "_law_field", "_law_every"] ["_law_vase_here", "_law_ground_here"] (defScope s_law_lanes) := ⟨rfl, rfl, rfl, by decide +kernel, rfl, by decide +kernel, by decide +kernel⟩
abbrev R3 := Int × Int × Int
/-- at l a list of rows, each a list of three ints, none of it at p -/
def LanesAt (p : Addr) (H : Hp) (l : Addr) (rows : List R3) : Prop :=
  ∃ as : List Addr, l ≠ p ∧ (∀ a ∈ as, a ≠ p) ∧ H l = some (.lst (as.map V.ref)) ∧ Paired (fun a (r : R3) => H a = some (.lst [.int r.1, .int r.2.1, .int r.2.2])) as rows
theorem paired_imp {α β : Type} {F G : α → β → Prop} : ∀ {as : List α} {bs : List β}, Paired F as bs → (∀ a ∈ as, ∀ b, F a b → G a b) → Paired G as bs
  | _, _, .nil, _ => .nil
  | _, _, .cons r t, f => .cons (f _ List.mem_cons_self _ r) (paired_imp t fun a h => f a (List.mem_cons_of_mem _ h))
theorem paired_app {α β : Type} {F : α → β → Prop} : ∀ {as : List α} {bs : List β} {a : α} {b : β}, Paired F as bs → F a b → Paired F (as ++ [a]) (bs ++ [b])
  | _, _, _, _, .nil, h => .cons h .nil
  | _, _, _, _, .cons r t, h => .cons r (paired_app t h)
theorem paired_left {α β : Type} {F : α → β → Prop} : ∀ {as : List α} {bs : List β} {a : α}, Paired F as bs → a ∈ as → ∃ b, b ∈ bs ∧ F a b
  | _, _, _, .cons r t, h => by
    rcases List.mem_cons.mp h with e | h
    · exact ⟨_, List.mem_cons_self, e ▸ r⟩
    · obtain ⟨b, hb, f⟩ := paired_left t h
      exact ⟨b, List.mem_cons_of_mem _ hb, f⟩
theorem paired_at {α β : Type} {F : α → β → Prop} : ∀ {as : List α} {bs : List β} {i : Nat} {a : α}, Paired F as bs → as[i]? = some a → ∃ b, bs[i]? = some b ∧ F a b
  | _, _, 0, _, .cons r _, h => by
    simp at h
    exact ⟨_, rfl, h ▸ r⟩
  | _, _, i + 1, _, .cons _ t, h => by
    obtain ⟨b, hb, f⟩ := paired_at (i := i) t (by simpa using h)
    exact ⟨b, by simpa using hb, f⟩
theorem LanesAt.els {p l : Addr} {H H' : Hp} {rows : List R3} (h : LanesAt p H l rows) (e : Else p H H') : LanesAt p H' l rows := by
  obtain ⟨as, hl, ha, e1, e2⟩ := h
  exact ⟨as, hl, ha, e _ _ hl e1, paired_imp e2 fun a m r q => e _ _ (ha a m) q⟩
theorem LanesAt.same {p l : Addr} {H H' : Hp} {rows : List R3} (h : LanesAt p H l rows) (e : Same H H') : LanesAt p H' l rows := h.els (Same.els e)
/-- a row of a house with these bases, its every at most m -/
def RowOk (m : Int) (gs : List Int) (r : R3) : Prop := 0 ≤ r.1 ∧ r.1 < gs.length ∧ 1 ≤ r.2.1 ∧ r.2.1 ≤ m ∧ 0 ≤ r.2.2 ∧ r.2.2 < gs.getLastD 1
def spGround (K : PySem.W.Frag) : Sp := fun vs H Q _ => ∃ (p : Addr) (most : Int), vs = [.ref p, .int most] ∧ VaseAt H p ∧ 3 ≤ most ∧ most ≤ 100 ∧
  ∀ (g : Addr) (gs : List Int) (H' : Hp), H g = none → H' g = some (.lst (gs.map V.int)) → 1 ≤ gs.length → gs.length ≤ 3 → (∀ x ∈ gs, 2 ≤ x ∧ x ≤ most) → VaseAt H' p → Else p H H' → Q (.ref g) H'
section
variable {P : Program} {w : World} {K : PySem.W.Frag} {mg : Str → Option Value} {base : Heap}
theorem VaseAt.same {H H' : Hp} {p : Addr} (h : VaseAt H p) (s : Same H H') : VaseAt H' p := by
  obtain ⟨a, b, c, h1, h2, h3, e⟩ := h
  exact ⟨a, b, c, h1, h2, h3, s _ _ e⟩
theorem VaseAt.ne {H : Hp} {p q : Addr} (h : VaseAt H p) (n : H q = none) : q ≠ p := by
  obtain ⟨a, b, c, h1, h2, h3, e⟩ := h
  exact fun z => by rw [z, e] at n; cases n
theorem ok_ground {f : Addr} {fd : FuncData} (F : Fun K "_law_ground" "_law_ground" s_law_ground f fd) (N : Names mg) (D_law_pour : DefK P w K mg base "_law_pour" ["_law_vase_here", "_law_top"] 1 spPour)
    (D_law_pluck : DefK P w K mg base "_law_pluck" ["_law_vase_here", "_law_menu"] 2 (spPluck K)) : FnOk P w K mg base CX0 3 f fd ["_law_vase_here", "_law_most"] (spGround K) := by
  have sc := sc_law_ground
  refine F.ok sc (fun vs H Q E h => ?_) (fun cdv A outer s H vs Q E hr h => ?_)
  · obtain ⟨p, m, rfl, _⟩ := h
    rfl
  · obtain ⟨p, most, rfl, hv, hm0, hm1, k⟩ := h
    refine ⟨_, (pss_one (ps_ret (pe_lc (own := [("_law_turn", 2)]) rfl sc.nd (pi_range1 rfl N.range (pa_cons (pe_d D_law_pluck (hr.mono (by decide)) rfl (pa_cons (pv 0) (pa_cons (pe_lst (pa_cons pe_int (pa_cons pe_int (pa_cons pe_int (pa_cons pe_int pa_nil))))) pa_nil))) pa_nil)) (blkOk_by (own := [("_law_turn", 2)]) (N := ["_law_vase_here", "_law_most", "_law_turn"]) (sc := defScope (topS 66)) (by decide +kernel)) (fun _ _ _ _ _ => (pg_name (i := 2) sc.nd rfl (Or.inl rfl))) (fun _ _ _ _ _ => pts_nil) (fun _ _ _ _ _ => (pe_op op_add pe_int (pe_d D_law_pour (hr.mono (by decide)) rfl (pa_cons (pv 0) (pa_cons (pe_op op_sub (pv 1) pe_int) pa_nil)))))))), ?_⟩
    walk_at "go"
    (intro m nm; generalize e_m : upd H m _ = H1; have s1 : Same H H1 := fun b x hb => (congrFun e_m b).symm.trans (same_new nm b x hb); have h1 := (congrFun e_m m).symm.trans upd_same; clear e_m)
    have hv1 := hv.same s1
    refine ⟨p, m, _, rfl, hv1, hv.ne nm, SqL.lst h1, (by decide), (by decide), fun v H2 hm hv2 e2 => ?_⟩
    obtain ⟨n, rfl, n0, n1⟩ : ∃ n : Nat, v = .int (n : Int) ∧ 1 ≤ n ∧ n ≤ 3 := by
      simp at hm
      rcases hm with rfl | rfl | rfl
      · exact ⟨1, rfl, by decide, by decide⟩
      · exact ⟨2, rfl, by decide, by decide⟩
      · exact ⟨3, rfl, by decide, by decide⟩
    refine ⟨_, rfl, by omega, by omega, ?_⟩
    intro D nD
    have hDp : D ≠ p := hv2.ne nD
    refine lc_range (n := n) (fun i H' => VaseAt H' p ∧ (∀ b o, b ≠ p → H b = some o → H' b = some o) ∧ ∃ gs : List Int, H' D = some (.lst (gs.map V.int)) ∧ gs.length = i ∧ ∀ x ∈ gs, 2 ≤ x ∧ x ≤ most)
      ⟨hv2.same (same_new nD), fun b o nb e => ?_, [], upd_same, rfl, fun x hx => nomatch hx⟩ ?_ ?_
    · have e' := e2 b o nb (s1 b o e)
      exact same_new nD b o e'
    · rintro i H' hi ⟨hv', ee, gs, eD, hl, hg⟩
      refine ⟨rfl, ?_⟩
      refine ⟨_, rfl, _, rfl, _, _, rfl, rfl, ?_⟩
      refine ⟨p, _, rfl, hv', by omega, by omega, fun d H4 d0 d1 hv4 e4 => ?_⟩
      refine ⟨_, _, rfl, rfl, ?_⟩
      have e4D := e4 _ _ hDp eD
      refine ⟨_, e4D, smallLt (by rw [List.length_map]; omega), ?_, fun b o nb eb => ?_, gs ++ [2 + d], ?_, by simp [hl], fun x hx => ?_⟩
      · obtain ⟨a, b, c, h1, h2, h3, eb⟩ := hv4
        exact ⟨a, b, c, h1, h2, h3, by rw [upd_ne hDp.symm]; exact eb⟩
      · have nbD : b ≠ D := fun z => by
          have e' := e2 b o nb (s1 b o eb)
          rw [z, nD] at e'
          cases e'
        rw [upd_ne nbD]
        exact e4 b o nb (ee b o nb eb)
      · rw [upd_same, List.map_append]
        rfl
      · rcases List.mem_append.mp hx with hx | hx
        · exact hg x hx
        · simp at hx
          omega
    · rintro H' ⟨hv', ee, gs, eD, hl, hg⟩
      refine k D gs H' ?_ eD (by omega) (by omega) hg hv' ee
      cases q : H D with
      | none => rfl
      | some o =>
        have e' := e2 D o hDp (s1 D o q)
        rw [nD] at e'
        cases e'
def spLanes (K : PySem.W.Frag) : Sp := fun vs H Q _ => ∃ (p g : Addr) (gs : List Int), vs = [.ref p, .ref g] ∧ VaseAt H p ∧ g ≠ p ∧ SqL K H g (gs.map V.int) ∧ 1 ≤ gs.length ∧ gs.length ≤ 3 ∧ (∀ x ∈ gs, 2 ≤ x ∧ x ≤ 60) ∧
  ∀ (l : Addr) (rows : List R3) (H' : Hp), H l = none → LanesAt p H' l rows → rows.length ≤ 3 → (∀ r ∈ rows, RowOk 4 gs r) → VaseAt H' p → Else p H H' → Q (.ref l) H'
theorem getLastD_map (gs : List Int) (h : 1 ≤ gs.length) : atI (gs.map V.int) (-1) = some (V.int (gs.getLastD 1)) := by
  have hne : gs ≠ [] := fun e => by rw [e] at h; exact absurd h (by decide)
  have e : gs = gs.dropLast ++ [gs.getLastD 1] := by
    rw [List.getLastD_eq_getLast?, List.getLast?_eq_some_getLast hne]
    exact (List.dropLast_concat_getLast hne).symm
  have e2 : gs.map V.int = (gs.dropLast.map V.int) ++ [V.int (gs.getLastD 1)] := by
    conv => lhs; rw [e]
    rw [List.map_append]
    rfl
  rw [e2]
  exact atI_last _ _
theorem lastD_mem {gs : List Int} (h : 1 ≤ gs.length) : gs.getLastD 1 ∈ gs := by
  have hne : gs ≠ [] := fun e => by rw [e] at h; exact absurd h (by decide)
  rw [List.getLastD_eq_getLast?, List.getLast?_eq_some_getLast hne]
  exact List.getLast_mem hne
theorem ok_lanes {f : Addr} {fd : FuncData} (F : Fun K "_law_lanes" "_law_lanes" s_law_lanes f fd) (N : Names mg) (D_law_pour : DefK P w K mg base "_law_pour" ["_law_vase_here", "_law_top"] 1 spPour)
    (D_law_pluck : DefK P w K mg base "_law_pluck" ["_law_vase_here", "_law_menu"] 2 (spPluck K)) : FnOk P w K mg base CX0 3 f fd ["_law_vase_here", "_law_ground_here"] (spLanes K) := by
  have sc := sc_law_lanes
  refine F.ok sc (fun vs H Q E h => ?_) (fun cdv A outer s H vs Q E hr h => ?_)
  · obtain ⟨p, g, gs, rfl, _⟩ := h
    rfl
  · obtain ⟨p, g, gs, rfl, hv, hgp, hg, g0, g1, gb, k⟩ := h
    refine ⟨_, (pss_cons (ps_set (i := 2) sc.nd rfl (Or.inl rfl) (pe_lst pa_nil))
      (pss_cons (ps_for PassesOwn.never rfl (pi_range1 rfl N.range (pa_cons (pe_d D_law_pluck (hr.mono (by decide)) rfl (pa_cons (pv 0) (pa_cons (pe_lst (pa_cons pe_int (pa_cons pe_int (pa_cons pe_int (pa_cons pe_int (pa_cons pe_int (pa_cons pe_int pa_nil))))))) pa_nil))) pa_nil)) (pg_name (i := 3) sc.nd rfl (Or.inl rfl)) (pss_cons (ps_par (i := 4) (j := 5) rfl sc.nd rfl rfl (by decide) rfl rfl (pa_cons (pe_d D_law_pour (hr.mono (by decide)) rfl (pa_cons (pv 0) (pa_cons (pe_callB call_len_seq (by rfl) N.len (by decide +kernel) (pa_cons (pv 1) pa_nil)) pa_nil))) (pa_cons (pe_d D_law_pluck (hr.mono (by decide)) rfl (pa_cons (pv 0) (pa_cons (pe_lst (pa_cons pe_int (pa_cons pe_int (pa_cons pe_int (pa_cons pe_int (pa_cons pe_int pa_nil)))))) pa_nil))) pa_nil)) (by rfl))
      (pss_one (ps_expr (pe_bm PySem.F.plainAttrs_list PySem.F.slot_list_append PySem.F.type_list_append mt_append (pv 2) (pa_cons (pe_lst (pa_cons (pv 4) (pa_cons (pv 5) (pa_cons (pe_d D_law_pour (hr.mono (by decide)) rfl (pa_cons (pv 0) (pa_cons (pe_ix ix_list (pv 1) (pe_un un_neg pe_int) (fun _ _ => rfl)) pa_nil))) pa_nil)))) pa_nil))))))
      (pss_one (ps_ret (pv 2))))), ?_⟩
    walk_at "go"
    (intro l nl; generalize e_l : upd H l _ = H1; have s1 : Same H H1 := fun b x hb => (congrFun e_l b).symm.trans (same_new nl b x hb); have h1 := (congrFun e_l l).symm.trans upd_same; clear e_l)
    refine ⟨_, rfl, Nat.le_of_ble_eq_true rfl, ?_⟩
    (intro m nm; generalize e_m : upd H1 m _ = H2; have s2 : Same H1 H2 := fun b x hb => (congrFun e_m b).symm.trans (same_new nm b x hb); have h2 := (congrFun e_m m).symm.trans upd_same; clear e_m)
    refine ⟨p, m, _, rfl, (hv.same s1).same s2, (hv.same s1).ne nm, SqL.lst h2, (by decide), (by decide), fun v H3 hm hv3 e3 => ?_⟩
    obtain ⟨n, rfl, n1⟩ : ∃ n : Nat, v = .int (n : Int) ∧ n ≤ 3 := by
      simp at hm
      rcases hm with rfl | rfl | rfl | rfl
      · exact ⟨0, rfl, by decide⟩
      · exact ⟨1, rfl, by decide⟩
      · exact ⟨2, rfl, by decide⟩
      · exact ⟨3, rfl, by decide⟩
    have hlp : l ≠ p := hv.ne nl
    have hH3 : Else p H H3 := (Same.els (s1.trans s2)).trans e3
    have hl3 : H3 l = some (.lst []) := e3 _ _ hlp (s2 _ _ h1)
    refine ⟨_, rfl, by omega, by omega, ?_⟩
    refine for_range (n := n) (fun i σ H' => ∃ v3 v4 v5 : Option V, σ = [some (.ref p), some (.ref g), some (.ref l), v3, v4, v5] ∧ VaseAt H' p ∧ Else p H H' ∧
        ∃ (as : List Addr) (rows : List R3), H' l = some (.lst (as.map V.ref)) ∧ (∀ a ∈ as, a ≠ p) ∧ Paired (fun a (r : R3) => H' a = some (.lst [.int r.1, .int r.2.1, .int r.2.2])) as rows ∧ rows.length = i ∧ ∀ r ∈ rows, RowOk 4 gs r)
      ⟨none, none, none, rfl, hv3, hH3, [], [], hl3, (fun a h => nomatch h), .nil, rfl, (fun r h => nomatch h)⟩ ?_ ?_
    · rintro i σ H' hi ⟨v3, v4, v5, rfl, hv', he, as, rows, el, ha, pr, hlen, hok⟩
      have hg' : SqL K H' g (gs.map V.int) := he.seq hgp hg
      refine ⟨_, rfl, _, rfl, _, _, rfl, .inl hg', ?_⟩
      refine ⟨p, _, rfl, hv', by rw [List.length_map]; omega, by rw [List.length_map]; omega, fun d H4 d0 d1 hv4 e4 => ?_⟩
      rw [List.length_map] at d1
      refine ⟨_, rfl, Nat.le_of_ble_eq_true rfl, ?_⟩
      (intro q nq; generalize e_q : upd H4 q _ = H5; have s5 : Same H4 H5 := fun b x hb => (congrFun e_q b).symm.trans (same_new nq b x hb); have h5 := (congrFun e_q q).symm.trans upd_same; clear e_q)
      refine ⟨p, q, _, rfl, hv4.same s5, hv4.ne nq, SqL.lst h5, (by decide), (by decide), fun v H6 hm hv6 e6 => ?_⟩
      obtain ⟨ev, rfl, ev0, ev1⟩ : ∃ n : Int, v = .int n ∧ 1 ≤ n ∧ n ≤ 4 := by
        simp at hm
        rcases hm with rfl | rfl | rfl | rfl
        · exact ⟨1, rfl, by decide, by decide⟩
        · exact ⟨2, rfl, by decide, by decide⟩
        · exact ⟨3, rfl, by decide, by decide⟩
        · exact ⟨4, rfl, by decide, by decide⟩
      have e06 : Else p H' H6 := (e4.trans (Same.els s5)).trans e6
      have hg6 : SqL K H6 g (gs.map V.int) := (he.trans e06).seq hgp hg
      have el6 := e06 _ _ hlp el
      refine ⟨_, _, rfl, ?_⟩
      refine ⟨_, rfl, .inl ⟨rfl, _, SqL.lst el6⟩, _, rfl, _, rfl, _, rfl, _, rfl, _, rfl, ?_⟩
      refine ⟨g, _, _, _, rfl, rfl, hg6, getLastD_map gs g0, ?_⟩
      have hb := gb _ (lastD_mem g0)
      refine ⟨p, _, rfl, hv6, by omega, by omega, fun c H7 c0 c1 hv7 e7 => ?_⟩
      refine ⟨Nat.le_of_ble_eq_true rfl, ?_⟩
      (intro r nr; generalize e_r : upd H7 r _ = H8; have s8 : Same H7 H8 := fun b x hb => (congrFun e_r b).symm.trans (same_new nr b x hb); have h8 := (congrFun e_r r).symm.trans upd_same; clear e_r)
      have e08 : Else p H' H8 := (e06.trans e7).trans (Same.els s8)
      have el8 := e08 _ _ hlp el
      refine ⟨l, _, _, rfl, rfl, el8, smallLt (by have := pr.length; rw [List.length_map]; omega), ?_⟩
      have hrp : r ≠ p := hv7.ne nr
      have hal : ∀ a ∈ as ++ [r], a ≠ l := fun a hm z => by
        rcases List.mem_append.mp hm with hm | hm
        · obtain ⟨y, hy, fy⟩ := paired_left pr hm
          rw [z, el] at fy
          cases as with
          | nil => cases hm
          | cons a0 as => cases fy
        · simp at hm
          rw [← z, hm, h8] at el8
          cases as <;> cases el8
      refine ⟨_, _, _, rfl, ?_, fun b o nb eb => ?_, as ++ [r], rows ++ [(d, ev, c)], ?_, fun a hm => ?_, paired_app (paired_imp pr fun a hm x hx => ?_) ?_, by simp [hlen], fun x hx => ?_⟩
      · obtain ⟨a, b, c, h1, h2, h3, eb⟩ := hv7.same s8
        exact ⟨a, b, c, h1, h2, h3, by rw [upd_ne hlp.symm]; exact eb⟩
      · have nbl : b ≠ l := ne_of_none eb nl
        rw [upd_ne nbl]
        exact e08 _ _ nb (he _ _ nb eb)
      · rw [upd_same, List.map_append]
        rfl
      · rcases List.mem_append.mp hm with hm | hm
        · exact ha a hm
        · simp at hm
          rw [hm]
          exact hrp
      · rw [upd_ne (hal a (List.mem_append_left _ hm))]
        exact e08 _ _ (ha a hm) hx
      · rw [upd_ne (hal r (by simp))]
        exact h8
      · rcases List.mem_append.mp hx with hx | hx
        · exact hok x hx
        · simp at hx
          rw [hx]
          exact ⟨d0, d1, ev0, ev1, c0, c1⟩
    · rintro σ H' ⟨v3, v4, v5, rfl, hv', he, as, rows, el, ha, pr, hlen, hok⟩
      exact ⟨_, rfl, k l rows H' nl ⟨as, hlp, ha, el, pr⟩ (by omega) hok hv' he⟩
end
end LM

set_option Elab.async false
set_option linter.all false
set_option maxRecDepth 100000
set_option maxHeartbeats 4000000
namespace LM
open PySem PySem.Spec PyProof.Rows L2
local macro_rules | `(tactic| walk_at "hp") => `(tactic| first | assumption | exact upd_same | (rw [upd_ne (by assumption)]; assumption) | (rw [upd_ne (Ne.symm (by assumption))]; assumption) | (rw [upd_ne (by assumption)]; exact upd_same) | (rw [upd_ne (Ne.symm (by assumption))]; exact upd_same))
local macro_rules | `(tactic| walk_at "sq") => `(tactic| first | assumption | exact Or.inl (Or.inl (by assumption)) | exact Or.inl (Or.inl upd_same) | exact Or.inl (Or.inl (by walk_at "hp")))
local macro_rules | `(tactic| walk_at "ixl") => `(tactic| refine ⟨_, _, _, _, rfl, rfl, (by walk_at "sq"), (by rfl), ?_⟩)
local macro_rules | `(tactic| walk_at "setl") => `(tactic| refine ⟨_, _, _, _, rfl, rfl, (by walk_at "hp"), (by rfl), ?_⟩)
local macro_rules | `(tactic| walk_at "side") => `(tactic| refine idP ?_; first | omega | (show (0 : Int) < _; omega) | (show (0 : Int) < _ ∧ _ < _; omega) | (refine Or.inr ?_; show (-(2 ^ 64) : Int) < _ ∧ _ < _; omega) | (refine Or.inl ?_; show (-(2 ^ 64) : Int) < _ ∧ _ < _; omega) | exact divW (by omega) (by omega) _ | (refine ⟨by decide, by decide, ?_⟩; decide))
local macro_rules | `(tactic| walk_at "go1") => `(tactic| first
  | refine ⟨_, rfl, ?_⟩
  | refine ⟨_, _, rfl, rfl, (by walk_at "side"), ?_⟩
  | refine ⟨_, _, rfl, (by walk_at "side"), ?_⟩
  | refine ⟨_, _, rfl, rfl, ?_⟩
  | refine Or.inl ⟨_, rfl, ?_⟩
  | refine ⟨_, _, rfl, Or.inl (by walk_at "sq"), ?_⟩
  | walk_at "ixl"
  | walk_at "setl"
  | refine ⟨_, _, rfl, (by walk_at "sq"), rfl, ?_⟩
  | refine ⟨_, _, rfl, (by walk_at "sq"), ?_⟩
  | refine ⟨_, _, rfl, ?_⟩
  | refine ⟨rfl, ?_⟩
  | refine ⟨small (Nat.le_of_ble_eq_true rfl), ?_⟩)
local macro_rules | `(tactic| walk_at "go") => `(tactic| repeat walk_at "go1")

abbrev s_law_gap : Stmt := topS 68
theorem sc_law_gap : FnScope ["_law_ground_here", "_law_lanes_here", "_law_group", "_law_numbers", "_law_base", "_law_rest", "_law_found", "_law_field", "_law_every", "_law_count"] ["_law_ground_here", "_law_lanes_here", "_law_group"] (defScope s_law_gap) := ⟨rfl, rfl, rfl, by decide +kernel, rfl, by decide +kernel, by decide +kernel⟩
abbrev s_law_divisor : Stmt := topS 64
theorem sc_law_divisor : FnScope ["_law_high", "_law_low"] ["_law_high", "_law_low"] (defScope s_law_divisor) := ⟨rfl, rfl, rfl, by decide +kernel, rfl, by decide +kernel, by decide +kernel⟩
abbrev s_law_multiple : Stmt := topS 65
theorem sc_law_multiple : FnScope ["_law_high", "_law_low"] ["_law_high", "_law_low"] (defScope s_law_multiple) := ⟨rfl, rfl, rfl, by decide +kernel, rfl, by decide +kernel, by decide +kernel⟩
abbrev s_law_again : Stmt := topS 74
theorem sc_law_again : FnScope ["_law_gaps", "_law_size"] ["_law_gaps", "_law_size"] (defScope s_law_again) := ⟨rfl, rfl, rfl, by decide +kernel, rfl, by decide +kernel, by decide +kernel⟩
/-- at l a list of rows, to be read -/
def LanesIn (K : PySem.W.Frag) (H : Hp) (l : Addr) (rows : List R3) : Prop :=
  ∃ as : List Addr, SqL K H l (as.map V.ref) ∧ Paired (fun a (r : R3) => H a = some (.lst [.int r.1, .int r.2.1, .int r.2.2])) as rows
theorem LanesAt.in {K : PySem.W.Frag} {p l : Addr} {H : Hp} {rows : List R3} (h : LanesAt p H l rows) : LanesIn K H l rows := by
  obtain ⟨as, _, _, e, r⟩ := h
  exact ⟨as, SqL.lst e, r⟩
theorem LanesIn.same {K : PySem.W.Frag} {l : Addr} {H H' : Hp} {rows : List R3} (h : LanesIn K H l rows) (s : Same H H') : LanesIn K H' l rows := by
  obtain ⟨as, e, r⟩ := h
  exact ⟨as, s.seq e, paired_imp r fun a _ x q => s _ _ q⟩
def digStep (s : Int × List Int) (b : Int) : Int × List Int := (s.1 / b, s.1 % b :: s.2)
/-- the numbers of a group, number 0 first -/
def digs (gs : List Int) (g : Int) : List Int := (gs.dropLast.reverse.foldl digStep (g, [])).1 :: (gs.dropLast.reverse.foldl digStep (g, [])).2
def fitL (ds : List Int) (r : R3) : Bool := decide (ds.getD r.1.toNat 0 % r.2.1 = 0) && !((ds.drop (r.1.toNat + 1)).any fun k => decide (k ≠ 0))
def gapStep (ds : List Int) (acc : Int) (r : R3) : Int := if fitL ds r = true then r.2.2 else acc
/-- how many labels this group skips, by the law's own numbers -/
def gapL (gs : List Int) (rows : List R3) (g : Int) : Int := rows.foldl (gapStep (digs gs g)) 0
theorem digStep_len : ∀ (l : List Int) (s : Int × List Int), (l.foldl digStep s).2.length = s.2.length + l.length
  | [], s => rfl
  | b :: l, s => by
    rw [List.foldl_cons, digStep_len l, List.length_cons]
    show (s.1 % b :: s.2).length + l.length = _
    rw [List.length_cons]
    omega
theorem digs_len (gs : List Int) (g : Int) (h : 1 ≤ gs.length) : (digs gs g).length = gs.length := by
  unfold digs
  rw [List.length_cons, digStep_len, List.length_reverse, List.length_dropLast]
  simp
  omega
theorem take_fold {α β : Type} (f : β → α → β) (s : β) (l : List α) (i : Nat) (x : α) (h : l[i]? = some x) : (l.take (i + 1)).foldl f s = f ((l.take i).foldl f s) x := by
  rw [List.take_add_one, h, List.foldl_append]
  rfl
theorem atI_getD {ns : List Int} {i : Int} (h0 : 0 ≤ i) (h1 : i < ns.length) : atI (ns.map V.int) i = some (V.int (ns.getD i.toNat 0)) := by
  obtain ⟨j, rfl⟩ := nat_of h0
  have hj : j < ns.length := by omega
  rw [atI_nat (map_get hj), Int.toNat_natCast, List.getD_eq_getElem?_getD, List.getElem?_eq_getElem hj]
  rfl
def spGap (K : PySem.W.Frag) : Sp := fun vs H Q _ => ∃ (g l : Addr) (gs : List Int) (rows : List R3) (n : Int) (m : Int), vs = [.ref g, .ref l, .int n] ∧ SqL K H g (gs.map V.int) ∧ LanesIn K H l rows ∧ 1 ≤ gs.length ∧ gs.length ≤ 3 ∧ (∀ x ∈ gs, 2 ≤ x ∧ x ≤ 60) ∧ rows.length ≤ 20 ∧ (∀ r ∈ rows, RowOk m gs r) ∧
  ∀ H', Same H H' → Q (.int (gapL gs rows n)) H'
section
variable {P : Program} {w : World} {K : PySem.W.Frag} {mg : Str → Option Value} {base : Heap}
theorem ok_gap {f : Addr} {fd : FuncData} (F : Fun K "_law_gap" "_law_gap" s_law_gap f fd) (N : Names mg) : FnOk P w K mg base CX0 1 f fd ["_law_ground_here", "_law_lanes_here", "_law_group"] (spGap K) := by
  have sc := sc_law_gap
  refine F.ok sc (fun vs H Q E h => ?_) (fun cdv A outer s H vs Q E hr h => ?_)
  · obtain ⟨g, l, gs, rows, n, m, rfl, _⟩ := h
    rfl
  · obtain ⟨g, l, gs, rows, n, m, rfl, hg, hL, g0, g1, gb, hrl, hro, k⟩ := h
    refine ⟨_, (pss_cons (ps_set (i := 3) sc.nd rfl (Or.inl rfl) (pe_lst pa_nil))
      (pss_cons (ps_for PassesOwn.never rfl (pi_list (pe_revL (pe_slice sl_list (pv 0) po_none (po_some (pe_un un_neg pe_int))))) (pg_name (i := 4) sc.nd rfl (Or.inl rfl)) (pss_cons (ps_asg (pe_callB call_divmod (by rfl) N.divmod (by decide +kernel) (pa_cons (pv 2) (pa_cons (pv 4) pa_nil))) (pg_tup rfl (pgs_cons (pg_name (i := 2) sc.nd rfl (Or.inl rfl)) (pgs_cons (pg_name (i := 5) sc.nd rfl (Or.inl rfl)) pgs_nil))))
      (pss_one (ps_set (i := 3) sc.nd rfl (Or.inl rfl) (pe_op op_cat (pe_lst (pa_cons (pv 5) pa_nil)) (pv 3))))))
      (pss_cons (ps_par (i := 3) (j := 6) rfl sc.nd rfl rfl (by decide) rfl rfl (pa_cons (pe_op op_cat (pe_lst (pa_cons (pv 2) pa_nil)) (pv 3)) (pa_cons pe_int pa_nil)) (by rfl))
      (pss_cons (ps_for PassesOwn.never rfl (pi_list (pv 1)) (pg_unl rfl (pgs_cons (pg_name (i := 7) sc.nd rfl (Or.inl rfl)) (pgs_cons (pg_name (i := 8) sc.nd rfl (Or.inl rfl)) (pgs_cons (pg_name (i := 9) sc.nd rfl (Or.inl rfl)) pgs_nil)))) (pss_one (ps_if (PW.pt (pw_and (pt_cmpR op_eq (pe_op op_mod (pe_callTy (T := "int") call_int1 (by rfl) N.int (by decide +kernel) (pa_cons (pe_ix ix_list (pv 3) (pv 7) (fun _ _ => rfl)) pa_nil)) (pv 8)) pe_int (nomark _)) (pw_and1 (pt_not (pt_val (pe_callB (cr_anyI rfl) (by rfl) N.any (by decide +kernel) (pa_cons (pe_slice sl_list (pv 3) (po_some (pe_op op_add (pv 7) pe_int)) po_none) pa_nil))))))) (pss_one (ps_set (i := 6) sc.nd rfl (Or.inl rfl) (pv 9))) pss_nil)))
      (pss_one (ps_ret (pv 6))))))), ?_⟩
    walk_at "go"
    (intro z nz; generalize e_z : upd H z _ = H1; have s1 : Same H H1 := fun b x hb => (congrFun e_z b).symm.trans (same_new nz b x hb); have h1 := (congrFun e_z z).symm.trans upd_same; clear e_z)
    have hg1 := s1.seq hg
    walk_at "go"
    (intro d nd; generalize e_d : upd H1 d _ = H2; have s2 : Same H1 H2 := fun b x hb => (congrFun e_d b).symm.trans (same_new nd b x hb); have h2 := (congrFun e_d d).symm.trans upd_same; clear e_d)
    walk_at "go"
    (intro e ne; generalize e_e : upd H2 e _ = H3; have s3 : Same H2 H3 := fun b x hb => (congrFun e_e b).symm.trans (same_new ne b x hb); have h3 := (congrFun e_e e).symm.trans upd_same; clear e_e)
    have h3' : H3 e = some (.lst (gs.dropLast.reverse.map V.int)) := by
      rw [h3, cut_but, List.map_reverse, List.map_dropLast]
    have s03 : Same H H3 := (s1.trans s2).trans s3
    refine ⟨e, rfl, ⟨_, SqL.lst h3'⟩, for_list (K := K) (xs := gs.dropLast.reverse.map V.int) (fun i σ H' => ∃ (q : Addr) (v4 v5 v6 v7 v8 v9 : Option V), σ = [some (.ref g), some (.ref l), some (.int ((gs.dropLast.reverse.take i).foldl digStep (n, [])).1), some (.ref q), v4, v5, v6, v7, v8, v9] ∧ Same H H' ∧ H' e = some (.lst (gs.dropLast.reverse.map V.int)) ∧
        H' q = some (.lst (((gs.dropLast.reverse.take i).foldl digStep (n, [])).2.map V.int)))
      ⟨z, none, none, none, none, none, none, rfl, s03, h3', s3 _ _ (s2 _ _ h1)⟩ (fun i σ H' _ ⟨q, _, _, _, _, _, _, _, _, e, _⟩ => SqL.lst e) ?_ ?_⟩
    · rintro i x σ H' hx ⟨q, v4, v5, v6, v7, v8, v9, rfl, sm, he, hq⟩
      obtain ⟨b, hb, rfl⟩ : ∃ b, (gs.dropLast.reverse)[i]? = some b ∧ x = V.int b := by
        rw [List.getElem?_map] at hx
        obtain ⟨z, hz, e⟩ := Option.map_eq_some_iff.mp hx
        exact ⟨z, hz, e.symm⟩
      have hbm : b ∈ gs := (List.dropLast_sublist gs).subset (List.mem_reverse.mp (List.mem_of_getElem? hb))
      have hbb := gb b hbm
      walk_at "go"
      (intro t nt; generalize e_t : upd H' t _ = H4; have s4 : Same H' H4 := fun b x hb => (congrFun e_t b).symm.trans (same_new nt b x hb); have h4 := (congrFun e_t t).symm.trans upd_same; clear e_t)
      walk_at "go"
      (intro r nr; generalize e_r : upd H4 r _ = H5; have s5 : Same H4 H5 := fun b x hb => (congrFun e_r b).symm.trans (same_new nr b x hb); have h5 := (congrFun e_r r).symm.trans upd_same; clear e_r)
      have hq5 := s5 _ _ (s4 _ _ hq)
      have hlen : ((gs.dropLast.reverse.take i).foldl digStep (n, [])).2.length ≤ 3 := by
        rw [digStep_len, List.length_take, List.length_reverse, List.length_dropLast]
        simp
        omega
      refine ⟨_, rfl, r, q, _, _, rfl, rfl, h5, hq5, small (by simp; omega), ?_⟩
      (intro u nu; generalize e_u : upd H5 u _ = H6; have s6 : Same H5 H6 := fun b x hb => (congrFun e_u b).symm.trans (same_new nu b x hb); have h6 := (congrFun e_u u).symm.trans upd_same; clear e_u)
      have st := take_fold digStep (n, []) _ i b hb
      refine ⟨u, _, _, _, _, _, _, (by rw [st]; rfl), sm.trans ((s4.trans s5).trans s6), s6 _ _ (s5 _ _ (s4 _ _ he)), ?_⟩
      rw [st, h6]
      rfl
    · rintro σ H' ⟨q, v4, v5, v6, v7, v8, v9, rfl, sm, he, hq⟩
      rw [List.take_of_length_le (by rw [List.length_map]; exact Nat.le_refl _)] at hq
      rw [List.take_of_length_le (by rw [List.length_map]; exact Nat.le_refl _)]
      walk_at "go"
      (intro t nt; generalize e_t : upd H' t _ = H4; have s4 : Same H' H4 := fun b x hb => (congrFun e_t b).symm.trans (same_new nt b x hb); have h4 := (congrFun e_t t).symm.trans upd_same; clear e_t)
      have hlen : (gs.dropLast.reverse.foldl digStep (n, [])).2.length ≤ 3 := by
        rw [digStep_len, List.length_reverse, List.length_dropLast]
        simp
        omega
      refine ⟨_, rfl, t, q, _, _, rfl, rfl, h4, s4 _ _ hq, small (by simp only [List.length_append, List.length_cons, List.length_nil, List.length_map]; omega), ?_⟩
      (intro u nu; generalize e_u : upd H4 u _ = H5; have s5 : Same H4 H5 := fun b x hb => (congrFun e_u b).symm.trans (same_new nu b x hb); have h5 := (congrFun e_u u).symm.trans upd_same; clear e_u)
      have h5' : H5 u = some (.lst ((digs gs n).map V.int)) := h5
      obtain ⟨as, hl, pr⟩ := hL
      have s05 : Same H H5 := sm.trans (s4.trans s5)
      walk_at "go"
      refine ⟨⟨_, s05.seq hl⟩, for_list (K := K) (xs := as.map V.ref) (fun i σ H' => ∃ (w2 : Int) (w4 w5 w7 w8 w9 : Option V), σ = [some (.ref g), some (.ref l), some (.int w2), some (.ref u), w4, w5, some (.int ((rows.take i).foldl (gapStep (digs gs n)) 0)), w7, w8, w9] ∧ Same H H' ∧ H' u = some (.lst ((digs gs n).map V.int)))
        ⟨_, _, _, _, _, _, rfl, s05, h5'⟩ (fun i σ H' _ ⟨_, _, _, _, _, _, _, e, _⟩ => e.seq hl) ?_ ?_⟩
      · rintro i x σ H6 hx ⟨w2, w4, w5, w7, w8, w9, rfl, sm6, hu6⟩
        obtain ⟨a, ha, rfl⟩ : ∃ b, as[i]? = some b ∧ x = V.ref b := by
          rw [List.getElem?_map] at hx
          obtain ⟨z, hz, e⟩ := Option.map_eq_some_iff.mp hx
          exact ⟨z, hz, e.symm⟩
        obtain ⟨r, hr, hra⟩ := paired_at pr ha
        have hra6 := sm6 _ _ hra
        obtain ⟨o1, o2, o3, o4, o5, o6⟩ := hro r (List.mem_of_getElem? hr)
        have hdl := digs_len gs n g0
        have st := take_fold (gapStep (digs gs n)) 0 rows i r hr
        walk_at "go"
        refine ⟨u, _, _, _, rfl, rfl, SqL.lst hu6, atI_getD o1 (by omega), ?_⟩
        walk_at "go"
        refine ifD (fun hd => ?_) (fun hd => ?_)
        · walk_at "go"
          (intro t nt; generalize e_t : upd H6 t _ = H7; have s7 : Same H6 H7 := fun b x hb => (congrFun e_t b).symm.trans (same_new nt b x hb); have h7 := (congrFun e_t t).symm.trans upd_same; clear e_t)
          have h7' : H7 t = some (.lst (((digs gs n).drop (r.1.toNat + 1)).map V.int)) := by
            obtain ⟨j, hj⟩ := nat_of o1
            have ej : r.1 + 1 = ((j + 1 : Nat) : Int) := by omega
            rw [h7]
            show some (HO.lst (cutV _ (some (r.1 + 1)) none)) = _
            rw [ej, cut_from, hj, Int.toNat_natCast, List.map_drop]
          refine ⟨_, _, rfl, SqL.lst h7', _, rfl, ?_⟩
          have hf : fitL (digs gs n) r = !((digs gs n).drop (r.1.toNat + 1)).any fun k => decide (k ≠ 0) := by
            unfold fitL
            rw [decide_eq_true (V.int.inj hd), Bool.true_and]
          refine ifB (fun hb => ?_) (fun hb => ?_)
          · have e6 : gapStep (digs gs n) ((rows.take i).foldl (gapStep (digs gs n)) 0) r = r.2.2 := by
              unfold gapStep
              rw [if_pos (hf.trans hb)]
            exact ⟨_, rfl, _, _, _, _, _, _, (by rw [st, e6]; rfl), sm6.trans s7, s7 _ _ hu6⟩
          · have e6 : gapStep (digs gs n) ((rows.take i).foldl (gapStep (digs gs n)) 0) r = (rows.take i).foldl (gapStep (digs gs n)) 0 := by
              unfold gapStep
              rw [if_neg (by rw [hf, hb]; exact Bool.false_ne_true)]
            exact ⟨_, _, _, _, _, _, (by rw [st, e6]; rfl), sm6.trans s7, s7 _ _ hu6⟩
        · have hf : fitL (digs gs n) r = false := by
            unfold fitL
            rw [decide_eq_false (fun z => hd (congrArg V.int z)), Bool.false_and]
          have e6 : gapStep (digs gs n) ((rows.take i).foldl (gapStep (digs gs n)) 0) r = (rows.take i).foldl (gapStep (digs gs n)) 0 := by
            unfold gapStep
            rw [if_neg (by rw [hf]; exact Bool.false_ne_true)]
          refine iteF ?_
          exact ⟨_, _, _, _, _, _, (by rw [st, e6]; rfl), sm6, hu6⟩
      · rintro σ H6 ⟨w2, w4, w5, w7, w8, w9, rfl, sm6, hu6⟩
        have hpl := pr.length
        rw [List.take_of_length_le (by rw [List.length_map]; omega)]
        exact ⟨_, rfl, k _ sm6⟩
/-! ### the greatest common divisor, the least common multiple -/
def spGcd : Sp := fun vs H Q _ => ∃ (a b : Nat), vs = [.int (a : Int), .int (b : Int)] ∧ Q (.int ((Nat.gcd a b : Nat) : Int)) H
theorem ok_divisor {f : Addr} {fd : FuncData} (F : Fun K "_law_divisor" "_law_divisor" s_law_divisor f fd) (N : Names mg) : FnOk P w K mg base CX0 1 f fd ["_law_high", "_law_low"] spGcd := by
  have sc := sc_law_divisor
  refine F.ok sc (fun vs H Q E h => ?_) (fun cdv A outer s H vs Q E hr h => ?_)
  · obtain ⟨a, b, rfl, _⟩ := h
    rfl
  · obtain ⟨a, b, rfl, k⟩ := h
    refine ⟨_, (pss_cons (ps_while PassesOwn.never (pt_cmpR op_gt (pv 1) pe_int (nomark _)) (pss_one (ps_par (i := 0) (j := 1) rfl sc.nd rfl rfl (by decide) rfl rfl (pa_cons (pv 1) (pa_cons (pe_op op_mod (pe_callTy (T := "int") call_int1 (by rfl) N.int (by decide +kernel) (pa_cons (pv 0) pa_nil)) (pv 1)) pa_nil)) (by rfl))))
      (pss_one (ps_ret (pv 0)))), ?_⟩
    refine while_by (fun σ H' => ∃ x y : Nat, σ = [some (.int (x : Int)), some (.int (y : Int))] ∧ Nat.gcd x y = Nat.gcd a b ∧ H' = H) (fun σ _ => match σ with | [_, some (.int y)] => y.toNat | _ => 0) ⟨a, b, rfl, rfl, rfl⟩ ?_ ?_
    · rintro σ H' ⟨x, y, rfl, hg, rfl⟩
      walk_at "go"
      refine ifD (fun hd => ?_) (fun hd => ?_)
      · walk_at "go"
        have hy : 0 < y := by omega
        have hlt := Nat.mod_lt x hy
        refine ⟨⟨y, x % y, ?_, ?_, rfl⟩, ?_⟩
        · rw [Int.natCast_emod]
          rfl
        · rw [← hg, Nat.gcd_comm x y, Nat.gcd_rec y x, Nat.gcd_comm]
        · show ((x : Int) % (y : Int)).toNat < (y : Int).toNat
          rw [← Int.natCast_emod, Int.toNat_natCast, Int.toNat_natCast]
          exact hlt
      · have hy : y = 0 := by omega
        rw [hy, Nat.gcd_zero_right] at hg
        refine ⟨_, rfl, ?_⟩
        rw [hg]
        exact k
    · intro σ H' Q1 Q2 hm h
      obtain ⟨v, hv, i, j, e1, e2, b, e3, q⟩ := h
      exact ⟨v, hv, i, j, e1, e2, b, e3, hm _ _ q⟩
def spLcm : Sp := fun vs H Q _ => ∃ (a b : Nat), vs = [.int (a : Int), .int (b : Int)] ∧ 0 < a ∧ a < 2 ^ 29 ∧ 0 < b ∧ b < 2 ^ 29 ∧ Q (.int ((Nat.lcm a b : Nat) : Int)) H
theorem ok_multiple {f : Addr} {fd : FuncData} (F : Fun K "_law_multiple" "_law_multiple" s_law_multiple f fd) (D_law_divisor : DefK P w K mg base "_law_divisor" ["_law_high", "_law_low"] 1 spGcd) : FnOk P w K mg base CX0 2 f fd ["_law_high", "_law_low"] spLcm := by
  have sc := sc_law_multiple
  refine F.ok sc (fun vs H Q E h => ?_) (fun cdv A outer s H vs Q E hr h => ?_)
  · obtain ⟨a, b, rfl, _⟩ := h
    rfl
  · obtain ⟨a, b, rfl, ha, ha2, hb, hb2, k⟩ := h
    refine ⟨_, (pss_one (ps_ret (pe_op op_mul (pe_op op_fdiv (pv 0) (pe_d D_law_divisor (hr.mono (by decide)) rfl (pa_cons (pv 0) (pa_cons (pv 1) pa_nil)))) (pv 1)))), ?_⟩
    walk_at "go"
    have hg0 : 0 < Nat.gcd a b := Nat.gcd_pos_of_pos_left b ha
    have hg1 : Nat.gcd a b ≤ a := Nat.gcd_le_left b ha
    refine ⟨⟨by omega, by omega⟩, _, rfl, _, _, rfl, rfl, .inr ⟨by omega, by omega⟩, ?_⟩
    have e : ((a : Int) / (Nat.gcd a b : Nat)) * (b : Int) = ((Nat.lcm a b : Nat) : Int) := by
      unfold Nat.lcm
      rw [← Nat.div_mul_right_comm (Nat.gcd_dvd_left a b), Int.natCast_mul, Int.natCast_ediv]
    show Q (.int _) H
    rw [e]
    exact k
/-! ### whether a list goes on the same behind so many items -/
def againL (cs : List Int) (k : Nat) : Bool := decide (cs.length / k * k = cs.length) && decide (cs.drop k = cs.take (cs.length - k))
def spAgain (K : PySem.W.Frag) : Sp := fun vs H Q _ => ∃ (a : Addr) (cs : List Int) (k : Nat), vs = [.ref a, .int (k : Int)] ∧ SqL K H a (cs.map V.int) ∧ cs.length ≤ 100000 ∧ 0 < k ∧ k ≤ cs.length ∧ ∀ H', Same H H' → Q (.bl (againL cs k)) H'
theorem ok_again {f : Addr} {fd : FuncData} (F : Fun K "_law_again" "_law_again" s_law_again f fd) (N : Names mg) : FnOk P w K mg base CX0 1 f fd ["_law_gaps", "_law_size"] (spAgain K) := by
  have sc := sc_law_again
  refine F.ok sc (fun vs H Q E h => ?_) (fun cdv A outer s H vs Q E hr h => ?_)
  · obtain ⟨a, cs, k, rfl, _⟩ := h
    rfl
  · obtain ⟨a, cs, k, rfl, hc, hl, k0, k1, kk⟩ := h
    have hu := hu_of hr
    refine ⟨_, (pss_one (ps_ret (pe_and (pe_cmpR op_eq (pe_op op_mul (pe_op op_fdiv (pe_callB call_len_seq (by rfl) N.len (by decide +kernel) (pa_cons (pv 0) pa_nil)) (pv 1)) (pv 1)) (pe_callB call_len_seq (by rfl) N.len (by decide +kernel) (pa_cons (pv 0) pa_nil)) (nomark _)) (pe_one (pe_cmpR (op_eqIs (hu64 hr)) (pe_slice sl_list (pv 0) (po_some (pv 1)) po_none) (pe_slice sl_list (pv 0) po_none (po_some (pe_op op_sub (pe_callB call_len_seq (by rfl) N.len (by decide +kernel) (pa_cons (pv 0) pa_nil)) (pv 1)))) (nomark _)))))), ?_⟩
    walk_at "go"
    have eL : (cs.map V.int).length = cs.length := List.length_map ..
    refine ifD (fun hd => ?_) (fun hd => ?_)
    · have hdd : cs.length / k * k = cs.length := by
        have z := V.int.inj hd
        rw [eL] at z
        have z' : (((cs.length / k * k : Nat)) : Int) = (cs.length : Int) := by
          rw [Int.natCast_mul, Int.natCast_ediv]
          exact z
        exact Int.ofNat.inj z'
      walk_at "go"
      (intro t nt; generalize e_t : upd H t _ = H1; have s1 : Same H H1 := fun b x hb => (congrFun e_t b).symm.trans (same_new nt b x hb); have h1 := (congrFun e_t t).symm.trans upd_same; clear e_t)
      have hc1 := s1.seq hc
      have h1' : H1 t = some (.lst ((cs.drop k).map V.int)) := by rw [h1, cut_from, List.map_drop]
      walk_at "go"
      (intro u nu; generalize e_u : upd H1 u _ = H2; have s2 : Same H1 H2 := fun b x hb => (congrFun e_u b).symm.trans (same_new nu b x hb); have h2 := (congrFun e_u u).symm.trans upd_same; clear e_u)
      have h2' : H2 u = some (.lst ((cs.take (cs.length - k)).map V.int)) := by
        rw [h2]
        show some (HO.lst (cutV _ none (some (((cs.map V.int).length : Int) - (k : Int))))) = _
        rw [eL, show ((cs.length : Int) - (k : Int)) = ((cs.length - k : Nat) : Int) by omega, cut_to, List.map_take]
      refine ⟨t, u, _, _, rfl, rfl, .inl ⟨SqL.lst (s2 _ _ h1'), SqL.lst h2'⟩, ?_⟩
      have e : againL cs k = decide (cs.drop k = cs.take (cs.length - k)) := by
        unfold againL
        rw [decide_eq_true hdd, Bool.true_and]
      rw [← e]
      exact kk _ (s1.trans s2)
    · refine kk H (Same.refl H) |> fun q => ?_
      have e : againL cs k = false := by
        unfold againL
        rw [decide_eq_false (fun z => hd ?_), Bool.false_and]
        rw [eL]
        exact congrArg V.int (by show ((cs.length : Int) / (k : Int)) * (k : Int) = _; rw [← Int.natCast_ediv, ← Int.natCast_mul, z])
      rw [e] at q
      exact q
end
end LM

set_option Elab.async false
set_option linter.all false
set_option maxRecDepth 100000
set_option maxHeartbeats 4000000
set_option pp.maxSteps 600
set_option pp.deepTerms false
namespace LM
open PySem PySem.Spec PyProof.Rows L2
local macro_rules | `(tactic| walk_at "hp") => `(tactic| first | assumption | exact upd_same | (rw [upd_ne (by assumption)]; assumption) | (rw [upd_ne (Ne.symm (by assumption))]; assumption) | (rw [upd_ne (by assumption)]; exact upd_same) | (rw [upd_ne (Ne.symm (by assumption))]; exact upd_same))
local macro_rules | `(tactic| walk_at "sq") => `(tactic| first | assumption | exact Or.inl (Or.inl (by assumption)) | exact Or.inl (Or.inl upd_same) | exact Or.inl (Or.inl (by walk_at "hp")))
local macro_rules | `(tactic| walk_at "ixl") => `(tactic| refine ⟨_, _, _, _, rfl, rfl, (by walk_at "sq"), (by rfl), ?_⟩)
local macro_rules | `(tactic| walk_at "setl") => `(tactic| refine ⟨_, _, _, _, rfl, rfl, (by walk_at "hp"), (by rfl), ?_⟩)
local macro_rules | `(tactic| walk_at "side") => `(tactic| refine idP ?_; first | omega | (show (0 : Int) < _; omega) | (show (0 : Int) < _ ∧ _ < _; omega) | (refine Or.inr ?_; show (-(2 ^ 64) : Int) < _ ∧ _ < _; omega) | (refine Or.inl ?_; show (-(2 ^ 64) : Int) < _ ∧ _ < _; omega) | exact divW (by omega) (by omega) _ | (refine ⟨by decide, by decide, ?_⟩; decide))
local macro_rules | `(tactic| walk_at "go1") => `(tactic| first
  | refine ⟨_, rfl, ?_⟩
  | refine ⟨_, _, rfl, rfl, (by walk_at "side"), ?_⟩
  | refine ⟨_, _, rfl, (by walk_at "side"), ?_⟩
  | refine ⟨_, _, rfl, rfl, ?_⟩
  | refine Or.inl ⟨_, rfl, ?_⟩
  | refine ⟨_, _, rfl, Or.inl (by walk_at "sq"), ?_⟩
  | walk_at "ixl"
  | walk_at "setl"
  | refine ⟨_, _, rfl, (by walk_at "sq"), rfl, ?_⟩
  | refine ⟨_, _, rfl, (by walk_at "sq"), ?_⟩
  | refine ⟨_, _, rfl, ?_⟩
  | refine ⟨rfl, ?_⟩
  | refine ⟨small (Nat.le_of_ble_eq_true rfl), ?_⟩)
local macro_rules | `(tactic| walk_at "go") => `(tactic| repeat walk_at "go1")

abbrev s_law_place_house : Stmt := topS 69
theorem sc_law_place_house : FnScope ["_law_ground_here", "_law_lanes_here", "_law_groups", "_law_every", "_law_base", "_law_lane", "_law_gaps", "_law_size", "_law_spots", "_law_below", "_law_spot_at", "_law_group", "_law_k"] ["_law_ground_here", "_law_lanes_here"] (defScope s_law_place_house) := ⟨rfl, rfl, rfl, by decide +kernel, rfl, by decide +kernel, by decide +kernel⟩
abbrev s_law_house : Stmt := topS 70
theorem sc_law_house : FnScope ["_law_vase_here", "_law_ground_here"] ["_law_vase_here", "_law_ground_here"] (defScope s_law_house) := ⟨rfl, rfl, rfl, by decide +kernel, rfl, by decide +kernel, by decide +kernel⟩
/-- how many groups there are in a unit of field 0; the least common multiple of the everys of field 0 -/
def unitL (gs : List Int) : Nat := gs.dropLast.foldl (fun a b => a * b.toNat) 1
def everyStep (e : Nat) (r : R3) : Nat := if r.1 = 0 then Nat.lcm e r.2.1.toNat else e
def everyL (rows : List R3) : Nat := rows.foldl everyStep 1
def gapsL (gs : List Int) (rows : List R3) (n : Nat) : List Int := (List.range n).map fun i => gapL gs rows ((i : Nat) : Int)
def sizesL (cs : List Int) (n : Nat) : List Nat := ((List.range n).filter fun j => againL cs (j + 1)).map (· + 1)
def sizeL (cs : List Int) : Nat := (sizesL cs cs.length).headD 0
def spotOk (cs : List Int) (b : Nat) (s : Nat) : Bool := decide (cs.getD (s / b) 0 ≤ ((s % b : Nat) : Int))
def spotsL (cs : List Int) (b n : Nat) : List Nat := (List.range n).filter (spotOk cs b)
def belowL (cs : List Int) (b n : Nat) : List Nat := (List.range n).map fun i => (spotsL cs b i).length
/-- the law's own house at d -/
def HomeAt (old : Addr → Prop) (H : Hp) (d g l : Addr) (gs : List Int) (rows : List R3) : Prop :=
  ∃ (s b : Addr) (cs : List Int) (n : Nat), H d = some (.dK [(Sum.inr "ground", .ref g), (Sum.inr "lanes", .ref l), (Sum.inr "groups", .int ((sizeL cs : Nat) : Int)), (Sum.inr "spots", .ref s), (Sum.inr "below", .ref b)]) ∧
    n = unitL gs * everyL rows ∧ cs = gapsL gs rows n ∧
    H s = some (.lst ((spotsL cs (gs.getLastD 1).toNat (sizeL cs * (gs.getLastD 1).toNat)).map fun k => V.int ((k : Nat) : Int))) ∧
    H b = some (.lst ((belowL cs (gs.getLastD 1).toNat (sizeL cs * (gs.getLastD 1).toNat)).map fun k => V.int ((k : Nat) : Int))) ∧ ¬ old s ∧ ¬ old b
theorem HomeAt.weak {o1 o2 : Addr → Prop} {H : Hp} {d g l : Addr} {gs : List Int} {rows : List R3} (h : HomeAt o1 H d g l gs rows) (i : ∀ q, o2 q → o1 q) : HomeAt o2 H d g l gs rows := by
  obtain ⟨s, b, cs, n, e1, e2, e3, e4, e5, e6, e7⟩ := h
  exact ⟨s, b, cs, n, e1, e2, e3, e4, e5, fun z => e6 (i _ z), fun z => e7 (i _ z)⟩
def spPlace (K : PySem.W.Frag) : Sp := fun vs H Q _ => ∃ (g l : Addr) (gs : List Int) (rows : List R3) (m : Int), vs = [.ref g, .ref l] ∧ SqL K H g (gs.map V.int) ∧ LanesIn K H l rows ∧ 1 ≤ gs.length ∧ gs.length ≤ 3 ∧ (∀ x ∈ gs, 2 ≤ x ∧ x ≤ 60) ∧ rows.length ≤ 20 ∧ m ≤ 60 ∧ (∀ r ∈ rows, RowOk m gs r) ∧ unitL gs * everyL rows ≤ 7200 ∧
  ∀ (d : Addr) (H' : Hp), Same H H' → H d = none → HomeAt (fun q => H q ≠ none) H' d g l gs rows → Q (.ref d) H'
theorem foldl_mul_pos : ∀ (bs : List Int) (a : Nat), 0 < a → (∀ x ∈ bs, 2 ≤ x) → a ≤ bs.foldl (fun a b => a * b.toNat) a
  | [], a, _, _ => Nat.le_refl _
  | b :: bs, a, ha, h => by
    have hb := h b List.mem_cons_self
    have h1 : a ≤ a * b.toNat := Nat.le_mul_of_pos_right a (by omega)
    exact Nat.le_trans h1 (foldl_mul_pos bs _ (by omega) fun x hx => h x (List.mem_cons_of_mem _ hx))
theorem everyStep_pos {e : Nat} {r : R3} (he : 0 < e) (hr : 1 ≤ r.2.1) : 0 < everyStep e r := by
  unfold everyStep
  split
  · exact Nat.lcm_pos he (by omega)
  · exact he
theorem every_mono : ∀ (rows : List R3) (e : Nat), 0 < e → (∀ r ∈ rows, 1 ≤ r.2.1) → e ≤ rows.foldl everyStep e
  | [], e, _, _ => Nat.le_refl _
  | r :: rows, e, he, h => by
    have hr := h r List.mem_cons_self
    have h1 : e ≤ everyStep e r := by
      unfold everyStep
      split
      · exact Nat.le_of_dvd (Nat.lcm_pos he (by omega)) (Nat.dvd_lcm_left _ _)
      · exact Nat.le_refl _
    exact Nat.le_trans h1 (every_mono rows _ (everyStep_pos he hr) fun x hx => h x (List.mem_cons_of_mem _ hx))
section
variable {P : Program} {w : World} {K : PySem.W.Frag} {mg : Str → Option Value} {base : Heap}
theorem ok_place {f : Addr} {fd : FuncData} (F : Fun K "_law_place_house" "_law_place_house" s_law_place_house f fd) (N : Names mg) (D_law_gap : DefK P w K mg base "_law_gap" ["_law_ground_here", "_law_lanes_here", "_law_group"] 1 (spGap K)) (D_law_multiple : DefK P w K mg base "_law_multiple" ["_law_high", "_law_low"] 2 spLcm)
    (D_law_again : DefK P w K mg base "_law_again" ["_law_gaps", "_law_size"] 1 (spAgain K)) : FnOk P w K mg base CX0 3 f fd ["_law_ground_here", "_law_lanes_here"] (spPlace K) := by
  have sc := sc_law_place_house
  refine F.ok sc (fun vs H Q E h => ?_) (fun cdv A outer s H vs Q E hr h => ?_)
  · obtain ⟨g, l, gs, rows, m, rfl, _⟩ := h
    rfl
  · obtain ⟨g, l, gs, rows, m, rfl, hg, hL, g0, g1, gb, hrl, hm, hro, hn, k⟩ := h
    refine ⟨_, (pss_cons (ps_asg (pe_tup (pa_cons pe_int (pa_cons pe_int pa_nil))) (pg_tup rfl (pgs_cons (pg_name (i := 2) sc.nd rfl (Or.inl rfl)) (pgs_cons (pg_name (i := 3) sc.nd rfl (Or.inl rfl)) pgs_nil))))
      (pss_cons (ps_for PassesOwn.never rfl (pi_list (pe_slice sl_list (pv 0) po_none (po_some (pe_un un_neg pe_int)))) (pg_name (i := 4) sc.nd rfl (Or.inl rfl)) (pss_one (ps_set (i := 2) sc.nd rfl (Or.inl rfl) (pe_op op_mul (pv 2) (pv 4)))))
      (pss_cons (ps_for PassesOwn.never rfl (pi_list (pv 1)) (pg_name (i := 5) sc.nd rfl (Or.inl rfl)) (pss_one (ps_set (i := 3) sc.nd rfl (Or.inl rfl) (pe_ifExp (pt_cmpR op_eq (pe_ix ix_list (pv 5) pe_int (fun _ _ => rfl)) pe_int (nomark _)) (pe_d D_law_multiple (hr.mono (by decide)) rfl (pa_cons (pv 3) (pa_cons (pe_ix ix_list (pv 5) pe_int (fun _ _ => rfl)) pa_nil))) (pv 3)))))
      (pss_cons (ps_set (i := 6) sc.nd rfl (Or.inr rfl) (pe_lc (own := [("_law_group", 11)]) rfl sc.nd (pi_range1 rfl N.range (pa_cons (pe_op op_mul (pv 2) (pv 3)) pa_nil)) (blkOk_by (own := [("_law_group", 11)]) (N := ["_law_ground_here", "_law_lanes_here", "_law_groups", "_law_every", "_law_base", "_law_lane", "_law_gaps", "_law_size", "_law_spots", "_law_below", "_law_spot_at", "_law_group", "_law_k"]) (sc := defScope (topS 69)) (by decide +kernel)) (fun _ _ _ _ _ => (pg_name (i := 11) sc.nd rfl (Or.inl rfl))) (fun _ _ _ _ _ => pts_nil) (fun _ _ _ _ _ => (pe_d D_law_gap (hr.mono (by decide)) rfl (pa_cons (pv 0) (pa_cons (pv 1) (pa_cons (pv 11) pa_nil)))))))
      (pss_cons (ps_set (i := 7) sc.nd rfl (Or.inl rfl) (pe_ix ix_list (pe_lc (own := [("_law_k", 12)]) rfl sc.nd (pi_range2 rfl N.range (pa_cons pe_int (pa_cons (pe_op op_add (pe_callB call_len_seq (by rfl) N.len (by decide +kernel) (pa_cons (pv 6) pa_nil)) pe_int) pa_nil))) (blkOk_by (own := [("_law_k", 12)]) (N := ["_law_ground_here", "_law_lanes_here", "_law_groups", "_law_every", "_law_base", "_law_lane", "_law_gaps", "_law_size", "_law_spots", "_law_below", "_law_spot_at", "_law_group", "_law_k"]) (sc := defScope (topS 69)) (by decide +kernel)) (fun _ _ _ _ _ => (pg_name (i := 12) sc.nd rfl (Or.inl rfl))) (fun _ _ _ _ _ => (pts_one (pt_val (pe_d D_law_again (hr.mono (by decide)) rfl (pa_cons (pv 6) (pa_cons (pv 12) pa_nil)))))) (fun _ _ _ _ _ => (pv 12))) pe_int (fun _ _ => rfl)))
      (pss_cons (ps_par (i := 8) (j := 9) rfl sc.nd rfl rfl (by decide) rfl rfl (pa_cons (pe_lst pa_nil) (pa_cons (pe_lst pa_nil) pa_nil)) (by rfl))
      (pss_cons (ps_for PassesOwn.never rfl (pi_range1 rfl N.range (pa_cons (pe_op op_mul (pv 7) (pe_ix ix_list (pv 0) (pe_un un_neg pe_int) (fun _ _ => rfl))) pa_nil)) (pg_name (i := 10) sc.nd rfl (Or.inl rfl)) (pss_cons (ps_expr (pe_bm PySem.F.plainAttrs_list PySem.F.slot_list_append PySem.F.type_list_append mt_append (pv 9) (pa_cons (pe_callB call_len_seq (by rfl) N.len (by decide +kernel) (pa_cons (pv 8) pa_nil)) pa_nil)))
      (pss_one (ps_if (pt_cmpR op_ge (pe_op op_mod (pe_callTy (T := "int") call_int1 (by rfl) N.int (by decide +kernel) (pa_cons (pv 10) pa_nil)) (pe_ix ix_list (pv 0) (pe_un un_neg pe_int) (fun _ _ => rfl))) (pe_ix ix_list (pv 6) (pe_op op_fdiv (pv 10) (pe_ix ix_list (pv 0) (pe_un un_neg pe_int) (fun _ _ => rfl))) (fun _ _ => rfl)) (nomark _)) (pss_one (ps_expr (pe_bm PySem.F.plainAttrs_list PySem.F.slot_list_append PySem.F.type_list_append mt_append (pv 8) (pa_cons (pv 10) pa_nil)))) pss_nil))))
      (pss_one (ps_ret (pe_disp (pps_cons pe_str (pv 0) (pps_cons pe_str (pv 1) (pps_cons pe_str (pv 7) (pps_cons pe_str (pv 8) (pps_cons pe_str (pv 9) pps_nil))))) (by rfl) (by rfl) (fun z => by cases z) (by decide))))))))))), ?_⟩
    have hb := gb _ (lastD_mem g0)
    walk_at "go"
    (intro t nt; generalize e_t : upd H t _ = H1; have s1 : Same H H1 := fun b x hb => (congrFun e_t b).symm.trans (same_new nt b x hb); have h1 := (congrFun e_t t).symm.trans upd_same; clear e_t)
    have hg1 := s1.seq hg
    walk_at "go"
    (intro d0 nd0; generalize e_d0 : upd H1 d0 _ = H2; have s2 : Same H1 H2 := fun b x hb => (congrFun e_d0 b).symm.trans (same_new nd0 b x hb); have h2 := (congrFun e_d0 d0).symm.trans upd_same; clear e_d0)
    have h2' : H2 d0 = some (.lst (gs.dropLast.map V.int)) := by rw [h2, cut_but, List.map_dropLast]
    have s02 := s1.trans s2
    -- groups
    refine ⟨d0, rfl, ⟨_, SqL.lst h2'⟩, for_list (K := K) (xs := gs.dropLast.map V.int) (fun i σ H' => ∃ (v4 v5 v6 v7 v8 v9 v10 v11 v12 : Option V), σ = [some (.ref g), some (.ref l), some (.int (((gs.dropLast.take i).foldl (fun a b => a * b.toNat) 1 : Nat) : Int)), some (.int 1), v4, v5, v6, v7, v8, v9, v10, v11, v12] ∧ H2 = H')
      ⟨none, none, none, none, none, none, none, none, none, rfl, rfl⟩ (fun i σ H' _ ⟨_, _, _, _, _, _, _, _, _, _, e⟩ => by rw [← e]; exact SqL.lst h2') ?_ ?_⟩
    · rintro i x σ H' hx ⟨v4, v5, v6, v7, v8, v9, v10, v11, v12, rfl, rfl⟩
      obtain ⟨b, hb', rfl⟩ : ∃ b, (gs.dropLast)[i]? = some b ∧ x = V.int b := by
        rw [List.getElem?_map] at hx
        obtain ⟨z, hz, e⟩ := Option.map_eq_some_iff.mp hx
        exact ⟨z, hz, e.symm⟩
      have hbb := gb b ((List.dropLast_sublist gs).subset (List.mem_of_getElem? hb'))
      have st := take_fold (fun (a : Nat) (b : Int) => a * b.toNat) 1 _ i b hb'
      refine ⟨_, rfl, _, rfl, _, _, rfl, rfl, .inr ⟨by omega, by omega⟩, ?_⟩
      have e6 : ((((gs.dropLast.take i).foldl (fun a b => a * b.toNat) 1 : Nat) : Int)) * b = (((gs.dropLast.take (i + 1)).foldl (fun a b => a * b.toNat) 1 : Nat) : Int) := by
        rw [st, Int.natCast_mul, Int.toNat_of_nonneg (by omega)]
      exact ⟨_, _, _, _, _, _, _, _, _, (by rw [← e6]; rfl), rfl⟩
    rintro σ H' ⟨v4, v5, v6, v7, v8, v9, v10, v11, v12, rfl, rfl⟩
    rw [List.take_of_length_le (by rw [List.length_map]; exact Nat.le_refl _)]
    obtain ⟨as, hl, pr⟩ := id hL
    have hpl := pr.length
    have hr1 : ∀ r ∈ rows, 1 ≤ r.2.1 := fun r hm => (hro r hm).2.2.1
    have hU1 : 1 ≤ unitL gs := foldl_mul_pos _ 1 (by decide) fun x hx => (gb x ((List.dropLast_sublist gs).subset hx)).1
    have hE1 : 1 ≤ everyL rows := every_mono rows 1 (by decide) hr1
    have hE2 : everyL rows ≤ 7200 := Nat.le_trans (Nat.le_mul_of_pos_left _ hU1) hn
    -- every
    refine ⟨_, rfl, l, rfl, ⟨_, s02.seq hl⟩, for_list (K := K) (xs := as.map V.ref) (fun i σ H' => ∃ (v4 v5 v6 v7 v8 v9 v10 v11 v12 : Option V), σ = [some (.ref g), some (.ref l), some (.int ((unitL gs : Nat) : Int)), some (.int (((rows.take i).foldl everyStep 1 : Nat) : Int)), v4, v5, v6, v7, v8, v9, v10, v11, v12] ∧ H2 = H')
      ⟨_, _, _, _, _, _, _, _, _, rfl, rfl⟩ (fun i σ H' _ ⟨_, _, _, _, _, _, _, _, _, _, e⟩ => by rw [← e]; exact s02.seq hl) ?_ ?_⟩
    · rintro i x σ H' hx ⟨v4, v5, v6, v7, v8, v9, v10, v11, v12, rfl, rfl⟩
      obtain ⟨a, ha, rfl⟩ : ∃ b, as[i]? = some b ∧ x = V.ref b := by
        rw [List.getElem?_map] at hx
        obtain ⟨z, hz, e⟩ := Option.map_eq_some_iff.mp hx
        exact ⟨z, hz, e.symm⟩
      obtain ⟨r, hr', hra⟩ := paired_at pr ha
      have hra2 := s02 _ _ hra
      have st := take_fold everyStep 1 rows i r hr'
      obtain ⟨o1, o2, o3, o4, o5, o6⟩ := hro r (List.mem_of_getElem? hr')
      have hei1 : 1 ≤ (rows.take i).foldl everyStep 1 := every_mono _ 1 (by decide) fun r hm => hr1 r (List.mem_of_mem_take hm)
      have hei2 : (rows.take i).foldl everyStep 1 ≤ 7200 := by
        refine Nat.le_trans ?_ hE2
        have e : everyL rows = (rows.drop i).foldl everyStep ((rows.take i).foldl everyStep 1) := by
          unfold everyL
          rw [← List.foldl_append, List.take_append_drop]
        rw [e]
        exact every_mono _ _ (by omega) fun r hm => hr1 r (List.mem_of_mem_drop hm)
      walk_at "go"
      refine ifD (fun hd => ?_) (fun hd => ?_)
      · have hz : r.1 = 0 := V.int.inj hd
        walk_at "go"
        have e6 : everyStep ((rows.take i).foldl everyStep 1) r = Nat.lcm ((rows.take i).foldl everyStep 1) r.2.1.toNat := by
          unfold everyStep
          rw [if_pos hz]
        refine ⟨(rows.take i).foldl everyStep 1, r.2.1.toNat, (by rw [Int.toNat_of_nonneg (show 0 ≤ r.2.1 by omega)]; rfl), by omega, by omega, by omega, by omega, ?_⟩
        exact ⟨_, _, _, _, _, _, _, _, _, (by rw [st, e6]; rfl), rfl⟩
      · have hz : r.1 ≠ 0 := fun z => hd (congrArg V.int z)
        have e6 : everyStep ((rows.take i).foldl everyStep 1) r = (rows.take i).foldl everyStep 1 := by
          unfold everyStep
          rw [if_neg hz]
        exact ⟨_, rfl, _, _, _, _, _, _, _, _, _, (by rw [st, e6]; rfl), rfl⟩
    rintro σ H' ⟨v4, v5, v6, v7, v8, v9, v10, v11, v12, rfl, rfl⟩
    rw [List.take_of_length_le (by rw [List.length_map, hpl]; exact Nat.le_refl _)]
    walk_at "go"
    have hE : ((rows.foldl everyStep 1 : Nat) : Int) = ((everyL rows : Nat) : Int) := rfl
    refine ⟨.inr ⟨by omega, by omega⟩, _, rfl, ?_, ?_, ?_⟩
    · show (-(2 ^ 62) : Int) ≤ ((unitL gs : Nat) : Int) * ((everyL rows : Nat) : Int)
      rw [← Int.natCast_mul]
      omega
    · show ((unitL gs : Nat) : Int) * ((everyL rows : Nat) : Int) < 2 ^ 62
      rw [← Int.natCast_mul]
      omega
    have en : (((unitL gs : Nat) : Int) * ((rows.foldl everyStep 1 : Nat) : Int)).toNat = unitL gs * everyL rows := by
      rw [hE, ← Int.natCast_mul, Int.toNat_natCast]
    generalize hnn : unitL gs * everyL rows = n at *
    rw [en]
    -- gaps
    intro D nD
    refine lc_range (n := n) (fun i H' => Same H2 H' ∧ H' D = some (.lst ((List.range i).map fun j => V.int (gapL gs rows ((j : Nat) : Int))))) ⟨same_new nD, upd_same⟩ ?_ ?_
    · rintro i H' hi ⟨sm, eD⟩
      refine ⟨rfl, ?_⟩
      walk_at "go"
      have s0 := s02.trans sm
      refine ⟨g, l, gs, rows, _, m, rfl, s0.seq hg, hL.same s0, g0, g1, gb, hrl, hro, fun H4 s4 => ?_⟩
      refine ⟨_, s4 _ _ eD, smallLt (by rw [List.length_map, List.length_range]; omega), same_mut (sm.trans s4) nD, ?_⟩
      rw [upd_same, List.range_succ, List.map_append, Int.zero_add]
      rfl
    rintro H3 ⟨s3, eD⟩
    have hgap : H3 D = some (.lst ((gapsL gs rows n).map V.int)) := by
      rw [eD]
      unfold gapsL
      rw [List.map_map]
      rfl
    generalize hcs : gapsL gs rows n = cs at *
    have hcl : cs.length = n := by
      rw [← hcs]
      unfold gapsL
      rw [List.length_map, List.length_range]
    have hn1 : 1 ≤ n := by rw [← hnn]; exact Nat.mul_pos hU1 hE1
    walk_at "go"
    refine ⟨⟨by decide, by decide, by omega, by rw [List.length_map]; omega⟩, ?_⟩
    have en2 : ((((cs.map V.int).length : Nat) : Int) + 1 - 1).toNat = n := by rw [List.length_map]; omega
    rw [en2]
    intro D2 nD2
    refine lc_range (lo := 1) (n := n) (fun i H' => Same H3 H' ∧ H' D2 = some (.lst (((List.range i).filter fun j => againL cs (j + 1)).map fun j => V.int (1 + ((j : Nat) : Int))))) ⟨same_new nD2, upd_same⟩ ?_ ?_
    · rintro i H' hi ⟨sm, eD⟩
      refine ⟨rfl, ?_⟩
      walk_at "go"
      refine ⟨D, cs, i + 1, (by rw [Int.natCast_add, Int.add_comm]; rfl), SqL.lst (sm _ _ hgap), by omega, by omega, by omega, fun H4 s4 => ?_⟩
      refine ⟨_, rfl, ?_⟩
      refine ifB (fun hb => ?_) (fun hb => ?_)
      · refine ⟨_, rfl, _, s4 _ _ eD, smallLt (by rw [List.length_map]; exact Nat.le_trans (List.length_filter_le _ _) (by rw [List.length_range]; omega)), same_mut (sm.trans s4) nD2, ?_⟩
        rw [upd_same, List.range_succ, List.filter_append, List.map_append]
        simp [hb]
      · refine ⟨sm.trans s4, ?_⟩
        rw [s4 _ _ eD, List.range_succ, List.filter_append, List.map_append]
        simp [hb]
    rintro H5 ⟨s5, eD2⟩
    have hag : againL cs n = true := by
      unfold againL
      rw [hcl, Nat.div_self (by omega), Nat.one_mul, decide_eq_true rfl, Bool.true_and, Nat.sub_self, List.take_zero, List.drop_eq_nil_of_le (by omega)]
      rfl
    obtain ⟨z, rest, hz⟩ : ∃ z rest, ((List.range n).filter fun j => againL cs (j + 1)) = z :: rest := by
      cases q : ((List.range n).filter fun j => againL cs (j + 1)) with
      | nil =>
        have hm : n - 1 ∈ ((List.range n).filter fun j => againL cs (j + 1)) := List.mem_filter.mpr ⟨List.mem_range.mpr (by omega), by rw [show n - 1 + 1 = n by omega]; exact hag⟩
        rw [q] at hm
        cases hm
      | cons z rest => exact ⟨z, rest, rfl⟩
    have hzm : z ∈ ((List.range n).filter fun j => againL cs (j + 1)) := by rw [hz]; exact List.mem_cons_self
    have hzn : z < n := List.mem_range.mp (List.mem_filter.mp hzm).1
    have hsz : sizeL cs = z + 1 := by
      unfold sizeL sizesL
      rw [hcl, hz]
      rfl
    rw [hz] at eD2
    refine ⟨D2, _, 0, .int ((sizeL cs : Nat) : Int), rfl, rfl, SqL.lst eD2, (atI_nat (j := 0) (by show some (V.int (1 + ((z : Nat) : Int))) = _; rw [hsz, Int.natCast_add, Int.add_comm]; rfl)), ?_⟩
    walk_at "go"
    (intro sp nsp; generalize e_sp : upd H5 sp _ = H6; have s6 : Same H5 H6 := fun b x hb => (congrFun e_sp b).symm.trans (same_new nsp b x hb); have h6 := (congrFun e_sp sp).symm.trans upd_same; clear e_sp)
    refine ⟨Nat.le_of_ble_eq_true rfl, ?_⟩
    (intro be nbe; generalize e_be : upd H6 be _ = H7; have s7 : Same H6 H7 := fun b x hb => (congrFun e_be b).symm.trans (same_new nbe b x hb); have h7 := (congrFun e_be be).symm.trans upd_same; clear e_be)
    obtain ⟨b, hb2⟩ := nat_of (i := gs.getLastD 1) (by omega)
    have s07 : Same H H7 := (((s02.trans s3).trans s5).trans s6).trans s7
    have hgap7 : H7 D = some (.lst (cs.map V.int)) := s7 _ _ (s6 _ _ (s5 _ _ hgap))
    refine ⟨_, _, rfl, ?_⟩
    refine ⟨_, rfl, _, rfl, _, rfl, g, _, _, _, rfl, rfl, s07.seq hg, getLastD_map gs g0, _, _, rfl, rfl, .inr ⟨by omega, by omega⟩, _, rfl, ?_, ?_, ?_⟩
    · rw [hb2, ← Int.natCast_mul]
      omega
    · rw [hb2, ← Int.natCast_mul]
      have : sizeL cs * b ≤ 7200 * 60 := Nat.mul_le_mul (by omega) (by omega)
      omega
    have en3 : (((sizeL cs : Nat) : Int) * gs.getLastD 1).toNat = sizeL cs * b := by rw [hb2, ← Int.natCast_mul, Int.toNat_natCast]
    rw [en3]
    have hmax : sizeL cs * b ≤ 7200 * 60 := Nat.mul_le_mul (by omega) (by omega)
    have hspl : ∀ i, (spotsL cs b i).length ≤ i := fun i => by
      unfold spotsL
      exact Nat.le_trans (List.length_filter_le _ _) (by rw [List.length_range]; exact Nat.le_refl _)
    have hspbe : sp ≠ be := ne_of_none h6 nbe
    have nsp3 : H3 sp = none := s5.free nsp
    have nbe3 : H3 be = none := (s5.trans s6).free nbe
    have h6' : H7 sp = some (.lst []) := s7 _ _ h6
    refine for_range (n := sizeL cs * b) (fun i σ H' => ∃ (v4 v5 v10 v11 v12 : Option V), σ = [some (.ref g), some (.ref l), some (.int ((unitL gs : Nat) : Int)), some (.int ((everyL rows : Nat) : Int)), v4, v5, some (.ref D), some (.int ((sizeL cs : Nat) : Int)), some (.ref sp), some (.ref be), v10, v11, v12] ∧ Same H3 H' ∧
        H' sp = some (.lst ((spotsL cs b i).map fun k => V.int ((k : Nat) : Int))) ∧ H' be = some (.lst ((belowL cs b i).map fun k => V.int ((k : Nat) : Int))))
      ⟨_, _, _, _, _, rfl, (s5.trans s6).trans s7, h6', h7⟩ ?_ ?_
    · rintro i σ H' hi ⟨v4, v5, v10, v11, v12, rfl, sm, esp, ebe⟩
      rw [Int.zero_add]
      refine ⟨_, rfl, .inl ⟨rfl, _, SqL.lst ebe⟩, _, rfl, _, _, rfl, .inl (SqL.lst esp), be, _, _, rfl, rfl, ebe, ?_, ?_⟩
      · refine smallLt ?_
        rw [List.length_map]
        unfold belowL
        rw [List.length_map, List.length_range]
        omega
      generalize eH8 : upd H' be _ = H8
      have s8 : Same H3 H8 := by rw [← eH8]; exact same_mut sm nbe3
      have e8be : H8 be = some (.lst ((belowL cs b (i + 1)).map fun k => V.int ((k : Nat) : Int))) := by
        rw [← eH8, upd_same, List.length_map]
        unfold belowL
        rw [List.range_succ, List.map_append, List.map_append]
        rfl
      have e8sp : H8 sp = some (.lst ((spotsL cs b i).map fun k => V.int ((k : Nat) : Int))) := by rw [← eH8, upd_ne hspbe]; exact esp
      clear eH8
      have s08 : Same H H8 := (s02.trans s3).trans s8
      have hg8 := s08.seq hg
      have hlt : i / b < cs.length := by
        have h1 : i / b < sizeL cs := Nat.div_lt_of_lt_mul (by rw [Nat.mul_comm]; exact hi)
        omega
      have hat : atI (cs.map V.int) (((i / b : Nat)) : Int) = some (V.int (cs.getD (i / b) 0)) := by
        rw [atI_nat (map_get hlt), List.getD_eq_getElem?_getD, List.getElem?_eq_getElem hlt]
        rfl
      refine ⟨_, rfl, .inl ⟨_, rfl, _, rfl, _, rfl, g, _, _, _, rfl, rfl, hg8, getLastD_map gs g0, _, _, rfl, rfl, (by show (0 : Int) < _; omega), ?_⟩⟩
      refine ⟨_, rfl, _, rfl, _, rfl, _, rfl, g, _, _, _, rfl, rfl, hg8, getLastD_map gs g0, _, _, rfl, rfl, (by show (0 : Int) < _ ∧ _ < _; omega), ?_⟩
      refine ⟨D, _, _, .int (cs.getD (i / b) 0), rfl, rfl, SqL.lst (s8 _ _ hgap), (by rw [hb2, ← Int.natCast_ediv]; exact hat), _, _, rfl, rfl, _, rfl, ?_⟩
      have hspot : (decide (cs.getD (i / b) 0 ≤ (i : Int) % gs.getLastD 1)) = spotOk cs b i := by
        rw [hb2, ← Int.natCast_emod]
        rfl
      have hnext : spotsL cs b (i + 1) = spotsL cs b i ++ (if spotOk cs b i = true then [i] else []) := by
        unfold spotsL
        rw [List.range_succ, List.filter_append]
        congr 1
        cases q : spotOk cs b i <;> simp [q]
      refine ifD (fun hd => ?_) (fun hd => ?_)
      · have hq : spotOk cs b i = true := by rw [← hspot]; exact decide_eq_true hd
        refine ⟨_, rfl, .inl ⟨rfl, _, SqL.lst e8sp⟩, _, rfl, sp, _, _, rfl, rfl, e8sp, ?_, ?_⟩
        · refine smallLt ?_
          rw [List.length_map]
          exact Nat.le_trans (hspl i) (by omega)
        refine ⟨_, _, _, _, _, rfl, same_mut s8 nsp3, ?_, ?_⟩
        · rw [upd_same, hnext, if_pos hq, List.map_append]
          rfl
        · rw [upd_ne hspbe.symm]
          exact e8be
      · have hq : spotOk cs b i = false := by rw [← hspot]; exact decide_eq_false hd
        refine ⟨_, _, _, _, _, rfl, s8, ?_, e8be⟩
        rw [hnext, if_neg (by rw [hq]; exact Bool.false_ne_true), List.append_nil]
        exact e8sp
    rintro σ H8 ⟨v4, v5, v10, v11, v12, rfl, s8, esp, ebe⟩
    have s08 : Same H H8 := (s02.trans s3).trans s8
    intro d nd
    refine ⟨_, rfl, _, rfl, _, rfl, _, rfl, _, rfl, upd_same, [(Sum.inr "ground", .ref g), (Sum.inr "lanes", .ref l), (Sum.inr "groups", .int ((sizeL cs : Nat) : Int)), (Sum.inr "spots", .ref sp), (Sum.inr "below", .ref be)], rfl, Nat.le_of_ble_eq_true rfl, ?_⟩
    have hmk : mergeK [] [((Sum.inr "ground" : Key), V.ref g), (Sum.inr "lanes", .ref l), (Sum.inr "groups", .int ((sizeL cs : Nat) : Int)), (Sum.inr "spots", .ref sp), (Sum.inr "below", .ref be)] = [((Sum.inr "ground" : Key), V.ref g), (Sum.inr "lanes", .ref l), (Sum.inr "groups", .int ((sizeL cs : Nat) : Int)), (Sum.inr "spots", .ref sp), (Sum.inr "below", .ref be)] := by rfl
    rw [hmk, upd_upd]
    have hds : sp ≠ d := ne_of_none esp nd
    have hdb : be ≠ d := ne_of_none ebe nd
    have hbt : (gs.getLastD 1).toNat = b := by omega
    refine k d _ (s08.trans (same_new nd)) (s08.free nd) ⟨sp, be, cs, n, upd_same, hnn.symm, hcs.symm, ?_, ?_, fun z => z ((s02.trans s3).free nsp3), fun z => z ((s02.trans s3).free nbe3)⟩
    · rw [upd_ne hds, hbt]
      exact esp
    · rw [upd_ne hdb, hbt]
      exact ebe
def spHouse (K : PySem.W.Frag) : Sp := fun vs H Q _ => ∃ (p : Addr), vs = [.ref p, .non] ∧ VaseAt H p ∧
  ∀ (d g l : Addr) (gs : List Int) (rows : List R3) (H' : Hp), H d = none → H g = none → H l = none → H' g = some (.lst (gs.map V.int)) → LanesAt p H' l rows → HomeAt (fun q => H q ≠ none) H' d g l gs rows → 1 ≤ gs.length → gs.length ≤ 3 → (∀ x ∈ gs, 2 ≤ x ∧ x ≤ 4) →
    rows.length ≤ 3 → (∀ r ∈ rows, RowOk 4 gs r) → VaseAt H' p → Else p H H' → Q (.ref d) H'
theorem lcm_12 : ∀ a ∈ [1, 2, 3, 4, 6, 12], ∀ b ∈ [1, 2, 3, 4], Nat.lcm a b ∈ [1, 2, 3, 4, 6, 12] := by decide
theorem every_12 : ∀ (rows : List R3) (e : Nat), e ∈ [1, 2, 3, 4, 6, 12] → (∀ r ∈ rows, 1 ≤ r.2.1 ∧ r.2.1 ≤ 4) → rows.foldl everyStep e ∈ [1, 2, 3, 4, 6, 12]
  | [], e, he, _ => he
  | r :: rows, e, he, h => by
    rw [List.foldl_cons]
    refine every_12 rows _ ?_ fun x hx => h x (List.mem_cons_of_mem _ hx)
    unfold everyStep
    split
    · refine lcm_12 e he _ ?_
      have := h r List.mem_cons_self
      have h4 : r.2.1.toNat = 1 ∨ r.2.1.toNat = 2 ∨ r.2.1.toNat = 3 ∨ r.2.1.toNat = 4 := by omega
      simp
      omega
    · exact he
theorem every_12' {rows : List R3} (h : ∀ r ∈ rows, 1 ≤ r.2.1 ∧ r.2.1 ≤ 4) : everyL rows ≤ 12 := by
  have := every_12 rows 1 (by decide) h
  simp at this
  unfold everyL
  omega
theorem unit_16 {gs : List Int} (h1 : gs.length ≤ 3) (h : ∀ x ∈ gs, 2 ≤ x ∧ x ≤ 4) : unitL gs ≤ 16 := by
  unfold unitL
  match gs, h1, h with
  | [], _, _ => decide
  | [a], _, _ => exact (by decide : 1 ≤ 16)
  | [a, b], _, h =>
    have := h a (by simp)
    show 1 * a.toNat ≤ 16
    omega
  | [a, b, c], _, h =>
    have h1 := h a (by simp)
    have h2 := h b (by simp)
    show 1 * a.toNat * b.toNat ≤ 16
    have : 1 * a.toNat * b.toNat ≤ 4 * 4 := Nat.mul_le_mul (by omega) (by omega)
    omega
  | _ :: _ :: _ :: _ :: _, h1, _ => exact absurd h1 (by simp)
theorem ok_house {f : Addr} {fd : FuncData} (F : Fun K "_law_house" "_law_house" s_law_house f fd) (D_law_ground : DefK P w K mg base "_law_ground" ["_law_vase_here", "_law_most"] 3 (spGround K)) (D_law_lanes : DefK P w K mg base "_law_lanes" ["_law_vase_here", "_law_ground_here"] 3 (spLanes K))
    (D_law_place_house : DefK P w K mg base "_law_place_house" ["_law_ground_here", "_law_lanes_here"] 3 (spPlace K)) : FnOk P w K mg base CX0 4 f fd ["_law_vase_here", "_law_ground_here"] (spHouse K) := by
  have sc := sc_law_house
  refine F.ok sc (fun vs H Q E h => ?_) (fun cdv A outer s H vs Q E hr h => ?_)
  · obtain ⟨p, rfl, _⟩ := h
    rfl
  · obtain ⟨p, rfl, hv, k⟩ := h
    refine ⟨_, (pss_cons (ps_set (i := 1) sc.nd rfl (Or.inl rfl) (pe_ifExp (pt_cmpR op_isN (pv 1) pe_non (nomark _)) (pe_d D_law_ground (hr.mono (by decide)) rfl (pa_cons (pv 0) (pa_cons pe_int pa_nil))) (pv 1)))
      (pss_one (ps_ret (pe_d D_law_place_house (hr.mono (by decide)) rfl (pa_cons (pv 1) (pa_cons (pe_d D_law_lanes (hr.mono (by decide)) rfl (pa_cons (pv 0) (pa_cons (pv 1) pa_nil))) pa_nil)))))), ?_⟩
    refine ⟨_, rfl, rfl, _, rfl, ?_⟩
    refine ifD (fun hd => ?_) (fun hd => absurd rfl hd)
    refine ⟨_, rfl, p, _, rfl, hv, by decide, by decide, fun g gs H1 ng eg g0 g1 gb hv1 e1 => ?_⟩
    have hgp := hv.ne ng
    refine ⟨_, rfl, _, rfl, _, rfl, ?_⟩
    refine ⟨p, g, gs, rfl, hv1, hgp, SqL.lst eg, g0, g1, (fun x hx => ⟨(gb x hx).1, by have := (gb x hx).2; omega⟩), fun l rows H2 nl eL hrl hro hv2 e2 => ?_⟩
    have hg2 := e2 _ _ hgp eg
    have hE : everyL rows ≤ 12 := every_12' fun r hm => ⟨(hro r hm).2.2.1, (hro r hm).2.2.2.1⟩
    have hU := unit_16 g1 gb
    refine ⟨g, l, gs, rows, 4, rfl, SqL.lst hg2, eL.in, g0, g1, (fun x hx => ⟨(gb x hx).1, by have := (gb x hx).2; omega⟩), by omega, by decide, hro, ?_, fun d H3 s3 nd hh => ?_⟩
    · exact Nat.le_trans (Nat.mul_le_mul hU hE) (by decide)
    · have e03 : Else p H H3 := (e1.trans e2).trans (Same.els s3)
      refine k d g l gs rows H3 ?_ ng ?_ (s3 _ _ hg2) (eL.same s3) (hh.weak fun q hq => ?_) g0 g1 gb hrl hro (hv2.same s3) e03
      · cases q : H d with
        | none => rfl
        | some o =>
          have hdp : d ≠ p := hv2.ne nd
          have := (e1.trans e2) d o hdp q
          rw [nd] at this
          cases this
      · cases q : H l with
        | none => rfl
        | some o =>
          have hlp : l ≠ p := hv1.ne nl
          have := e1 l o hlp q
          rw [nl] at this
          cases this
      · intro z
        cases e : H q with
        | none => exact hq e
        | some o =>
          by_cases hqp : q = p
          · obtain ⟨_, _, _, _, _, _, w⟩ := hv2
            rw [← hqp, z] at w
            cases w
          · have := (e1.trans e2) q o hqp e
            rw [z] at this
            cases this
end
end LM

set_option Elab.async false
set_option linter.all false
set_option maxRecDepth 100000
set_option maxHeartbeats 4000000
set_option pp.maxSteps 600
set_option pp.deepTerms false
namespace LM
open PySem PySem.Spec PyProof.Rows L2
local macro_rules | `(tactic| walk_at "hp") => `(tactic| first | assumption | exact upd_same | (rw [upd_ne (by assumption)]; assumption) | (rw [upd_ne (Ne.symm (by assumption))]; assumption) | (rw [upd_ne (by assumption)]; exact upd_same) | (rw [upd_ne (Ne.symm (by assumption))]; exact upd_same))
local macro_rules | `(tactic| walk_at "sq") => `(tactic| first | assumption | exact Or.inl (Or.inl (by assumption)) | exact Or.inl (Or.inl upd_same) | exact Or.inl (Or.inl (by walk_at "hp")))
local macro_rules | `(tactic| walk_at "ixl") => `(tactic| refine ⟨_, _, _, _, rfl, rfl, (by walk_at "sq"), (by rfl), ?_⟩)
local macro_rules | `(tactic| walk_at "setl") => `(tactic| refine ⟨_, _, _, _, rfl, rfl, (by walk_at "hp"), (by rfl), ?_⟩)
local macro_rules | `(tactic| walk_at "side") => `(tactic| refine idP ?_; first | omega | (show (0 : Int) < _; omega) | (show (0 : Int) < _ ∧ _ < _; omega) | (refine Or.inr ?_; show (-(2 ^ 64) : Int) < _ ∧ _ < _; omega) | (refine Or.inl ?_; show (-(2 ^ 64) : Int) < _ ∧ _ < _; omega) | exact divW (by omega) (by omega) _ | (refine ⟨by decide, by decide, ?_⟩; decide))
local macro_rules | `(tactic| walk_at "go1") => `(tactic| first
  | refine ⟨_, rfl, ?_⟩
  | refine ⟨_, _, rfl, rfl, (by walk_at "side"), ?_⟩
  | refine ⟨_, _, rfl, (by walk_at "side"), ?_⟩
  | refine ⟨_, _, rfl, rfl, ?_⟩
  | refine Or.inl ⟨_, rfl, ?_⟩
  | refine ⟨_, _, rfl, Or.inl (by walk_at "sq"), ?_⟩
  | walk_at "ixl"
  | walk_at "setl"
  | refine ⟨_, _, rfl, (by walk_at "sq"), rfl, ?_⟩
  | refine ⟨_, _, rfl, (by walk_at "sq"), ?_⟩
  | refine ⟨_, _, rfl, ?_⟩
  | refine ⟨rfl, ?_⟩
  | refine ⟨small (Nat.le_of_ble_eq_true rfl), ?_⟩)
local macro_rules | `(tactic| walk_at "go") => `(tactic| repeat walk_at "go1")

abbrev sis_integer : Stmt := topS 15
theorem scis_integer : FnScope ["value"] ["value"] (defScope sis_integer) := ⟨rfl, rfl, rfl, by decide +kernel, rfl, by decide +kernel, by decide +kernel⟩
abbrev sis_integer_within : Stmt := topS 16
theorem scis_integer_within : FnScope ["value", "low", "high"] ["value", "low", "high"] (defScope sis_integer_within) := ⟨rfl, rfl, rfl, by decide +kernel, rfl, by decide +kernel, by decide +kernel⟩
abbrev sis_number : Stmt := topS 17
theorem scis_number : FnScope ["value"] ["value"] (defScope sis_number) := ⟨rfl, rfl, rfl, by decide +kernel, rfl, by decide +kernel, by decide +kernel⟩
abbrev scheck_number : Stmt := topS 18
theorem sccheck_number : FnScope ["given"] ["given"] (defScope scheck_number) := ⟨rfl, rfl, rfl, by decide +kernel, rfl, by decide +kernel, by decide +kernel⟩
abbrev scheck_bases : Stmt := topS 47
theorem sccheck_bases : FnScope ["bases", "index", "base"] ["bases"] (defScope scheck_bases) := ⟨rfl, rfl, rfl, by decide +kernel, rfl, by decide +kernel, by decide +kernel⟩
abbrev sis_row : Stmt := topS 48
theorem scis_row : FnScope ["bases", "value", "field", "every", "count"] ["bases", "value"] (defScope sis_row) := ⟨rfl, rfl, rfl, by decide +kernel, rfl, by decide +kernel, by decide +kernel⟩
abbrev scheck_rows : Stmt := topS 49
theorem sccheck_rows : FnScope ["bases", "rows", "index", "row"] ["bases", "rows"] (defScope scheck_rows) := ⟨rfl, rfl, rfl, by decide +kernel, rfl, by decide +kernel, by decide +kernel⟩
/-- the constants of the program's modules -/
structure Consts (mg : Str → Option Value) : Prop where
  MOST_BASES : ∃ t, mg "MOST_BASES" = some (.int 3 t)
  MOST_ROWS : ∃ t, mg "MOST_ROWS" = some (.int 6 t)
  MOST_GROUPS : ∃ t, mg "MOST_GROUPS" = some (.int 7200 t)
  LEAST_BASE : ∃ t, mg "LEAST_BASE" = some (.int 2 t)
  GREATEST_BASE : ∃ t, mg "GREATEST_BASE" = some (.int 60 t)
  GREATEST_EVERY : ∃ t, mg "GREATEST_EVERY" = some (.int 60 t)
theorem within_true {a b c : Int} (h1 : a ≤ b) (h2 : b ≤ c) : (decide (a ≤ b) && decide (b ≤ c)) = true := by
  rw [decide_eq_true h1, decide_eq_true h2]
  rfl
def spIsInt : Sp := fun vs H Q _ => ∃ n : Int, vs = [.int n] ∧ Q (.bl true) H
def spWithin : Sp := fun vs H Q _ => ∃ n lo hi : Int, vs = [.int n, .int lo, .int hi] ∧ Q (.bl (decide (lo ≤ n) && decide (n ≤ hi))) H
def spIsNum : Sp := fun vs H Q _ => ∃ n : Int, vs = [.int n] ∧ Q (.bl (decide (0 ≤ n))) H
def spChkNum : Sp := fun vs H Q _ => ∃ n : Int, vs = [.int n] ∧ 0 ≤ n ∧ Q .non H
def spChkBases (K : PySem.W.Frag) : Sp := fun vs H Q _ => ∃ (a : Addr) (bs : List Int), vs = [.ref a] ∧ SqT K H a (bs.map V.int) ∧ 1 ≤ bs.length ∧ bs.length ≤ 3 ∧ (∀ x ∈ bs, 2 ≤ x ∧ x ≤ 60) ∧ ∀ H', Same H H' → Q .non H'
def spIsRow (K : PySem.W.Frag) : Sp := fun vs H Q _ => ∃ (a r : Addr) (bs : List Int) (x : R3), vs = [.ref a, .ref r] ∧ SqT K H a (bs.map V.int) ∧ 1 ≤ bs.length ∧ SqT K H r [.int x.1, .int x.2.1, .int x.2.2] ∧ RowOk 60 bs x ∧ ∀ H', Same H H' → Q (.bl true) H'
/-- at r a tuple of rows, each a tuple of three ints -/
def RowsAt (K : PySem.W.Frag) (H : Hp) (r : Addr) (rows : List R3) : Prop := ∃ as : List Addr, SqT K H r (as.map V.ref) ∧ Paired (fun a (x : R3) => SqT K H a [.int x.1, .int x.2.1, .int x.2.2]) as rows
theorem RowsAt.same {K : PySem.W.Frag} {H H' : Hp} {r : Addr} {rows : List R3} (h : RowsAt K H r rows) (s : Same H H') : RowsAt K H' r rows := by
  obtain ⟨as, e, p⟩ := h
  exact ⟨as, Same.seqT s e, paired_imp p fun a _ x q => Same.seqT s q⟩
def spChkRows (K : PySem.W.Frag) : Sp := fun vs H Q _ => ∃ (a r : Addr) (bs : List Int) (rows : List R3), vs = [.ref a, .ref r] ∧ SqT K H a (bs.map V.int) ∧ 1 ≤ bs.length ∧ RowsAt K H r rows ∧ rows.length ≤ 6 ∧ (∀ x ∈ rows, RowOk 60 bs x) ∧ ∀ H', Same H H' → Q .non H'
theorem tyT {K : PySem.W.Frag} {H : Hp} {a : Addr} {xs : List V} (h : SqT K H a xs) : TyX K H (.ref a) (.type "tuple") := by
  rcases h with (h | ⟨o, h⟩) | h
  · exact .base (.tup h)
  · exact .fTuple h
  · obtain ⟨o, its, n, e, c, _⟩ := h
    exact .kTuple e c
section
variable {P : Program} {w : World} {K : PySem.W.Frag} {mg : Str → Option Value} {base : Heap}
theorem ok_isint {f : Addr} {fd : FuncData} (F : Fun K "is_integer" "is_integer" sis_integer f fd) (N : Names mg) : FnOk P w K mg base CX0 1 f fd ["value"] spIsInt := by
  have sc := scis_integer
  refine F.ok sc (fun vs H Q E h => ?_) (fun cdv A outer s H vs Q E hr h => ?_)
  · obtain ⟨n, rfl, _⟩ := h
    rfl
  · obtain ⟨n, rfl, k⟩ := h
    refine ⟨_, (pss_one (ps_ret (pe_and (pe_callB call_isi (by rfl) N.isinstance (by decide +kernel) (pa_cons (pv 0) (pa_cons (pe_ty "int" rfl N.int (by decide +kernel)) pa_nil))) (pe_one (pe_not (pe_callB call_isi (by rfl) N.isinstance (by decide +kernel) (pa_cons (pv 0) (pa_cons (pe_ty "bool" rfl N.bool (by decide +kernel)) pa_nil)))))))), ?_⟩
    refine ⟨_, rfl, _, _, _, _, _, rfl, .ty _, .base (.int n), kit_ty (r := true) (by decide +kernel), _, rfl, ?_⟩
    exact ⟨_, rfl, _, _, _, _, _, rfl, .ty _, .base (.int n), kit_ty (r := false) (by decide +kernel), _, rfl, k⟩
theorem ok_within {f : Addr} {fd : FuncData} (F : Fun K "is_integer_within" "is_integer_within" sis_integer_within f fd) (Dis_integer : DefK P w K mg base "is_integer" ["value"] 1 spIsInt) : FnOk P w K mg base CX0 2 f fd ["value", "low", "high"] spWithin := by
  have sc := scis_integer_within
  refine F.ok sc (fun vs H Q E h => ?_) (fun cdv A outer s H vs Q E hr h => ?_)
  · obtain ⟨n, lo, hi, rfl, _⟩ := h
    rfl
  · obtain ⟨n, lo, hi, rfl, k⟩ := h
    refine ⟨_, (pss_one (ps_ret (pe_and (pe_d Dis_integer (hr.mono (by decide)) rfl (pa_cons (pv 0) pa_nil)) (pe_one (pe_chain op_le op_le (pv 1) (pv 0) (pv 2)))))), ?_⟩
    refine ⟨_, rfl, n, rfl, _, rfl, ?_⟩
    refine ⟨_, rfl, _, rfl, _, _, rfl, rfl, _, rfl, ?_⟩
    refine ifD (fun hd => ?_) (fun hd => ?_)
    · refine ⟨_, rfl, _, _, rfl, rfl, ?_⟩
      rw [decide_eq_true hd, Bool.true_and] at k
      exact k
    · rw [decide_eq_false hd, Bool.false_and] at k
      exact k
theorem ok_isnum {f : Addr} {fd : FuncData} (F : Fun K "is_number" "is_number" sis_number f fd) (Dis_integer : DefK P w K mg base "is_integer" ["value"] 1 spIsInt) : FnOk P w K mg base CX0 2 f fd ["value"] spIsNum := by
  have sc := scis_number
  refine F.ok sc (fun vs H Q E h => ?_) (fun cdv A outer s H vs Q E hr h => ?_)
  · obtain ⟨n, rfl, _⟩ := h
    rfl
  · obtain ⟨n, rfl, k⟩ := h
    refine ⟨_, (pss_one (ps_ret (pe_and (pe_d Dis_integer (hr.mono (by decide)) rfl (pa_cons (pv 0) pa_nil)) (pe_one (pe_cmpR op_ge (pv 0) pe_int (nomark _)))))), ?_⟩
    refine ⟨_, rfl, n, rfl, _, rfl, ?_⟩
    exact ⟨_, rfl, _, _, rfl, rfl, k⟩
theorem ok_chknum {f : Addr} {fd : FuncData} (F : Fun K "check_number" "check_number" scheck_number f fd) (Dis_number : DefK P w K mg base "is_number" ["value"] 2 spIsNum) : FnOk P w K mg base CX0 3 f fd ["given"] spChkNum := by
  have sc := sccheck_number
  refine F.ok sc (fun vs H Q E h => ?_) (fun cdv A outer s H vs Q E hr h => ?_)
  · obtain ⟨n, rfl, _⟩ := h
    rfl
  · obtain ⟨n, rfl, h0, k⟩ := h
    refine ⟨_, (pss_one (ps_if (pt_not (pt_val (pe_d Dis_number (hr.mono (by decide)) rfl (pa_cons (pv 0) pa_nil)))) (pss_one ps_never) pss_nil)), ?_⟩
    refine ⟨_, rfl, n, rfl, _, rfl, ?_⟩
    rw [decide_eq_true h0]
    exact iteF k
theorem ok_chkbases {f : Addr} {fd : FuncData} (F : Fun K "check_bases" "check_bases" scheck_bases f fd) (N : Names mg) (M : Consts mg) (Dis_integer_within : DefK P w K mg base "is_integer_within" ["value", "low", "high"] 2 spWithin) : FnOk P w K mg base CX0 3 f fd ["bases"] (spChkBases K) := by
  have sc := sccheck_bases
  refine F.ok sc (fun vs H Q E h => ?_) (fun cdv A outer s H vs Q E hr h => ?_)
  · obtain ⟨a, bs, rfl, _⟩ := h
    rfl
  · obtain ⟨a, bs, rfl, hb, b0, b1, bb, k⟩ := h
    refine ⟨_, (pss_cons (ps_if (PW.pt (pw_or (pt_not (pt_val (pe_callB call_isi (by rfl) N.isinstance (by decide +kernel) (pa_cons (pv 0) (pa_cons (pe_ty "tuple" rfl N.tuple (by decide +kernel)) pa_nil))))) (pw_or1 (pt_not (pt_chain op_le op_le pe_int (pe_callB call_len_seq (by rfl) N.len (by decide +kernel) (pa_cons (pv 0) pa_nil)) (pe_const rfl M.MOST_BASES)))))) (pss_one ps_never) pss_nil)
      (pss_one (ps_for PassesOwn.never rfl (pi_enumT rfl N.enumerate (pa_cons (pv 0) pa_nil)) (pg_tup rfl (pgs_cons (pg_name (i := 1) sc.nd rfl (Or.inl rfl)) (pgs_cons (pg_name (i := 2) sc.nd rfl (Or.inl rfl)) pgs_nil))) (pss_one (ps_if (pt_not (pt_val (pe_d Dis_integer_within (hr.mono (by decide)) rfl (pa_cons (pv 2) (pa_cons (pe_const rfl M.LEAST_BASE) (pa_cons (pe_const rfl M.GREATEST_BASE) pa_nil)))))) (pss_one ps_never) pss_nil))))), ?_⟩
    refine ⟨_, rfl, _, _, _, _, _, rfl, .ty _, tyT hb, kit_ty (r := true) (by decide +kernel), _, rfl, ?_⟩
    refine iteF ?_
    refine ⟨_, rfl, a, _, rfl, .inr hb, _, _, rfl, rfl, _, rfl, ?_⟩
    rw [List.length_map]
    refine ifD (fun hd => ?_) (fun hd => absurd (by omega) hd)
    refine ⟨_, _, rfl, rfl, _, rfl, ?_⟩
    refine ifN (fun hd => absurd (by show ((bs.length : Nat) : Int) ≤ 3; omega) hd) (fun hd => ?_)
    refine ⟨_, rfl, a, _, rfl, hb, for_enumT (K := K) (xs := bs.map V.int) (fun i σ H' => ∃ v1 v2 : Option V, σ = [some (.ref a), v1, v2] ∧ Same H H') ⟨_, _, rfl, Same.refl H⟩ (fun i σ H' _ ⟨_, _, _, s⟩ => Same.seqT s hb) ?_ ?_⟩
    · rintro i x T σ H' hx nT ⟨v1, v2, rfl, sm⟩
      obtain ⟨b, hb', rfl⟩ : ∃ b, bs[i]? = some b ∧ x = V.int b := by
        rw [List.getElem?_map] at hx
        obtain ⟨z, hz, e⟩ := Option.map_eq_some_iff.mp hx
        exact ⟨z, hz, e.symm⟩
      have hbb := bb b (List.mem_of_getElem? hb')
      refine ⟨T, _, rfl, SqT.tup upd_same, rfl, _, _, rfl, _, _, rfl, rfl, ?_⟩
      refine ⟨_, rfl, b, 2, 60, rfl, _, rfl, ?_⟩
      rw [decide_eq_true hbb.1, decide_eq_true hbb.2]
      refine iteF ?_
      exact ⟨_, _, rfl, Same.of_new sm nT⟩
    · rintro σ H' ⟨v1, v2, rfl, sm⟩
      exact k H' sm
theorem ok_isrow {f : Addr} {fd : FuncData} (F : Fun K "is_row" "is_row" sis_row f fd) (N : Names mg) (M : Consts mg) (Dis_integer_within : DefK P w K mg base "is_integer_within" ["value", "low", "high"] 2 spWithin) : FnOk P w K mg base CX0 3 f fd ["bases", "value"] (spIsRow K) := by
  have sc := scis_row
  refine F.ok sc (fun vs H Q E h => ?_) (fun cdv A outer s H vs Q E hr h => ?_)
  · obtain ⟨a, r, bs, x, rfl, _⟩ := h
    rfl
  · obtain ⟨a, r, bs, x, rfl, hb, b0, hx, ⟨o1, o2, o3, o4, o5, o6⟩, k⟩ := h
    refine ⟨_, (pss_cons (ps_if (PW.pt (pw_or (pt_not (pt_val (pe_callB call_isi (by rfl) N.isinstance (by decide +kernel) (pa_cons (pv 1) (pa_cons (pe_ty "tuple" rfl N.tuple (by decide +kernel)) pa_nil))))) (pw_or1 (pt_cmpR op_ne (pe_callB call_len_seq (by rfl) N.len (by decide +kernel) (pa_cons (pv 1) pa_nil)) pe_int (nomark _))))) (pss_one (ps_ret pe_bl)) pss_nil)
      (pss_cons (ps_asg (pv 1) (pg_tup rfl (pgs_cons (pg_name (i := 2) sc.nd rfl (Or.inl rfl)) (pgs_cons (pg_name (i := 3) sc.nd rfl (Or.inl rfl)) (pgs_cons (pg_name (i := 4) sc.nd rfl (Or.inl rfl)) pgs_nil)))))
      (pss_one (ps_ret (pe_and (pe_d Dis_integer_within (hr.mono (by decide)) rfl (pa_cons (pv 2) (pa_cons pe_int (pa_cons (pe_op op_sub (pe_callB call_len_seq (by rfl) N.len (by decide +kernel) (pa_cons (pv 0) pa_nil)) pe_int) pa_nil)))) (pe_and (pe_d Dis_integer_within (hr.mono (by decide)) rfl (pa_cons (pv 3) (pa_cons pe_int (pa_cons (pe_const rfl M.GREATEST_EVERY) pa_nil)))) (pe_one (pe_d Dis_integer_within (hr.mono (by decide)) rfl (pa_cons (pv 4) (pa_cons pe_int (pa_cons (pe_op op_sub (pe_ix ix_tup (pv 0) (pe_un un_neg pe_int) (fun _ _ => rfl)) pe_int) pa_nil))))))))))), ?_⟩
    refine ⟨_, rfl, _, _, _, _, _, rfl, .ty _, tyT hx, kit_ty (r := true) (by decide +kernel), _, rfl, ?_⟩
    refine iteF ?_
    refine ⟨_, rfl, r, _, rfl, .inr hx, rfl, _, rfl, ?_⟩
    refine iteF ?_
    refine ⟨_, rfl, r, _, rfl, hx, rfl, _, _, rfl, _, _, rfl, _, _, rfl, rfl, ?_⟩
    refine ⟨_, rfl, _, rfl, a, _, rfl, .inr hb, _, _, rfl, rfl, x.1, 0, _, rfl, _, rfl, ?_⟩
    rw [within_true o1 (by rw [List.length_map]; omega)]
    refine iteT ?_
    refine ⟨_, rfl, x.2.1, 1, 60, rfl, _, rfl, ?_⟩
    rw [within_true o3 o4]
    refine iteT ?_
    refine ⟨_, rfl, _, rfl, _, rfl, a, _, _, _, rfl, rfl, hb, getLastD_map bs b0, _, _, rfl, rfl, x.2.2, 0, _, rfl, ?_⟩
    rw [within_true o5 (by omega)]
    exact k H (Same.refl H)
theorem ok_chkrows {f : Addr} {fd : FuncData} (F : Fun K "check_rows" "check_rows" scheck_rows f fd) (N : Names mg) (M : Consts mg) (Dis_row : DefK P w K mg base "is_row" ["bases", "value"] 3 (spIsRow K)) : FnOk P w K mg base CX0 4 f fd ["bases", "rows"] (spChkRows K) := by
  have sc := sccheck_rows
  refine F.ok sc (fun vs H Q E h => ?_) (fun cdv A outer s H vs Q E hr h => ?_)
  · obtain ⟨a, r, bs, rows, rfl, _⟩ := h
    rfl
  · obtain ⟨a, r, bs, rows, rfl, hb, b0, hR, r6, ro, k⟩ := h
    obtain ⟨as, hrt, pr⟩ := id hR
    have hpl := pr.length
    refine ⟨_, (pss_cons (ps_if (PW.pt (pw_or (pt_not (pt_val (pe_callB call_isi (by rfl) N.isinstance (by decide +kernel) (pa_cons (pv 1) (pa_cons (pe_ty "tuple" rfl N.tuple (by decide +kernel)) pa_nil))))) (pw_or1 (pt_cmpR op_gt (pe_callB call_len_seq (by rfl) N.len (by decide +kernel) (pa_cons (pv 1) pa_nil)) (pe_const rfl M.MOST_ROWS) (nomark _))))) (pss_one ps_never) pss_nil)
      (pss_one (ps_for PassesOwn.never rfl (pi_enumT rfl N.enumerate (pa_cons (pv 1) pa_nil)) (pg_tup rfl (pgs_cons (pg_name (i := 2) sc.nd rfl (Or.inl rfl)) (pgs_cons (pg_name (i := 3) sc.nd rfl (Or.inl rfl)) pgs_nil))) (pss_one (ps_if (pt_not (pt_val (pe_d Dis_row (hr.mono (by decide)) rfl (pa_cons (pv 0) (pa_cons (pv 3) pa_nil))))) (pss_one ps_never) pss_nil))))), ?_⟩
    refine ⟨_, rfl, _, _, _, _, _, rfl, .ty _, tyT hrt, kit_ty (r := true) (by decide +kernel), _, rfl, ?_⟩
    refine iteF ?_
    refine ⟨_, rfl, r, _, rfl, .inr hrt, _, _, rfl, rfl, _, rfl, ?_⟩
    refine ifD (fun hd => absurd hd (by rw [List.length_map]; omega)) (fun hd => ?_)
    refine ⟨_, rfl, r, _, rfl, hrt, for_enumT (K := K) (xs := as.map V.ref) (fun i σ H' => ∃ v1 v2 : Option V, σ = [some (.ref a), some (.ref r), v1, v2] ∧ Same H H') ⟨_, _, rfl, Same.refl H⟩ (fun i σ H' _ ⟨_, _, _, s⟩ => Same.seqT s hrt) ?_ ?_⟩
    · rintro i x T σ H' hx nT ⟨v1, v2, rfl, sm⟩
      obtain ⟨ra, ha, rfl⟩ : ∃ b, as[i]? = some b ∧ x = V.ref b := by
        rw [List.getElem?_map] at hx
        obtain ⟨z, hz, e⟩ := Option.map_eq_some_iff.mp hx
        exact ⟨z, hz, e.symm⟩
      obtain ⟨y, hy, hya⟩ := paired_at pr ha
      have sT : Same H (upd H' T (.tup [.int ((i : Nat) : Int), .ref ra])) := Same.of_new sm nT
      refine ⟨T, _, rfl, SqT.tup upd_same, rfl, _, _, rfl, _, _, rfl, rfl, ?_⟩
      refine ⟨_, rfl, _, rfl, a, ra, bs, y, rfl, Same.seqT sT hb, b0, Same.seqT sT hya, ro y (List.mem_of_getElem? hy), fun H5 s5 => ?_⟩
      refine ⟨_, rfl, iteF ?_⟩
      exact ⟨_, _, rfl, sT.trans s5⟩
    · rintro σ H' ⟨v1, v2, rfl, sm⟩
      exact k H' sm
end
end LM

set_option Elab.async false
set_option linter.all false
set_option maxRecDepth 100000
set_option maxHeartbeats 4000000
namespace LM
open PySem PySem.Spec PyProof.Rows L2
def rgN (i j c : Int) : Nat := if i < j then ((j - i - 1) / c + 1).toNat else 0
theorem rgN_le {i j c : Int} (hi : i ≤ j) (hc : 1 ≤ c) : (rgN i j c : Int) ≤ j - i := by
  unfold rgN
  split
  · have h1 : (j - i - 1) / c ≤ j - i - 1 := Int.ediv_le_self _ (by omega)
    omega
  · omega
theorem RgC.pos {i j c : Int} (h0 : 0 ≤ i) (h1 : i ≤ j) (h2 : j ≤ 10000000) (h3 : 1 ≤ c) (h4 : c ≤ 10000000) : RgC i j c (rgN i j c) := by
  have hs : Builtin.Range.rangeSize i j c = ((rgN i j c : Nat) : Int) := by
    unfold Builtin.Range.rangeSize rgN
    rw [if_pos (by omega)]
    by_cases h : i < j
    · rw [if_pos h, if_pos h]
      have : 0 ≤ (j - i - 1) / c := Int.ediv_nonneg (by omega) (by omega)
      omega
    · rw [if_neg h, if_neg h]
      rfl
  have hl := rgN_le h1 h3
  refine ⟨by omega, by omega, ?_, hs⟩
  unfold Builtin.Range.small
  rw [hs]
  simp only [Builtin.Range.rangeFitsLong, Bool.and_eq_true, Bool.or_eq_true, decide_eq_true_eq, beq_iff_eq]
  refine ⟨by omega, .inr ?_⟩
  rw [if_pos (by omega)]
  simp only [Bool.and_eq_true, decide_eq_true_eq]
  omega
/-- list(range(a, b, c)) -/
def rg3V (i c : Int) (n : Nat) : List V := (List.range n).map fun k => V.int (i + (k : Nat) * c)
def tLstRg3 (ta : TA) : TE := fun σ H Q => ta σ H fun vs H1 => ∃ (i j c : Int) (n : Nat), vs = [.int i, .int j, .int c] ∧ RgC i j c n ∧ n ≤ 2 ^ 24 ∧ ∀ q, H1 q = none → Q (.ref q) (upd H1 q (.lst (rg3V i c n)))
theorem vals_rg3 {i c : Int} {n : Nat} {acc : Array Value} (h : ItemsOf (fun k v => ∃ t, v = .int (i + k * c) t) acc n) : Vals (rg3V i c n) acc.toList := by
  have e : acc.toList.length = n := by rw [Array.length_toList]; exact h.1
  unfold rg3V
  rw [← e]
  refine vals_of_get acc.toList _ fun j u hj => ?_
  exact h.2 j u (by rw [← hj, Array.getElem?_toList])
theorem pe_listRg3 {X : Cx} {a b c : Expr} {ta : TA} {p pos p2 pos2 : Pos} (hc : X.calm = true) (hg : Gl X "list") (hm : X.mg "list" = none) (hg2 : Gl X "range") (hm2 : X.mg "range" = none) (ha : PA X [a, b, c] ta)
    (hs : starEach [a, b, c] X.env = (false, eval a X.env) :: starEach [b, c] X.env := by rfl) (hpl : (backTo pos2 (starEach [b, c] X.env)).any (·.1) = false := by rfl)
    (na : starEach [.Call (.Name "range" p2) [a, b, c] [] pos2] X.env = (false, eval (.Call (.Name "range" p2) [a, b, c] [] pos2) X.env) :: starEach [] X.env := by rfl) :
    PE X (.Call (.Name "list" p) [.Call (.Name "range" p2) [a, b, c] [] pos2] [] pos) (tLstRg3 ta) := by
  refine ⟨fun pins s σ H Q I h => ?_⟩
  refine Call_ (ld_blt I hg hm boot_list (PyProof.Rows.callWith_type1 (args_cons (Call_ (ld_blt I hg2 hm2 boot_range (PyProof.Rows.callWith_type1 (thn (ha.run pos2 pins s σ H _ I h) fun us s1 ⟨vs, H1, I1, r1, q1⟩ => ?_) hs hpl))) na) na))
  obtain ⟨i, j, k, n, e, ⟨c0, c1, c2, c3⟩, hn, q⟩ := q1
  subst e
  cases r1 with
  | cons r rr =>
    cases rr with
    | cons r' rr =>
      cases rr with
      | cons r'' rr =>
        cases rr
        obtain ⟨t, rfl⟩ := r
        obtain ⟨t', rfl⟩ := r'
        obtain ⟨t'', rfl⟩ := r''
        refine call_range_3 c0 ?_ (.inl (PyProof.noPylong_small c1))
        refine args_nil ?_
        have I2 : Inv X pins σ H1 { s1 with heap := s1.heap.push { cls := .type "range", data := .fields #[.int i t, .int j t', .int k t''] } } := I1.kept (t' := s1.toks) fun b o e => Heap.get?_push_of_some _ e
        refine call_list_range (n := n) (I2.ok.hd hc) (IsRange.new ..) c2 c3 hn fun h' tk acc c' hk e' hi => ?_
        have hsz : (rg3V i k n).length ≤ sizeLine := by
          unfold rg3V
          rw [List.length_map, List.length_range, sizeLine_eq]
          omega
        exact ⟨.ref _, upd H1 _ (.lst (rg3V i k n)), I2.laid hk (Nat.le_refl _) (show ObjOk X.prog X.w _ _ _ (.lst (rg3V i k n)) from ⟨hsz, acc.toList, c', vals_rg3 hi, by rw [Array.toArray_toList]; exact e'⟩), rfl, q _ (I2.hok.fresh (Nat.le_refl _))⟩
end LM
namespace LM
open PySem PySem.Spec PyProof.Rows L2
theorem if_joinH {p : Prop} [Decidable p] {ta tb : TE} {σ : L2.St} {H : Hp} {Q : VK} (P : V → Hp → Prop) (h1 : p → ∀ Q' : VK, (∀ v H', P v H' → Q' v H') → ta σ H Q') (h2 : ¬ p → ∀ Q' : VK, (∀ v H', P v H' → Q' v H') → tb σ H Q') (k : ∀ v H', P v H' → Q v H') :
    if decide p = true then ta σ H Q else tb σ H Q := ifD (fun h => h1 h Q k) (fun h => h2 h Q k)
end LM

set_option Elab.async false
set_option linter.all false
set_option maxRecDepth 100000
set_option maxHeartbeats 4000000
set_option pp.maxSteps 600
set_option pp.deepTerms false
namespace LM
open PySem PySem.Spec PyProof.Rows L2
local macro_rules | `(tactic| walk_at "hp") => `(tactic| first | assumption | exact upd_same | (rw [upd_ne (by assumption)]; assumption) | (rw [upd_ne (Ne.symm (by assumption))]; assumption) | (rw [upd_ne (by assumption)]; exact upd_same) | (rw [upd_ne (Ne.symm (by assumption))]; exact upd_same))
local macro_rules | `(tactic| walk_at "sq") => `(tactic| first | assumption | exact Or.inl (Or.inl (by assumption)) | exact Or.inl (Or.inl upd_same) | exact Or.inl (Or.inl (by walk_at "hp")))
local macro_rules | `(tactic| walk_at "ixl") => `(tactic| refine ⟨_, _, _, _, rfl, rfl, (by walk_at "sq"), (by rfl), ?_⟩)
local macro_rules | `(tactic| walk_at "setl") => `(tactic| refine ⟨_, _, _, _, rfl, rfl, (by walk_at "hp"), (by rfl), ?_⟩)
local macro_rules | `(tactic| walk_at "side") => `(tactic| refine idP ?_; first | omega | (show (0 : Int) < _; omega) | (show (0 : Int) < _ ∧ _ < _; omega) | (refine Or.inr ?_; show (-(2 ^ 64) : Int) < _ ∧ _ < _; omega) | (refine Or.inl ?_; show (-(2 ^ 64) : Int) < _ ∧ _ < _; omega) | exact divW (by omega) (by omega) _ | (refine ⟨by decide, by decide, ?_⟩; decide))
local macro_rules | `(tactic| walk_at "go1") => `(tactic| first
  | refine ⟨_, rfl, ?_⟩
  | refine ⟨_, _, rfl, rfl, (by walk_at "side"), ?_⟩
  | refine ⟨_, _, rfl, (by walk_at "side"), ?_⟩
  | refine ⟨_, _, rfl, rfl, ?_⟩
  | refine Or.inl ⟨_, rfl, ?_⟩
  | refine ⟨_, _, rfl, Or.inl (by walk_at "sq"), ?_⟩
  | walk_at "ixl"
  | walk_at "setl"
  | refine ⟨_, _, rfl, (by walk_at "sq"), rfl, ?_⟩
  | refine ⟨_, _, rfl, (by walk_at "sq"), ?_⟩
  | refine ⟨_, _, rfl, ?_⟩
  | refine ⟨rfl, ?_⟩
  | refine ⟨small (Nat.le_of_ble_eq_true rfl), ?_⟩)
local macro_rules | `(tactic| walk_at "go") => `(tactic| repeat walk_at "go1")

abbrev sspaced : Stmt := topS 50
theorem scspaced : FnScope ["parts", "part"] ["parts"] (defScope sspaced) := ⟨rfl, rfl, rfl, by decide +kernel, rfl, by decide +kernel, by decide +kernel⟩
abbrev shouse_text : Stmt := topS 51
theorem schouse_text : FnScope ["bases", "rows", "lines", "row"] ["bases", "rows"] (defScope shouse_text) := ⟨rfl, rfl, rfl, by decide +kernel, rfl, by decide +kernel, by decide +kernel⟩
abbrev sgroups_in_unit : Stmt := topS 36
theorem scgroups_in_unit : FnScope ["bases", "field", "groups", "base"] ["bases", "field"] (defScope sgroups_in_unit) := ⟨rfl, rfl, rfl, by decide +kernel, rfl, by decide +kernel, by decide +kernel⟩
abbrev sgroups_to_repeat : Stmt := topS 37
theorem scgroups_to_repeat : FnScope ["bases", "rows", "cycle", "field", "every", "_"] ["bases", "rows"] (defScope sgroups_to_repeat) := ⟨rfl, rfl, rfl, by decide +kernel, rfl, by decide +kernel, by decide +kernel⟩
abbrev sfitted_groups : Stmt := topS 38
theorem scfitted_groups : FnScope ["bases", "row", "groups", "field", "every", "_", "step", "span", "fitted", "start"] ["bases", "row", "groups"] (defScope sfitted_groups) := ⟨rfl, rfl, rfl, by decide +kernel, rfl, by decide +kernel, by decide +kernel⟩
abbrev sskipped_counts : Stmt := topS 39
theorem scskipped_counts : FnScope ["bases", "rows", "groups", "counts", "row", "group"] ["bases", "rows", "groups"] (defScope sskipped_counts) := ⟨rfl, rfl, rfl, by decide +kernel, rfl, by decide +kernel, by decide +kernel⟩
abbrev sleast_repeat : Stmt := topS 40
theorem scleast_repeat : FnScope ["counts", "many", "step"] ["counts"] (defScope sleast_repeat) := ⟨rfl, rfl, rfl, by decide +kernel, rfl, by decide +kernel, by decide +kernel⟩
abbrev ssums_ahead : Stmt := topS 41
theorem scsums_ahead : FnScope ["numbers", "total", "sums", "number"] ["numbers"] (defScope ssums_ahead) := ⟨rfl, rfl, rfl, by decide +kernel, rfl, by decide +kernel, by decide +kernel⟩
def numS (n : Int) : Str := toString n
def spacedS (ns : List Int) : Str := Txt.join " " (ns.map numS)
theorem numS_len {n : Int} (h0 : 0 ≤ n) (h1 : n ≤ 60) : (numS n).length ≤ 62 := by
  have := len_str_of_int n
  unfold numS
  omega
theorem join_le (a : Str) (ys : List Str) (m : Nat) (h : ∀ y ∈ ys, y.length ≤ m) : (ys.map (·.length)).sum + ys.length * a.length ≤ ys.length * (m + a.length) := by
  induction ys with
  | nil => simp
  | cons y ys ih =>
    have h1 := h y List.mem_cons_self
    have h2 := ih fun z hz => h z (List.mem_cons_of_mem _ hz)
    simp only [List.map_cons, List.sum_cons, List.length_cons, Nat.succ_mul]
    omega
theorem join_len (a : Str) (ys : List Str) (m : Nat) (h : ∀ y ∈ ys, y.length ≤ m) : (Txt.join a ys).length ≤ ys.length * (m + a.length) := by
  have h1 : (Txt.join a ys).length = (Str.join a ys).length := by
    show (Builtin.Str.glued a ys).length = _
    rw [StrLaws.glued_eq_join]
  rw [h1]
  exact Nat.le_trans (StrLaws.join_length_le a ys) (join_le a ys m h)
theorem spaced_len {ns : List Int} (h3 : ns.length ≤ 3) (h : ∀ x ∈ ns, 0 ≤ x ∧ x ≤ 60) : (spacedS ns).length ≤ 200 := by
  have := join_len " " (ns.map numS) 62 (fun y hy => by
    obtain ⟨x, hx, rfl⟩ := List.mem_map.mp hy
    exact numS_len (h x hx).1 (h x hx).2)
  rw [List.length_map] at this
  have e : ((" " : Str)).length = 1 := by decide
  rw [e] at this
  unfold spacedS
  omega
def spSpaced (K : PySem.W.Frag) : Sp := fun vs H Q _ => ∃ (a : Addr) (ns : List Int), vs = [.ref a] ∧ SqT K H a (ns.map V.int) ∧ ns.length ≤ 3 ∧ (∀ x ∈ ns, 0 ≤ x ∧ x ≤ 60) ∧ ∀ H', Same H H' → Q (.str (spacedS ns)) H'
section
variable {P : Program} {w : World} {K : PySem.W.Frag} {mg : Str → Option Value} {base : Heap}
theorem ok_spaced {f : Addr} {fd : FuncData} (F : Fun K "spaced" "spaced" sspaced f fd) (N : Names mg) : FnOk P w K mg base CX0 1 f fd ["parts"] (spSpaced K) := by
  have sc := scspaced
  refine F.ok sc (fun vs H Q E h => ?_) (fun cdv A outer s H vs Q E hr h => ?_)
  · obtain ⟨a, ns, rfl, _⟩ := h
    rfl
  · obtain ⟨a, ns, rfl, ha, h3, hb, k⟩ := h
    refine ⟨_, (pss_one (ps_ret (pe_join pe_str (pe_lc (own := [("part", 1)]) rfl sc.nd (pi_tup (pv 0)) (blkOk_by (own := [("part", 1)]) (N := ["parts", "part"]) (sc := defScope (topS 50)) (by decide +kernel)) (fun _ _ _ _ _ => (pg_name (i := 1) sc.nd rfl (Or.inl rfl))) (fun _ _ _ _ _ => pts_nil) (fun _ _ _ _ _ => (pe_callTy (T := "str") call_str_int (by rfl) N.str (by decide +kernel) (pa_cons (pv 1) pa_nil))))))), ?_⟩
    refine ⟨⟨_, rfl⟩, _, rfl, a, rfl, ⟨_, ha⟩, ?_⟩
    intro D nD
    refine lc_tup (K := K) (xs := ns.map V.int) (fun i H' => Same H H' ∧ H' D = some (.lst (((ns.take i).map numS).map V.str))) ⟨same_new nD, upd_same⟩ (fun i H' _ ⟨s, _⟩ => Same.seqT s ha) ?_ ?_
    · rintro i x H' hx ⟨sm, eD⟩
      obtain ⟨n, hn, rfl⟩ : ∃ b, ns[i]? = some b ∧ x = V.int b := by
        rw [List.getElem?_map] at hx
        obtain ⟨z, hz, e⟩ := Option.map_eq_some_iff.mp hx
        exact ⟨z, hz, e.symm⟩
      obtain ⟨b0, b1⟩ := hb n (List.mem_of_getElem? hn)
      have hl : n.natAbs.log2 < 1920 := by
        rcases Nat.eq_zero_or_pos n.natAbs with z | z
        · rw [z]; decide
        · exact Nat.lt_trans ((Nat.log2_lt (by omega)).mpr (show n.natAbs < 2 ^ 6 by omega)) (by decide)
      refine ⟨rfl, ?_⟩
      refine ⟨_, rfl, n, rfl, hl, _, eD, smallLt (by rw [List.length_map, List.length_map, List.length_take]; omega), same_mut sm nD, ?_⟩
      rw [upd_same, List.take_add_one, hn, List.map_append, List.map_append]
      rfl
    · rintro H' ⟨sm, eD⟩
      rw [List.take_of_length_le (by rw [List.length_map]; exact Nat.le_refl _)] at eD
      refine ⟨_, D, _, rfl, rfl, .inl (SqL.lst eD), ?_, k H' sm⟩
      refine Nat.le_trans (join_le _ _ 62 fun y hy => ?_) ?_
      · obtain ⟨x, hx, rfl⟩ := List.mem_map.mp hy
        exact numS_len (hb x hx).1 (hb x hx).2
      · rw [List.length_map]
        have e : ((" " : Str)).length = 1 := by decide
        rw [e]
        omega
def rowS (x : R3) : Str := Str.empty ++ "skip " ++ spacedS [x.1, x.2.1, x.2.2]
def houseS (bs : List Int) (rows : List R3) : Str := Txt.join "\n" ((Str.empty ++ "house " ++ spacedS bs) :: rows.map rowS)
def spHouseText (K : PySem.W.Frag) : Sp := fun vs H Q _ => ∃ (a r : Addr) (bs : List Int) (rows : List R3), vs = [.ref a, .ref r] ∧ SqT K H a (bs.map V.int) ∧ bs.length ≤ 3 ∧ (∀ x ∈ bs, 0 ≤ x ∧ x ≤ 60) ∧ RowsAt K H r rows ∧ rows.length ≤ 6 ∧ (∀ x ∈ rows, RowOk 60 bs x) ∧
  (∀ x ∈ rows, x.2.2 ≤ 60) ∧ ∀ H', Same H H' → Q (.str (houseS bs rows)) H'
theorem ok_housetext {f : Addr} {fd : FuncData} (F : Fun K "house_text" "house_text" shouse_text f fd) (Dspaced : DefK P w K mg base "spaced" ["parts"] 1 (spSpaced K)) : FnOk P w K mg base CX0 2 f fd ["bases", "rows"] (spHouseText K) := by
  have sc := schouse_text
  refine F.ok sc (fun vs H Q E h => ?_) (fun cdv A outer s H vs Q E hr h => ?_)
  · obtain ⟨a, r, bs, rows, rfl, _⟩ := h
    rfl
  · obtain ⟨a, r, bs, rows, rfl, ha, h3, hb, hR, r6, ro, rc, k⟩ := h
    refine ⟨_, (pss_cons (ps_set (i := 2) sc.nd rfl (Or.inl rfl) (pe_lst (pa_cons (pe_joined (.cons pe_str (.cons (pe_fmt (pe_d Dspaced (hr.mono (by decide)) rfl (pa_cons (pv 0) pa_nil))) .nil))) pa_nil)))
      (pss_cons (ps_for PassesOwn.never rfl (pi_tup (pv 1)) (pg_name (i := 3) sc.nd rfl (Or.inl rfl)) (pss_one (ps_expr (pe_bm PySem.F.plainAttrs_list PySem.F.slot_list_append PySem.F.type_list_append mt_append (pv 2) (pa_cons (pe_joined (.cons pe_str (.cons (pe_fmt (pe_d Dspaced (hr.mono (by decide)) rfl (pa_cons (pv 3) pa_nil))) .nil))) pa_nil)))))
      (pss_one (ps_ret (pe_join pe_str (pv 2)))))), ?_⟩
    have hls := spaced_len h3 hb
    have l0 : (Str.empty ++ ("house " : Str)).length = 6 := by decide
    have l1 : (Str.empty ++ ("skip " : Str)).length = 5 := by decide
    refine ⟨_, rfl, small (by rw [l0]; omega), _, rfl, a, bs, rfl, ha, h3, hb, fun H1 s1 => ?_⟩
    refine .inl ⟨_, rfl, small (by omega), _, rfl, small (by rw [Str.length_append, l0]; omega), ?_⟩
    refine ⟨Nat.le_of_ble_eq_true rfl, ?_⟩
    (intro l nl; generalize e_l : upd H1 l _ = H2; have s2 : Same H1 H2 := fun b x hb => (congrFun e_l b).symm.trans (same_new nl b x hb); have h2 := (congrFun e_l l).symm.trans upd_same; clear e_l)
    have s02 := s1.trans s2
    have nl0 : H l = none := s1.free nl
    obtain ⟨as, hrt, pr⟩ := id hR
    have hpl := pr.length
    refine ⟨_, rfl, r, rfl, ⟨_, Same.seqT s02 hrt⟩, for_tup (K := K) (xs := as.map V.ref) (fun i σ H' => ∃ v3 : Option V, σ = [some (.ref a), some (.ref r), some (.ref l), v3] ∧ Same H H' ∧ H' l = some (.lst (((Str.empty ++ "house " ++ spacedS bs) :: (rows.take i).map rowS).map V.str)))
      ⟨_, rfl, s02, h2⟩ (fun i σ H' _ ⟨_, _, s, _⟩ => Same.seqT s hrt) ?_ ?_⟩
    · rintro i x σ H' hx ⟨v3, rfl, sm, el⟩
      obtain ⟨ra, hra, rfl⟩ : ∃ b, as[i]? = some b ∧ x = V.ref b := by
        rw [List.getElem?_map] at hx
        obtain ⟨z, hz, e⟩ := Option.map_eq_some_iff.mp hx
        exact ⟨z, hz, e.symm⟩
      obtain ⟨y, hy, hya⟩ := paired_at pr hra
      have hym := List.mem_of_getElem? hy
      obtain ⟨o1, o2, o3, o4, o5, o6⟩ := ro y hym
      have o7 := rc y hym
      have hb3 : ∀ x ∈ [y.1, y.2.1, y.2.2], 0 ≤ x ∧ x ≤ 60 := fun x hx => by
        simp at hx
        rcases hx with rfl | rfl | rfl <;> omega
      have hl3 := spaced_len (ns := [y.1, y.2.1, y.2.2]) (Nat.le_refl 3) hb3
      refine ⟨_, rfl, .inl ⟨rfl, _, SqL.lst el⟩, _, rfl, small (by rw [l1]; omega), _, rfl, ra, [y.1, y.2.1, y.2.2], rfl, Same.seqT sm hya, Nat.le_refl 3, hb3, fun H5 s5 => ?_⟩
      refine .inl ⟨_, rfl, small (by omega), _, rfl, small (by rw [Str.length_append, l1]; omega), ?_⟩
      refine ⟨l, _, _, rfl, rfl, s5 _ _ el, smallLt (by simp only [List.length_map, List.length_cons, List.length_take]; omega), ?_⟩
      refine ⟨_, rfl, same_mut (sm.trans s5) nl0, ?_⟩
      rw [upd_same, List.take_add_one, hy]
      simp only [List.map_cons, List.map_append, List.cons_append]
      rfl
    · rintro σ H' ⟨v3, rfl, sm, el⟩
      rw [List.take_of_length_le (by rw [List.length_map, hpl]; exact Nat.le_refl _)] at el
      refine ⟨⟨_, rfl⟩, _, rfl, _, l, _, rfl, rfl, .inl (SqL.lst el), ?_, k H' sm⟩
      refine Nat.le_trans (join_le _ _ 300 fun y hy => ?_) ?_
      · rcases List.mem_cons.mp hy with rfl | hy
        · rw [Str.length_append, l0]
          omega
        · obtain ⟨x, hx, rfl⟩ := List.mem_map.mp hy
          obtain ⟨o1, o2, o3, o4, o5, o6⟩ := ro x hx
          have o7 := rc x hx
          have hb3 : ∀ z ∈ [x.1, x.2.1, x.2.2], 0 ≤ z ∧ z ≤ 60 := fun z hz => by
            simp at hz
            rcases hz with rfl | rfl | rfl <;> omega
          have hl3 := spaced_len (ns := [x.1, x.2.1, x.2.2]) (Nat.le_refl 3) hb3
          unfold rowS
          rw [Str.length_append, l1]
          omega
      · have e : (("\n" : Str)).length = 1 := by decide
        rw [List.length_cons, List.length_map, e]
        omega
def unitP (bs : List Int) (f : Nat) : Nat := (bs.dropLast.drop f).foldl (fun a b => a * b.toNat) 1
def spUnit (K : PySem.W.Frag) : Sp := fun vs H Q _ => ∃ (a : Addr) (bs : List Int) (f : Nat), vs = [.ref a, .int (f : Int)] ∧ SqT K H a (bs.map V.int) ∧ f < bs.length ∧ bs.length ≤ 3 ∧ (∀ x ∈ bs, 2 ≤ x ∧ x ≤ 60) ∧ ∀ H', Same H H' → Q (.int ((unitP bs f : Nat) : Int)) H'
theorem ok_unit {f : Addr} {fd : FuncData} (F : Fun K "groups_in_unit" "groups_in_unit" sgroups_in_unit f fd) : FnOk P w K mg base CX0 1 f fd ["bases", "field"] (spUnit K) := by
  have sc := scgroups_in_unit
  refine F.ok sc (fun vs H Q E h => ?_) (fun cdv A outer s H vs Q E hr h => ?_)
  · obtain ⟨a, bs, f, rfl, _⟩ := h
    rfl
  · obtain ⟨a, bs, f, rfl, ha, hf, h3, hb, k⟩ := h
    refine ⟨_, (pss_cons (ps_set (i := 2) sc.nd rfl (Or.inl rfl) pe_int)
      (pss_cons (ps_for PassesOwn.never rfl (pi_tup (pe_slice sl_tup (pv 0) (po_some (pv 1)) (po_some (pe_un un_neg pe_int)))) (pg_name (i := 3) sc.nd rfl (Or.inl rfl)) (pss_one (ps_aug (i := 2) sc.nd rfl (Or.inl rfl) (pv 3) ip_mul)))
      (pss_one (ps_ret (pv 2))))), ?_⟩
    walk_at "go"
    have el : (bs.map V.int).length = bs.length := List.length_map ..
    refine ⟨fun z => ?_, ?_⟩
    · have := z.2
      rw [sIx_last, el] at this
      omega
    (intro d nd; generalize e_d : upd H d _ = H1; have s1 : Same H H1 := fun b x hb => (congrFun e_d b).symm.trans (same_new nd b x hb); have h1 := (congrFun e_d d).symm.trans upd_same; clear e_d)
    have h1' : H1 d = some (.tup ((bs.dropLast.drop f).map V.int)) := by
      rw [h1, cut_fb _ _ (by rw [el]; omega), List.map_drop, List.map_dropLast]
    refine ⟨d, rfl, ⟨_, SqT.tup h1'⟩, for_tup (K := K) (xs := (bs.dropLast.drop f).map V.int) (fun i σ H' => ∃ v3 : Option V, σ = [some (.ref a), some (.int ((f : Nat) : Int)), some (.int ((((bs.dropLast.drop f).take i).foldl (fun a b => a * b.toNat) 1 : Nat) : Int)), v3] ∧ H1 = H')
      ⟨_, rfl, rfl⟩ (fun i σ H' _ ⟨_, _, e⟩ => by rw [← e]; exact SqT.tup h1') ?_ ?_⟩
    · rintro i x σ H' hx ⟨v3, rfl, rfl⟩
      obtain ⟨b, hb', rfl⟩ : ∃ b, (bs.dropLast.drop f)[i]? = some b ∧ x = V.int b := by
        rw [List.getElem?_map] at hx
        obtain ⟨z, hz, e⟩ := Option.map_eq_some_iff.mp hx
        exact ⟨z, hz, e.symm⟩
      have hbb := hb b ((List.dropLast_sublist bs).subset (List.mem_of_mem_drop (List.mem_of_getElem? hb')))
      have st := take_fold (fun (a : Nat) (b : Int) => a * b.toNat) 1 _ i b hb'
      have e6 : (((((bs.dropLast.drop f).take i).foldl (fun a b => a * b.toNat) 1 : Nat) : Int)) * b = ((((bs.dropLast.drop f).take (i + 1)).foldl (fun a b => a * b.toNat) 1 : Nat) : Int) := by
        rw [st, Int.natCast_mul, Int.toNat_of_nonneg (by omega)]
      refine ⟨_, rfl, _, rfl, _, _, rfl, rfl, .inr ⟨by omega, by omega⟩, ?_⟩
      exact ⟨_, (by rw [← e6]; rfl), rfl⟩
    · rintro σ H' ⟨v3, rfl, rfl⟩
      rw [List.take_of_length_le (by rw [List.length_map]; exact Nat.le_refl _)]
      exact ⟨_, rfl, k _ s1⟩
def spRepeat (K : PySem.W.Frag) : Sp := fun vs H Q _ => ∃ (a r : Addr) (bs : List Int) (rows : List R3), vs = [.ref a, .ref r] ∧ SqT K H a (bs.map V.int) ∧ 1 ≤ bs.length ∧ bs.length ≤ 3 ∧ (∀ x ∈ bs, 2 ≤ x ∧ x ≤ 60) ∧ RowsAt K H r rows ∧ (∀ x ∈ rows, RowOk 60 bs x) ∧ everyL rows ≤ 100000000 ∧
  ∀ H', Same H H' → Q (.int ((unitP bs 0 * everyL rows : Nat) : Int)) H'
theorem ok_repeat {f : Addr} {fd : FuncData} (F : Fun K "groups_to_repeat" "groups_to_repeat" sgroups_to_repeat f fd) (N : Names mg) (Dgroups_in_unit : DefK P w K mg base "groups_in_unit" ["bases", "field"] 1 (spUnit K)) : FnOk P w K mg base CX0 2 f fd ["bases", "rows"] (spRepeat K) := by
  have sc := scgroups_to_repeat
  refine F.ok sc (fun vs H Q E h => ?_) (fun cdv A outer s H vs Q E hr h => ?_)
  · obtain ⟨a, r, bs, rows, rfl, _⟩ := h
    rfl
  · obtain ⟨a, r, bs, rows, rfl, ha, b0, b3, hb, hR, ro, hE, k⟩ := h
    refine ⟨_, (pss_cons (ps_set (i := 2) sc.nd rfl (Or.inl rfl) pe_int)
      (pss_cons (ps_for PassesOwn.never rfl (pi_tup (pv 1)) (pg_tup rfl (pgs_cons (pg_name (i := 3) sc.nd rfl (Or.inl rfl)) (pgs_cons (pg_name (i := 4) sc.nd rfl (Or.inl rfl)) (pgs_cons (pg_name (i := 5) sc.nd rfl (Or.inl rfl)) pgs_nil)))) (pss_one (ps_if (pt_cmpR op_eq (pv 3) pe_int (nomark _)) (pss_one (ps_set (i := 2) sc.nd rfl (Or.inl rfl) (pe_callBfun cr_lcm (by rfl) N.lcm (pa_cons (pv 2) (pa_cons (pv 4) pa_nil))))) pss_nil)))
      (pss_one (ps_ret (pe_op op_mul (pe_d Dgroups_in_unit (hr.mono (by decide)) rfl (pa_cons (pv 0) (pa_cons pe_int pa_nil))) (pv 2)))))), ?_⟩
    obtain ⟨as, hrt, pr⟩ := id hR
    have hpl := pr.length
    have hr1 : ∀ r ∈ rows, 1 ≤ r.2.1 := fun r hm => (ro r hm).2.2.1
    refine ⟨_, rfl, r, rfl, ⟨_, hrt⟩, for_tup (K := K) (xs := as.map V.ref) (fun i σ H' => ∃ v3 v4 v5 : Option V, σ = [some (.ref a), some (.ref r), some (.int (((rows.take i).foldl everyStep 1 : Nat) : Int)), v3, v4, v5] ∧ H = H')
      ⟨_, _, _, rfl, rfl⟩ (fun i σ H' _ ⟨_, _, _, _, e⟩ => by rw [← e]; exact hrt) ?_ ?_⟩
    · rintro i x σ H' hx ⟨v3, v4, v5, rfl, rfl⟩
      obtain ⟨ra, hra, rfl⟩ : ∃ b, as[i]? = some b ∧ x = V.ref b := by
        rw [List.getElem?_map] at hx
        obtain ⟨z, hz, e⟩ := Option.map_eq_some_iff.mp hx
        exact ⟨z, hz, e.symm⟩
      obtain ⟨y, hy, hya⟩ := paired_at pr hra
      obtain ⟨o1, o2, o3, o4, o5, o6⟩ := ro y (List.mem_of_getElem? hy)
      have st := take_fold everyStep 1 rows i y hy
      have hei1 : 1 ≤ (rows.take i).foldl everyStep 1 := every_mono _ 1 (by decide) fun r hm => hr1 r (List.mem_of_mem_take hm)
      have hei2 : (rows.take i).foldl everyStep 1 ≤ 100000000 := by
        refine Nat.le_trans ?_ hE
        have e : everyL rows = (rows.drop i).foldl everyStep ((rows.take i).foldl everyStep 1) := by
          unfold everyL
          rw [← List.foldl_append, List.take_append_drop]
        rw [e]
        exact every_mono _ _ (by omega) fun r hm => hr1 r (List.mem_of_mem_drop hm)
      refine ⟨ra, _, rfl, hya, rfl, _, _, rfl, _, _, rfl, _, _, rfl, rfl, ?_⟩
      refine ⟨_, rfl, rfl, _, rfl, ?_⟩
      refine ifD (fun hd => ?_) (fun hd => ?_)
      · have hz : y.1 = 0 := V.int.inj hd
        have e6 : everyStep ((rows.take i).foldl everyStep 1) y = Nat.lcm ((rows.take i).foldl everyStep 1) y.2.1.toNat := by
          unfold everyStep
          rw [if_pos hz]
        have e7 : y.2.1.natAbs = y.2.1.toNat := by omega
        refine ⟨_, rfl, _, rfl, _, _, rfl, by omega, by omega, ?_⟩
        exact ⟨_, _, _, (by rw [st, e6, Int.natAbs_natCast, e7]; rfl), rfl⟩
      · have hz : y.1 ≠ 0 := fun z => hd (congrArg V.int z)
        have e6 : everyStep ((rows.take i).foldl everyStep 1) y = (rows.take i).foldl everyStep 1 := by
          unfold everyStep
          rw [if_neg hz]
        exact ⟨_, _, _, (by rw [st, e6]; rfl), rfl⟩
    · rintro σ H' ⟨v3, v4, v5, rfl, rfl⟩
      rw [List.take_of_length_le (by rw [List.length_map, hpl]; exact Nat.le_refl _)]
      refine ⟨_, rfl, a, bs, 0, rfl, ha, by omega, b3, hb, fun H1 s1 => ?_⟩
      refine ⟨_, rfl, _, _, rfl, rfl, .inr ⟨?_, ?_⟩, ?_⟩
      · omega
      · show ((everyL rows : Nat) : Int) < 2 ^ 64
        omega
      · have := k H1 s1
        rw [Int.natCast_mul] at this
        exact this
end
end LM

set_option Elab.async false
set_option linter.all false
set_option maxRecDepth 100000
set_option maxHeartbeats 4000000
set_option pp.maxSteps 600
set_option pp.deepTerms false
namespace LM
open PySem PySem.Spec PyProof.Rows L2
local macro_rules | `(tactic| walk_at "hp") => `(tactic| first | assumption | exact upd_same | (rw [upd_ne (by assumption)]; assumption) | (rw [upd_ne (Ne.symm (by assumption))]; assumption) | (rw [upd_ne (by assumption)]; exact upd_same) | (rw [upd_ne (Ne.symm (by assumption))]; exact upd_same))
local macro_rules | `(tactic| walk_at "sq") => `(tactic| first | assumption | exact Or.inl (Or.inl (by assumption)) | exact Or.inl (Or.inl upd_same) | exact Or.inl (Or.inl (by walk_at "hp")))
local macro_rules | `(tactic| walk_at "ixl") => `(tactic| refine ⟨_, _, _, _, rfl, rfl, (by walk_at "sq"), (by rfl), ?_⟩)
local macro_rules | `(tactic| walk_at "setl") => `(tactic| refine ⟨_, _, _, _, rfl, rfl, (by walk_at "hp"), (by rfl), ?_⟩)
local macro_rules | `(tactic| walk_at "side") => `(tactic| refine idP ?_; first | omega | (show (0 : Int) < _; omega) | (show (0 : Int) < _ ∧ _ < _; omega) | (refine Or.inr ?_; show (-(2 ^ 64) : Int) < _ ∧ _ < _; omega) | (refine Or.inl ?_; show (-(2 ^ 64) : Int) < _ ∧ _ < _; omega) | exact divW (by omega) (by omega) _ | (refine ⟨by decide, by decide, ?_⟩; decide))
local macro_rules | `(tactic| walk_at "go1") => `(tactic| first
  | refine ⟨_, rfl, ?_⟩
  | refine ⟨_, _, rfl, rfl, (by walk_at "side"), ?_⟩
  | refine ⟨_, _, rfl, (by walk_at "side"), ?_⟩
  | refine ⟨_, _, rfl, rfl, ?_⟩
  | refine Or.inl ⟨_, rfl, ?_⟩
  | refine ⟨_, _, rfl, Or.inl (by walk_at "sq"), ?_⟩
  | walk_at "ixl"
  | walk_at "setl"
  | refine ⟨_, _, rfl, (by walk_at "sq"), rfl, ?_⟩
  | refine ⟨_, _, rfl, (by walk_at "sq"), ?_⟩
  | refine ⟨_, _, rfl, ?_⟩
  | refine ⟨rfl, ?_⟩
  | refine ⟨small (Nat.le_of_ble_eq_true rfl), ?_⟩)
local macro_rules | `(tactic| walk_at "go") => `(tactic| repeat walk_at "go1")

/-- the groups from start on by step below start + span -/
def segN (span step start : Nat) : List Nat := (List.range (rgN (start : Int) ((start : Int) + (span : Int)) (step : Int))).map fun j => start + j * step
def fitsP (span step n : Nat) : List Nat := ((List.range (rgN 0 (n : Int) (span : Int))).map fun k => segN span step (k * span)).flatten
def stepP (bs : List Int) (r : R3) : Nat := unitP bs r.1.toNat * r.2.1.toNat
def spanP (bs : List Int) (r : R3) (n : Nat) : Nat := if r.1 = 0 then n else unitP bs (r.1.toNat - 1)
def castL (ns : List Nat) : List Int := ns.map fun k => ((k : Nat) : Int)
theorem castL_app (a b : List Nat) : castL (a ++ b) = castL a ++ castL b := List.map_append ..
def spFitted (K : PySem.W.Frag) : Sp := fun vs H Q _ => ∃ (a r : Addr) (bs : List Int) (x : R3) (n : Nat), vs = [.ref a, .ref r, .int (n : Int)] ∧ SqT K H a (bs.map V.int) ∧ 1 ≤ bs.length ∧ bs.length ≤ 3 ∧ (∀ x ∈ bs, 2 ≤ x ∧ x ≤ 60) ∧ SqT K H r [.int x.1, .int x.2.1, .int x.2.2] ∧ RowOk 60 bs x ∧
  1 ≤ n ∧ n ≤ 7200 ∧ spanP bs x n ∣ n ∧ ∀ (l : Addr) H', Same H H' → H l = none → H' l = some (.lst ((castL (fitsP (spanP bs x n) (stepP bs x) n)).map V.int)) → Q (.ref l) H'
theorem rgN_nat (a b c : Nat) : rgN (a : Int) (b : Int) (c : Int) = if a < b then (b - a - 1) / c + 1 else 0 := by
  unfold rgN
  by_cases h : a < b
  · rw [if_pos h, if_pos (by omega), show ((b : Int) - (a : Int) - 1) = ((b - a - 1 : Nat) : Int) by omega, ← Int.natCast_ediv]
    generalize (b - a - 1) / c = z
    omega
  · rw [if_neg h, if_neg (by omega)]
theorem segN_len (span step start : Nat) (hs : 1 ≤ step) : (segN span step start).length ≤ span := by
  unfold segN
  rw [List.length_map, List.length_range, show ((start : Int) + (span : Int)) = ((start + span : Nat) : Int) by omega, rgN_nat]
  split
  · have := Nat.div_le_self (start + span - start - 1) step
    omega
  · omega
theorem flat_len (f : Nat → List Nat) (m : Nat) (h : ∀ k, (f k).length ≤ m) : ∀ i, (((List.range i).map f).flatten).length ≤ i * m
  | 0 => by simp
  | i + 1 => by
    have h1 := flat_len f m h i
    have h2 := h i
    rw [List.range_succ, List.map_append, List.flatten_append, List.length_append, Nat.add_mul, Nat.one_mul]
    simp only [List.map_cons, List.map_nil, List.flatten_cons, List.flatten_nil, List.append_nil]
    omega
theorem rg_count {n span : Nat} (h1 : 1 ≤ n) (hd : span ∣ n) : rgN 0 (n : Int) (span : Int) * span = n := by
  have e : rgN 0 (n : Int) (span : Int) = rgN ((0 : Nat) : Int) (n : Int) (span : Int) := rfl
  rw [e, rgN_nat, if_pos (by omega)]
  obtain ⟨q, rfl⟩ := hd
  have hs : 0 < span := Nat.pos_of_mul_pos_right (by omega : 0 < span * q)
  have hq : 0 < q := Nat.pos_of_mul_pos_left (by omega : 0 < span * q)
  have e2 : (span * q - 0 - 1) / span = q - 1 := by
    refine Nat.div_eq_of_lt_le ?_ ?_
    · rw [Nat.mul_comm, Nat.mul_sub_one]
      omega
    · rw [Nat.sub_add_cancel hq, Nat.mul_comm q span]
      omega
  rw [e2, Nat.sub_add_cancel hq, Nat.mul_comm]
theorem foldl_mul_le : ∀ (bs : List Int) (a : Nat), (∀ x ∈ bs, 2 ≤ x ∧ x ≤ 60) → bs.foldl (fun a b => a * b.toNat) a ≤ a * 60 ^ bs.length
  | [], a, _ => by simp
  | b :: bs, a, h => by
    have hb := h b List.mem_cons_self
    refine Nat.le_trans (foldl_mul_le bs _ fun x hx => h x (List.mem_cons_of_mem _ hx)) ?_
    rw [List.length_cons, Nat.pow_succ, Nat.mul_comm (60 ^ bs.length) 60, ← Nat.mul_assoc]
    exact Nat.mul_le_mul_right _ (Nat.mul_le_mul_left _ (by omega))
theorem unitP_le {bs : List Int} (h3 : bs.length ≤ 3) (h : ∀ x ∈ bs, 2 ≤ x ∧ x ≤ 60) (f : Nat) : unitP bs f ≤ 3600 := by
  unfold unitP
  refine Nat.le_trans (foldl_mul_le _ 1 fun x hx => h x ((List.dropLast_sublist bs).subset (List.mem_of_mem_drop hx))) ?_
  have hl : (bs.dropLast.drop f).length ≤ 2 := by rw [List.length_drop, List.length_dropLast]; omega
  have : 60 ^ (bs.dropLast.drop f).length ≤ 60 ^ 2 := Nat.pow_le_pow_right (by decide) hl
  omega
theorem unitP_pos {bs : List Int} (h : ∀ x ∈ bs, 2 ≤ x ∧ x ≤ 60) (f : Nat) : 1 ≤ unitP bs f :=
  foldl_mul_pos _ 1 (by decide) fun x hx => (h x ((List.dropLast_sublist bs).subset (List.mem_of_mem_drop hx))).1
section
variable {P : Program} {w : World} {K : PySem.W.Frag} {mg : Str → Option Value} {base : Heap}
theorem ok_fitted {f : Addr} {fd : FuncData} (F : Fun K "fitted_groups" "fitted_groups" sfitted_groups f fd) (N : Names mg) (Dgroups_in_unit : DefK P w K mg base "groups_in_unit" ["bases", "field"] 1 (spUnit K)) : FnOk P w K mg base CX0 2 f fd ["bases", "row", "groups"] (spFitted K) := by
  have sc := scfitted_groups
  refine F.ok sc (fun vs H Q E h => ?_) (fun cdv A outer s H vs Q E hr h => ?_)
  · obtain ⟨a, r, bs, x, n, rfl, _⟩ := h
    rfl
  · obtain ⟨a, r, bs, x, n, rfl, ha, b0, b3, hb, hx, ⟨o1, o2, o3, o4, o5, o6⟩, n1, n2, hdv, k⟩ := h
    refine ⟨_, (pss_cons (ps_asg (pv 1) (pg_tup rfl (pgs_cons (pg_name (i := 3) sc.nd rfl (Or.inl rfl)) (pgs_cons (pg_name (i := 4) sc.nd rfl (Or.inl rfl)) (pgs_cons (pg_name (i := 5) sc.nd rfl (Or.inl rfl)) pgs_nil)))))
      (pss_cons (ps_set (i := 6) sc.nd rfl (Or.inl rfl) (pe_op op_mul (pe_d Dgroups_in_unit (hr.mono (by decide)) rfl (pa_cons (pv 0) (pa_cons (pv 3) pa_nil))) (pv 4)))
      (pss_cons (ps_set (i := 7) sc.nd rfl (Or.inl rfl) (pe_ifExp (pt_cmpR op_eq (pv 3) pe_int (nomark _)) (pv 2) (pe_d Dgroups_in_unit (hr.mono (by decide)) rfl (pa_cons (pv 0) (pa_cons (pe_op op_sub (pv 3) pe_int) pa_nil)))))
      (pss_cons (ps_set (i := 8) sc.nd rfl (Or.inl rfl) (pe_lst pa_nil))
      (pss_cons (ps_for PassesOwn.never rfl (pi_range3 rfl N.range (pa_cons pe_int (pa_cons (pv 2) (pa_cons (pv 7) pa_nil)))) (pg_name (i := 9) sc.nd rfl (Or.inl rfl)) (pss_one (ps_expr (pe_bm PySem.F.plainAttrs_list PySem.F.slot_list_extend PySem.F.type_list_extend mt_extend (pv 8) (pa_cons (pe_listRg3 rfl (by rfl) N.list (by rfl) N.range (pa_cons (pv 9) (pa_cons (pe_op op_add (pv 9) (pv 7)) (pa_cons (pv 6) pa_nil)))) pa_nil)))))
      (pss_one (ps_ret (pv 8)))))))), ?_⟩
    obtain ⟨fi, hfi⟩ := nat_of o1
    have ef : x.1.toNat = fi := by omega
    refine ⟨_, rfl, r, _, rfl, hx, rfl, _, _, rfl, _, _, rfl, _, _, rfl, rfl, ?_⟩
    refine ⟨_, rfl, _, rfl, a, bs, fi, (by rw [← hfi]; rfl), ha, by omega, b3, hb, fun H1 s1 => ?_⟩
    have hU1 := unitP_pos hb fi
    have hU2 := unitP_le b3 hb fi
    refine ⟨_, rfl, _, _, rfl, rfl, .inr ⟨by omega, by omega⟩, ?_⟩
    have hst : ((unitP bs fi : Nat) : Int) * x.2.1 = ((stepP bs x : Nat) : Int) := by
      unfold stepP
      rw [ef, Int.natCast_mul, Int.toNat_of_nonneg (by omega)]
    have hst1 : 1 ≤ stepP bs x := by
      unfold stepP
      rw [ef]
      exact Nat.mul_pos hU1 (by omega)
    have hst2 : stepP bs x ≤ 3600 * 60 := by
      unfold stepP
      rw [ef]
      exact Nat.mul_le_mul hU2 (by omega)
    -- span
    refine ⟨_, rfl, rfl, _, rfl, ?_⟩
    refine if_joinH (fun v H' => v = .int ((spanP bs x n : Nat) : Int) ∧ Same H H') (fun hd Q' k' => ?_) (fun hd Q' k' => ?_) ?_
    · have hz : x.1 = 0 := V.int.inj hd
      refine ⟨_, rfl, k' _ _ ⟨?_, s1⟩⟩
      unfold spanP
      rw [if_pos hz]
    · have hz : x.1 ≠ 0 := fun z => hd (congrArg V.int z)
      refine ⟨_, rfl, _, rfl, _, _, rfl, rfl, a, bs, fi - 1, (by show [V.ref a, V.int (x.1 - 1)] = _; rw [hfi, show ((fi : Int) - 1) = ((fi - 1 : Nat) : Int) by omega]), Same.seqT s1 ha, by omega, b3, hb, fun H2 s2 => k' _ _ ⟨?_, s1.trans s2⟩⟩
      unfold spanP
      rw [if_neg hz, ef]
    rintro v H2 ⟨rfl, s2⟩
    generalize hsp : spanP bs x n = span at *
    generalize hstp : stepP bs x = step at *
    have hspan1 : 1 ≤ span := by
      rcases Nat.eq_zero_or_pos span with z | z
      · rw [z] at hdv
        have := Nat.eq_zero_of_zero_dvd hdv
        omega
      · exact z
    have hspan2 : span ≤ n := Nat.le_of_dvd (by omega) hdv
    have hcnt := rg_count n1 hdv
    refine ⟨Nat.le_of_ble_eq_true rfl, ?_⟩
    (intro l nl; generalize e_l : upd H2 l _ = H3; have s3 : Same H2 H3 := fun b x hb => (congrFun e_l b).symm.trans (same_new nl b x hb); have h3 := (congrFun e_l l).symm.trans upd_same; clear e_l)
    have s03 := s2.trans s3
    have nl0 : H l = none := s2.free nl
    have hgcd : RgC 0 (n : Int) (span : Int) (rgN 0 (n : Int) (span : Int)) := RgC.pos (by omega) (by omega) (by omega) (by omega) (by omega)
    refine ⟨_, rfl, _, rfl, 0, (n : Int), (span : Int), _, rfl, hgcd, for_rangeC (n := rgN 0 (n : Int) (span : Int)) (fun i σ H' => ∃ v9 : Option V, σ = [some (.ref a), some (.ref r), some (.int ((n : Nat) : Int)), some (.int x.1), some (.int x.2.1), some (.int x.2.2), some (.int ((step : Nat) : Int)), some (.int ((span : Nat) : Int)), some (.ref l), v9] ∧ Same H H' ∧
        H' l = some (.lst ((castL (((List.range i).map fun k => segN span step (k * span)).flatten)).map V.int)))
      ⟨_, (by rw [← hst]; rfl), s03, h3⟩ ?_ ?_⟩
    · rintro i σ H' hi ⟨v9, rfl, sm, el⟩
      have hip : i * span + span ≤ n := by
        have : (i + 1) * span ≤ rgN 0 (n : Int) (span : Int) * span := Nat.mul_le_mul_right _ hi
        rw [hcnt, Nat.add_mul, Nat.one_mul] at this
        exact this
      have hstart : (0 : Int) + ((i : Nat) : Int) * ((span : Nat) : Int) = ((i * span : Nat) : Int) := by rw [Int.zero_add, Int.natCast_mul]
      rw [hstart]
      have hrg : RgC ((i * span : Nat) : Int) (((i * span : Nat) : Int) + (span : Int)) (step : Int) (rgN ((i * span : Nat) : Int) (((i * span : Nat) : Int) + (span : Int)) (step : Int)) := RgC.pos (by omega) (by omega) (by omega) (by omega) (by omega)
      have hsl := segN_len span step (i * span) hst1
      have hsl2 : rgN ((i * span : Nat) : Int) (((i * span : Nat) : Int) + (span : Int)) (step : Int) = (segN span step (i * span)).length := by
        unfold segN
        rw [List.length_map, List.length_range]
      refine ⟨_, rfl, .inl ⟨rfl, _, SqL.lst el⟩, _, rfl, _, rfl, _, rfl, _, _, rfl, rfl, _, rfl, _, _, _, _, rfl, hrg, by omega, ?_⟩
      (intro q nq; generalize e_q : upd H' q _ = H5; have s5 : Same H' H5 := fun b x hb => (congrFun e_q b).symm.trans (same_new nq b x hb); have h5 := (congrFun e_q q).symm.trans upd_same; clear e_q)
      have hfl := flat_len (fun k => segN span step (k * span)) span (fun k => segN_len span step _ hst1) i
      refine ⟨l, q, _, _, rfl, rfl, s5 _ _ el, h5, small ?_, ?_⟩
      · unfold castL rg3V
        rw [List.length_map, List.length_map, List.length_map, List.length_range, hsl2]
        omega
      refine ⟨_, rfl, same_mut (sm.trans s5) nl0, ?_⟩
      rw [upd_same, List.range_succ, List.map_append, List.flatten_append, castL_app, List.map_append]
      have e : (rg3V ((i * span : Nat) : Int) ((step : Nat) : Int) (rgN ((i * span : Nat) : Int) (((i * span : Nat) : Int) + (span : Int)) (step : Int))) = (castL (segN span step (i * span))).map V.int := by
        unfold rg3V castL segN
        rw [List.map_map, List.map_map]
        refine List.map_congr_left fun j _ => ?_
        show V.int (((i * span : Nat) : Int) + ((j : Nat) : Int) * ((step : Nat) : Int)) = V.int (((i * span + j * step : Nat)) : Int)
        rw [Int.natCast_add, Int.natCast_mul j step]
      rw [e]
      simp
    · rintro σ H' ⟨v9, rfl, sm, el⟩
      exact ⟨_, rfl, k l H' sm nl0 el⟩
end
end LM

set_option Elab.async false
set_option linter.all false
set_option maxRecDepth 100000
set_option maxHeartbeats 4000000
set_option pp.maxSteps 600
set_option pp.deepTerms false
namespace LM
open PySem PySem.Spec PyProof.Rows L2
local macro_rules | `(tactic| walk_at "hp") => `(tactic| first | assumption | exact upd_same | (rw [upd_ne (by assumption)]; assumption) | (rw [upd_ne (Ne.symm (by assumption))]; assumption) | (rw [upd_ne (by assumption)]; exact upd_same) | (rw [upd_ne (Ne.symm (by assumption))]; exact upd_same))
local macro_rules | `(tactic| walk_at "sq") => `(tactic| first | assumption | exact Or.inl (Or.inl (by assumption)) | exact Or.inl (Or.inl upd_same) | exact Or.inl (Or.inl (by walk_at "hp")))
local macro_rules | `(tactic| walk_at "ixl") => `(tactic| refine ⟨_, _, _, _, rfl, rfl, (by walk_at "sq"), (by rfl), ?_⟩)
local macro_rules | `(tactic| walk_at "setl") => `(tactic| refine ⟨_, _, _, _, rfl, rfl, (by walk_at "hp"), (by rfl), ?_⟩)
local macro_rules | `(tactic| walk_at "side") => `(tactic| refine idP ?_; first | omega | (show (0 : Int) < _; omega) | (show (0 : Int) < _ ∧ _ < _; omega) | (refine Or.inr ?_; show (-(2 ^ 64) : Int) < _ ∧ _ < _; omega) | (refine Or.inl ?_; show (-(2 ^ 64) : Int) < _ ∧ _ < _; omega) | exact divW (by omega) (by omega) _ | (refine ⟨by decide, by decide, ?_⟩; decide))
local macro_rules | `(tactic| walk_at "go1") => `(tactic| first
  | refine ⟨_, rfl, ?_⟩
  | refine ⟨_, _, rfl, rfl, (by walk_at "side"), ?_⟩
  | refine ⟨_, _, rfl, (by walk_at "side"), ?_⟩
  | refine ⟨_, _, rfl, rfl, ?_⟩
  | refine Or.inl ⟨_, rfl, ?_⟩
  | refine ⟨_, _, rfl, Or.inl (by walk_at "sq"), ?_⟩
  | walk_at "ixl"
  | walk_at "setl"
  | refine ⟨_, _, rfl, (by walk_at "sq"), rfl, ?_⟩
  | refine ⟨_, _, rfl, (by walk_at "sq"), ?_⟩
  | refine ⟨_, _, rfl, ?_⟩
  | refine ⟨rfl, ?_⟩
  | refine ⟨small (Nat.le_of_ble_eq_true rfl), ?_⟩)
local macro_rules | `(tactic| walk_at "go") => `(tactic| repeat walk_at "go1")

def fitG (bs : List Int) (n : Nat) (r : R3) (g : Nat) : Prop := g ∈ fitsP (spanP bs r n) (stepP bs r) n
instance (bs : List Int) (n : Nat) (r : R3) (g : Nat) : Decidable (fitG bs n r g) := inferInstanceAs (Decidable (g ∈ _))
def cntStep (bs : List Int) (n g : Nat) (acc : Int) (r : R3) : Int := if fitG bs n r g then r.2.2 else acc
def cntP (bs : List Int) (rows : List R3) (n g : Nat) : Int := rows.foldl (cntStep bs n g) 0
def countsP (bs : List Int) (rows : List R3) (n : Nat) : List Int := (List.range n).map (cntP bs rows n)
theorem seg_bound {span step start g : Nat} (hs : 1 ≤ step) (h : g ∈ segN span step start) : start ≤ g ∧ g < start + span := by
  unfold segN at h
  obtain ⟨j, hj, rfl⟩ := List.mem_map.mp h
  have hj' := List.mem_range.mp hj
  rw [show ((start : Int) + (span : Int)) = ((start + span : Nat) : Int) by omega, rgN_nat] at hj'
  split at hj'
  · have h1 : j ≤ (start + span - start - 1) / step := by omega
    have h2 : j * step ≤ start + span - start - 1 := Nat.le_trans (Nat.mul_le_mul_right _ h1) (Nat.div_mul_le_self _ _)
    omega
  · omega
theorem fits_lt {span step n g : Nat} (h1 : 1 ≤ n) (hd : span ∣ n) (hs : 1 ≤ step) (h : g ∈ fitsP span step n) : g < n := by
  unfold fitsP at h
  obtain ⟨l, hl, hg⟩ := List.mem_flatten.mp h
  obtain ⟨k, hk, rfl⟩ := List.mem_map.mp hl
  have hk' := List.mem_range.mp hk
  have h2 := seg_bound hs hg
  have h3 : (k + 1) * span ≤ rgN 0 (n : Int) (span : Int) * span := Nat.mul_le_mul_right _ hk'
  rw [rg_count h1 hd, Nat.add_mul, Nat.one_mul] at h3
  omega
theorem set_range {α : Type} (f : Nat → α) (n g : Nat) (v : α) (hg : g < n) : ((List.range n).map f).set g v = (List.range n).map fun x => if x = g then v else f x := by
  apply List.ext_getElem?
  intro i
  rw [List.getElem?_set, List.getElem?_map, List.getElem?_map, List.length_map, List.length_range]
  by_cases h : g = i
  · subst h
    rw [if_pos rfl, if_pos hg, List.getElem?_range hg]
    simp
  · rw [if_neg h]
    by_cases hi : i < n
    · rw [List.getElem?_range hi]
      simp only [Option.map_some]
      rw [if_neg (fun z => h z.symm)]
    · rw [List.getElem?_eq_none (by rw [List.length_range]; omega)]
      rfl
def spSkipped (K : PySem.W.Frag) : Sp := fun vs H Q _ => ∃ (a r : Addr) (bs : List Int) (rows : List R3) (n : Nat), vs = [.ref a, .ref r, .int (n : Int)] ∧ SqT K H a (bs.map V.int) ∧ 1 ≤ bs.length ∧ bs.length ≤ 3 ∧ (∀ x ∈ bs, 2 ≤ x ∧ x ≤ 60) ∧ RowsAt K H r rows ∧ (∀ x ∈ rows, RowOk 60 bs x) ∧
  1 ≤ n ∧ n ≤ 7200 ∧ (∀ x ∈ rows, spanP bs x n ∣ n) ∧ ∀ (l : Addr) H', Same H H' → H l = none → H' l = some (.lst ((countsP bs rows n).map V.int)) → Q (.ref l) H'
section
variable {P : Program} {w : World} {K : PySem.W.Frag} {mg : Str → Option Value} {base : Heap}
theorem ok_skipped {f : Addr} {fd : FuncData} (F : Fun K "skipped_counts" "skipped_counts" sskipped_counts f fd) (Dfitted_groups : DefK P w K mg base "fitted_groups" ["bases", "row", "groups"] 2 (spFitted K)) : FnOk P w K mg base CX0 3 f fd ["bases", "rows", "groups"] (spSkipped K) := by
  have sc := scskipped_counts
  refine F.ok sc (fun vs H Q E h => ?_) (fun cdv A outer s H vs Q E hr h => ?_)
  · obtain ⟨a, r, bs, rows, n, rfl, _⟩ := h
    rfl
  · obtain ⟨a, r, bs, rows, n, rfl, ha, b0, b3, hb, hR, ro, n1, n2, hdv, k⟩ := h
    refine ⟨_, (pss_cons (ps_set (i := 3) sc.nd rfl (Or.inl rfl) (pe_op op_rep (pe_lst (pa_cons pe_int pa_nil)) (pv 2)))
      (pss_cons (ps_for PassesOwn.never rfl (pi_tup (pv 1)) (pg_name (i := 4) sc.nd rfl (Or.inl rfl)) (pss_one (ps_for PassesOwn.never rfl (pi_list (pe_d Dfitted_groups (hr.mono (by decide)) rfl (pa_cons (pv 0) (pa_cons (pv 4) (pa_cons (pv 2) pa_nil))))) (pg_name (i := 5) sc.nd rfl (Or.inl rfl)) (pss_one (ps_asg (pe_ix ix_tup (pv 4) pe_int (fun _ _ => rfl)) (pg_sub (pv 3) (pv 5) set_list))))))
      (pss_one (ps_ret (pv 3))))), ?_⟩
    refine ⟨Nat.le_of_ble_eq_true rfl, ?_⟩
    (intro z nz; generalize e_z : upd H z _ = H1; have s1 : Same H H1 := fun b x hb => (congrFun e_z b).symm.trans (same_new nz b x hb); have h1 := (congrFun e_z z).symm.trans upd_same; clear e_z)
    refine ⟨_, rfl, z, _, _, rfl, rfl, h1, by omega, by omega, small (by rw [List.length_singleton, Int.toNat_natCast]; omega), ?_⟩
    (intro l nl; generalize e_l : upd H1 l _ = H2; have s2 : Same H1 H2 := fun b x hb => (congrFun e_l b).symm.trans (same_new nl b x hb); have h2 := (congrFun e_l l).symm.trans upd_same; clear e_l)
    have s02 := s1.trans s2
    have nl0 : H l = none := s1.free nl
    obtain ⟨as, hrt, pr⟩ := id hR
    have hpl := pr.length
    have h2' : H2 l = some (.lst ((countsP bs [] n).map V.int)) := by
      rw [h2]
      unfold countsP cntP
      simp [List.map_const']
    refine ⟨_, rfl, r, rfl, ⟨_, Same.seqT s02 hrt⟩, for_tup (K := K) (xs := as.map V.ref) (fun i σ H' => ∃ v4 v5 : Option V, σ = [some (.ref a), some (.ref r), some (.int ((n : Nat) : Int)), some (.ref l), v4, v5] ∧ Same H H' ∧ H' l = some (.lst ((countsP bs (rows.take i) n).map V.int)))
      ⟨_, _, rfl, s02, h2'⟩ (fun i σ H' _ ⟨_, _, _, s, _⟩ => Same.seqT s hrt) ?_ ?_⟩
    · rintro i x σ H' hx ⟨v4, v5, rfl, sm, el⟩
      obtain ⟨ra, hra, rfl⟩ : ∃ b, as[i]? = some b ∧ x = V.ref b := by
        rw [List.getElem?_map] at hx
        obtain ⟨z, hz, e⟩ := Option.map_eq_some_iff.mp hx
        exact ⟨z, hz, e.symm⟩
      obtain ⟨y, hy, hya⟩ := paired_at pr hra
      have hym := List.mem_of_getElem? hy
      have hoy := ro y hym
      obtain ⟨o1, o2, o3, o4, o5, o6⟩ := id hoy
      have hstep : 1 ≤ stepP bs y := Nat.mul_pos (unitP_pos hb _) (by omega)
      refine ⟨_, rfl, _, rfl, _, rfl, a, ra, bs, y, n, rfl, Same.seqT sm ha, b0, b3, hb, Same.seqT sm hya, hoy, n1, n2, hdv y hym, fun q H5 s5 nq eq5 => ?_⟩
      generalize hfits : fitsP (spanP bs y n) (stepP bs y) n = fits at *
      have hflt : ∀ g ∈ fits, g < n := fun g hg => fits_lt n1 (hdv y hym) hstep (by rw [hfits]; exact hg)
      have hql : q ≠ l := fun z => by rw [z, el] at nq; cases nq
      refine ⟨q, rfl, ⟨_, SqL.lst eq5⟩, for_list (K := K) (xs := (castL fits).map V.int) (fun j σ H' => ∃ v5 : Option V, σ = [some (.ref a), some (.ref r), some (.int ((n : Nat) : Int)), some (.ref l), some (.ref ra), v5] ∧ Same H H' ∧ H' q = some (.lst ((castL fits).map V.int)) ∧
          H' l = some (.lst (((List.range n).map fun g => if g ∈ fits.take j then y.2.2 else cntP bs (rows.take i) n g).map V.int)))
        ⟨_, rfl, sm.trans s5, eq5, ?_⟩ (fun j σ H' _ ⟨_, _, _, e, _⟩ => SqL.lst e) ?_ ?_⟩
      · rw [s5 _ _ el]
        unfold countsP
        simp
      · rintro j x σ H6 hx ⟨w5, rfl, sm6, e6q, e6l⟩
        obtain ⟨g, hg, rfl⟩ : ∃ g : Nat, fits[j]? = some g ∧ x = V.int ((g : Nat) : Int) := by
          unfold castL at hx
          rw [List.map_map, List.getElem?_map] at hx
          obtain ⟨z, hz, e⟩ := Option.map_eq_some_iff.mp hx
          exact ⟨z, hz, e.symm⟩
        have hgn := hflt g (List.mem_of_getElem? hg)
        refine ⟨_, rfl, ra, _, 2, .int y.2.2, rfl, rfl, Same.seqT sm6 hya, rfl, ?_⟩
        refine ⟨_, rfl, _, rfl, l, _, _, g, rfl, rfl, e6l, Evl.ixN_nat (by simp; exact hgn), ?_⟩
        refine ⟨_, rfl, same_mut sm6 nl0, by rw [upd_ne hql]; exact e6q, ?_⟩
        rw [upd_same, ← List.map_set (f := V.int), set_range _ _ _ _ hgn]
        congr 2
        refine congrArg (List.map V.int) (List.map_congr_left fun x _ => ?_)
        rw [List.take_add_one, hg]
        by_cases hxg : x = g
        · simp [hxg]
        · simp [hxg]
      · rintro σ H6 ⟨w5, rfl, sm6, e6q, e6l⟩
        refine ⟨_, _, rfl, sm6, ?_⟩
        rw [e6l]
        unfold castL
        rw [List.length_map, List.length_map, List.take_of_length_le (Nat.le_refl _)]
        unfold countsP
        congr 2
        refine congrArg (List.map V.int) (List.map_congr_left fun x _ => ?_)
        unfold cntP
        rw [take_fold (cntStep bs n x) 0 rows i y hy]
        show (if x ∈ fits then y.2.2 else (rows.take i).foldl (cntStep bs n x) 0) = (if fitG bs n y x then y.2.2 else (rows.take i).foldl (cntStep bs n x) 0)
        by_cases hxf : x ∈ fits
        · have hG : fitG bs n y x := by show x ∈ fitsP _ _ _; rw [hfits]; exact hxf
          rw [if_pos hxf, if_pos hG]
        · have hG : ¬ fitG bs n y x := fun z => hxf (by rw [← hfits]; exact z)
          rw [if_neg hxf, if_neg hG]
    · rintro σ H' ⟨v4, v5, rfl, sm, el⟩
      rw [List.take_of_length_le (by rw [List.length_map, hpl]; exact Nat.le_refl _)] at el
      exact ⟨_, rfl, k l H' sm nl0 el⟩
/-- shifted by k the list is the same, as far as it goes -/
def repOk (cs : List Int) (k : Nat) : Prop := cs.length % k = 0 ∧ cs.drop k = cs.take (cs.length - k)
/-- k is the least such number from 1 on -/
def RepIs (cs : List Int) (k : Nat) : Prop := 1 ≤ k ∧ k ≤ cs.length ∧ repOk cs k ∧ ∀ j, 1 ≤ j → j < k → ¬ repOk cs j
def spLeast (K : PySem.W.Frag) : Sp := fun vs H Q _ => ∃ (a : Addr) (cs : List Int), vs = [.ref a] ∧ SqL K H a (cs.map V.int) ∧ 1 ≤ cs.length ∧ cs.length ≤ 100000 ∧ ∀ (k : Nat) H', Same H H' → RepIs cs k → Q (.int (k : Int)) H'
theorem ok_least {f : Addr} {fd : FuncData} (F : Fun K "least_repeat" "least_repeat" sleast_repeat f fd) (N : Names mg) : FnOk P w K mg base CX0 1 f fd ["counts"] (spLeast K) := by
  have sc := scleast_repeat
  refine F.ok sc (fun vs H Q E h => ?_) (fun cdv A outer s H vs Q E hr h => ?_)
  · obtain ⟨a, cs, rfl, _⟩ := h
    rfl
  · obtain ⟨a, cs, rfl, ha, c1, c2, k⟩ := h
    refine ⟨_, (pss_cons (ps_set (i := 1) sc.nd rfl (Or.inl rfl) (pe_callB call_len_seq (by rfl) N.len (by decide +kernel) (pa_cons (pv 0) pa_nil)))
      (pss_cons (ps_for PassesOwn.never rfl (pi_range2 rfl N.range (pa_cons pe_int (pa_cons (pv 1) pa_nil))) (pg_name (i := 2) sc.nd rfl (Or.inl rfl)) (pss_one (ps_if (PW.pt (pw_and (pt_cmpR op_eq (pe_op op_mod (pv 1) (pv 2)) pe_int (nomark _)) (pw_and1 (pt_cmpR (op_eqIs (hu64 hr)) (pe_slice sl_list (pv 0) (po_some (pv 2)) po_none) (pe_slice sl_list (pv 0) po_none (po_some (pe_op op_sub (pv 1) (pv 2)))) (nomark _))))) (pss_one (ps_ret (pv 2))) pss_nil)))
      (pss_one (ps_ret (pv 1))))), ?_⟩
    have el : (cs.map V.int).length = cs.length := List.length_map ..
    refine ⟨_, rfl, a, _, rfl, .inl ha, ?_⟩
    rw [el]
    refine ⟨_, rfl, 1, _, rfl, ⟨by omega, by omega, by omega, by omega⟩, ?_⟩
    have en : (((cs.length : Nat) : Int) - 1).toNat = cs.length - 1 := by omega
    rw [en]
    refine for_range (n := cs.length - 1) (fun i σ H' => ∃ v2 : Option V, σ = [some (.ref a), some (.int ((cs.length : Nat) : Int)), v2] ∧ Same H H' ∧ ∀ j, 1 ≤ j → j < i + 1 → ¬ repOk cs j) ⟨_, rfl, Same.refl H, fun j h1 h2 => by omega⟩ ?_ ?_
    · rintro i σ H' hi ⟨v2, rfl, sm, hno⟩
      have e1 : (1 : Int) + ((i : Nat) : Int) = ((i + 1 : Nat) : Int) := by omega
      rw [e1]
      have ha' := sm.seq ha
      refine ⟨_, rfl, _, rfl, _, _, rfl, rfl, (by show (0 : Int) < _; omega), rfl, _, rfl, ?_⟩
      refine ifD (fun hd => ?_) (fun hd => ?_)
      · have hm : cs.length % (i + 1) = 0 := by
          have z := V.int.inj hd
          have z' : (((cs.length % (i + 1) : Nat)) : Int) = 0 := by rw [Int.natCast_emod]; exact z
          omega
        refine ⟨_, rfl, _, rfl, _, rfl, a, _, rfl, ha', ?_⟩
        (intro t nt; generalize e_t : upd H' t _ = H5; have s5 : Same H' H5 := fun b x hb => (congrFun e_t b).symm.trans (same_new nt b x hb); have h5 := (congrFun e_t t).symm.trans upd_same; clear e_t)
        have h5' : H5 t = some (.lst ((cs.drop (i + 1)).map V.int)) := by rw [h5, cut_from, List.map_drop]
        refine ⟨_, rfl, _, rfl, _, rfl, _, _, rfl, rfl, _, rfl, a, _, rfl, s5.seq ha', ?_⟩
        (intro u nu; generalize e_u : upd H5 u _ = H6; have s6 : Same H5 H6 := fun b x hb => (congrFun e_u b).symm.trans (same_new nu b x hb); have h6 := (congrFun e_u u).symm.trans upd_same; clear e_u)
        have h6' : H6 u = some (.lst ((cs.take (cs.length - (i + 1))).map V.int)) := by
          rw [h6]
          show some (HO.lst (cutV _ none (some (((cs.length : Nat) : Int) - ((i + 1 : Nat) : Int))))) = _
          rw [show (((cs.length : Nat) : Int) - ((i + 1 : Nat) : Int)) = ((cs.length - (i + 1) : Nat) : Int) by omega, cut_to, List.map_take]
        refine ⟨t, u, _, _, rfl, rfl, .inl ⟨SqL.lst (s6 _ _ h5'), SqL.lst h6'⟩, _, rfl, ?_⟩
        refine ifD (fun hd2 => ?_) (fun hd2 => ?_)
        · exact ⟨_, rfl, k (i + 1) H6 (sm.trans (s5.trans s6)) ⟨by omega, by omega, ⟨hm, hd2⟩, fun j j1 j2 => hno j j1 j2⟩⟩
        · refine ⟨_, rfl, sm.trans (s5.trans s6), fun j j1 j2 hj => ?_⟩
          by_cases hji : j = i + 1
          · rw [hji] at hj
            exact hd2 hj.2
          · exact hno j j1 (by omega) hj
      · refine iteF ?_
        refine ⟨_, rfl, sm, fun j j1 j2 hj => ?_⟩
        by_cases hji : j = i + 1
        · rw [hji] at hj
          refine hd (congrArg V.int ?_)
          show ((cs.length : Nat) : Int) % ((i + 1 : Nat) : Int) = 0
          rw [← Int.natCast_emod, hj.1]
          rfl
        · exact hno j j1 (by omega) hj
    · rintro σ H' ⟨v2, rfl, sm, hno⟩
      refine ⟨_, rfl, k cs.length H' sm ⟨c1, Nat.le_refl _, ⟨Nat.mod_self _, ?_⟩, fun j j1 j2 => hno j j1 (by omega)⟩⟩
      rw [List.drop_eq_nil_of_le (Nat.le_refl _), Nat.sub_self, List.take_zero]
def sumsP (ns : List Int) : List Int := (List.range ns.length).map fun i => (ns.take i).sum
def spSums (K : PySem.W.Frag) : Sp := fun vs H Q _ => ∃ (a : Addr) (ns : List Int), vs = [.ref a] ∧ SqL K H a (ns.map V.int) ∧ ns.length ≤ 100000 ∧ ∀ (l : Addr) H', Same H H' → H l = none → H' l = some (.lst ((sumsP ns).map V.int)) → Q (.ref l) H'
theorem sums_take {ns : List Int} {i : Nat} {x : Int} (h : ns[i]? = some x) : (ns.take (i + 1)).sum = (ns.take i).sum + x := by
  rw [List.take_add_one, h, List.sum_append]
  simp
theorem ok_sums {f : Addr} {fd : FuncData} (F : Fun K "sums_ahead" "sums_ahead" ssums_ahead f fd) : FnOk P w K mg base CX0 1 f fd ["numbers"] (spSums K) := by
  have sc := scsums_ahead
  refine F.ok sc (fun vs H Q E h => ?_) (fun cdv A outer s H vs Q E hr h => ?_)
  · obtain ⟨a, ns, rfl, _⟩ := h
    rfl
  · obtain ⟨a, ns, rfl, ha, hl, k⟩ := h
    refine ⟨_, (pss_cons (ps_set (i := 1) sc.nd rfl (Or.inl rfl) pe_int)
      (pss_cons (ps_set (i := 2) sc.nd rfl (Or.inl rfl) (pe_lst pa_nil))
      (pss_cons (ps_for PassesOwn.never rfl (pi_list (pv 0)) (pg_name (i := 3) sc.nd rfl (Or.inl rfl)) (pss_cons (ps_expr (pe_bm PySem.F.plainAttrs_list PySem.F.slot_list_append PySem.F.type_list_append mt_append (pv 2) (pa_cons (pv 1) pa_nil)))
      (pss_one (ps_aug (i := 1) sc.nd rfl (Or.inl rfl) (pv 3) ip_add))))
      (pss_one (ps_ret (pv 2)))))), ?_⟩
    refine ⟨Nat.le_of_ble_eq_true rfl, ?_⟩
    (intro l nl; generalize e_l : upd H l _ = H1; have s1 : Same H H1 := fun b x hb => (congrFun e_l b).symm.trans (same_new nl b x hb); have h1 := (congrFun e_l l).symm.trans upd_same; clear e_l)
    refine ⟨_, rfl, a, rfl, ⟨_, s1.seq ha⟩, for_list (K := K) (xs := ns.map V.int) (fun i σ H' => ∃ v3 : Option V, σ = [some (.ref a), some (.int (ns.take i).sum), some (.ref l), v3] ∧ Same H H' ∧ H' l = some (.lst (((List.range i).map fun j => (ns.take j).sum).map V.int)))
      ⟨_, rfl, s1, h1⟩ (fun i σ H' _ ⟨_, _, s, _⟩ => s.seq ha) ?_ ?_⟩
    · rintro i x σ H' hx ⟨v3, rfl, sm, el⟩
      obtain ⟨b, hb, rfl⟩ : ∃ b, ns[i]? = some b ∧ x = V.int b := by
        rw [List.getElem?_map] at hx
        obtain ⟨z, hz, e⟩ := Option.map_eq_some_iff.mp hx
        exact ⟨z, hz, e.symm⟩
      have hi : i < ns.length := (List.getElem?_eq_some_iff.mp hb).1
      refine ⟨_, rfl, .inl ⟨rfl, _, SqL.lst el⟩, _, rfl, l, _, _, rfl, rfl, el, smallLt (by simp; omega), ?_⟩
      refine ⟨_, rfl, _, rfl, _, _, rfl, rfl, ?_⟩
      refine ⟨_, (by rw [sums_take hb]; rfl), same_mut sm nl, ?_⟩
      rw [upd_same, List.range_succ, List.map_append, List.map_append]
      rfl
    · rintro σ H' ⟨v3, rfl, sm, el⟩
      rw [List.length_map] at el
      exact ⟨_, rfl, k l H' sm nl el⟩
end
end LM

set_option Elab.async false
set_option linter.all false
set_option maxRecDepth 100000
set_option maxHeartbeats 4000000
set_option pp.maxSteps 600
set_option pp.deepTerms false
namespace LM
open PySem PySem.Spec PyProof.Rows L2 RT
local macro_rules | `(tactic| walk_at "hp") => `(tactic| first | assumption | exact upd_same | (rw [upd_ne (by assumption)]; assumption) | (rw [upd_ne (Ne.symm (by assumption))]; assumption) | (rw [upd_ne (by assumption)]; exact upd_same) | (rw [upd_ne (Ne.symm (by assumption))]; exact upd_same))
local macro_rules | `(tactic| walk_at "sq") => `(tactic| first | assumption | exact Or.inl (Or.inl (by assumption)) | exact Or.inl (Or.inl upd_same) | exact Or.inl (Or.inl (by walk_at "hp")))
local macro_rules | `(tactic| walk_at "ixl") => `(tactic| refine ⟨_, _, _, _, rfl, rfl, (by walk_at "sq"), (by rfl), ?_⟩)
local macro_rules | `(tactic| walk_at "setl") => `(tactic| refine ⟨_, _, _, _, rfl, rfl, (by walk_at "hp"), (by rfl), ?_⟩)
local macro_rules | `(tactic| walk_at "side") => `(tactic| refine idP ?_; first | omega | (show (0 : Int) < _; omega) | (show (0 : Int) < _ ∧ _ < _; omega) | (refine Or.inr ?_; show (-(2 ^ 64) : Int) < _ ∧ _ < _; omega) | (refine Or.inl ?_; show (-(2 ^ 64) : Int) < _ ∧ _ < _; omega) | exact divW (by omega) (by omega) _ | (refine ⟨by decide, by decide, ?_⟩; decide))
local macro_rules | `(tactic| walk_at "go1") => `(tactic| first
  | refine ⟨_, rfl, ?_⟩
  | refine ⟨_, _, rfl, rfl, (by walk_at "side"), ?_⟩
  | refine ⟨_, _, rfl, (by walk_at "side"), ?_⟩
  | refine ⟨_, _, rfl, rfl, ?_⟩
  | refine Or.inl ⟨_, rfl, ?_⟩
  | refine ⟨_, _, rfl, Or.inl (by walk_at "sq"), ?_⟩
  | walk_at "ixl"
  | walk_at "setl"
  | refine ⟨_, _, rfl, (by walk_at "sq"), rfl, ?_⟩
  | refine ⟨_, _, rfl, (by walk_at "sq"), ?_⟩
  | refine ⟨_, _, rfl, ?_⟩
  | refine ⟨rfl, ?_⟩
  | refine ⟨small (Nat.le_of_ble_eq_true rfl), ?_⟩)
local macro_rules | `(tactic| walk_at "go") => `(tactic| repeat walk_at "go1")

abbrev slast_not_above : Stmt := topS 42
theorem sclast_not_above : FnScope ["ascending", "number", "low", "high", "middle"] ["ascending", "number"] (defScope slast_not_above) := ⟨rfl, rfl, rfl, by decide +kernel, rfl, by decide +kernel, by decide +kernel⟩
abbrev slabel_at : Stmt := topS 29
theorem sclabel_at : FnScope ["bases", "place", "numbers", "base", "number"] ["bases", "place"] (defScope slabel_at) := ⟨rfl, rfl, rfl, by decide +kernel, rfl, by decide +kernel, by decide +kernel⟩
/-- the search by halves -/
def lnaGo (fs : List Int) (x : Int) (lo hi : Nat) : Nat :=
  if h : 1 < hi - lo then (if fs.getD ((lo + hi) / 2) 0 ≤ x then lnaGo fs x ((lo + hi) / 2) hi else lnaGo fs x lo ((lo + hi) / 2)) else lo
termination_by hi - lo
decreasing_by all_goals omega
theorem lnaGo_lt (fs : List Int) (x : Int) (lo hi : Nat) (h : lo < hi) : lo ≤ lnaGo fs x lo hi ∧ lnaGo fs x lo hi < hi := by
  unfold lnaGo
  split
  · split
    · have := lnaGo_lt fs x ((lo + hi) / 2) hi (by omega)
      omega
    · have := lnaGo_lt fs x lo ((lo + hi) / 2) (by omega)
      omega
  · omega
termination_by hi - lo
decreasing_by all_goals omega
def lna (fs : List Int) (x : Int) : Nat := lnaGo fs x 0 fs.length
def spLna (K : PySem.W.Frag) : Sp := fun vs H Q _ => ∃ (a : Addr) (fs : List Int) (x : Int), vs = [.ref a, .int x] ∧ SqL K H a (fs.map V.int) ∧ 1 ≤ fs.length ∧ fs.length ≤ 100000 ∧ Q (.int ((lna fs x : Nat) : Int)) H
def labelP (bs : List Int) (p : Int) : List Int := (bs.reverse.foldl digStep (p, [])).1 :: (bs.reverse.foldl digStep (p, [])).2
def spLabelAt (K : PySem.W.Frag) : Sp := fun vs H Q _ => ∃ (a : Addr) (bs : List Int) (p : Int), vs = [.ref a, .int p] ∧ SqT K H a (bs.map V.int) ∧ bs.length ≤ 3 ∧ (∀ x ∈ bs, 2 ≤ x ∧ x ≤ 60) ∧ ∀ (t : Addr) H', Same H H' → H t = none → H' t = some (.tup ((labelP bs p).map V.int)) → Q (.ref t) H'
def spNumbers (K : PySem.W.Frag) : Sp := fun vs H Q _ => ∃ (a : Addr) (bs : List Int) (p : Int), vs = [.ref a, .int p] ∧ SqL K H a (bs.map V.int) ∧ bs.length ≤ 3 ∧ (∀ x ∈ bs, 2 ≤ x ∧ x ≤ 60) ∧ ∀ (t : Addr) H', Same H H' → H t = none → H' t = some (.tup ((labelP bs p).map V.int)) → Q (.ref t) H'
section
variable {P : Program} {w : World} {K : PySem.W.Frag} {mg : Str → Option Value} {base : Heap}
theorem ok_lna {f : Addr} {fd : FuncData} (F : Fun K "last_not_above" "last_not_above" slast_not_above f fd) (N : Names mg) : FnOk P w K mg base CX0 1 f fd ["ascending", "number"] (spLna K) := by
  have sc := sclast_not_above
  refine F.ok sc (fun vs H Q E h => ?_) (fun cdv A outer s H vs Q E hr h => ?_)
  · obtain ⟨a, fs, x, rfl, _⟩ := h
    rfl
  · obtain ⟨a, fs, x, rfl, ha, l1, l2, k⟩ := h
    refine ⟨_, (pss_cons (ps_par (i := 2) (j := 3) rfl sc.nd rfl rfl (by decide) rfl rfl (pa_cons pe_int (pa_cons (pe_callB call_len_seq (by rfl) N.len (by decide +kernel) (pa_cons (pv 0) pa_nil)) pa_nil)) (by rfl))
      (pss_cons (ps_while PassesOwn.never (pt_cmpR op_gt (pe_op op_sub (pv 3) (pv 2)) pe_int (nomark _)) (pss_cons (ps_set (i := 4) sc.nd rfl (Or.inl rfl) (pe_op op_fdiv (pe_op op_add (pv 2) (pv 3)) pe_int))
      (pss_one (ps_if (pt_cmpR op_le (pe_ix ix_list (pv 0) (pv 4) (fun _ _ => rfl)) (pv 1) (nomark _)) (pss_one (ps_set (i := 2) sc.nd rfl (Or.inl rfl) (pv 4))) (pss_one (ps_set (i := 3) sc.nd rfl (Or.inl rfl) (pv 4)))))))
      (pss_one (ps_ret (pv 2))))), ?_⟩
    have el : (fs.map V.int).length = fs.length := List.length_map ..
    refine ⟨_, rfl, a, _, rfl, .inl ha, ?_⟩
    rw [el]
    refine ⟨_, _, rfl, ?_⟩
    refine while_by (fun σ H' => ∃ (lo hi : Nat) (v4 : Option V), σ = [some (.ref a), some (.int x), some (.int ((lo : Nat) : Int)), some (.int ((hi : Nat) : Int)), v4] ∧ lo < hi ∧ hi ≤ fs.length ∧ lnaGo fs x lo hi = lna fs x ∧ H' = H)
      (fun σ _ => match σ with | [_, _, some (.int lo), some (.int hi), _] => hi.toNat - lo.toNat | _ => 0) ⟨0, fs.length, none, rfl, by omega, Nat.le_refl _, rfl, rfl⟩ ?_ ?_
    · rintro σ H' ⟨lo, hi, v4, rfl, hlt, hle, hg, rfl⟩
      refine ⟨_, rfl, _, rfl, _, _, rfl, rfl, _, _, rfl, rfl, _, rfl, ?_⟩
      refine ifD (fun hd => ?_) (fun hd => ?_)
      · have h1 : 1 < hi - lo := by omega
        have hm : (((lo : Nat) : Int) + ((hi : Nat) : Int)) / 2 = (((lo + hi) / 2 : Nat) : Int) := by omega
        have hml : (lo + hi) / 2 < fs.length := by omega
        have hat : atI (fs.map V.int) ((((lo + hi) / 2 : Nat)) : Int) = some (V.int (fs.getD ((lo + hi) / 2) 0)) := by
          rw [atI_nat (map_get hml), List.getD_eq_getElem?_getD, List.getElem?_eq_getElem hml]
          rfl
        refine ⟨_, rfl, _, rfl, _, _, rfl, rfl, _, _, rfl, rfl, (by show (0 : Int) < _ ∧ _ < _; omega), ?_⟩
        refine ⟨_, rfl, _, rfl, a, _, _, .int (fs.getD ((lo + hi) / 2) 0), rfl, rfl, ha, (by rw [hm]; exact hat), _, rfl, _, _, rfl, rfl, _, rfl, ?_⟩
        unfold lnaGo at hg
        rw [dif_pos h1] at hg
        refine ifD (fun hd2 => ?_) (fun hd2 => ?_)
        · rw [if_pos hd2] at hg
          refine ⟨_, rfl, ⟨(lo + hi) / 2, hi, _, (by rw [← hm]; rfl), by omega, hle, hg, rfl⟩, ?_⟩
          show ((hi : Nat) : Int).toNat - ((((lo : Nat) : Int) + ((hi : Nat) : Int)) / 2).toNat < ((hi : Nat) : Int).toNat - ((lo : Nat) : Int).toNat
          omega
        · rw [if_neg hd2] at hg
          refine ⟨_, rfl, ⟨lo, (lo + hi) / 2, _, (by rw [← hm]; rfl), by omega, by omega, hg, rfl⟩, ?_⟩
          show ((((lo : Nat) : Int) + ((hi : Nat) : Int)) / 2).toNat - ((lo : Nat) : Int).toNat < ((hi : Nat) : Int).toNat - ((lo : Nat) : Int).toNat
          omega
      · have h1 : ¬ 1 < hi - lo := by omega
        unfold lnaGo at hg
        rw [dif_neg h1] at hg
        refine ⟨_, rfl, ?_⟩
        rw [hg]
        exact k
    · intro σ H' Q1 Q2 hm h
      obtain ⟨v, hv, v2, hv2, i, j, e1, e2, i2, j2, e3, e4, b, e5, q⟩ := h
      exact ⟨v, hv, v2, hv2, i, j, e1, e2, i2, j2, e3, e4, b, e5, hm _ _ q⟩
theorem ok_labelat {f : Addr} {fd : FuncData} (F : Fun K "label_at" "label_at" slabel_at f fd) (N : Names mg) : FnOk P w K mg base CX0 1 f fd ["bases", "place"] (spLabelAt K) := by
  have sc := sclabel_at
  refine F.ok sc (fun vs H Q E h => ?_) (fun cdv A outer s H vs Q E hr h => ?_)
  · obtain ⟨a, bs, p, rfl, _⟩ := h
    rfl
  · obtain ⟨a, bs, p, rfl, ha, h3, hb, k⟩ := h
    refine ⟨_, (pss_cons (ps_set (i := 2) sc.nd rfl (Or.inl rfl) (pe_lst pa_nil))
      (pss_cons (ps_for PassesOwn.never rfl (pi_revA rfl N.reversed (pv 0)) (pg_name (i := 3) sc.nd rfl (Or.inl rfl)) (pss_cons (ps_asg (pe_callB call_divmod (by rfl) N.divmod (by decide +kernel) (pa_cons (pv 1) (pa_cons (pv 3) pa_nil))) (pg_tup rfl (pgs_cons (pg_name (i := 1) sc.nd rfl (Or.inl rfl)) (pgs_cons (pg_name (i := 4) sc.nd rfl (Or.inl rfl)) pgs_nil))))
      (pss_one (ps_expr (pe_bm PySem.F.plainAttrs_list PySem.F.slot_list_append PySem.F.type_list_append mt_append (pv 2) (pa_cons (pv 4) pa_nil))))))
      (pss_cons (ps_expr (pe_bm PySem.F.plainAttrs_list PySem.F.slot_list_append PySem.F.type_list_append mt_append (pv 2) (pa_cons (pv 1) pa_nil)))
      (pss_one (ps_ret (pe_tupRev rfl (by rfl) N.tuple (by rfl) N.reversed (pv 2))))))), ?_⟩
    refine ⟨Nat.le_of_ble_eq_true rfl, ?_⟩
    (intro l nl; generalize e_l : upd H l _ = H1; have s1 : Same H H1 := fun b x hb => (congrFun e_l b).symm.trans (same_new nl b x hb); have h1 := (congrFun e_l l).symm.trans upd_same; clear e_l)
    refine ⟨_, rfl, a, _, rfl, .inr ⟨Same.seqT s1 ha, ?_⟩⟩
    have hrev : ∀ i x, i < (bs.map V.int).length → (bs.map V.int)[(bs.map V.int).length - 1 - i]? = some x → ∃ b, bs.reverse[i]? = some b ∧ x = V.int b := fun i x hi hx => by
      rw [List.length_map] at hi hx
      rw [List.getElem?_map] at hx
      obtain ⟨z, hz, e⟩ := Option.map_eq_some_iff.mp hx
      exact ⟨z, by rw [List.getElem?_reverse hi]; exact hz, e.symm⟩
    refine for_ItvT (K := K) (xs := bs.map V.int) (fun i σ H' => ∃ v3 v4 : Option V, σ = [some (.ref a), some (.int ((bs.reverse.take i).foldl digStep (p, [])).1), some (.ref l), v3, v4] ∧ Same H H' ∧ H' l = some (.lst (((((bs.reverse.take i).foldl digStep (p, [])).2).reverse).map V.int)))
      ⟨_, _, rfl, s1, h1⟩ (fun i σ H' ⟨_, _, _, s, _⟩ => Same.seqT s ha) ?_ ?_
    · rintro i x σ H' hi hx ⟨v3, v4, rfl, sm, el⟩
      obtain ⟨b, hb', rfl⟩ := hrev i x hi hx
      have hbb := hb b (List.mem_reverse.mp (List.mem_of_getElem? hb'))
      have st := take_fold digStep (p, []) _ i b hb'
      refine ⟨_, rfl, _, rfl, _, _, rfl, (by show (0 : Int) < _ ∧ _ < _; omega), ?_⟩
      (intro t nt; generalize e_t : upd H' t _ = H5; have s5 : Same H' H5 := fun b x hb => (congrFun e_t b).symm.trans (same_new nt b x hb); have h5 := (congrFun e_t t).symm.trans upd_same; clear e_t)
      have el5 := s5 _ _ el
      refine ⟨t, _, rfl, SqT.tup h5, rfl, _, _, rfl, _, _, rfl, rfl, ?_⟩
      refine ⟨_, rfl, .inl ⟨rfl, _, SqL.lst el5⟩, _, rfl, l, _, _, rfl, rfl, el5, smallLt (by rw [List.length_map, List.length_reverse, digStep_len, List.length_take, List.length_reverse]; simp; omega), ?_⟩
      refine ⟨_, _, (by rw [st]; rfl), same_mut (sm.trans s5) nl, ?_⟩
      rw [upd_same, st]
      show _ = some (HO.lst ((((((bs.reverse.take i).foldl digStep (p, [])).1 % b) :: ((bs.reverse.take i).foldl digStep (p, [])).2).reverse).map V.int))
      rw [List.reverse_cons, List.map_append]
      rfl
    · rintro σ H' ⟨v3, v4, rfl, sm, el⟩
      rw [List.take_of_length_le (by rw [List.length_map, List.length_reverse]; exact Nat.le_refl _)] at el
      rw [List.take_of_length_le (by rw [List.length_map, List.length_reverse]; exact Nat.le_refl _)]
      refine ⟨_, rfl, .inl ⟨rfl, _, SqL.lst el⟩, _, rfl, l, _, _, rfl, rfl, el, smallLt (by rw [List.length_map, List.length_reverse, digStep_len, List.length_reverse]; simp; omega), ?_⟩
      generalize eH : upd H' l _ = H6
      have s6 : Same H H6 := by rw [← eH]; exact same_mut sm nl
      have e6 : H6 l = some (.lst ((labelP bs p).reverse.map V.int)) := by
        rw [← eH, upd_same]
        unfold labelP
        rw [List.reverse_cons, List.map_append]
        rfl
      refine ⟨_, rfl, l, _, rfl, SqL.lst e6, ?_⟩
      (intro t nt; generalize e_t : upd H6 t _ = H7; have s7 : Same H6 H7 := fun b x hb => (congrFun e_t b).symm.trans (same_new nt b x hb); have h7 := (congrFun e_t t).symm.trans upd_same; clear e_t)
      refine k t H7 (s6.trans s7) (s6.free nt) ?_
      rw [h7, ← List.map_reverse, List.reverse_reverse]
end
end LM

set_option Elab.async false
set_option linter.all false
set_option maxRecDepth 100000
set_option maxHeartbeats 4000000
set_option pp.maxSteps 600
set_option pp.deepTerms false
namespace LM
open PySem PySem.Spec PyProof.Rows L2
end LM

set_option Elab.async false
set_option linter.all false
set_option maxRecDepth 100000
set_option maxHeartbeats 4000000
set_option pp.maxSteps 600
set_option pp.deepTerms false
namespace LM
open PySem PySem.Spec PyProof.Rows L2
local macro_rules | `(tactic| walk_at "hp") => `(tactic| first | assumption | exact upd_same | (rw [upd_ne (by assumption)]; assumption) | (rw [upd_ne (Ne.symm (by assumption))]; assumption) | (rw [upd_ne (by assumption)]; exact upd_same) | (rw [upd_ne (Ne.symm (by assumption))]; exact upd_same))
local macro_rules | `(tactic| walk_at "sq") => `(tactic| first | assumption | exact Or.inl (Or.inl (by assumption)) | exact Or.inl (Or.inl upd_same) | exact Or.inl (Or.inl (by walk_at "hp")))
local macro_rules | `(tactic| walk_at "ixl") => `(tactic| refine ⟨_, _, _, _, rfl, rfl, (by walk_at "sq"), (by rfl), ?_⟩)
local macro_rules | `(tactic| walk_at "setl") => `(tactic| refine ⟨_, _, _, _, rfl, rfl, (by walk_at "hp"), (by rfl), ?_⟩)
local macro_rules | `(tactic| walk_at "side") => `(tactic| refine idP ?_; first | omega | (show (0 : Int) < _; omega) | (show (0 : Int) < _ ∧ _ < _; omega) | (refine Or.inr ?_; show (-(2 ^ 64) : Int) < _ ∧ _ < _; omega) | (refine Or.inl ?_; show (-(2 ^ 64) : Int) < _ ∧ _ < _; omega) | exact divW (by omega) (by omega) _ | (refine ⟨by decide, by decide, ?_⟩; decide))
local macro_rules | `(tactic| walk_at "go1") => `(tactic| first
  | refine ⟨_, rfl, ?_⟩
  | refine ⟨_, _, rfl, rfl, (by walk_at "side"), ?_⟩
  | refine ⟨_, _, rfl, (by walk_at "side"), ?_⟩
  | refine ⟨_, _, rfl, rfl, ?_⟩
  | refine Or.inl ⟨_, rfl, ?_⟩
  | refine ⟨_, _, rfl, Or.inl (by walk_at "sq"), ?_⟩
  | walk_at "ixl"
  | walk_at "setl"
  | refine ⟨_, _, rfl, (by walk_at "sq"), rfl, ?_⟩
  | refine ⟨_, _, rfl, (by walk_at "sq"), ?_⟩
  | refine ⟨_, _, rfl, ?_⟩
  | refine ⟨rfl, ?_⟩
  | refine ⟨small (Nat.le_of_ble_eq_true rfl), ?_⟩)
local macro_rules | `(tactic| walk_at "go") => `(tactic| repeat walk_at "go1")

abbrev sHouse__init_ : Stmt := inClass (topS 53) 0
theorem scHouse__init_ : FnScope ["self", "bases", "rows", "groups", "counts", "borne", "count"] ["self", "bases", "rows"] (defScope sHouse__init_) := ⟨rfl, rfl, rfl, by decide +kernel, rfl, by decide +kernel, by decide +kernel⟩
abbrev sHouse_place_borne : Stmt := inClass (topS 53) 14
theorem scHouse_place_borne : FnScope ["self", "frame", "groups", "frames", "rounds", "rest", "group", "number"] ["self", "frame"] (defScope sHouse_place_borne) := ⟨rfl, rfl, rfl, by decide +kernel, rfl, by decide +kernel, by decide +kernel⟩
abbrev sHouse_place : Stmt := inClass (topS 53) 6
theorem scHouse_place : FnScope ["self", "frame"] ["self", "frame"] (defScope sHouse_place) := ⟨rfl, rfl, rfl, by decide +kernel, rfl, by decide +kernel, by decide +kernel⟩
abbrev sHouse_label : Stmt := inClass (topS 53) 5
theorem scHouse_label : FnScope ["self", "frame"] ["self", "frame"] (defScope sHouse_label) := ⟨rfl, rfl, rfl, by decide +kernel, rfl, by decide +kernel, by decide +kernel⟩
/-- the attributes in the order in which they are stored -/
def hf (b r sk ah rd : Addr) (t : Str) : List (Str × V) := putF "_round" (.ref rd) (putF "_frames_ahead" (.ref ah) (putF "_skipped" (.ref sk) (putF "_text" (.str t) (putF "_rows" (.ref r) (putF "_bases" (.ref b) [])))))
theorem hf_bases (b r sk ah rd : Addr) (t : Str) : (hf b r sk ah rd t).lookup ("_bases" : Str) = some (.ref b) := by
  unfold hf
  rw [lookup_putF, if_neg (by decide +kernel), lookup_putF, if_neg (by decide +kernel), lookup_putF, if_neg (by decide +kernel), lookup_putF, if_neg (by decide +kernel), lookup_putF, if_neg (by decide +kernel), lookup_putF, if_pos rfl]
theorem hf_skipped (b r sk ah rd : Addr) (t : Str) : (hf b r sk ah rd t).lookup ("_skipped" : Str) = some (.ref sk) := by
  unfold hf
  rw [lookup_putF, if_neg (by decide +kernel), lookup_putF, if_neg (by decide +kernel), lookup_putF, if_pos rfl]
theorem hf_ahead (b r sk ah rd : Addr) (t : Str) : (hf b r sk ah rd t).lookup ("_frames_ahead" : Str) = some (.ref ah) := by
  unfold hf
  rw [lookup_putF, if_neg (by decide +kernel), lookup_putF, if_pos rfl]
theorem hf_round (b r sk ah rd : Addr) (t : Str) : (hf b r sk ah rd t).lookup ("_round" : Str) = some (.ref rd) := by
  unfold hf
  rw [lookup_putF, if_pos rfl]
theorem hf_no (b r sk ah rd : Addr) (t : Str) {m : Str} (h1 : ¬ m = "_round") (h2 : ¬ m = "_frames_ahead") (h3 : ¬ m = "_skipped") (h4 : ¬ m = "_text") (h5 : ¬ m = "_rows") (h6 : ¬ m = "_bases") : (hf b r sk ah rd t).lookup m = none := by
  unfold hf
  rw [lookup_putF, if_neg h1, lookup_putF, if_neg h2, lookup_putF, if_neg h3, lookup_putF, if_neg h4, lookup_putF, if_neg h5, lookup_putF, if_neg h6]
  rfl
theorem hf_place (b r sk ah rd : Addr) (t : Str) : (hf b r sk ah rd t).lookup ("_place_borne" : Str) = none := hf_no _ _ _ _ _ _ (by decide +kernel) (by decide +kernel) (by decide +kernel) (by decide +kernel) (by decide +kernel) (by decide +kernel)
def borneP (bs cs : List Int) : List Int := cs.map fun c => bs.getLastD 1 - c
def groupsP (bs : List Int) (rows : List R3) : Nat := unitP bs 0 * everyL rows
/-- the bases and rows of a house that may be made -/
structure Fair (bs : List Int) (rows : List R3) : Prop where
  b0 : 1 ≤ bs.length
  b3 : bs.length ≤ 3
  bb : ∀ x ∈ bs, 2 ≤ x ∧ x ≤ 60
  r6 : rows.length ≤ 6
  ro : ∀ x ∈ rows, RowOk 60 bs x
  gr : groupsP bs rows ≤ 7200
/-- a house at p -/
structure HouseAt (K : PySem.W.Frag) (C : Addr) (old : Addr → Prop) (H : Hp) (p b r : Addr) (bs : List Int) (rows : List R3) (cs : List Int) : Prop where
  ob : ∃ dx sk ah rd, H p = some (.ins C dx (hf b r sk ah rd (houseS bs rows))) ∧ H sk = some (.lst (cs.map V.int)) ∧ H ah = some (.lst ((sumsP (borneP bs cs)).map V.int)) ∧ H rd = some (.tup [.int (cs.length : Int), .int (borneP bs cs).sum]) ∧ ¬ old sk ∧ ¬ old ah
  bt : SqT K H b (bs.map V.int)
  rt : RowsAt K H r rows
  fair : Fair bs rows
  rep : ∃ k, RepIs (countsP bs rows (groupsP bs rows)) k ∧ cs = (countsP bs rows (groupsP bs rows)).take k
theorem HouseAt.same {K : PySem.W.Frag} {C : Addr} {old : Addr → Prop} {H H' : Hp} {p b r : Addr} {bs : List Int} {rows : List R3} {cs : List Int} (h : HouseAt K C old H p b r bs rows cs) (s : Same H H') : HouseAt K C old H' p b r bs rows cs := by
  obtain ⟨⟨dx, sk, ah, rd, e1, e2, e3, e4, e5, e6⟩, h2, h3, h4, h5⟩ := h
  exact ⟨⟨dx, sk, ah, rd, s _ _ e1, s _ _ e2, s _ _ e3, s _ _ e4, e5, e6⟩, Same.seqT s h2, h3.same s, h4, h5⟩
theorem countsP_len (bs : List Int) (rows : List R3) (n : Nat) : (countsP bs rows n).length = n := by
  unfold countsP
  rw [List.length_map, List.length_range]
theorem cnt_in {bs : List Int} {n g : Nat} : ∀ (rows : List R3) (acc : Int), (∀ x ∈ rows, RowOk 60 bs x) → 0 ≤ acc ∧ acc < bs.getLastD 1 → 0 ≤ rows.foldl (cntStep bs n g) acc ∧ rows.foldl (cntStep bs n g) acc < bs.getLastD 1
  | [], _, _, ha => ha
  | x :: rows, acc, h, ha => by
    rw [List.foldl_cons]
    refine cnt_in rows _ (fun y hy => h y (List.mem_cons_of_mem _ hy)) ?_
    unfold cntStep
    obtain ⟨_, _, _, _, o5, o6⟩ := h x List.mem_cons_self
    split
    · exact ⟨o5, o6⟩
    · exact ha
theorem counts_in {bs : List Int} {rows : List R3} {n : Nat} (b0 : 1 ≤ bs.length) (bb : ∀ x ∈ bs, 2 ≤ x ∧ x ≤ 60) (ro : ∀ x ∈ rows, RowOk 60 bs x) : ∀ c ∈ countsP bs rows n, 0 ≤ c ∧ c < bs.getLastD 1 := by
  intro c hc
  obtain ⟨g, _, rfl⟩ := List.mem_map.mp hc
  have := bb _ (lastD_mem b0)
  exact cnt_in rows 0 ro ⟨Int.le_refl 0, by omega⟩
/-- what stands elsewhere than p stays -/
theorem els_upd {H : Hp} {p : Addr} {o : HO} : Else p H (upd H p o) := fun b x n e => by rw [upd_ne n]; exact e
theorem els_free {H H' : Hp} {p a : Addr} (e : Else p H H') (n : a ≠ p) (h : H' a = none) : H a = none := by
  cases q : H a with
  | none => rfl
  | some o =>
    rw [e _ _ n q] at h
    cases h
theorem els_seqT {K : PySem.W.Frag} {H H' : Hp} {p a C dx : Addr} {fs : List (Str × V)} {xs : List V} (hp : H p = some (.ins C dx fs)) (e : Else p H H') (h : SqT K H a xs) : SqT K H' a xs := by
  rcases h with (h | ⟨o, h⟩) | h
  · exact .inl (.inl (e _ _ (fun z => by rw [z, hp] at h; cases h) h))
  · exact .inl (.inr ⟨o, e _ _ (fun z => by rw [z, hp] at h; cases h) h⟩)
  · exact .inr h
theorem els_rows {K : PySem.W.Frag} {H H' : Hp} {p r C dx : Addr} {fs : List (Str × V)} {rows : List R3} (hp : H p = some (.ins C dx fs)) (e : Else p H H') (h : RowsAt K H r rows) : RowsAt K H' r rows := by
  obtain ⟨as, h1, h2⟩ := h
  exact ⟨as, els_seqT hp e h1, paired_imp h2 fun a _ x q => els_seqT hp e q⟩
theorem sumsP_len (ns : List Int) : (sumsP ns).length = ns.length := by
  unfold sumsP
  rw [List.length_map, List.length_range]
theorem borneP_len (bs cs : List Int) : (borneP bs cs).length = cs.length := by
  unfold borneP
  rw [List.length_map]
theorem lna_lt (fs : List Int) (x : Int) (h : 1 ≤ fs.length) : lna fs x < fs.length := (lnaGo_lt fs x 0 fs.length (by omega)).2
theorem sum_bounds {bs : List Int} (m : Int) : ∀ (cs : List Int), (∀ c ∈ cs, 0 ≤ c ∧ c < bs.getLastD 1) → bs.getLastD 1 ≤ m → (cs.length : Int) ≤ (borneP bs cs).sum ∧ (borneP bs cs).sum ≤ cs.length * m
  | [], _, _ => by
    show (0 : Int) ≤ 0 ∧ (0 : Int) ≤ 0 * m
    omega
  | c :: cs, h, hm => by
    obtain ⟨i1, i2⟩ := sum_bounds (bs := bs) m cs (fun x hx => h x (List.mem_cons_of_mem _ hx)) hm
    obtain ⟨h1, h2⟩ := h c List.mem_cons_self
    have e : (borneP bs (c :: cs)).sum = (bs.getLastD 1 - c) + (borneP bs cs).sum := List.sum_cons
    rw [e, List.length_cons, Int.natCast_add, Int.add_mul]
    omega
theorem cs_facts {bs : List Int} {rows : List R3} {cs : List Int} {kk : Nat} (fr : Fair bs rows) (rep : RepIs (countsP bs rows (groupsP bs rows)) kk) (hcs : cs = (countsP bs rows (groupsP bs rows)).take kk) :
    1 ≤ cs.length ∧ cs.length ≤ 7200 ∧ 1 ≤ (borneP bs cs).sum ∧ (borneP bs cs).sum ≤ 432000 := by
  have cl := countsP_len bs rows (groupsP bs rows)
  have gr := fr.gr
  have hl : cs.length = kk := by rw [hcs, List.length_take]; have := rep.2.1; omega
  have h1 := rep.1
  have h2 := rep.2.1
  have hlast := fr.bb _ (lastD_mem fr.b0)
  obtain ⟨s1, s2⟩ := sum_bounds (bs := bs) 60 cs (fun c hc => counts_in fr.b0 fr.bb fr.ro c (by rw [hcs] at hc; exact List.mem_of_mem_take hc)) hlast.2
  omega
def spInit (K : PySem.W.Frag) (C : Addr) : Sp := fun vs H Q _ => ∃ (p dx b r : Addr) (bs : List Int) (rows : List R3), vs = [.ref p, .ref b, .ref r] ∧ H p = some (.ins C dx []) ∧ SqT K H b (bs.map V.int) ∧ RowsAt K H r rows ∧ Fair bs rows ∧
  ∀ (cs : List Int) H', HouseAt K C (fun q => H q ≠ none) H' p b r bs rows cs → Else p H H' → Q .non H'
def placeP (bs cs : List Int) (n : Int) : Int :=
  (n / (borneP bs cs).sum * (cs.length : Int) + (lna (sumsP (borneP bs cs)) (n % (borneP bs cs).sum) : Nat)) * bs.getLastD 1 +
    (cs.getD (lna (sumsP (borneP bs cs)) (n % (borneP bs cs).sum)) 0 + n % (borneP bs cs).sum - (sumsP (borneP bs cs)).getD (lna (sumsP (borneP bs cs)) (n % (borneP bs cs).sum)) 0)
def spPlaceM (K : PySem.W.Frag) (C : Addr) : Sp := fun vs H Q _ => ∃ (old : Addr → Prop) (p b r : Addr) (bs : List Int) (rows : List R3) (cs : List Int) (n : Int), vs = [.ref p, .int n] ∧ HouseAt K C old H p b r bs rows cs ∧ 0 ≤ n ∧ ∀ H', Same H H' → Q (.int (placeP bs cs n)) H'
def spLabelM (K : PySem.W.Frag) (C : Addr) : Sp := fun vs H Q _ => ∃ (old : Addr → Prop) (p b r : Addr) (bs : List Int) (rows : List R3) (cs : List Int) (n : Int), vs = [.ref p, .int n] ∧ HouseAt K C old H p b r bs rows cs ∧ 0 ≤ n ∧
  ∀ (t : Addr) H', Same H H' → H t = none → H' t = some (.tup ((labelP bs (placeP bs cs n)).map V.int)) → Q (.ref t) H'
structure HouseTxt (K : PySem.W.Frag) (mg : Str → Option Value) (C : Addr) : Prop where
  cl : Cls K C
  nB : NoAttr K C "_bases"
  nR : NoAttr K C "_rows"
  nT : NoAttr K C "_text"
  nS : NoAttr K C "_skipped"
  nA : NoAttr K C "_frames_ahead"
  nD : NoAttr K C "_round"
  mgC : mg "House" = some (.ref C)
theorem pf_len {f : Str} {v : V} : ∀ {fs : List (Str × V)} {n : Nat}, fs.length ≤ n → (putF f v fs).length ≤ n + 1
  | [], _, _ => Nat.succ_le_succ (Nat.zero_le _)
  | (g, x) :: fs, n, h => by
    unfold putF
    split
    · exact Nat.le_succ_of_le h
    · have h2 : fs.length + 1 ≤ n := h
      obtain ⟨m, rfl⟩ : ∃ m, n = m + 1 := ⟨n - 1, by omega⟩
      exact Nat.succ_le_succ (pf_len (show fs.length ≤ m by omega))
theorem few0 : ([] : List (Str × V)).length < 1000 := by decide
theorem few1 {f1 : Str} {v1 : V} : (putF f1 v1 []).length < 1000 := Nat.lt_of_le_of_lt (pf_len (Nat.le_refl 0)) (by decide)
theorem few2 {f1 f2 : Str} {v1 v2 : V} : (putF f2 v2 (putF f1 v1 [])).length < 1000 := Nat.lt_of_le_of_lt (pf_len (pf_len (Nat.le_refl 0))) (by decide)
theorem few3 {f1 f2 f3 : Str} {v1 v2 v3 : V} : (putF f3 v3 (putF f2 v2 (putF f1 v1 []))).length < 1000 := Nat.lt_of_le_of_lt (pf_len (pf_len (pf_len (Nat.le_refl 0)))) (by decide)
theorem few4 {f1 f2 f3 f4 : Str} {v1 v2 v3 v4 : V} : (putF f4 v4 (putF f3 v3 (putF f2 v2 (putF f1 v1 [])))).length < 1000 := Nat.lt_of_le_of_lt (pf_len (pf_len (pf_len (pf_len (Nat.le_refl 0))))) (by decide)
theorem few5 {f1 f2 f3 f4 f5 : Str} {v1 v2 v3 v4 v5 : V} : (putF f5 v5 (putF f4 v4 (putF f3 v3 (putF f2 v2 (putF f1 v1 []))))).length < 1000 := Nat.lt_of_le_of_lt (pf_len (pf_len (pf_len (pf_len (pf_len (Nat.le_refl 0)))))) (by decide)
theorem every_dvd {rows : List R3} : ∀ (e : Nat), e ∣ rows.foldl everyStep e := by
  induction rows with
  | nil => exact fun e => Nat.dvd_refl e
  | cons x rows ih =>
    intro e
    rw [List.foldl_cons]
    refine Nat.dvd_trans ?_ (ih _)
    unfold everyStep
    split
    · exact Nat.dvd_lcm_left _ _
    · exact Nat.dvd_refl e
theorem mul_dvd : ∀ (l : List Int) (a : Nat), a ∣ l.foldl (fun a b => a * b.toNat) a
  | [], a => Nat.dvd_refl a
  | b :: l, a => Nat.dvd_trans (Nat.dvd_mul_right a b.toNat) (mul_dvd l _)
theorem mul_scale : ∀ (l : List Int) (a : Nat), l.foldl (fun a b => a * b.toNat) a = a * l.foldl (fun a b => a * b.toNat) 1
  | [], a => (Nat.mul_one a).symm
  | b :: l, a => by
    rw [List.foldl_cons, List.foldl_cons, mul_scale l (a * b.toNat), mul_scale l (1 * b.toNat), Nat.one_mul, Nat.mul_assoc]
theorem unitP_dvd (bs : List Int) (f : Nat) : unitP bs f ∣ unitP bs 0 := by
  unfold unitP
  rw [List.drop_zero]
  conv => rhs; rw [← List.take_append_drop f bs.dropLast, List.foldl_append, mul_scale]
  exact Nat.dvd_mul_left _ _
theorem spanP_dvd {bs : List Int} {rows : List R3} {x : R3} (bb : ∀ x ∈ bs, 2 ≤ x ∧ x ≤ 60) (ro : ∀ x ∈ rows, RowOk 60 bs x) (hx : x ∈ rows) : spanP bs x (groupsP bs rows) ∣ groupsP bs rows := by
  unfold spanP
  split
  · exact Nat.dvd_refl _
  · exact Nat.dvd_trans (unitP_dvd bs _) (Nat.dvd_mul_right _ _)
section
variable {P : Program} {w : World} {K : PySem.W.Frag} {mg : Str → Option Value} {base : Heap}
/-- a def with defaults that lets nothing out -/
theorem funD_ok {x qual : Str} {params : Arguments} {body : List Stmt} {scope : Scope} {dvs : List V} {kws : List (Str × V)} {f : Addr} {fd : FuncData} {NN ps : List Str} {k : Nat} {sp : Sp} (F : FunD K x qual params body scope dvs kws f fd) (S : FnScope NN ps scope) (hlen : ∀ vs H Q E, sp vs H Q E → vs.length = ps.length)
    (hbd : ∀ (cdv : Value) (A : Around) (outer : List Env) (s : Shared) (H : Hp) (vs : List V) (Q : VK) (E : XK), Room k (A.deeper (envOfC qual scope s.heap.objs.size f cdv)) → sp vs H Q E →
      ∃ t, PSs (Cx.nox (cxOf CX0 P w K mg base NN qual scope f cdv A outer s H E)) body t ∧ t { nx := fun _ H' => Q .non H', rt := Q } (start NN vs) H) : FnOk P w K mg base CX0 (k + 1) f fd ps sp := by
  refine F.ok S hlen fun cdv A outer s H vs Q E hr h => ?_
  obtain ⟨t, ht, q⟩ := hbd cdv A outer s H vs Q E hr h
  exact ⟨t, ht.nox, q⟩
theorem ok_init {f C : Addr} {fd : FuncData} {dv : List V} (F : FunD K "__init__" "House.__init__" (defArgs sHouse__init_) (defBody sHouse__init_) (defScope sHouse__init_) dv [] f fd) (T : HouseTxt K mg C) (N : Names mg) (M : Consts mg)
    (Dcheck_bases : DefK P w K mg base "check_bases" ["bases"] 3 (spChkBases K)) (Dcheck_rows : DefK P w K mg base "check_rows" ["bases", "rows"] 4 (spChkRows K)) (Dgroups_to_repeat : DefK P w K mg base "groups_to_repeat" ["bases", "rows"] 2 (spRepeat K))
    (Dskipped_counts : DefK P w K mg base "skipped_counts" ["bases", "rows", "groups"] 3 (spSkipped K)) (Dhouse_text : DefK P w K mg base "house_text" ["bases", "rows"] 2 (spHouseText K)) (Dleast_repeat : DefK P w K mg base "least_repeat" ["counts"] 1 (spLeast K))
    (Dsums_ahead : DefK P w K mg base "sums_ahead" ["numbers"] 1 (spSums K)) : FnOk P w K mg base CX0 5 f fd ["self", "bases", "rows"] (spInit K C) := by
  have sc := scHouse__init_
  refine funD_ok F sc (fun vs H Q E h => ?_) (fun cdv A outer s H vs Q E hr h => ?_)
  · obtain ⟨p, dx, b, r, bs, rows, rfl, _⟩ := h
    rfl
  · obtain ⟨p, dx, b, r, bs, rows, rfl, hp, hb, hR, fr, k⟩ := h
    obtain ⟨b0, b3, bb, r6, ro, gr⟩ := id fr
    refine ⟨_, (pss_cons (ps_expr (pe_d Dcheck_bases (hr.mono (by decide)) rfl (pa_cons (pv 1) pa_nil)))
      (pss_cons (ps_expr (pe_d Dcheck_rows (hr.mono (by decide)) rfl (pa_cons (pv 1) (pa_cons (pv 2) pa_nil))))
      (pss_cons (ps_set (i := 3) sc.nd rfl (Or.inl rfl) (pe_d Dgroups_to_repeat (hr.mono (by decide)) rfl (pa_cons (pv 1) (pa_cons (pv 2) pa_nil))))
      (pss_cons (ps_if (pt_cmpR op_gt (pv 3) (pe_const rfl M.MOST_GROUPS) (nomark _)) (pss_one ps_never) pss_nil)
      (pss_cons (ps_set (i := 4) sc.nd rfl (Or.inl rfl) (pe_d Dskipped_counts (hr.mono (by decide)) rfl (pa_cons (pv 1) (pa_cons (pv 2) (pa_cons (pv 3) pa_nil)))))
      (pss_cons (ps_fld (pv 0) (pv 1) rfl)
      (pss_cons (ps_fld (pv 0) (pv 2) rfl)
      (pss_cons (ps_fld (pv 0) (pe_d Dhouse_text (hr.mono (by decide)) rfl (pa_cons (pv 1) (pa_cons (pv 2) pa_nil))) rfl)
      (pss_cons (ps_fld (pv 0) (pe_slice sl_list (pv 4) po_none (po_some (pe_d Dleast_repeat (hr.mono (by decide)) rfl (pa_cons (pv 4) pa_nil)))) rfl)
      (pss_cons (ps_setLc (i := 5) (own := [("count", 6)]) rfl sc.nd rfl rfl (sw_true rfl rfl rfl (by decide +kernel)) (pi_list (pe_fld (pv 0) rfl)) (blkOk_by (own := [("count", 6)]) (N := ["self", "bases", "rows", "groups", "counts", "borne", "count"]) (sc := defScope (inClass (topS 53) 0)) (by decide +kernel)) (fun _ _ _ _ _ => (pg_name (i := 6) sc.nd rfl (Or.inl rfl))) (fun _ _ _ _ _ => pts_nil) (fun _ _ _ _ _ => (pe_op op_sub (pe_ix (show IxR _ (rIxT K) from ix_tup) (pv 1) (pe_un un_neg pe_int) (fun _ _ => rfl)) (pv 6))))
      (pss_cons (ps_fld (pv 0) (pe_d Dsums_ahead (hr.mono (by decide)) rfl (pa_cons (pv 5) pa_nil)) rfl)
      (pss_one (ps_fld (pv 0) (pe_tup (pa_cons (pe_callB call_len_seq (by rfl) N.len (by decide +kernel) (pa_cons (pv 5) pa_nil)) (pa_cons (pe_callB (cr_sum rfl) (by rfl) N.sum (by decide +kernel) (pa_cons (pv 5) pa_nil)) pa_nil))) rfl))))))))))))), ?_⟩
    have hlast := bb _ (lastD_mem b0)
    refine ⟨_, rfl, b, bs, rfl, hb, b0, b3, bb, fun H1 s1 => ?_⟩
    refine ⟨_, rfl, _, rfl, b, r, bs, rows, rfl, Same.seqT s1 hb, b0, hR.same s1, r6, ro, fun H2 s2 => ?_⟩
    have s02 := s1.trans s2
    have hev : everyL rows ≤ 7200 := Nat.le_trans (Nat.le_mul_of_pos_left _ (unitP_pos bb 0)) gr
    refine ⟨_, rfl, _, rfl, b, r, bs, rows, rfl, Same.seqT s02 hb, b0, b3, bb, hR.same s02, ro, by omega, fun H3 s3 => ?_⟩
    have s03 := s02.trans s3
    have gr' : ((unitP bs 0 * everyL rows : Nat) : Int) ≤ 7200 := by
      have : unitP bs 0 * everyL rows ≤ 7200 := gr
      omega
    have g1 : 1 ≤ groupsP bs rows := Nat.mul_pos (unitP_pos bb 0) (every_mono rows 1 (by decide) fun x hx => (ro x hx).2.2.1)
    refine ⟨_, rfl, _, _, rfl, rfl, _, rfl, ?_⟩
    refine ifD (fun hd => absurd hd (Int.not_lt.mpr gr')) (fun _ => ?_)
    refine ⟨_, rfl, _, rfl, _, rfl, b, r, bs, rows, groupsP bs rows, rfl, Same.seqT s03 hb, b0, b3, bb, hR.same s03, ro, g1, gr, fun x hx => spanP_dvd bb ro hx, fun l H4 s4 nl el => ?_⟩
    have s04 := s03.trans s4
    have hp4 := s04 _ _ hp
    have hb4 := Same.seqT s04 hb
    have hR4 := hR.same s04
    have npl : l ≠ p := fun z => by rw [z, s03 _ _ hp] at nl; cases nl
    refine ⟨_, rfl, _, rfl, p, C, dx, _, rfl, hp4, T.cl, T.nB, few0, ?_⟩
    (generalize e_f : upd H4 p _ = H5; have hp5 := (congrFun e_f p).symm.trans upd_same; have x5 : Else p H4 H5 := e_f ▸ els_upd; clear e_f)
    refine ⟨_, rfl, _, rfl, p, C, dx, _, rfl, hp5, T.cl, T.nR, few1, ?_⟩
    (generalize e_f : upd H5 p _ = H6; have hp6 := (congrFun e_f p).symm.trans upd_same; have x6 : Else p H5 H6 := e_f ▸ els_upd; clear e_f)
    have x46 := x5.trans x6
    have hb6 := els_seqT hp4 x46 hb4
    have hR6 := els_rows hp4 x46 hR4
    refine ⟨_, rfl, _, rfl, b, r, bs, rows, rfl, hb6, b3, (fun x hx => ⟨by have := bb x hx; omega, (bb x hx).2⟩), hR6, r6, ro, (fun x hx => by have := (ro x hx).2.2.2.2.2; omega), fun H7 s7 => ?_⟩
    have hp7 := s7 _ _ hp6
    refine ⟨_, rfl, p, C, dx, _, rfl, hp7, T.cl, T.nT, few2, ?_⟩
    (generalize e_f : upd H7 p _ = H8; have hp8 := (congrFun e_f p).symm.trans upd_same; have x8 : Else p H7 H8 := e_f ▸ els_upd; clear e_f)
    have x48 := (x46.trans (Same.els s7)).trans x8
    have el8 := x48 _ _ npl el
    have cl := countsP_len bs rows (groupsP bs rows)
    refine ⟨_, rfl, _, rfl, l, _, rfl, SqL.lst el8, by omega, by omega, fun kk H9 s9 rep => ?_⟩
    have hp9 := s9 _ _ hp8
    have x49 := x48.trans (Same.els s9)
    refine ⟨_, rfl, l, _, rfl, SqL.lst (s9 _ _ el8), ?_⟩
    (intro sk nsk; generalize e_sk : upd H9 sk _ = H10; have s10 : Same H9 H10 := fun b x hb => (congrFun e_sk b).symm.trans (same_new nsk b x hb); have h10 := (congrFun e_sk sk).symm.trans upd_same; clear e_sk)
    have h10' : H10 sk = some (.lst (((countsP bs rows (groupsP bs rows)).take kk).map V.int)) := by rw [h10, cut_to, List.map_take]
    generalize hcs : (countsP bs rows (groupsP bs rows)).take kk = cs at h10'
    have hp10 := s10 _ _ hp9
    have nks : sk ≠ p := fun z => by rw [z, hp9] at nsk; cases nsk
    refine ⟨_, rfl, p, C, dx, _, rfl, hp10, T.cl, T.nS, few3, ?_⟩
    (generalize e_f : upd H10 p _ = H11; have hp11 := (congrFun e_f p).symm.trans upd_same; have x11 : Else p H10 H11 := e_f ▸ els_upd; clear e_f)
    have x411 := (x49.trans (Same.els s10)).trans x11
    have h11 := x11 _ _ nks h10'
    have hb11 := els_seqT hp4 x411 hb4
    have hR11 := els_rows hp4 x411 hR4
    have hkk : kk ≤ groupsP bs rows := by have := rep.2.1; omega
    have hcl : cs.length = kk := by rw [← hcs, List.length_take, countsP_len]; omega
    refine ⟨_, rfl, p, C, dx, _, _, rfl, hp11, T.cl, T.nS, (by rw [lookup_putF, if_pos rfl]), sk, rfl, ⟨_, SqL.lst h11⟩, ?_⟩
    intro D nD
    refine lc_list (K := K) (xs := cs.map V.int) (fun i H' => Same H11 H' ∧ H' D = some (.lst ((borneP bs (cs.take i)).map V.int))) ⟨same_new nD, upd_same⟩ (fun i H' _ ⟨s, _⟩ => s.seq (SqL.lst h11)) ?_ ?_
    · rintro i x H' hx ⟨sm, eD⟩
      obtain ⟨c, hc, rfl⟩ : ∃ b, cs[i]? = some b ∧ x = V.int b := by
        rw [List.getElem?_map] at hx
        obtain ⟨z, hz, e⟩ := Option.map_eq_some_iff.mp hx
        exact ⟨z, hz, e.symm⟩
      refine ⟨rfl, ?_⟩
      have hcm := counts_in b0 bb ro c (by rw [← hcs] at hc; exact List.mem_of_mem_take (List.mem_of_getElem? hc))
      refine ⟨_, rfl, _, rfl, b, _, _, _, rfl, rfl, els_seqT hp11 (Same.els sm) hb11, getLastD_map bs b0, _, rfl, _, _, rfl, rfl, _, eD, smallLt (by unfold borneP; rw [List.length_map, List.length_map, List.length_take]; omega), same_mut sm nD, ?_⟩
      rw [upd_same]
      unfold borneP
      rw [List.take_add_one, hc, List.map_append, List.map_append]
      rfl
    · rintro H12 ⟨sm, eD⟩
      rw [List.take_of_length_le (by rw [List.length_map]; exact Nat.le_refl _)] at eD
      have hp12 := sm _ _ hp11
      have hbl : (borneP bs cs).length = cs.length := by unfold borneP; exact List.length_map ..
      refine ⟨_, rfl, D, borneP bs cs, rfl, SqL.lst eD, by omega, fun ah H13 s13 nah eah => ?_⟩
      have hp13 := s13 _ _ hp12
      have nap : ah ≠ p := fun z => by rw [z, hp12] at nah; cases nah
      have nDp : D ≠ p := fun z => by rw [z, hp11] at nD; cases nD
      refine ⟨_, rfl, p, C, dx, _, rfl, hp13, T.cl, T.nA, few4, ?_⟩
      (generalize e_f : upd H13 p _ = H14; have hp14 := (congrFun e_f p).symm.trans upd_same; have x14 : Else p H13 H14 := e_f ▸ els_upd; clear e_f)
      have eD14 := x14 _ _ nDp (s13 _ _ eD)
      refine ⟨_, rfl, D, _, rfl, .inl (SqL.lst eD14), _, rfl, D, _, rfl, SqL.lst eD14, small (Nat.le_of_ble_eq_true rfl), ?_⟩
      (intro rd nrd; generalize e_rd : upd H14 rd _ = H15; have s15 : Same H14 H15 := fun b x hb => (congrFun e_rd b).symm.trans (same_new nrd b x hb); have h15 := (congrFun e_rd rd).symm.trans upd_same; clear e_rd)
      have hp15 := s15 _ _ hp14
      have nrp : rd ≠ p := fun z => by rw [z, hp14] at nrd; cases nrd
      refine ⟨_, rfl, p, C, dx, _, rfl, hp15, T.cl, T.nD, few5, ?_⟩
      (generalize e_f : upd H15 p _ = H16; have hp16 := (congrFun e_f p).symm.trans upd_same; have x16 : Else p H15 H16 := e_f ▸ els_upd; clear e_f)
      have x1116 : Else p H11 H16 := (((Same.els (sm.trans s13)).trans x14).trans (Same.els s15)).trans x16
      have x412 : Else p H H12 := ((Same.els s04).trans x411).trans (Same.els sm)
      refine k cs H16 ⟨⟨dx, sk, ah, rd, hp16, x1116 _ _ nks h11, x16 _ _ nap (s15 _ _ (x14 _ _ nap eah)), ?_, fun z => z (els_free ((Same.els s04).trans x49) nks nsk), fun z => z (els_free x412 nap nah)⟩, els_seqT hp11 x1116 hb11, els_rows hp11 x1116 hR11, fr, kk, rep, hcs.symm⟩ ((Same.els s04).trans (x411.trans x1116))
      rw [x16 _ _ nrp h15, List.length_map, hbl]
theorem ok_placeborne {f C : Addr} {fd : FuncData} (F : Fun K "_place_borne" "House._place_borne" sHouse_place_borne f fd) (T : HouseTxt K mg C) (N : Names mg) (Dlast_not_above : DefK P w K mg base "last_not_above" ["ascending", "number"] 1 (spLna K)) : FnOk P w K mg base CX0 2 f fd ["self", "frame"] (spPlaceM K C) := by
  have sc := scHouse_place_borne
  refine F.ok sc (fun vs H Q E h => ?_) (fun cdv A outer s H vs Q E hr h => ?_)
  · obtain ⟨old, p, b, r, bs, rows, cs, n, rfl, _⟩ := h
    rfl
  · obtain ⟨old, p, b, r, bs, rows, cs, n, rfl, ⟨⟨dx, sk, ah, rd, e1, e2, e3, e4, _, _⟩, bt, rt, fr, kk, rep, hcs⟩, hn, k⟩ := h
    refine ⟨_, (pss_cons (ps_asg (pe_fld (pv 0) rfl) (pg_tup rfl (pgs_cons (pg_name (i := 2) sc.nd rfl (Or.inl rfl)) (pgs_cons (pg_name (i := 3) sc.nd rfl (Or.inl rfl)) pgs_nil))))
      (pss_cons (ps_asg (pe_callB call_divmod (by rfl) N.divmod (by decide +kernel) (pa_cons (pv 1) (pa_cons (pv 3) pa_nil))) (pg_tup rfl (pgs_cons (pg_name (i := 4) sc.nd rfl (Or.inl rfl)) (pgs_cons (pg_name (i := 5) sc.nd rfl (Or.inl rfl)) pgs_nil))))
      (pss_cons (ps_set (i := 6) sc.nd rfl (Or.inl rfl) (pe_d Dlast_not_above (hr.mono (by decide)) rfl (pa_cons (pe_fld (pv 0) rfl) (pa_cons (pv 5) pa_nil))))
      (pss_cons (ps_set (i := 7) sc.nd rfl (Or.inl rfl) (pe_op op_sub (pe_op op_add (pe_ix ix_list (pe_fld (pv 0) rfl) (pv 6) (fun _ _ => rfl)) (pv 5)) (pe_ix ix_list (pe_fld (pv 0) rfl) (pv 6) (fun _ _ => rfl))))
      (pss_one (ps_ret (pe_op op_add (pe_op op_mul (pe_op op_add (pe_op op_mul (pv 4) (pv 2)) (pv 6)) (pe_ix ix_tup (pe_fld (pv 0) rfl) (pe_un un_neg pe_int) (fun _ _ => rfl))) (pv 7)))))))), ?_⟩
    obtain ⟨c1, c2, c3, c4⟩ := cs_facts fr rep hcs
    have lv := lna_lt (sumsP (borneP bs cs)) (n % (borneP bs cs).sum) (by rw [sumsP_len, borneP_len]; omega)
    rw [sumsP_len, borneP_len] at lv
    refine ⟨_, rfl, p, C, dx, _, _, rfl, e1, T.cl, T.nD, hf_round _ _ _ _ _ _, rd, _, rfl, SqT.tup e4, rfl, _, _, rfl, _, _, rfl, rfl, ?_⟩
    refine ⟨_, rfl, _, rfl, _, _, rfl, ⟨by omega, by omega⟩, ?_⟩
    (intro q nq; generalize e_q : upd H q _ = H1; have s1 : Same H H1 := fun b x hb => (congrFun e_q b).symm.trans (same_new nq b x hb); have h1 := (congrFun e_q q).symm.trans upd_same; clear e_q)
    have e1' := s1 _ _ e1
    have e2' := s1 _ _ e2
    have e3' := s1 _ _ e3
    refine ⟨q, _, rfl, SqT.tup h1, rfl, _, _, rfl, _, _, rfl, rfl, ?_⟩
    refine ⟨_, rfl, p, C, dx, _, _, rfl, e1', T.cl, T.nA, hf_ahead _ _ _ _ _ _, _, rfl, ah, _, _, rfl, SqL.lst e3', (by rw [sumsP_len, borneP_len]; exact c1), (by rw [sumsP_len, borneP_len]; omega), ?_⟩
    refine ⟨_, rfl, p, C, dx, _, _, rfl, e1', T.cl, T.nS, hf_skipped _ _ _ _ _ _, _, rfl, sk, _, _, _, rfl, rfl, SqL.lst e2', atI_getD (by omega) (by omega), _, rfl, _, _, rfl, rfl, ?_⟩
    refine ⟨_, rfl, p, C, dx, _, _, rfl, e1', T.cl, T.nA, hf_ahead _ _ _ _ _ _, _, rfl, ah, _, _, _, rfl, rfl, SqL.lst e3', atI_getD (by omega) (by rw [sumsP_len, borneP_len]; omega), _, _, rfl, rfl, ?_⟩
    have hlast := fr.bb _ (lastD_mem fr.b0)
    refine ⟨_, rfl, _, rfl, _, _, rfl, rfl, .inr ⟨by omega, by omega⟩, _, rfl, _, _, rfl, rfl, ?_⟩
    refine ⟨_, rfl, p, C, dx, _, _, rfl, e1', T.cl, T.nB, hf_bases _ _ _ _ _ _, _, rfl, b, _, _, _, rfl, rfl, Same.seqT s1 bt, getLastD_map bs fr.b0, _, _, rfl, rfl, .inr ⟨by omega, by omega⟩, _, rfl, _, _, rfl, rfl, ?_⟩
    exact k _ s1
theorem ok_placeM {f C fP : Addr} {fd fdP : FuncData} (F : Fun K "place" "House.place" sHouse_place f fd) (T : HouseTxt K mg C) (Dcheck_number : DefK P w K mg base "check_number" ["given"] 3 spChkNum)
    (mP : Meth K C "_place_borne" fP) (GP : FnOk P w K mg base CX0 2 fP fdP ["self", "frame"] (spPlaceM K C)) (bP : Binds K fdP ["self", "frame"] []) : FnOk P w K mg base CX0 4 f fd ["self", "frame"] (spPlaceM K C) := by
  have sc := scHouse_place
  refine F.ok sc (fun vs H Q E h => ?_) (fun cdv A outer s H vs Q E hr h => ?_)
  · obtain ⟨old, p, b, r, bs, rows, cs, n, rfl, _⟩ := h
    rfl
  · obtain ⟨old, p, b, r, bs, rows, cs, n, rfl, hH, hn, k⟩ := h
    refine ⟨_, (pss_cons (ps_expr (pe_d Dcheck_number (hr.mono (by decide)) rfl (pa_cons (pv 1) pa_nil)))
      (pss_one (ps_ret (pe_meth (pv 0) T.cl mP GP (hr.mono (by decide)) bP .nil pass0 (pa_cons (pv 1) pa_nil))))), ?_⟩
    obtain ⟨dx, sk, ah, rd, e1, e2, e3, e4, _, _⟩ := hH.ob
    refine ⟨_, rfl, n, rfl, hn, ?_⟩
    exact ⟨_, rfl, p, dx, _, rfl, e1, hf_place _ _ _ _ _ _, _, rfl, old, p, b, r, bs, rows, cs, n, rfl, hH, hn, k⟩
theorem ok_labelM {f C fP : Addr} {fd fdP : FuncData} (F : Fun K "label" "House.label" sHouse_label f fd) (T : HouseTxt K mg C) (Dcheck_number : DefK P w K mg base "check_number" ["given"] 3 spChkNum) (Dlabel_at : DefK P w K mg base "label_at" ["bases", "place"] 1 (spLabelAt K))
    (mP : Meth K C "_place_borne" fP) (GP : FnOk P w K mg base CX0 2 fP fdP ["self", "frame"] (spPlaceM K C)) (bP : Binds K fdP ["self", "frame"] []) : FnOk P w K mg base CX0 4 f fd ["self", "frame"] (spLabelM K C) := by
  have sc := scHouse_label
  refine F.ok sc (fun vs H Q E h => ?_) (fun cdv A outer s H vs Q E hr h => ?_)
  · obtain ⟨old, p, b, r, bs, rows, cs, n, rfl, _⟩ := h
    rfl
  · obtain ⟨old, p, b, r, bs, rows, cs, n, rfl, hH, hn, k⟩ := h
    refine ⟨_, (pss_cons (ps_expr (pe_d Dcheck_number (hr.mono (by decide)) rfl (pa_cons (pv 1) pa_nil)))
      (pss_one (ps_ret (pe_d Dlabel_at (hr.mono (by decide)) rfl (pa_cons (pe_fld (pv 0) rfl) (pa_cons (pe_meth (pv 0) T.cl mP GP (hr.mono (by decide)) bP .nil pass0 (pa_cons (pv 1) pa_nil)) pa_nil)))))), ?_⟩
    obtain ⟨dx, sk, ah, rd, e1, e2, e3, e4, _, _⟩ := hH.ob
    refine ⟨_, rfl, n, rfl, hn, ?_⟩
    refine ⟨_, rfl, p, C, dx, _, _, rfl, e1, T.cl, T.nB, hf_bases _ _ _ _ _ _, ?_⟩
    refine ⟨_, rfl, p, dx, _, rfl, e1, hf_place _ _ _ _ _ _, _, rfl, old, p, b, r, bs, rows, cs, n, rfl, hH, hn, fun H1 s1 => ?_⟩
    refine ⟨b, bs, _, rfl, Same.seqT s1 hH.bt, hH.fair.b3, hH.fair.bb, fun t H2 s2 nt et => ?_⟩
    exact k t H2 (s1.trans s2) (s1.free nt) et
end
end LM

set_option Elab.async false
set_option linter.all false
set_option maxRecDepth 100000
set_option maxHeartbeats 4000000
set_option pp.maxSteps 600
set_option pp.deepTerms false
namespace LM
open PySem PySem.Spec PyProof.Rows L2
local macro_rules | `(tactic| walk_at "hp") => `(tactic| first | assumption | exact upd_same | (rw [upd_ne (by assumption)]; assumption) | (rw [upd_ne (Ne.symm (by assumption))]; assumption) | (rw [upd_ne (by assumption)]; exact upd_same) | (rw [upd_ne (Ne.symm (by assumption))]; exact upd_same))
local macro_rules | `(tactic| walk_at "sq") => `(tactic| first | assumption | exact Or.inl (Or.inl (by assumption)) | exact Or.inl (Or.inl upd_same) | exact Or.inl (Or.inl (by walk_at "hp")))
local macro_rules | `(tactic| walk_at "ixl") => `(tactic| refine ⟨_, _, _, _, rfl, rfl, (by walk_at "sq"), (by rfl), ?_⟩)
local macro_rules | `(tactic| walk_at "setl") => `(tactic| refine ⟨_, _, _, _, rfl, rfl, (by walk_at "hp"), (by rfl), ?_⟩)
local macro_rules | `(tactic| walk_at "side") => `(tactic| refine idP ?_; first | omega | (show (0 : Int) < _; omega) | (show (0 : Int) < _ ∧ _ < _; omega) | (refine Or.inr ?_; show (-(2 ^ 64) : Int) < _ ∧ _ < _; omega) | (refine Or.inl ?_; show (-(2 ^ 64) : Int) < _ ∧ _ < _; omega) | exact divW (by omega) (by omega) _ | (refine ⟨by decide, by decide, ?_⟩; decide))
local macro_rules | `(tactic| walk_at "go1") => `(tactic| first
  | refine ⟨_, rfl, ?_⟩
  | refine ⟨_, _, rfl, rfl, (by walk_at "side"), ?_⟩
  | refine ⟨_, _, rfl, (by walk_at "side"), ?_⟩
  | refine ⟨_, _, rfl, rfl, ?_⟩
  | refine Or.inl ⟨_, rfl, ?_⟩
  | refine ⟨_, _, rfl, Or.inl (by walk_at "sq"), ?_⟩
  | walk_at "ixl"
  | walk_at "setl"
  | refine ⟨_, _, rfl, (by walk_at "sq"), rfl, ?_⟩
  | refine ⟨_, _, rfl, (by walk_at "sq"), ?_⟩
  | refine ⟨_, _, rfl, ?_⟩
  | refine ⟨rfl, ?_⟩
  | refine ⟨small (Nat.le_of_ble_eq_true rfl), ?_⟩)
local macro_rules | `(tactic| walk_at "go") => `(tactic| repeat walk_at "go1")

abbrev s_law_built : Stmt := topS 72
theorem sc_law_built : FnScope ["_law_home", "_law_lane"] ["_law_home"] (defScope s_law_built) := ⟨rfl, rfl, rfl, by decide +kernel, rfl, by decide +kernel, by decide +kernel⟩
theorem DGet.some {H : Hp} {d : Addr} {kvs : List (Key × V)} {s : Str} {v : V} (h : H d = Option.some (.dK kvs)) (e : valV kvs (Sum.inr s : Key) = Option.some v) : DGet H d (.str s) (Option.some v) := by
  have := DGet.k (k := Sum.inr s) h
  rw [e] at this
  exact this
/-- tuple of a list or a tuple -/
def rTupOf (K : PySem.W.Frag) : List V → Hp → VK → Prop := fun xs H Q => ∃ p ys, xs = [.ref p] ∧ ((SqL K H p ys ∧ ∀ l, H l = none → Q (.ref l) (upd H l (.tup ys))) ∨ (SqT K H p ys ∧ Q (.ref p) H))
/-- the law's own house at d, as far as it is asked for its bases and rows -/
def HomeD (H : Hp) (d g l : Addr) : Prop := ∃ n s b : V, H d = some (.dK [(Sum.inr "ground", .ref g), (Sum.inr "lanes", .ref l), (Sum.inr "groups", n), (Sum.inr "spots", s), (Sum.inr "below", b)])
theorem HomeAt.els {old : Addr → Prop} {H H' : Hp} {d g l q : Addr} {gs : List Int} {rows : List R3} (h : HomeAt old H d g l gs rows) (n : d ≠ q) (hq : old q) (e : Else q H H') : HomeAt old H' d g l gs rows := by
  obtain ⟨s, b, cs, m, e1, e2, e3, e4, e5, e6, e7⟩ := h
  exact ⟨s, b, cs, m, e _ _ n e1, e2, e3, e _ _ (fun z => e6 (z ▸ hq)) e4, e _ _ (fun z => e7 (z ▸ hq)) e5, e6, e7⟩
theorem HomeAt.same {old : Addr → Prop} {H H' : Hp} {d g l : Addr} {gs : List Int} {rows : List R3} (h : HomeAt old H d g l gs rows) (s : Same H H') : HomeAt old H' d g l gs rows := by
  obtain ⟨x, b, cs, m, e1, e2, e3, e4, e5, e6, e7⟩ := h
  exact ⟨x, b, cs, m, s _ _ e1, e2, e3, s _ _ e4, s _ _ e5, e6, e7⟩
theorem HomeAt.dict {old : Addr → Prop} {H : Hp} {d g l : Addr} {gs : List Int} {rows : List R3} (h : HomeAt old H d g l gs rows) : HomeD H d g l := by
  obtain ⟨s, b, cs, n, e, _⟩ := h
  exact ⟨_, _, _, e⟩
theorem HomeD.els {H H' : Hp} {p d g l : Addr} (h : HomeD H d g l) (n : d ≠ p) (e : Else p H H') : HomeD H' d g l := by
  obtain ⟨x, s, b, ed⟩ := h
  exact ⟨x, s, b, e _ _ n ed⟩
theorem HouseAt.weak {K : PySem.W.Frag} {C : Addr} {o1 o2 : Addr → Prop} {H : Hp} {p b r : Addr} {bs : List Int} {rows : List R3} {cs : List Int} (h : HouseAt K C o1 H p b r bs rows cs) (i : ∀ q, o2 q → o1 q) : HouseAt K C o2 H p b r bs rows cs := by
  obtain ⟨⟨dx, sk, ah, rd, e1, e2, e3, e4, e5, e6⟩, h2, h3, h4, h5⟩ := h
  exact ⟨⟨dx, sk, ah, rd, e1, e2, e3, e4, fun z => e5 (i _ z), fun z => e6 (i _ z)⟩, h2, h3, h4, h5⟩
/-- a list at q that is no part of the house changes: the house stays -/
theorem HouseAt.els {K : PySem.W.Frag} {C : Addr} {old : Addr → Prop} {H H' : Hp} {q p b r : Addr} {bs : List Int} {rows : List R3} {cs : List Int} {ys : List V} (h : HouseAt K C old H p b r bs rows cs) (hq : H q = some (.lst ys)) (ho : old q) (e : Else q H H') : HouseAt K C old H' p b r bs rows cs := by
  obtain ⟨⟨dx, sk, ah, rd, e1, e2, e3, e4, e5, e6⟩, h2, ⟨as, h3, h3'⟩, h4, h5⟩ := h
  have tup : ∀ {a : Addr} {xs : List V}, SqT K H a xs → SqT K H' a xs := by
    intro a xs z
    rcases z with (z | ⟨o, z⟩) | z
    · exact .inl (.inl (e _ _ (fun y => by rw [y, hq] at z; cases z) z))
    · exact .inl (.inr ⟨o, e _ _ (fun y => by rw [y, hq] at z; cases z) z⟩)
    · exact .inr z
  refine ⟨⟨dx, sk, ah, rd, e _ _ (fun y => by rw [y, hq] at e1; cases e1) e1, e _ _ (fun y => e5 (y ▸ ho)) e2, e _ _ (fun y => e6 (y ▸ ho)) e3, e _ _ (fun y => by rw [y, hq] at e4; cases e4) e4, e5, e6⟩, tup h2, ⟨as, tup h3, paired_imp h3' fun a _ x z => tup z⟩, h4, h5⟩
def spBuilt (K : PySem.W.Frag) (C : Addr) : Sp := fun vs H Q _ => ∃ (d g l : Addr) (gs : List Int) (rows : List R3), vs = [.ref d] ∧ HomeD H d g l ∧ SqL K H g (gs.map V.int) ∧ LanesIn K H l rows ∧ Fair gs rows ∧
  ∀ (p b r : Addr) (cs : List Int) H', Same H H' → H p = none → HouseAt K C (fun q => H q ≠ none) H' p b r gs rows cs → Q (.ref p) H'
section
variable {P : Program} {w : World} {K : PySem.W.Frag} {mg : Str → Option Value} {base : Heap}
theorem ok_built {f C fI : Addr} {fd fdI : FuncData} (F : Fun K "_law_built" "_law_built" s_law_built f fd) (T : HouseTxt K mg C) (N : Names mg) (MK : Mk K C fI) (GI : FnOk P w K mg base CX0 5 fI fdI ["self", "bases", "rows"] (spInit K C)) (bI : Binds K fdI ["self", "bases", "rows"] []) :
    FnOk P w K mg base CX0 7 f fd ["_law_home"] (spBuilt K C) := by
  have sc := sc_law_built
  refine F.ok sc (fun vs H Q E h => ?_) (fun cdv A outer s H vs Q E hr h => ?_)
  · obtain ⟨d, g, l, gs, rows, rfl, _⟩ := h
    rfl
  · obtain ⟨d, g, l, gs, rows, rfl, hd, hg, hl, fr, k⟩ := h
    have hu := hu_of hr
    obtain ⟨n0, sa, ba, ed⟩ := id hd
    refine ⟨_, (pss_one (ps_ret (pe_make MK GI hr rfl T.mgC bI .nil pass0 (pa_cons (pe_callTy (T := "tuple") (show CallR _ _ (rTupOf K) from call_tuple_of) (by rfl) N.tuple (by decide +kernel) (pa_cons (pe_dget hu (pv 0) pe_str (fun _ _ => rfl)) pa_nil)) (pa_cons (pe_callTy (T := "tuple") (show CallR _ _ (rTupOf K) from call_tuple_of) (by rfl) N.tuple (by decide +kernel) (pa_cons (pe_lc (own := [("_law_lane", 1)]) rfl sc.nd (pi_list (pe_dget hu (pv 0) pe_str (fun _ _ => rfl))) (blkOk_by (own := [("_law_lane", 1)]) (N := ["_law_home", "_law_lane"]) (sc := defScope (topS 72)) (by decide +kernel)) (fun _ _ _ _ _ => (pg_name (i := 1) sc.nd rfl (Or.inl rfl))) (fun _ _ _ _ _ => pts_nil) (fun _ _ _ _ _ => (pe_callTy (T := "tuple") (show CallR _ _ (rTupOf K) from call_tuple_of) (by rfl) N.tuple (by decide +kernel) (pa_cons (pv 1) pa_nil)))) pa_nil)) pa_nil))))), ?_⟩
    refine ⟨_, rfl, d, _, rfl, DGet.some (s := "ground") ed rfl, g, _, rfl, .inl ⟨hg, ?_⟩⟩
    (intro b nb; generalize e_b : upd H b _ = H1; have s1 : Same H H1 := fun b x hb => (congrFun e_b b).symm.trans (same_new nb b x hb); have h1 := (congrFun e_b b).symm.trans upd_same; clear e_b)
    have ed1 := s1 _ _ ed
    obtain ⟨as, hl1, pr⟩ := hl.same s1
    have hpl := pr.length
    refine ⟨_, rfl, d, _, rfl, DGet.some (s := "lanes") ed1 rfl, l, rfl, ⟨_, hl1⟩, ?_⟩
    intro D nD
    refine lc_list (K := K) (xs := as.map V.ref) (fun i H' => ∃ ts : List Addr, Same H1 H' ∧ H' D = some (.lst (ts.map V.ref)) ∧ Paired (fun a (x : R3) => H' a = some (.tup [.int x.1, .int x.2.1, .int x.2.2])) ts (rows.take i)) ⟨[], same_new nD, upd_same, .nil⟩ (fun i H' _ ⟨_, s, _⟩ => s.seq hl1) ?_ ?_
    · rintro i x H' hx ⟨ts, sm, eD, pt⟩
      obtain ⟨a, ha, rfl⟩ : ∃ b, as[i]? = some b ∧ x = V.ref b := by
        rw [List.getElem?_map] at hx
        obtain ⟨z, hz, e⟩ := Option.map_eq_some_iff.mp hx
        exact ⟨z, hz, e.symm⟩
      obtain ⟨rw_, hr', hra⟩ := paired_at pr ha
      refine ⟨rfl, ?_⟩
      refine ⟨_, rfl, a, _, rfl, .inl ⟨SqL.lst (sm _ _ hra), ?_⟩⟩
      (intro t nt; generalize e_t : upd H' t _ = H2; have s2 : Same H' H2 := fun b x hb => (congrFun e_t b).symm.trans (same_new nt b x hb); have h2 := (congrFun e_t t).symm.trans upd_same; clear e_t)
      have eD2 := s2 _ _ eD
      have hpt := pt.length
      refine ⟨_, eD2, smallLt (by have := fr.r6; rw [List.length_map, hpt, List.length_take]; omega), ts ++ [t], same_mut (sm.trans s2) nD, ?_, ?_⟩
      · rw [upd_same, List.map_append]
        rfl
      · rw [List.take_add_one, hr']
        have ntD : t ≠ D := fun z => by rw [z, eD] at nt; cases nt
        refine paired_app (paired_imp pt fun c hc y hy => ?_) ?_
        · have hy2 := s2 _ _ hy
          rw [upd_ne (fun z => by rw [z, eD2] at hy2; cases hy2)]
          exact hy2
        · rw [upd_ne ntD]
          exact h2
    rintro H2 ⟨ts, s2, eD, pt⟩
    rw [List.take_of_length_le (by rw [List.length_map, hpl]; exact Nat.le_refl _)] at pt
    refine ⟨D, _, rfl, .inl ⟨SqL.lst eD, ?_⟩⟩
    (intro r nr; generalize e_r : upd H2 r _ = H3; have s3 : Same H2 H3 := fun b x hb => (congrFun e_r b).symm.trans (same_new nr b x hb); have h3 := (congrFun e_r r).symm.trans upd_same; clear e_r)
    intro p dx np ndx ndp
    generalize e4 : upd (upd H3 dx (.own p)) p _ = H4
    have s4 : Same H3 H4 := fun c o h => (congrFun e4 c).symm.trans (by rw [upd_ne (ne_of_none h np), upd_ne (ne_of_none h ndx)]; exact h)
    have hp4 : H4 p = some (.ins C dx []) := (congrFun e4 p).symm.trans upd_same
    have s13 := s2.trans s3
    refine ⟨p, dx, b, r, gs, rows, rfl, hp4, SqT.tup (s4 _ _ (s13 _ _ h1)), ⟨ts, SqT.tup (s4 _ _ h3), paired_imp pt fun a _ x q => SqT.tup (s4 _ _ (s3 _ _ q))⟩, fr, fun cs H5 hh e5 => ⟨rfl, k p b r cs H5 ?_ ((s1.trans s13).free np) (hh.weak fun q hq z => ?_)⟩⟩
    rotate_left
    · cases e : H q with
      | none => exact hq e
      | some o =>
        have := s4 _ _ ((s1.trans s13) _ _ e)
        rw [z] at this
        cases this
    exact fun c o h => e5 _ _ (ne_of_none ((s1.trans s13) _ _ h) np) (s4 _ _ ((s1.trans s13) _ _ h))
end
end LM

set_option Elab.async false
set_option linter.all false
set_option maxRecDepth 100000
set_option maxHeartbeats 4000000
namespace LM
open PySem PySem.Spec PyProof.Rows L2
/-! ### arithmetic of groups -/
theorem mod_two {x u e : Nat} (hu : 0 < u) : x % (u * e) = 0 ↔ x / u % e = 0 ∧ x % u = 0 := by
  rw [Nat.mod_mul]
  constructor
  · intro h
    have h1 : x % u = 0 := by omega
    have h2 : u * (x / u % e) = 0 := by omega
    exact ⟨(Nat.mul_eq_zero.mp h2).resolve_left (by omega), h1⟩
  · rintro ⟨h1, h2⟩
    rw [h1, h2, Nat.mul_zero]
theorem castmod (g e : Nat) : ((g : Int) % (e : Int) = 0) ↔ g % e = 0 := by
  rw [← Int.natCast_emod]
  omega
def fitN (gs : List Int) (r : R3) (g : Nat) : Prop := (if r.1 = 0 then g else g % unitP gs (r.1.toNat - 1)) % (unitP gs r.1.toNat * r.2.1.toNat) = 0
theorem fitL_iff (ds : List Int) (r : R3) : fitL ds r = true ↔ (ds.getD r.1.toNat 0 % r.2.1 = 0 ∧ ∀ k ∈ ds.drop (r.1.toNat + 1), k = 0) := by
  unfold fitL
  rw [Bool.and_eq_true, decide_eq_true_iff, Bool.not_eq_true', List.any_eq_false]
  constructor
  · rintro ⟨h1, h2⟩
    refine ⟨h1, fun k hk => ?_⟩
    have := h2 k hk
    simpa using this
  · rintro ⟨h1, h2⟩
    refine ⟨h1, fun k hk => ?_⟩
    simp [h2 k hk]
theorem fit_law {gs : List Int} {r : R3} (g0 : 1 ≤ gs.length) (g3 : gs.length ≤ 3) (gb : ∀ x ∈ gs, 2 ≤ x ∧ x ≤ 60) (ro : RowOk 60 gs r) (g : Nat) : fitL (digs gs (g : Int)) r = true ↔ fitN gs r g := by
  obtain ⟨f, e, c⟩ := r
  obtain ⟨o1, o2, o3, o4, _, _⟩ := ro
  dsimp only at o1 o2 o3 o4
  obtain ⟨E, rfl⟩ : ∃ E : Nat, e = (E : Int) := ⟨e.toNat, by omega⟩
  rw [fitL_iff]
  unfold fitN
  dsimp only
  rw [Int.toNat_natCast]
  match gs, g0, g3 with
  | [b], _, _ =>
    have hf : f = 0 := by simp at o2; omega
    subst hf
    show ((g : Int) % (E : Int) = 0 ∧ ∀ k ∈ [], k = 0) ↔ g % (1 * E) = 0
    rw [castmod, Nat.one_mul]
    exact ⟨fun h => h.1, fun h => ⟨h, fun _ z => nomatch z⟩⟩
  | [a, b], _, _ =>
    have ha := gb a (by simp)
    obtain ⟨A, rfl⟩ : ∃ A : Nat, a = (A : Int) := ⟨a.toNat, by omega⟩
    have hf : f = 0 ∨ f = 1 := by simp at o2; omega
    rcases hf with rfl | rfl
    · show ((g : Int) / (A : Int) % (E : Int) = 0 ∧ ∀ k ∈ [(g : Int) % (A : Int)], k = 0) ↔ g % (1 * A * E) = 0
      rw [Nat.one_mul, mod_two (by omega), ← Int.natCast_ediv, castmod, ← castmod g A]
      exact ⟨fun h => ⟨h.1, h.2 _ (List.mem_singleton.mpr rfl)⟩, fun h => ⟨h.1, fun k hk => by rw [List.mem_singleton.mp hk]; exact h.2⟩⟩
    · show ((g : Int) % (A : Int) % (E : Int) = 0 ∧ ∀ k ∈ [], k = 0) ↔ g % (1 * A) % (1 * E) = 0
      rw [Nat.one_mul, Nat.one_mul, ← Int.natCast_emod, castmod]
      exact ⟨fun h => h.1, fun h => ⟨h, fun _ z => nomatch z⟩⟩
  | [a, b, d], _, _ =>
    have ha := gb a (by simp)
    have hb := gb b (by simp)
    obtain ⟨A, rfl⟩ : ∃ A : Nat, a = (A : Int) := ⟨a.toNat, by omega⟩
    obtain ⟨B, rfl⟩ : ∃ B : Nat, b = (B : Int) := ⟨b.toNat, by omega⟩
    have hf : f = 0 ∨ f = 1 ∨ f = 2 := by simp at o2; omega
    have hAB : 0 < A * B := Nat.mul_pos (by omega) (by omega)
    rcases hf with rfl | rfl | rfl
    · show ((g : Int) / (B : Int) / (A : Int) % (E : Int) = 0 ∧ ∀ k ∈ [(g : Int) / (B : Int) % (A : Int), (g : Int) % (B : Int)], k = 0) ↔ g % (1 * A * B * E) = 0
      rw [Nat.one_mul, mod_two hAB, Nat.mul_comm A B, mod_two (show 0 < B by omega), ← Nat.div_div_eq_div_mul, ← Int.natCast_ediv, ← Int.natCast_ediv, castmod, ← castmod (g / B) A, ← castmod g B]
      constructor
      · rintro ⟨h1, h2⟩
        exact ⟨h1, h2 _ (by simp), h2 _ (by simp)⟩
      · rintro ⟨h1, h2, h3⟩
        refine ⟨h1, fun k hk => ?_⟩
        rcases List.mem_cons.mp hk with rfl | hk
        · exact h2
        · rw [List.mem_singleton.mp hk]
          exact h3
    · show ((g : Int) / (B : Int) % (A : Int) % (E : Int) = 0 ∧ ∀ k ∈ [(g : Int) % (B : Int)], k = 0) ↔ g % (1 * A * B) % (1 * B * E) = 0
      rw [Nat.one_mul, Nat.one_mul, mod_two (show 0 < B by omega), Nat.mul_comm A B, Nat.mod_mul_right_div_self, Nat.mod_mul_right_mod, ← Int.natCast_ediv, ← Int.natCast_emod, castmod, ← castmod g B]
      exact ⟨fun h => ⟨h.1, h.2 _ (List.mem_singleton.mpr rfl)⟩, fun h => ⟨h.1, fun k hk => by rw [List.mem_singleton.mp hk]; exact h.2⟩⟩
    · show ((g : Int) % (B : Int) % (E : Int) = 0 ∧ ∀ k ∈ [], k = 0) ↔ g % (1 * B) % (1 * E) = 0
      rw [Nat.one_mul, Nat.one_mul, ← Int.natCast_emod, castmod]
      exact ⟨fun h => h.1, fun h => ⟨h, fun _ z => nomatch z⟩⟩
theorem mem_seg {span step start g : Nat} (hs : 1 ≤ step) (hp : 1 ≤ span) : g ∈ segN span step start ↔ start ≤ g ∧ g < start + span ∧ (g - start) % step = 0 := by
  unfold segN
  rw [show ((start : Int) + (span : Int)) = ((start + span : Nat) : Int) by omega, rgN_nat, if_pos (by omega), List.mem_map]
  constructor
  · rintro ⟨j, hj, rfl⟩
    have hj := List.mem_range.mp hj
    have h1 : j ≤ (start + span - start - 1) / step := by omega
    have h2 : j * step ≤ start + span - start - 1 := (Nat.le_div_iff_mul_le (by omega)).mp h1
    refine ⟨by omega, by omega, ?_⟩
    rw [Nat.add_sub_cancel_left, Nat.mul_mod_left]
  · rintro ⟨h1, h2, h3⟩
    refine ⟨(g - start) / step, List.mem_range.mpr ?_, ?_⟩
    · have := Nat.div_le_div_right (c := step) (show g - start ≤ start + span - start - 1 by omega)
      omega
    · have := Nat.div_mul_cancel (Nat.dvd_of_mod_eq_zero h3)
      omega
theorem mem_fits {span step n g : Nat} (h1 : 1 ≤ n) (hd : span ∣ n) (hs : 1 ≤ step) (hg : g < n) : g ∈ fitsP span step n ↔ g % span % step = 0 := by
  have hp : 1 ≤ span := Nat.pos_of_dvd_of_pos hd (by omega)
  have hc := rg_count h1 hd
  have dm := Nat.div_add_mod g span
  have ml := Nat.mod_lt g (show 0 < span by omega)
  unfold fitsP
  rw [List.mem_flatten]
  constructor
  · rintro ⟨l, hl, hg2⟩
    obtain ⟨k, hk, rfl⟩ := List.mem_map.mp hl
    obtain ⟨q1, q2, q3⟩ := (mem_seg hs hp).mp hg2
    have e : g / span = k := by
      refine Nat.div_eq_of_lt_le q1 ?_
      rw [Nat.succ_mul]
      exact q2
    rw [show g % span = g - k * span by rw [← e, Nat.mul_comm]; omega]
    exact q3
  · intro h
    refine ⟨_, List.mem_map.mpr ⟨g / span, List.mem_range.mpr ?_, rfl⟩, (mem_seg hs hp).mpr ⟨?_, ?_, ?_⟩⟩
    · exact Nat.div_lt_of_lt_mul (by rw [Nat.mul_comm, hc]; exact hg)
    · rw [Nat.mul_comm]
      omega
    · rw [Nat.mul_comm]
      omega
    · rw [Nat.mul_comm, show g - span * (g / span) = g % span by omega]
      exact h
theorem fit_prog {bs : List Int} {r : R3} {n g : Nat} (bb : ∀ x ∈ bs, 2 ≤ x ∧ x ≤ 60) (ro : RowOk 60 bs r) (h1 : 1 ≤ n) (hd : spanP bs r n ∣ n) (hg : g < n) : fitG bs n r g ↔ fitN bs r g := by
  unfold fitG
  have hs : 1 ≤ stepP bs r := Nat.mul_pos (unitP_pos bb _) (by have := ro.2.2.1; omega)
  rw [mem_fits h1 hd hs hg]
  unfold fitN spanP stepP
  split
  · rw [Nat.mod_eq_of_lt hg]
  · exact Iff.rfl
theorem ite_iff {α : Type} {p q : Prop} {i1 : Decidable p} {i2 : Decidable q} (h : p ↔ q) (x y : α) : (if p then x else y) = if q then x else y := by
  by_cases hp : p
  · rw [if_pos hp, if_pos (h.mp hp)]
  · rw [if_neg hp, if_neg fun z => hp (h.mpr z)]
open Classical in
noncomputable def gnStep (gs : List Int) (g : Nat) (acc : Int) (r : R3) : Int := if fitN gs r g then r.2.2 else acc
/-- how many labels of a group are skipped -/
noncomputable def GN (gs : List Int) (rows : List R3) (g : Nat) : Int := rows.foldl (gnStep gs g) 0
theorem gapL_GN {gs : List Int} {rows : List R3} (g0 : 1 ≤ gs.length) (g3 : gs.length ≤ 3) (gb : ∀ x ∈ gs, 2 ≤ x ∧ x ≤ 60) (ro : ∀ r ∈ rows, RowOk 60 gs r) (g : Nat) : gapL gs rows (g : Int) = GN gs rows g := by
  unfold gapL GN
  suffices ∀ (l : List R3) (acc : Int), (∀ r ∈ l, RowOk 60 gs r) → l.foldl (gapStep (digs gs (g : Int))) acc = l.foldl (gnStep gs g) acc from this rows 0 ro
  intro l
  induction l with
  | nil => exact fun _ _ => rfl
  | cons r l ih =>
    intro acc h
    rw [List.foldl_cons, List.foldl_cons, ih _ fun x hx => h x (List.mem_cons_of_mem _ hx)]
    congr 1
    unfold gapStep gnStep
    exact ite_iff (fit_law g0 g3 gb (h r List.mem_cons_self) g) _ _
theorem cntP_GN {gs : List Int} {rows : List R3} {n g : Nat} (gb : ∀ x ∈ gs, 2 ≤ x ∧ x ≤ 60) (ro : ∀ r ∈ rows, RowOk 60 gs r) (h1 : 1 ≤ n) (hd : ∀ x ∈ rows, spanP gs x n ∣ n) (hg : g < n) : cntP gs rows n g = GN gs rows g := by
  unfold cntP GN
  suffices ∀ (l : List R3) (acc : Int), (∀ r ∈ l, RowOk 60 gs r) → (∀ x ∈ l, spanP gs x n ∣ n) → l.foldl (cntStep gs n g) acc = l.foldl (gnStep gs g) acc from this rows 0 ro hd
  intro l
  induction l with
  | nil => exact fun _ _ _ => rfl
  | cons r l ih =>
    intro acc h h2
    rw [List.foldl_cons, List.foldl_cons, ih _ (fun x hx => h x (List.mem_cons_of_mem _ hx)) fun x hx => h2 x (List.mem_cons_of_mem _ hx)]
    congr 1
    unfold cntStep gnStep
    exact ite_iff (fit_prog gb (h r List.mem_cons_self) h1 (h2 r List.mem_cons_self) hg) _ _
/-! ### rounds -/
def Per (G : Nat → Int) (p : Nat) : Prop := ∀ i, G (i + p) = G i
/-- p keeps the rows -/
def Keeps (gs : List Int) (rows : List R3) (p : Nat) : Prop := unitP gs 0 ∣ p ∧ ∀ r ∈ rows, r.1 = 0 → unitP gs 0 * r.2.1.toNat ∣ p
theorem fitN_per {gs : List Int} {r : R3} {p : Nat} (hu : unitP gs 0 ∣ p) (hr : r.1 = 0 → unitP gs 0 * r.2.1.toNat ∣ p) (g : Nat) : fitN gs r (g + p) ↔ fitN gs r g := by
  unfold fitN
  by_cases h : r.1 = 0
  · rw [if_pos h, if_pos h, h]
    obtain ⟨k, rfl⟩ := hr h
    show (g + unitP gs 0 * r.2.1.toNat * k) % (unitP gs 0 * r.2.1.toNat) = 0 ↔ g % (unitP gs 0 * r.2.1.toNat) = 0
    rw [Nat.add_mul_mod_self_left]
  · rw [if_neg h, if_neg h]
    obtain ⟨k, rfl⟩ := Nat.dvd_trans (unitP_dvd gs (r.1.toNat - 1)) hu
    rw [Nat.add_mul_mod_self_left]
theorem GN_per {gs : List Int} {rows : List R3} {p : Nat} (h : Keeps gs rows p) : Per (GN gs rows) p := by
  intro g
  unfold GN
  suffices ∀ (l : List R3) (acc : Int), (∀ r ∈ l, r.1 = 0 → unitP gs 0 * r.2.1.toNat ∣ p) → l.foldl (gnStep gs (g + p)) acc = l.foldl (gnStep gs g) acc from this rows 0 h.2
  intro l
  induction l with
  | nil => exact fun _ _ => rfl
  | cons r l ih =>
    intro acc hl
    rw [List.foldl_cons, List.foldl_cons, ih _ fun x hx => hl x (List.mem_cons_of_mem _ hx)]
    congr 1
    unfold gnStep
    exact ite_iff (fitN_per h.1 (hl r List.mem_cons_self) g) _ _
theorem every_in : ∀ (rows : List R3) (e : Nat), ∀ r ∈ rows, r.1 = 0 → r.2.1.toNat ∣ rows.foldl everyStep e
  | x :: rows, e, r, hr, h0 => by
    rw [List.foldl_cons]
    rcases List.mem_cons.mp hr with rfl | hr
    · refine Nat.dvd_trans ?_ (every_dvd _)
      unfold everyStep
      rw [if_pos h0]
      exact Nat.dvd_lcm_right _ _
    · exact every_in rows _ r hr h0
theorem keeps_groups (gs : List Int) (rows : List R3) : Keeps gs rows (groupsP gs rows) :=
  ⟨Nat.dvd_mul_right _ _, fun r hr h0 => Nat.mul_dvd_mul_left _ (every_in rows 1 r hr h0)⟩
theorem unitP_unitL (gs : List Int) : unitP gs 0 = unitL gs := rfl
theorem per_add {G : Nat → Int} {p q : Nat} (h : Per G p) (h2 : Per G q) : Per G (p + q) := fun i => by
  rw [← Nat.add_assoc, h2, h]
theorem per_mul {G : Nat → Int} {p : Nat} (h : Per G p) : ∀ k i, G (i + p * k) = G i
  | 0, i => rfl
  | k + 1, i => by
    rw [Nat.mul_succ, ← Nat.add_assoc, h, per_mul h k]
theorem per_mod {G : Nat → Int} {p q : Nat} (h : Per G p) (h2 : Per G q) : Per G (q % p) := fun i => by
  rw [← per_mul h (q / p) (i + q % p), show i + q % p + p * (q / p) = i + q by have := Nat.mod_add_div q p; omega, h2]
/-- the least number from 1 on behind which all comes again -/
def LeastPer (G : Nat → Int) (m : Nat) : Prop := 1 ≤ m ∧ Per G m ∧ ∀ j, 1 ≤ j → j < m → ¬ Per G j
theorem LeastPer.dvd {G : Nat → Int} {m q : Nat} (h : LeastPer G m) (hq : Per G q) : m ∣ q := by
  have hm := per_mod h.2.1 hq
  refine Nat.dvd_of_mod_eq_zero ?_
  rcases Nat.eq_zero_or_pos (q % m) with z | z
  · exact z
  · exact absurd hm (h.2.2 _ z (Nat.mod_lt _ h.1))
theorem LeastPer.uniq {G : Nat → Int} {m k : Nat} (h : LeastPer G m) (h2 : LeastPer G k) : m = k := by
  rcases Nat.lt_trichotomy m k with z | z | z
  · exact absurd h.2.1 (h2.2.2 m h.1 z)
  · exact z
  · exact absurd h2.2.1 (h.2.2 k h2.1 z)
theorem range_get {G : Nat → Int} {n i : Nat} (h : i < n) : ((List.range n).map G)[i]? = some (G i) := by
  rw [List.getElem?_map, List.getElem?_range h]
  rfl
theorem repOk_iff {G : Nat → Int} {n k : Nat} (hk : 1 ≤ k) (hkn : k ≤ n) (hn : Per G n) : repOk ((List.range n).map G) k ↔ (k ∣ n ∧ Per G k) := by
  unfold repOk
  rw [List.length_map, List.length_range]
  constructor
  · rintro ⟨h1, h2⟩
    have hd := Nat.dvd_of_mod_eq_zero h1
    refine ⟨hd, ?_⟩
    have step : ∀ i, i + k < n → G (i + k) = G i := by
      intro i hi
      have e := congrArg (fun l => l[i]?) h2
      rw [List.getElem?_drop, List.getElem?_take_of_lt (by omega), range_get (by omega), range_get (by omega), Nat.add_comm k i] at e
      exact Option.some.inj e
    have low : ∀ i, i < n → G i = G (i % k) := by
      intro i
      induction i using Nat.strongRecOn with
      | _ i ih =>
        intro hi
        by_cases h : i < k
        · rw [Nat.mod_eq_of_lt h]
        · have := step (i - k) (by omega)
          rw [show i - k + k = i by omega] at this
          rw [this, ih (i - k) (by omega) (by omega), ← Nat.mod_eq_sub_mod (by omega)]
    have all : ∀ i, G i = G (i % k) := by
      intro i
      have e := per_mul hn (i / n) (i % n)
      rw [Nat.mod_add_div] at e
      rw [e, low _ (Nat.mod_lt _ (by omega)), Nat.mod_mod_of_dvd _ hd]
    intro i
    rw [all (i + k), Nat.add_mod_right, ← all i]
  · rintro ⟨hd, hp⟩
    refine ⟨Nat.mod_eq_zero_of_dvd hd, List.ext_getElem? fun i => ?_⟩
    rw [List.getElem?_drop]
    by_cases h : i < n - k
    · rw [List.getElem?_take_of_lt h, range_get (by omega), range_get (by omega), Nat.add_comm k i, hp]
    · rw [List.getElem?_eq_none (by rw [List.length_map, List.length_range]; omega), List.getElem?_eq_none (by rw [List.length_take, List.length_map, List.length_range]; omega)]
theorem rep_least {G : Nat → Int} {n k : Nat} (hn : Per G n) (h : RepIs ((List.range n).map G) k) : LeastPer G k := by
  obtain ⟨h1, h2, h3, h4⟩ := h
  rw [List.length_map, List.length_range] at h2
  obtain ⟨q1, q2⟩ := (repOk_iff h1 h2 hn).mp h3
  -- the least period divides n
  have ex : ∃ m, LeastPer G m := by
    have : ∀ b, (∃ m, 1 ≤ m ∧ m ≤ b ∧ Per G m) → ∃ m, LeastPer G m := by
      intro b
      induction b with
      | zero => exact fun ⟨m, a, c, _⟩ => by omega
      | succ b ih =>
        rintro ⟨m, a, c, d⟩
        by_cases hx : ∃ m, 1 ≤ m ∧ m ≤ b ∧ Per G m
        · exact ih hx
        · exact ⟨m, a, d, fun j j1 j2 j3 => hx ⟨j, j1, by omega, j3⟩⟩
    exact this k ⟨k, h1, Nat.le_refl k, q2⟩
  obtain ⟨m, hm⟩ := ex
  have hmn : m ∣ n := hm.dvd hn
  have hmle : m ≤ n := Nat.le_of_dvd (by omega) hmn
  have hmk : m ≤ k := Nat.le_of_dvd (by omega) (hm.dvd q2)
  rcases Nat.lt_or_eq_of_le hmk with z | z
  · exact absurd ((repOk_iff hm.1 hmle hn).mpr ⟨hmn, hm.2.1⟩) (h4 m hm.1 z)
  · rw [← z]
    exact hm
theorem counts_GN {gs : List Int} {rows : List R3} (fr : Fair gs rows) : countsP gs rows (groupsP gs rows) = (List.range (groupsP gs rows)).map (GN gs rows) := by
  refine List.map_congr_left fun g hg => ?_
  have g1 : 1 ≤ groupsP gs rows := Nat.mul_pos (unitP_pos fr.bb 0) (every_mono rows 1 (by decide) fun x hx => (fr.ro x hx).2.2.1)
  exact cntP_GN fr.bb fr.ro g1 (fun x hx => spanP_dvd fr.bb fr.ro hx) (List.mem_range.mp hg)
theorem gaps_GN {gs : List Int} {rows : List R3} (fr : Fair gs rows) (n : Nat) : gapsL gs rows n = (List.range n).map (GN gs rows) :=
  List.map_congr_left fun g _ => gapL_GN fr.b0 fr.b3 fr.bb fr.ro g
/-- the house's counts are those of the least round -/
theorem cs_GN {gs : List Int} {rows : List R3} {cs : List Int} (fr : Fair gs rows) (h : ∃ k, RepIs (countsP gs rows (groupsP gs rows)) k ∧ cs = (countsP gs rows (groupsP gs rows)).take k) : LeastPer (GN gs rows) cs.length ∧ cs = (List.range cs.length).map (GN gs rows) := by
  obtain ⟨k, hk, rfl⟩ := h
  rw [counts_GN fr] at hk ⊢
  have hl := rep_least (GN_per (keeps_groups gs rows)) hk
  have hkn : k ≤ groupsP gs rows := by have := hk.2.1; rwa [List.length_map, List.length_range] at this
  have hlen : ((List.range (groupsP gs rows)).map (GN gs rows)).take k = (List.range k).map (GN gs rows) := by
    rw [← List.map_take, List.take_range, Nat.min_eq_left hkn]
  rw [hlen, List.length_map, List.length_range]
  exact ⟨hl, rfl⟩
end LM

set_option Elab.async false
set_option linter.all false
set_option maxRecDepth 100000
set_option maxHeartbeats 4000000
namespace LM
open PySem PySem.Spec PyProof.Rows L2
/-! ### defs called where no repr is under way -/
structure FnG (P : Program) (w : World) (K : PySem.W.Frag) (mg : Str → Option Value) (base : Heap) (k : Nat) (f : Addr) (fd : FuncData) (ps : List Str) (sp : Sp) : Prop where
  num : ∀ xs G R Z, sp xs G R Z → xs.length = ps.length
  go : ∀ (Ar : Around) (above : List Env) (t : Shared) (G : Hp) (ar : Args) (ys : List Value) (xs : List V) (R : VK) (Z : XK), Ar.guards = some [] → Room k Ar → Env0 P w K mg base Ar above t G → BindsTo t fd ar (ps.zip ys) → Vals xs ys → sp xs G R Z →
    codeAny (model P w) Ar (.call (.ref f) ar) (CR CX0 above P w G t R Z) t
section
variable {P : Program} {w : World} {K : PySem.W.Frag} {mg : Str → Option Value} {base : Heap}
/-- such a def, by its body -/
theorem funG_ok {x qual : Str} {st : Stmt} {f : Addr} {fd : FuncData} {NN ps : List Str} {k : Nat} {sp : Sp} (F : Fun K x qual st f fd) (S : FnScope NN ps (defScope st)) (hnum : ∀ xs G R Z, sp xs G R Z → xs.length = ps.length)
    (hbd : ∀ (cd : Value) (Ar : Around) (above : List Env) (t : Shared) (G : Hp) (xs : List V) (R : VK) (Z : XK), Ar.guards = some [] → Room k (Ar.deeper (envOfC qual (defScope st) t.heap.objs.size f cd)) → sp xs G R Z →
      ∃ T, PSs (Cx.nox (cxOf CX0 P w K mg base NN qual (defScope st) f cd Ar above t G Z)) (defBody st) T ∧ T { nx := fun _ G' => R .non G', rt := R } (start NN xs) G) : FnG P w K mg base (k + 1) f fd ps sp := by
  obtain ⟨oc, od, kV, doc, pm, an, cd, ct, osl, rfl, inK, hco⟩ := F.ex
  refine ⟨hnum, fun Ar above t G ar ys xs R Z hgd room en bi va sat => ?_⟩
  have hlen := hnum _ _ _ _ sat
  have kin : K.In t.heap := en.mod.kin.keeps fun b o z => (en.bs b o z).1
  have noL : t.heap.NoLimit := en.mod.nolimit.keeps fun b o z => (en.bs b o z).1
  have kinds : ∀ y ∈ ps.zip ys, (defScope st).names.lookup y.1 = some .local ∨ ((defScope st).names.lookup y.1 = some .cell ∧ ((cellsFrom (t.heap.objs.size + 1) (defScope st).names []).lookup y.1).isSome = true) := by
    rintro ⟨n, v⟩ hy
    exact (S.par n (List.of_mem_zip hy).1).imp id fun q => ⟨q, PySem.W.cellsFrom_some _ _ _ (.inl q)⟩
  refine codeAny_call_function room.depth (kin _ _ inK) rfl S.co S.gen rfl (PySem.W.codeRec_of kin hco) (bi _ _ _ _ ?_)
  refine wpAny_newFunctionEnv_cells S.kind kinds fun env heq t1 inC => ?_
  subst heq
  refine ⟨noL.keeps inC.toInCall.keep, codeAny_func ?_⟩
  obtain ⟨T, hT, hq⟩ := hbd cd Ar above t G xs R Z hgd (room.deeper _) sat
  have hI := inv_start (CX := CX0) (E := Z) S room.hd en hlen va inC
  refine wpAny_mono (hT.nox.run [] t1 (start NN xs) G _ hI hq) (fun fl t2 hs => ?_) fun _ _ hs => hs
  cases fl with
  | ret u =>
    obtain ⟨v, σ2, G2, J, rv, q⟩ := hs
    exact ⟨v, G2, J.os, J.bare, J.base, J.hok, rv, q⟩
  | next =>
    obtain ⟨σ2, G2, J, q⟩ := hs
    exact ⟨V.non, G2, J.os, J.bare, J.base, J.hok, rfl, q⟩
  | brk =>
    obtain ⟨_, _, _, z⟩ := hs
    exact (show False from z).elim
  | cont =>
    obtain ⟨_, _, _, z⟩ := hs
    exact (show False from z).elim
end
/-- such a def of the text that stands at its name -/
structure DefG (P : Program) (w : World) (K : PySem.W.Frag) (mg : Str → Option Value) (base : Heap) (x : Str) (ps : List Str) (k : Nat) (sp : Sp) : Prop where
  all : ∃ (f : Addr) (fd : FuncData), FnG P w K mg base k f fd ps sp ∧ mg x = some (.ref f) ∧ PySem.W.keepIn K (.ref f) = true ∧ Binds K fd ps []
theorem pe_dG {X : Cx} {x : Str} {p pos : Pos} {e : Expr} {es : List Expr} {t : TA} {ps : List Str} {k : Nat} {sp : Sp} (D : DefG X.prog X.w X.K X.mg X.base x ps k sp) (hgd : X.A.guards = some []) (hr : Room k X.A) (hg : Gl X x) (ha : PA X (e :: es) t)
    (hdb : (x == ("__debug__" : Str)) = false := by decide) (he : starEach (e :: es) X.env = (false, eval e X.env) :: starEach es X.env := by rfl) (hpl : (backTo pos (starEach es X.env)).any (·.1) = false := by rfl) :
    PE X (.Call (.Name x p) (e :: es) [] pos) (tCall sp [] E0 t) := by
  obtain ⟨f, fd, F, hm, hk, hb⟩ := D.all
  refine ⟨fun pins s σ G R I sat => ?_⟩
  refine wpAny_Call_Name_kw (ld_glob I hg hm ?_ hdb)
  refine PySem.W.callWith_K (h₀ := X.base) I.ok.mod.kin hk (thn (ha.run pos pins s σ G _ I sat) fun ys s1 ⟨xs, G1, J, va, q⟩ => ⟨J.kIn, ?_⟩) he hpl
  have q' : sp xs G1 R E0 := by
    have q2 : sp (xs ++ []) G1 R E0 := q
    rwa [List.append_nil] at q2
  have hl : (ys ++ ([] : List Value)).length = ps.length := by rw [List.append_nil, ← va.length]; exact F.num _ _ _ _ q'
  have hbb := hb s1 ys J.kIn hl
  rw [List.append_nil] at hbb
  refine wpAny_call (codeAny_mono (F.go X.A X.stack s1 G1 ⟨ys, []⟩ ys xs R E0 hgd hr J.env0 hbb va q') fun res s2 hq => ?_)
  cases res with
  | error er => exact hq.elim
  | ok fl =>
    cases fl with
    | ret u => exact J.after hq
    | next => exact hq.elim
    | brk => exact hq.elim
    | cont => exact hq.elim
/-! ### repr of a tuple of integers -/
theorem reads_ints {h : Heap} : ∀ {ns : List Int} {its : List Value}, Vals (ns.map V.int) its → ReadsAll h its (ns.map PyData.int) []
  | [], _, r => by
    cases r
    exact .nil
  | n :: ns, _, r => by
    cases r with
    | cons r1 r2 =>
      obtain ⟨t, rfl⟩ := r1
      exact ReadsAll.cons (.int n t) (reads_ints r2)
/-- what repr of a tuple of integers shows -/
def showI (ns : List Int) : Str := (PyData.tuple (ns.map PyData.int)).shown
theorem depth_ints : ∀ ns : List Int, (PyData.tuple (ns.map PyData.int)).depth ≤ 2 := by
  intro ns
  have : ∀ l : List Int, PyData.depthAll (l.map PyData.int) ≤ 1 := by
    intro l
    induction l with
    | nil => simp [PyData.depthAll]
    | cons n l ih =>
      simp only [List.map_cons, PyData.depthAll, PyData.depth]
      omega
  simp only [PyData.depth]
  have := this ns
  omega
def rRepr (K : PySem.W.Frag) : List V → Hp → VK → Prop := fun xs G R => ∃ (p : Addr) (ns : List Int), xs = [.ref p] ∧ SqT K G p (ns.map V.int) ∧ (∀ n ∈ ns, n.natAbs.log2 < 1920) ∧ (showI ns).length ≤ sizeLine ∧ R (.str (showI ns)) G
theorem call_reprI {X : Cx} (hgd : X.A.guards = some []) (hu : X.A.units + 3 < cLine) : CallR X (.builtin "repr") (rRepr X.K) := by
  intro pins s σ G xs us R I va sat
  obtain ⟨p, ns, rfl, hp, hb, hz, q⟩ := sat
  obtain ⟨u, rfl, hu1⟩ := vals1 va
  obtain rfl : u = Value.ref p := hu1
  obtain ⟨its, rv, ⟨o, ho, hcl, n, hd⟩, _⟩ := I.tuple hp
  have rd : Reads s.heap (.ref p) (PyData.tuple (ns.map PyData.int)) [] := Reads.tuple (vs := its.toArray) ho hcl hd (reads_ints (by simpa using rv))
  refine repr_of_reads' rd (by simpa [PyData.showable] using PyData.showableAll_ints ns hb) (fun _ z => nomatch z) hgd (by have := depth_ints ns; omega) (fun _ _ z => z) (fun h' u tk hk => ?_) hz
  exact ⟨.str _, G, I.kept hk, ⟨u, rfl⟩, q⟩
/-! ### the law's call, where no repr is under way -/
/-- from a heap in which nothing but the script may be tracked -/
theorem law_coreG {P : Program} {w : World} {K : PySem.W.Frag} {mg mb : Str → Option Value} {k : Nat} {fa a : Addr} {fd : FuncData} {x : Str} {sp : Sp} {t : Shared} {ys : List Value} {G : Hp}
    (kin : K.In t.heap) (gns : t.heap.Ns mainGlobals mg) (bns : t.heap.Ns builtinsNs mb) (boot : ∀ x : Str, x ≠ "__name__" → mb x = bootBuiltins x) (noL : t.heap.NoLimit) (gens : t.gens = #[])
    (ha : t.heap.get? a = some { cls := .type "list", data := .seq ys.toArray }) (room : Room k callerA) (hgd : callerA.guards = some [])
    (F : ∀ base : Heap, K.In base → base.Ns mainGlobals mg → FnG P w K mg base k fa fd [x] sp) (bi : ∀ (s : Shared) (u : Value), BindsTo s fd ⟨[u], []⟩ [(x, u)])
    (sat : sp [.ref a] G (fun v _ => v = .bl true) E0) (only : Only G) (hok : HOk P w G t.heap) (hA : ∀ b, G b ≠ none → b = a) (hK : G a ≠ none → K.lookup a = none) :
    codeAny (model P w) callerA (.call (.ref fa) ⟨[.ref a], []⟩) (fun r s' => r = .ok (.ret (.bool true)) ∧ PySem.OldK t.heap s'.heap ∧ s'.os = t.os ∧ AllBare s'.gens) t := by
  have base_of : ∀ {b : Addr} {o : Obj}, t.heap.get? b = some o → G b = none → (hidT t.heap G).get? b = some o := hidT_get
  have noDict : ∀ {b : Addr} {o : Obj} {es : Array DictEntry} {ep : Nat}, t.heap.get? b = some o → o.data = .dict es ep → G b = none := by
    intro b o es ep z dz
    cases q : G b with
    | none => rfl
    | some u =>
      obtain rfl := hA b (by rw [q]; exact fun z => nomatch z)
      rw [ha] at z
      cases z
      exact nomatch dz
  have ns_of : ∀ {b : Addr} {m : Str → Option Value}, t.heap.Ns b m → (hidT t.heap G).Ns b m := fun ⟨o, es, ep, z, dz, rest⟩ => ⟨o, es, ep, base_of z (noDict z dz), dz, rest⟩
  have kinB : K.In (hidT t.heap G) := by
    intro b o z
    refine base_of (kin b o z) ?_
    cases q : G b with
    | none => rfl
    | some u =>
      obtain rfl := hA b (by rw [q]; exact fun z => nomatch z)
      rw [hK (by rw [q]; exact fun z => nomatch z)] at z
      cases z
  obtain ⟨mc, l1, l2⟩ := noL
  have hM : Mod K mg (hidT t.heap G) := ⟨kinB, ns_of gns, ⟨mb, ns_of bns, boot⟩, ⟨mc, ns_of l1, l2⟩⟩
  have en : Env0 P w K mg (hidT t.heap G) callerA [] t G := ⟨rfl, hM, fun _ _ z => of_hidT z, Nat.le_of_eq (hidT_size _ _), trivial, fun b z => absurd (show b ∈ ([] : List Addr) from z) List.not_mem_nil, hok, .of_eq gens⟩
  have run := (F _ kinB (ns_of gns)).go callerA [] t G ⟨[.ref a], []⟩ [.ref a] [.ref a] _ _ hgd room en (bi t (.ref a)) (.cons rfl .nil) sat
  refine codeAny_mono run fun res t2 hq => ?_
  cases res with
  | error er => exact hq.elim
  | ok fl =>
    cases fl with
    | next => exact hq.elim
    | brk => exact hq.elim
    | cont => exact hq.elim
    | ret u =>
      obtain ⟨v, G2, os, bare, un, hok2, rv, q⟩ := hq
      obtain rfl : v = V.bl true := q
      obtain rfl : u = Value.bool true := rv
      refine ⟨rfl, OldK.of_keep fun b o z => ?_, os, bare⟩
      cases q : G b with
      | none => exact un.keep b o z q (fun y => absurd (show b ∈ ([] : List Addr) from y) List.not_mem_nil) List.not_mem_nil
      | some u =>
        rcases only b with y | ⟨ob, xs, y⟩
        · rw [q] at y
          cases y
        · obtain ⟨e1, _⟩ := hok b _ y
          obtain ⟨e2, _⟩ := hok2 b _ (un.frzs b ob _ y)
          rw [z] at e1
          cases e1
          exact e2
theorem law_callG {P : Program} {w : World} {K : PySem.W.Frag} {mg mb : Str → Option Value} {k : Nat} {fa a : Addr} {fd : FuncData} {x : Str} {sp : Sp} {t : Shared} {ys : List Value} {ns : List Int}
    (kin : K.In t.heap) (gns : t.heap.Ns mainGlobals mg) (bns : t.heap.Ns builtinsNs mb) (boot : ∀ x : Str, x ≠ "__name__" → mb x = bootBuiltins x) (noL : t.heap.NoLimit) (gens : t.gens = #[])
    (ha : t.heap.get? a = some { cls := .type "list", data := .seq ys.toArray }) (hi : IntsAre ys ns) (hl : ns.length ≤ sizeLine) (room : Room k callerA) (hgd : callerA.guards = some [])
    (F : ∀ base : Heap, K.In base → base.Ns mainGlobals mg → FnG P w K mg base k fa fd [x] sp) (bi : ∀ (s : Shared) (u : Value), BindsTo s fd ⟨[u], []⟩ [(x, u)])
    (hsp : ∀ G : Hp, Only G → SqL K G a (ns.map V.int) → sp [.ref a] G (fun v _ => v = .bl true) E0) :
    codeAny (model P w) callerA (.call (.ref fa) ⟨[.ref a], []⟩) (fun r s' => r = .ok (.ret (.bool true)) ∧ PySem.OldK t.heap s'.heap ∧ s'.os = t.os ∧ AllBare s'.gens) t := by
  have rv := vals_ints hi
  have hlen := hi.length
  cases hk : K.lookup a with
  | some o =>
    have e := kin a o hk
    rw [ha] at e
    cases e
    have only : Only (fun _ => none) := fun _ => .inl rfl
    exact law_coreG kin gns bns boot noL gens ha room hgd F bi (hsp _ only (.inr ⟨_, ys.toArray, _, hk, rfl, rfl, rfl, by rw [List.size_toArray, hlen]; exact hl, by simpa using rv⟩)) only (fun _ _ z => nomatch z) (fun _ z => absurd rfl z) fun z => absurd rfl z
  | none =>
    have at_a : (fun b => if b = a then some (HO.frz { cls := .type "list", data := .seq ys.toArray } (.lst (ns.map V.int))) else none) a = some (HO.frz { cls := .type "list", data := .seq ys.toArray } (.lst (ns.map V.int))) := if_pos rfl
    have only : Only (fun b => if b = a then some (HO.frz { cls := .type "list", data := .seq ys.toArray } (.lst (ns.map V.int))) else none) := by
      intro b
      by_cases hb : b = a
      · exact .inr ⟨_, _, if_pos hb⟩
      · exact .inl (if_neg hb)
    refine law_coreG kin gns bns boot noL gens ha room hgd F bi (hsp _ only (.inl (.inr ⟨_, at_a⟩))) only (fun b u z => ?_) (fun b z => ?_) fun _ => hk
    · by_cases hb : b = a
      · subst hb
        cases at_a.symm.trans z
        exact ⟨ha, by rw [List.length_map]; exact hl, ys, _, rv, ha⟩
      · exact nomatch (if_neg hb).symm.trans z
    · by_cases hb : b = a
      · exact hb
      · exact absurd (if_neg hb) z
theorem walk_ofG {l : PySem.W.OpenLaw} {n k : Nat} {q : Program} {loose : List Str} {XP : (Str → Option Value) → Heap → Prop} {YP : World → Heap → Prop} {d : DefRec} {K : Params → PySem.W.Frag} {sp : PySem.W.Frag → Sp} {x : Str}
    (most : l.most = some n) (small : n ≤ sizeLine) (nodf : d.params.defaults = []) (room : Room k callerA) (hgd : callerA.guards = some []) (hY : ∀ (w : World) (h : Heap), YP w h → (K w.params).In h)
    (F : ∀ (w : World) (mg : Str → Option Value) (fa : Addr) (h : Heap), (K w.params).In h → h.Ns mainGlobals mg → mg d.name = some (.ref fa) →
      ∃ fd : FuncData, (∀ (s : Shared) (u : Value), BindsTo s fd ⟨[u], []⟩ [(x, u)]) ∧ ∀ base : Heap, (K w.params).In base → base.Ns mainGlobals mg → FnG l.prog w (K w.params) mg base k fa fd [x] (sp (K w.params)))
    (hsp : ∀ (K : PySem.W.Frag) (G : Hp) (a : Addr) (ns : List Int), ns.length ≤ n → Only G → SqL K G a (ns.map V.int) → sp K [.ref a] G (fun v _ => v = .bl true) E0) :
    PySem.W.WalkO q loose XP YP l.row.toRowW d [] (fun f vs => PySem.call f vs) := by
  refine Att.attach_call most nodf fun w s0 t mg mb fa o pm cd doc a ys ns Gr Y ho hd hcd hmg hobj hints hlen gens => ?_
  have kin := hY w _ Y
  obtain ⟨fd, bi, hF⟩ := F w mg fa _ kin Gr.T.g hmg
  exact law_callG kin Gr.T.g Gr.T.b Gr.T.builtins Gr.T.nolimit gens hobj hints (Nat.le_trans hlen small) room hgd hF bi fun G only hS => hsp _ G a ns hlen only hS
end LM

set_option Elab.async false
set_option linter.all false
set_option maxRecDepth 100000
set_option maxHeartbeats 4000000
namespace LM
open PySem PySem.Spec PyProof.Rows L2
/-! ### repr of a list of integers and None -/
def optV : Option Int → V
  | none => .non
  | some n => .int n
def optD : Option Int → PyData
  | none => .none
  | some n => .int n
theorem reads_opts {h : Heap} : ∀ {ds : List (Option Int)} {its : List Value}, Vals (ds.map optV) its → ReadsAll h its (ds.map optD) []
  | [], _, r => by
    cases r
    exact .nil
  | none :: ds, _, r => by
    cases r with
    | cons r1 r2 =>
      obtain rfl := r1
      exact ReadsAll.cons .none (reads_opts r2)
  | some n :: ds, _, r => by
    cases r with
    | cons r1 r2 =>
      obtain ⟨t, rfl⟩ := r1
      exact ReadsAll.cons (.int n t) (reads_opts r2)
def showO (ds : List (Option Int)) : Str := (PyData.list (ds.map optD)).shown
theorem opts_facts : ∀ (ds : List (Option Int)), (∀ n, some n ∈ ds → n.natAbs.log2 < 1920) → PyData.showableAll (ds.map optD) = true ∧ PyData.hasDictAll (ds.map optD) = false ∧ PyData.depthAll (ds.map optD) ≤ 1
  | [], _ => by simp [PyData.showableAll, PyData.hasDictAll, PyData.depthAll]
  | d :: ds, h => by
    obtain ⟨h1, h2, h3⟩ := opts_facts ds fun n hn => h n (List.mem_cons_of_mem _ hn)
    cases d with
    | none =>
      refine ⟨?_, ?_, ?_⟩
      · simpa [optD, PyData.showableAll, PyData.showable] using h1
      · simpa [optD, PyData.hasDictAll, PyData.hasDict] using h2
      · simp only [List.map_cons, optD, PyData.depthAll, PyData.depth]
        omega
    | some n =>
      have hn := h n List.mem_cons_self
      refine ⟨?_, ?_, ?_⟩
      · simp only [List.map_cons, optD, PyData.showableAll, PyData.showable, Bool.and_eq_true, decide_eq_true_eq]
        exact ⟨hn, h1⟩
      · simpa [optD, PyData.hasDictAll, PyData.hasDict] using h2
      · simp only [List.map_cons, optD, PyData.depthAll, PyData.depth]
        omega
def rReprL (K : PySem.W.Frag) : List V → Hp → VK → Prop := fun xs G R => ∃ (p : Addr) (ds : List (Option Int)), xs = [.ref p] ∧ SqL K G p (ds.map optV) ∧ (∀ n, some n ∈ ds → n.natAbs.log2 < 1920) ∧ (showO ds).length ≤ sizeLine ∧ R (.str (showO ds)) G
theorem call_reprL {X : Cx} (hgd : X.A.guards = some []) (hu : X.A.units + 3 < cLine) : CallR X (.builtin "repr") (rReprL X.K) := by
  intro pins s σ G xs us R I va sat
  obtain ⟨p, ds, rfl, hp, hb, hz, q⟩ := sat
  obtain ⟨u, rfl, hu1⟩ := vals1 va
  obtain rfl : u = Value.ref p := hu1
  obtain ⟨its, rv, pl, _⟩ := I.list hp
  obtain ⟨h1, h2, h3⟩ := opts_facts ds hb
  obtain ⟨o, n, ho, hcl, _, hd⟩ := pl
  have rd : Reads s.heap (.ref p) (PyData.list (ds.map optD)) [p] := Reads.list (vs := its.toArray) ho hcl hd (reads_opts (by simpa using rv))
  have nod : (PyData.list (ds.map optD)).hasDict = false := by simpa [PyData.hasDict] using h2
  refine repr_of_reads' rd (by simpa [PyData.showable] using h1) (PyData.noDict_hsm nod) hgd (by simp only [PyData.depth]; omega) (fun _ _ z => z) (fun h' u tk hk => ?_) hz
  exact ⟨.str _, G, I.kept hk, ⟨u, rfl⟩, q⟩
theorem opts_len : ∀ (ds : List (Option Int)), ds.length ≤ 100 → (∀ n, some n ∈ ds → n.natAbs.log2 < 1920) → (showO ds).length ≤ sizeLine := by
  intro ds hl h
  have e : ∀ y ∈ PyData.shownAll (ds.map optD), y.length ≤ 2000 := by
    clear hl
    induction ds with
    | nil => intro y hy; simp [PyData.shownAll] at hy
    | cons d ds ih =>
      intro y hy
      simp only [List.map_cons, PyData.shownAll] at hy
      rcases List.mem_cons.mp hy with rfl | hy
      · cases d with
        | none =>
          simp only [optD, PyData.shown]
          decide
        | some n =>
          simp only [optD, PyData.shown]
          have := int_text_length_le (k := 1920) (by decide) (h n List.mem_cons_self)
          rw [PySem.ofString_length]
          omega
      · exact ih (fun n hn => h n (List.mem_cons_of_mem _ hn)) y hy
  have hn : (PyData.shownAll (ds.map optD)).length = ds.length := by rw [PyData.shownAll_length, List.length_map]
  unfold showO
  rw [PyData.shown_list]
  have hj := Nat.le_trans (StrLaws.join_length_le ", " (PyData.shownAll (ds.map optD))) (join_le ", " _ 2000 e)
  rw [hn] at hj
  have e1 : ((", " : Str)).length = 2 := by decide
  have e2 : (("[" : Str)).length = 1 := by decide
  have e3 : (("]" : Str)).length = 1 := by decide
  rw [e1] at hj
  rw [strLen_append, strLen_append, e2, e3]
  have : ds.length * (2000 + 2) ≤ 100 * 2002 := Nat.mul_le_mul_right _ hl
  exact Nat.le_trans (show _ ≤ 300000 by omega) (by decide)
/-! ### a method called with keywords alone -/
def tMethKw (C : Addr) (m : Str) (sp : Sp) (gV : List V → List V → List V) (E : XK) (ta : TE) (tk : TA) : TE := fun σ G R => ta σ G fun x G1 => ∃ a dx fs, x = .ref a ∧ G1 a = some (.ins C dx fs) ∧ fs.lookup m = none ∧ tk σ G1 fun zs G2 => sp (gV [x] zs) G2 R E
theorem pe_methKw {X : Cx} {k : Nat} {C f : Addr} {fd : FuncData} {ps ks : List Str} {sp : Sp} {m : Str} {pos apos : Pos} {o : Expr} {kws : List Keyword} {ta : TE} {tk : TA} {g : List Value → List Value → List Value} {gV : List V → List V → List V} {pl : Sem Bool}
    (he : PE X o ta) (c : Cls X.K C) (hm : Meth X.K C m f) (F : FnOk X.prog X.w X.K X.mg X.base CX0 k f fd ps sp) (hr : Room k X.A) (hb : KBinds X.K fd ps ks g gV) (hkw : PK X kws tk)
    (hall : (backToKw pos (keywordEach kws X.env)).all (·.1.isSome) = true := by rfl) (hks : (backToKw pos (keywordEach kws X.env)).filterMap (·.1) = ks := by rfl) (hpl : ((backTo pos (starEach [] X.env)).any (·.1) || (backToKw pos (keywordEach kws X.env)).any (·.1.isNone)) = false := by rfl)
    (ht : eval (.Call (.Attribute o m apos) [] kws pos) X.env = (eval o X.env >>= fun ov => standAt apos.atName >>= fun _ => holding [ov] (getMethod ov m pl) >>= fun fx => callWith pos fx.1 fx.2 (backTo pos (starEach [] X.env)) (backToKw pos (keywordEach kws X.env))) := by rfl) :
    PE X (.Call (.Attribute o m apos) [] kws pos) (tMethKw C m sp gV E0 ta tk) := by
  refine ⟨fun pins s σ G R I sat => ?_⟩
  refine PySem.W.methodCall_KW (pl := pl) (thn (he.run pins s σ G _ I sat) fun u s1 ⟨x, G1, J, rx, a, dx, fs, ex, ea, lk, q⟩ => ?_) ht
  subst ex
  obtain rfl : u = Value.ref a := rx
  refine getmeth_ok J ea c hm lk ?_
  refine PySem.W.callWith_KW0 (first := [.ref a]) (h₀ := X.base) J.ok.mod.kin hm.kp hall (thn (hkw.run pos pins s1 σ G1 _ J q) fun ws s2 ⟨zs, G2, J2, rz, q2⟩ => ⟨J2.kIn, ?_⟩) hpl
  rw [hks]
  exact run_fnk (us := [.ref a]) (vs := [.ref a]) F hr hb pass0 J2 (.cons rfl .nil) rz q2
end LM

set_option Elab.async false
set_option linter.all false
set_option maxRecDepth 100000
set_option maxHeartbeats 4000000
namespace LM
open PySem PySem.Spec PyProof.Rows L2 RT
theorem strs_of_vals : ∀ {zs : List Str} {us : List Value}, Vals (zs.map V.str) us → ∃ l : List (Str × Tok), strValues l = us ∧ l.map (·.1) = zs
  | [], _, r => by
    cases r
    exact ⟨[], rfl, rfl⟩
  | z :: zs, _, r => by
    cases r with
    | cons r1 r2 =>
      obtain ⟨t, rfl⟩ := r1
      obtain ⟨l, e1, e2⟩ := strs_of_vals r2
      exact ⟨(z, t) :: l, by rw [← e1]; rfl, by rw [← e2]; rfl⟩
theorem join_rev {prog : Program} {w : World} {A : Around} {E : Value → Shared → Prop} {s : Shared} {x : Str} {t : Tok} {it l : Addr} {its : List Value} {ys : List Str} {Q : Value → Shared → Prop} (hh : A.handled = none) (hit : s.heap.IsRevIter it l ((its.toArray.size : Int) - 1)) (hl : s.heap.IsList l its.toArray) (hne : l ≠ it)
    (hn : its.toArray.size ≤ sizeLine) (rv : Vals (ys.map V.str) its) (hz : (ys.reverse.map (·.length)).sum + ys.reverse.length * x.length ≤ 16777216)
    (hq : ∀ (h' : Heap) (tk : Nat) (t' : Tok), (∀ b o, b ≠ it → s.heap.get? b = some o → h'.get? b = some o) → Q (.str (Txt.join x ys.reverse) t') { s with heap := h', toks := tk }) :
    wpAny (model prog w) A (call (.builtin "str.join") [.str x t, .ref it]) Q E s := by
  refine wpAny_call (codeAny_call_builtin F.slot_str_join.plain F.entry_str_join (F.slot_str_join.check _ _ _ _ _ _ _ _ (typeIs_str _ _ _) (F.args_str_join_2 _ _) ?_))
  rw [join_tree_other]
  refine wpAny_bind (wpAny_typeOf hit.typeIs ?_)
  show wpAny _ A.in1 ((pyIter (.ref it)).tryCatch _ >>= fun i => collect i >>= fun items => joinTail x items) _ _ s
  refine wpAny_bind (wpAny_tryCatch (wpAny_pyIter_revIter hit ?_))
  refine wpAny_bind (collect_rev (A := A.in1) hh hit hl hne hn fun h' tk acc hk hacc => ?_)
  have rv2 := vals_rev rv hacc
  rw [← List.map_reverse] at rv2
  obtain ⟨l', e1, e2⟩ := strs_of_vals rv2
  rw [← e1]
  have hok : JoinOk x (l'.map (·.1)) = true := by
    rw [e2]
    exact joinOk_of hz
  have hok' := hok
  unfold JoinOk at hok'
  rw [Bool.not_eq_true'] at hok'
  have g : Gives (joinTail x (strValues l')) (joinMade x l') := by
    have g0 := gives_joinTail x l' hok'
    cases l' with
    | nil => exact g0
    | cons p r => cases r with
      | nil => exact g0
      | cons q r' => exact g0
  refine g prog w A (wants Q E) { s with heap := h', toks := tk } (post_join l' ⟨joinFit_length hok', fun t' k => ?_⟩)
  rw [e2]
  exact hq h' k t' hk
/-- sep.join(reversed(parts)) -/
def tJoinRev (K : PySem.W.Frag) (to te : TE) : TE := fun σ G R => to σ G fun x G1 => (∃ a, x = .str a) ∧ te σ G1 fun v G2 => ∃ (a : Str) (q : Addr) (ys : List Str), x = .str a ∧ v = .ref q ∧ SqL K G2 q (ys.map V.str) ∧ (ys.reverse.map (·.length)).sum + ys.reverse.length * a.length ≤ 16777216 ∧ R (.str (Txt.join a ys.reverse)) G2
theorem pe_joinRev {X : Cx} {o e : Expr} {to te : TE} {apos pos p2 pos2 : Pos} (hc : X.calm = true) (ho : PE X o to) (hg2 : Gl X "reversed") (hm2 : X.mg "reversed" = none) (he : PE X e te)
    (hs : starEach [e] X.env = (false, eval e X.env) :: starEach [] X.env := by rfl)
    (hs1 : starEach [.Call (.Name "reversed" p2) [e] [] pos2] X.env = [(false, eval (.Call (.Name "reversed" p2) [e] [] pos2) X.env)] := by rfl)
    (hbase : attributeBase o "join" X.env (eval o X.env) = eval o X.env := by rfl) (hline : (apos.endLine == pos.line) = true := by rfl) :
    PE X (.Call (.Attribute o "join" apos) [.Call (.Name "reversed" p2) [e] [] pos2] [] pos) (tJoinRev X.K to te) := by
  refine ⟨fun pins s σ G R I sat => ?_⟩
  refine PySem.Call_method1 hbase hs1 hline (thn (ho.run pins s σ G _ I sat) fun v s1 ⟨x, G1, J, rx, q1⟩ => ?_)
  obtain ⟨⟨a, rfl⟩, q1⟩ := q1
  obtain ⟨t, rfl⟩ := _root_.id rx
  refine ⟨"str", _, F.plainAttrs_str, F.slot_str_join, F.type_str_join, typeIs_str _ _ _, (fun _ e => nomatch e), Calls.callWith_builtin rfl (Calls.evalArgs_plain (Calls.spliced_cons ?_))⟩
  refine Call_ (ld_blt J hg2 hm2 PyProof.Rows.boot_reversed (PyProof.Rows.callWith_type1 (args_cons (thn (he.run pins s1 σ G1 _ J q1) fun u s2 ⟨y, G2, J2, ry, q2⟩ => args_nil ?_) hs) hs rfl))
  obtain ⟨a', q, ys, ea, rfl, hq, hz, q3⟩ := q2
  cases ea
  obtain rfl : u = Value.ref q := ry
  obtain ⟨its, rv, pl, hsz⟩ := J2.list hq
  refine call_reversed_list pl.isList ?_
  refine Calls.spliced_nil ?_
  have k0 : ∀ b o, s2.heap.get? b = some o → (s2.heap.push (revObj q ((its.toArray.size : Int) - 1))).get? b = some o := fun b o z => Heap.get?_push_of_some _ z
  have J3 : Inv X pins σ G2 { s2 with heap := s2.heap.push (revObj q ((its.toArray.size : Int) - 1)) } := J2.kept (t' := s2.toks) k0
  obtain ⟨f0, f1, f2, f3, f4, f5⟩ := J2.fpOk (H' := G2) (b := s2.heap.objs.size) (Nat.le_refl _) (J2.hok.fresh (Nat.le_refl _))
  have hl := pl.isList
  obtain ⟨ol, hol, _⟩ := id hl
  have hne : q ≠ s2.heap.objs.size := Nat.ne_of_lt (Heap.lt_size hol)
  have hn : its.toArray.size ≤ sizeLine := by rw [List.size_toArray, ← rv.length]; exact hsz
  refine join_rev (s := { s2 with heap := s2.heap.push (revObj q ((its.toArray.size : Int) - 1)) }) (J2.ok.hd hc) ⟨_, Heap.get?_push_size _ rfl, rfl, rfl⟩ (hl.push _) hne hn rv hz fun h' tk t' hk => ?_
  exact ⟨.str _, G2, J3.turned (t' := tk) (fun b o hb z => hk b o hb z) f0 f1 f3 f4 f5, ⟨t', rfl⟩, q3⟩
end LM

set_option Elab.async false
set_option linter.all false
set_option maxRecDepth 100000
set_option maxHeartbeats 4000000
namespace LM
open PySem PySem.Spec PyProof.Rows L2
/-! ### text times number -/
theorem op_mul_str {X : Cx} : OpR X (binaryOp .Mult) (fun x y H Q => ∃ a n, x = .str a ∧ y = .int n ∧ MulOk a n ∧ Q (.str (Txt.mul a n)) H) := by
  intro pins s σ H x y v u Q I rx ry h
  obtain ⟨a, n, rfl, rfl, hz, q⟩ := h
  obtain ⟨t, rfl⟩ := rx
  obtain ⟨t', rfl⟩ := ry
  exact SB.mul hz fun t' k => ⟨.str (Txt.mul a n), H, I.tok _, ⟨_, rfl⟩, q⟩
theorem mulOk_one {c : Nat} {n : Int} (h0 : -1000000 ≤ n) (h1 : n ≤ 1000000) : MulOk ⟨#[c]⟩ n := by
  refine ⟨?_, fun h _ => ?_, fun h _ => ?_⟩
  · rw [decide_eq_false (by omega), decide_eq_false (by omega)]
    rfl
  · intro z
    have z' : (1 : Int) > (2 ^ 63 - 1) / n := z
    have : (1 : Int) ≤ (2 ^ 63 - 1) / n := (Int.le_ediv_iff_mul_le (by omega)).mpr (by omega)
    omega
  · show Builtin.Str.tooLong (1 * n.toNat) = false
    unfold Builtin.Str.tooLong
    refine decide_eq_false ?_
    have : n.toNat ≤ 1000000 := by omega
    have e : (1000000 : Nat) < sizeLine := by decide
    omega
/-! ### two tuples side by side -/
theorem walk_zipT {K : PySem.W.Frag} {a b : Addr} {xs ys : List V} {n : Nat} (hn : n = min xs.length ys.length) : Walk (RZ.ItzT K a b) n (fun H => SqT K H a xs ∧ SqT K H b ys) (YPair (fun i => xs[i]?) (fun i => ys[i]?)) := by
  refine ⟨fun i _ hi ⟨q1, q2⟩ => ⟨xs, ys, xs[i]'(by omega), ys[i]'(by omega), q1, q2, by simp [show i < xs.length by omega], by simp [show i < ys.length by omega]⟩, fun _ ⟨q1, q2⟩ => ⟨xs, ys, q1, q2, by omega⟩, fun i H v H' _ ⟨q1, q2⟩ y => ?_⟩
  obtain ⟨T, x, z, h1, h2, h3, h4, h5⟩ := y
  exact ⟨T, x, z, h1, h2, h3, h4 xs q1, h5 ys q2⟩
/-! ### repr of lists and tuples of any data -/
def rReprD (K : PySem.W.Frag) : List V → Hp → VK → Prop := fun xs G R => ∃ (p : Addr) (d : PyData), xs = [.ref p] ∧ Dp K G (.ref p) d ∧ d.showable = true ∧ d.hasDict = false ∧ d.depth ≤ 20 ∧ d.shown.length ≤ sizeLine ∧ R (.str d.shown) G
theorem call_reprD {X : Cx} (hgd : X.A.guards = some []) (hu : X.A.units + 64 < cLine) : CallR X (.builtin "repr") (rReprD X.K) := by
  intro pins s σ G xs us R I va sat
  obtain ⟨p, d, rfl, hp, h1, h2, h3, hz, q⟩ := sat
  obtain ⟨u, rfl, hu1⟩ := vals1 va
  obtain rfl : u = Value.ref p := hu1
  obtain ⟨as, rd⟩ := Dp.reads I d (.ref p) (.ref p) hp rfl
  refine repr_of_reads' rd h1 (PyData.noDict_hsm h2) hgd (by omega) (fun _ _ z => z) (fun h' u tk hk => ?_) hz
  exact ⟨.str _, G, I.kept hk, ⟨u, rfl⟩, q⟩
theorem shownAll_le {m : Nat} : ∀ (ds : List PyData), (∀ d ∈ ds, d.shown.length ≤ m) → ∀ y ∈ PyData.shownAll ds, y.length ≤ m
  | [], _, y, hy => by simp [PyData.shownAll] at hy
  | d :: ds, h, y, hy => by
    rcases List.mem_cons.mp (show y ∈ d.shown :: PyData.shownAll ds from hy) with rfl | hy
    · exact h d List.mem_cons_self
    · exact shownAll_le ds (fun e he => h e (List.mem_cons_of_mem _ he)) y hy
theorem shown_list_le {m : Nat} {ds : List PyData} (h : ∀ d ∈ ds, d.shown.length ≤ m) : (PyData.list ds).shown.length ≤ ds.length * (m + 2) + 2 := by
  rw [PyData.shown_list]
  have hj := Nat.le_trans (StrLaws.join_length_le ", " (PyData.shownAll ds)) (join_le ", " _ m (shownAll_le ds h))
  rw [PyData.shownAll_length] at hj
  have e1 : ((", " : Str)).length = 2 := by decide
  have e2 : (("[" : Str)).length = 1 := by decide
  have e3 : (("]" : Str)).length = 1 := by decide
  rw [e1] at hj
  rw [strLen_append, strLen_append, e2, e3]
  omega
theorem shown_tuple_le {m : Nat} {ds : List PyData} (h : ∀ d ∈ ds, d.shown.length ≤ m) : (PyData.tuple ds).shown.length ≤ ds.length * (m + 2) + 3 := by
  rw [PyData.shown_tuple]
  have hj := Nat.le_trans (StrLaws.join_length_le ", " (PyData.shownAll ds)) (join_le ", " _ m (shownAll_le ds h))
  rw [PyData.shownAll_length] at hj
  have e1 : ((", " : Str)).length = 2 := by decide
  have e2 : (("(" : Str)).length = 1 := by decide
  have e3 : ((",)" : Str)).length = 2 := by decide
  have e4 : ((")" : Str)).length = 1 := by decide
  rw [e1] at hj
  rw [strLen_append, strLen_append, e2]
  split
  · rw [e3]
    omega
  · rw [e4]
    omega
theorem dpAll_ints {K : PySem.W.Frag} {H : Hp} : ∀ ns : List Int, DpAll K H (ns.map V.int) (ns.map PyData.int)
  | [] => .nil
  | n :: ns => .cons (.int n) (dpAll_ints ns)
end LM

set_option Elab.async false
set_option linter.all false
set_option maxRecDepth 100000
set_option maxHeartbeats 4000000
namespace LM
open PySem PySem.Spec PyProof.Rows L2
/-! ### how many labels are borne below a place -/
def sumC (B : Nat) (c : Nat → Nat) : Nat → Nat
  | 0 => 0
  | g + 1 => sumC B c g + (B - c g)
def bor (B : Nat) (c : Nat → Nat) (s : Nat) : Bool := decide (c (s / B) ≤ s % B)
def bel (B : Nat) (c : Nat → Nat) (s : Nat) : Nat := ((List.range s).filter (bor B c)).length
section
variable {B : Nat} {c : Nat → Nat}
theorem bel_succ (s : Nat) : bel B c (s + 1) = bel B c s + if bor B c s = true then 1 else 0 := by
  unfold bel
  rw [List.range_succ, List.filter_append, List.length_append]
  cases h : bor B c s <;> simp [h]
theorem bel_eq (hB : 0 < B) (hc : ∀ g, c g ≤ B) : ∀ g j, j ≤ B → bel B c (g * B + j) = sumC B c g + (j - c g) := by
  have inner : ∀ g, bel B c (g * B) = sumC B c g → ∀ j, j ≤ B → bel B c (g * B + j) = sumC B c g + (j - c g) := by
    intro g h0 j
    induction j with
    | zero =>
      intro _
      rw [Nat.add_zero, h0, Nat.zero_sub, Nat.add_zero]
    | succ j ih =>
      intro hj
      rw [← Nat.add_assoc, bel_succ, ih (by omega)]
      have e1 : (g * B + j) / B = g := by
        rw [Nat.mul_comm, Nat.mul_add_div hB, Nat.div_eq_of_lt (by omega), Nat.add_zero]
      have e2 : (g * B + j) % B = j := by
        rw [Nat.mul_comm, Nat.mul_add_mod, Nat.mod_eq_of_lt (by omega)]
      have e3 : bor B c (g * B + j) = decide (c g ≤ j) := by
        unfold bor
        rw [e1, e2]
      rw [e3]
      by_cases h : c g ≤ j
      · rw [decide_eq_true h, if_pos rfl]
        omega
      · rw [decide_eq_false h, if_neg Bool.false_ne_true]
        omega
  intro g
  induction g with
  | zero => exact inner 0 (by rw [Nat.zero_mul]; rfl)
  | succ g ih =>
    refine inner (g + 1) ?_
    have := ih B (Nat.le_refl B)
    rw [Nat.succ_mul, this]
    rfl
theorem bel_at (hB : 0 < B) (hc : ∀ g, c g ≤ B) (s : Nat) : bel B c s = sumC B c (s / B) + (s % B - c (s / B)) := by
  have h := bel_eq hB hc (s / B) (s % B) (Nat.le_of_lt (Nat.mod_lt s hB))
  rwa [Nat.div_add_mod'] at h
theorem sumC_add {L : Nat} (hp : ∀ i, c (i + L) = c i) : ∀ g, sumC B c (g + L) = sumC B c g + sumC B c L
  | 0 => by
    rw [Nat.zero_add]
    show _ = 0 + _
    rw [Nat.zero_add]
  | g + 1 => by
    have e : g + 1 + L = (g + L) + 1 := by omega
    rw [e]
    show sumC B c (g + L) + (B - c (g + L)) = sumC B c g + (B - c g) + sumC B c L
    rw [sumC_add hp g, hp]
    omega
theorem c_mul {L : Nat} (hp : ∀ i, c (i + L) = c i) : ∀ q i, c (i + L * q) = c i
  | 0, i => rfl
  | q + 1, i => by rw [Nat.mul_succ, ← Nat.add_assoc, hp, c_mul hp q]
theorem sumC_mul {L : Nat} (hp : ∀ i, c (i + L) = c i) : ∀ q g, sumC B c (g + L * q) = sumC B c g + sumC B c L * q
  | 0, g => rfl
  | q + 1, g => by
    rw [Nat.mul_succ, ← Nat.add_assoc, sumC_add hp, sumC_mul hp q, Nat.mul_succ]
    omega
theorem bor_mul (hB : 0 < B) {L : Nat} (hp : ∀ i, c (i + L) = c i) (q s : Nat) : bor B c (s + L * B * q) = bor B c s := by
  unfold bor
  have e1 : (s + L * B * q) / B = s / B + L * q := by
    rw [show L * B * q = B * (L * q) by rw [Nat.mul_comm L B, Nat.mul_assoc], Nat.add_mul_div_left _ _ hB]
  have e2 : (s + L * B * q) % B = s % B := by
    rw [show L * B * q = B * (L * q) by rw [Nat.mul_comm L B, Nat.mul_assoc], Nat.add_mul_mod_self_left]
  rw [e1, e2, c_mul hp]
theorem bel_mul (hB : 0 < B) (hc : ∀ g, c g ≤ B) {L : Nat} (hp : ∀ i, c (i + L) = c i) (q s : Nat) : bel B c (s + L * B * q) = bel B c s + sumC B c L * q := by
  have e1 : (s + L * B * q) / B = s / B + L * q := by
    rw [show L * B * q = B * (L * q) by rw [Nat.mul_comm L B, Nat.mul_assoc], Nat.add_mul_div_left _ _ hB]
  have e2 : (s + L * B * q) % B = s % B := by
    rw [show L * B * q = B * (L * q) by rw [Nat.mul_comm L B, Nat.mul_assoc], Nat.add_mul_mod_self_left]
  rw [bel_at hB hc, bel_at hB hc, e1, e2, c_mul hp, sumC_mul hp]
  omega
theorem bel_mono {s t : Nat} (h : s ≤ t) : bel B c s ≤ bel B c t := by
  induction t with
  | zero => rw [Nat.le_zero.mp h]; exact Nat.le_refl _
  | succ t ih =>
    rcases Nat.lt_or_eq_of_le h with z | z
    · rw [bel_succ]
      have := ih (by omega)
      omega
    · rw [z]; exact Nat.le_refl _
theorem bel_lt {s t : Nat} (hs : bor B c s = true) (h : s < t) : bel B c s < bel B c t := by
  have := bel_mono (B := B) (c := c) (show s + 1 ≤ t from h)
  rw [bel_succ, if_pos hs] at this
  omega
theorem bel_inj {s t : Nat} (hs : bor B c s = true) (ht : bor B c t = true) (h : bel B c s = bel B c t) : s = t := by
  rcases Nat.lt_trichotomy s t with z | z | z
  · have := bel_lt hs z
    omega
  · exact z
  · have := bel_lt ht z
    omega
theorem spot_get {p : Nat → Bool} {s : Nat} (hp : p s = true) : ∀ {N : Nat}, s < N → ((List.range N).filter p)[((List.range s).filter p).length]? = some s
  | N + 1, h => by
    rw [List.range_succ, List.filter_append]
    rcases Nat.lt_or_eq_of_le (Nat.le_of_lt_succ h) with z | z
    · have ih := spot_get hp z
      rw [List.getElem?_append_left (List.getElem?_eq_some_iff.mp ih).1]
      exact ih
    · subst z
      rw [List.getElem?_append_right (Nat.le_refl _), Nat.sub_self]
      simp [hp]
end
theorem lnaGo_spec (fs : List Int) (x : Int) (n lo hi : Nat) (h : lo < hi) (h1 : fs.getD lo 0 ≤ x) (h2 : hi = n ∨ x < fs.getD hi 0) : fs.getD (lnaGo fs x lo hi) 0 ≤ x ∧ (lnaGo fs x lo hi + 1 = n ∨ x < fs.getD (lnaGo fs x lo hi + 1) 0) := by
  unfold lnaGo
  split
  · split
    · rename_i hm
      exact lnaGo_spec fs x n ((lo + hi) / 2) hi (by omega) hm h2
    · rename_i hm
      exact lnaGo_spec fs x n lo ((lo + hi) / 2) (by omega) h1 (.inr (by omega))
  · have e : lo + 1 = hi := by omega
    rw [e]
    exact ⟨h1, h2⟩
termination_by hi - lo
decreasing_by all_goals omega
/-! ### the house by its counts -/
noncomputable def cN (gs : List Int) (rows : List R3) (g : Nat) : Nat := (GN gs rows g).toNat
theorem GN_in {gs : List Int} {rows : List R3} (fr : Fair gs rows) (g : Nat) : 0 ≤ GN gs rows g ∧ GN gs rows g < gs.getLastD 1 := by
  have hl := fr.bb _ (lastD_mem fr.b0)
  unfold GN
  suffices ∀ (l : List R3) (acc : Int), (∀ r ∈ l, RowOk 60 gs r) → 0 ≤ acc ∧ acc < gs.getLastD 1 → 0 ≤ l.foldl (gnStep gs g) acc ∧ l.foldl (gnStep gs g) acc < gs.getLastD 1 from this rows 0 fr.ro ⟨Int.le_refl 0, by omega⟩
  intro l
  induction l with
  | nil => exact fun _ _ h => h
  | cons r l ih =>
    intro acc h ha
    rw [List.foldl_cons]
    refine ih _ (fun x hx => h x (List.mem_cons_of_mem _ hx)) ?_
    unfold gnStep
    split
    · exact (h r List.mem_cons_self).2.2.2.2
    · exact ha
/-- what a house's lists are, by its counts -/
structure Cnt (gs : List Int) (rows : List R3) (cs : List Int) (B : Nat) (c : Nat → Nat) (L : Nat) : Prop where
  hB : 2 ≤ B
  hB6 : B ≤ 60
  last : gs.getLastD 1 = (B : Int)
  hL : 1 ≤ L
  hL7 : L ≤ 7200
  len : cs.length = L
  cse : cs = (List.range L).map fun g => ((c g : Nat) : Int)
  lt : ∀ g, c g < B
  per : ∀ i, c (i + L) = c i
  eqG : ∀ g, GN gs rows g = ((c g : Nat) : Int)
  least : LeastPer (GN gs rows) L
theorem cnt_of {gs : List Int} {rows : List R3} {cs : List Int} (fr : Fair gs rows) (h : ∃ k, RepIs (countsP gs rows (groupsP gs rows)) k ∧ cs = (countsP gs rows (groupsP gs rows)).take k) : Cnt gs rows cs (gs.getLastD 1).toNat (cN gs rows) cs.length := by
  obtain ⟨lp, e⟩ := cs_GN fr h
  have hl := fr.bb _ (lastD_mem fr.b0)
  have hG : ∀ g, GN gs rows g = ((cN gs rows g : Nat) : Int) := fun g => by
    have := GN_in fr g
    unfold cN
    omega
  obtain ⟨k, hk, hcs⟩ := h
  obtain ⟨f1, f2, _, _⟩ := cs_facts fr hk hcs
  refine ⟨by omega, by omega, by omega, f1, f2, rfl, ?_, fun g => ?_, fun i => ?_, hG, lp⟩
  · conv => lhs; rw [e]
    exact List.map_congr_left fun g _ => hG g
  · have := GN_in fr g
    have := hG g
    omega
  · have h1 := lp.2.1 i
    rw [hG, hG] at h1
    omega
section
variable {gs : List Int} {rows : List R3} {cs : List Int} {B : Nat} {c : Nat → Nat} {L : Nat}
theorem sum_range (n : Nat) (hlt : ∀ g, c g < B) : ((List.range n).map fun g => (B : Int) - ((c g : Nat) : Int)).sum = ((sumC B c n : Nat) : Int) := by
  induction n with
  | zero => rfl
  | succ n ih =>
    rw [List.range_succ, List.map_append, List.sum_append, ih]
    show _ + ((B : Int) - ((c n : Nat) : Int) + 0) = ((sumC B c n + (B - c n) : Nat) : Int)
    have := hlt n
    omega
theorem Cnt.borne (k : Cnt gs rows cs B c L) : borneP gs cs = (List.range L).map fun g => (B : Int) - ((c g : Nat) : Int) := by
  unfold borneP
  rw [k.cse, List.map_map, k.last]
  rfl
theorem Cnt.total (k : Cnt gs rows cs B c L) : (borneP gs cs).sum = ((sumC B c L : Nat) : Int) := by
  rw [k.borne, sum_range _ k.lt]
theorem Cnt.ahead (k : Cnt gs rows cs B c L) {i : Nat} (h : i < L) : (sumsP (borneP gs cs)).getD i 0 = ((sumC B c i : Nat) : Int) := by
  unfold sumsP
  have hl : (borneP gs cs).length = L := by rw [borneP_len, k.len]
  rw [hl, List.getD_eq_getElem?_getD, List.getElem?_map, List.getElem?_range h]
  show ((borneP gs cs).take i).sum = _
  rw [k.borne, ← List.map_take, List.take_range, Nat.min_eq_left (by omega), sum_range _ k.lt]
theorem Cnt.skipped (k : Cnt gs rows cs B c L) {i : Nat} (h : i < L) : cs.getD i 0 = ((c i : Nat) : Int) := by
  rw [k.cse, List.getD_eq_getElem?_getD, List.getElem?_map, List.getElem?_range h]
  rfl
theorem sumC_mono {i j : Nat} (h : i ≤ j) : sumC B c i ≤ sumC B c j := by
  induction j with
  | zero => rw [Nat.le_zero.mp h]; exact Nat.le_refl _
  | succ j ih =>
    rcases Nat.lt_or_eq_of_le h with z | z
    · have := ih (by omega)
      show _ ≤ sumC B c j + (B - c j)
      omega
    · rw [z]; exact Nat.le_refl _
/-- the place of a frame bears just this frame -/
theorem Cnt.place (k : Cnt gs rows cs B c L) (hF : 1 ≤ sumC B c L) (m : Nat) : ∃ s : Nat, placeP gs cs (m : Int) = (s : Int) ∧ bor B c s = true ∧ bel B c s = m := by
  have hlen : (sumsP (borneP gs cs)).length = L := by rw [sumsP_len, borneP_len, k.len]
  unfold placeP
  rw [k.total, ← Int.natCast_ediv, ← Int.natCast_emod]
  have hmF : m % sumC B c L < sumC B c L := Nat.mod_lt _ (by omega)
  have h0 : (sumsP (borneP gs cs)).getD 0 0 ≤ ((m % sumC B c L : Nat) : Int) := by
    rw [k.ahead (by have := k.hL; omega)]
    show ((0 : Nat) : Int) ≤ _
    omega
  have hlt := lna_lt (sumsP (borneP gs cs)) ((m % sumC B c L : Nat) : Int) (by rw [hlen]; exact k.hL)
  have sp := lnaGo_spec (sumsP (borneP gs cs)) ((m % sumC B c L : Nat) : Int) L 0 L k.hL h0 (.inl rfl)
  have elna : lna (sumsP (borneP gs cs)) ((m % sumC B c L : Nat) : Int) = lnaGo (sumsP (borneP gs cs)) ((m % sumC B c L : Nat) : Int) 0 L := by
    unfold lna
    rw [hlen]
  rw [← elna] at sp
  rw [hlen] at hlt
  generalize lna (sumsP (borneP gs cs)) ((m % sumC B c L : Nat) : Int) = r at hlt sp
  obtain ⟨s1, s2⟩ := sp
  rw [k.ahead hlt] at s1
  have s3 : m % sumC B c L < sumC B c (r + 1) := by
    rcases s2 with z | z
    · rw [z]
      exact hmF
    · by_cases h : r + 1 < L
      · rw [k.ahead h] at z
        omega
      · rw [show r + 1 = L by omega]
        exact hmF
  have s1' : sumC B c r ≤ m % sumC B c L := by omega
  have s3' : m % sumC B c L < sumC B c r + (B - c r) := s3
  have hcr := k.lt r
  rw [k.ahead hlt, k.skipped hlt, k.last, k.len]
  refine ⟨(m / sumC B c L * L + r) * B + (c r + (m % sumC B c L - sumC B c r)), ?_, ?_, ?_⟩
  · rw [Int.natCast_add, Int.natCast_mul, Int.natCast_add, Int.natCast_mul]
    omega
  · have e1 : ((m / sumC B c L * L + r) * B + (c r + (m % sumC B c L - sumC B c r))) / B = r + L * (m / sumC B c L) := by
      rw [Nat.mul_comm _ B, Nat.mul_add_div (by omega), Nat.div_eq_of_lt (show c r + (m % sumC B c L - sumC B c r) < B by omega), Nat.add_zero, Nat.mul_comm L, Nat.add_comm]
    have e2 : ((m / sumC B c L * L + r) * B + (c r + (m % sumC B c L - sumC B c r))) % B = c r + (m % sumC B c L - sumC B c r) := by
      rw [Nat.mul_comm _ B, Nat.mul_add_mod, Nat.mod_eq_of_lt (show c r + (m % sumC B c L - sumC B c r) < B by omega)]
    unfold bor
    rw [e1, e2, c_mul k.per]
    exact decide_eq_true (by omega)
  · rw [bel_eq (by omega) (fun g => Nat.le_of_lt (k.lt g)) _ _ (by omega), Nat.add_comm _ r, Nat.mul_comm _ L, c_mul k.per, sumC_mul k.per]
    have := Nat.mod_add_div m (sumC B c L)
    omega
end
end LM

set_option Elab.async false
set_option linter.all false
set_option maxRecDepth 100000
set_option maxHeartbeats 4000000
namespace LM
open PySem PySem.Spec PyProof.Rows L2
/-! ### the law's own house by its counts -/
theorem again_rep {cs : List Int} {k : Nat} : againL cs k = true ↔ repOk cs k := by
  unfold againL repOk
  rw [Bool.and_eq_true, decide_eq_true_iff, decide_eq_true_iff]
  refine ⟨fun ⟨h1, h2⟩ => ⟨?_, h2⟩, fun ⟨h1, h2⟩ => ⟨?_, h2⟩⟩
  · have := Nat.div_add_mod' cs.length k
    omega
  · exact Nat.div_mul_cancel (Nat.dvd_of_mod_eq_zero h1)
section
variable {gs : List Int} {rows : List R3} {cs : List Int} {B : Nat} {c : Nat → Nat} {L : Nat}
theorem Cnt.size (k : Cnt gs rows cs B c L) (fr : Fair gs rows) : sizeL (gapsL gs rows (groupsP gs rows)) = L ∧ L ≤ groupsP gs rows := by
  have hn := GN_per (keeps_groups gs rows)
  have g1 : 1 ≤ groupsP gs rows := Nat.mul_pos (unitP_pos fr.bb 0) (every_mono rows 1 (by decide) fun x hx => (fr.ro x hx).2.2.1)
  have hd := k.least.dvd hn
  have hle := Nat.le_of_dvd g1 hd
  refine ⟨?_, hle⟩
  rw [gaps_GN fr]
  generalize groupsP gs rows = n at *
  unfold sizeL sizesL
  rw [List.length_map, List.length_range]
  have hf : (List.range n).find? (fun j => againL ((List.range n).map (GN gs rows)) (j + 1)) = some (L - 1) := by
    rw [List.find?_range_eq_some]
    have hL := k.hL
    refine ⟨?_, List.mem_range.mpr (by omega), fun j hj => ?_⟩
    · rw [show L - 1 + 1 = L by omega]
      exact again_rep.mpr ((repOk_iff k.hL hle hn).mpr ⟨hd, k.least.2.1⟩)
    · cases h : againL ((List.range n).map (GN gs rows)) (j + 1) with
      | false => rfl
      | true => exact absurd ((repOk_iff (by omega) (by omega) hn).mp (again_rep.mp h)).2 (k.least.2.2 (j + 1) (by omega) (by omega))
  rw [← List.head?_filter] at hf
  cases e : (List.range n).filter fun j => againL ((List.range n).map (GN gs rows)) (j + 1) with
  | nil =>
    rw [e] at hf
    cases hf
  | cons x l =>
    rw [e] at hf
    obtain rfl := Option.some.inj hf
    have hL := k.hL
    show L - 1 + 1 = L
    omega
theorem Cnt.spots (k : Cnt gs rows cs B c L) (fr : Fair gs rows) {n : Nat} (hn : n ≤ L * B) : spotsL (gapsL gs rows (groupsP gs rows)) B n = (List.range n).filter (bor B c) := by
  obtain ⟨_, hle⟩ := k.size fr
  have hB := k.hB
  unfold spotsL
  refine List.filter_congr fun s hs => ?_
  have hs := List.mem_range.mp hs
  have hdiv : s / B < L := Nat.div_lt_of_lt_mul (by rw [Nat.mul_comm]; omega)
  unfold spotOk bor
  rw [gaps_GN fr, List.getD_eq_getElem?_getD, range_get (show s / B < groupsP gs rows by omega)]
  show decide (GN gs rows (s / B) ≤ ((s % B : Nat) : Int)) = _
  rw [k.eqG]
  by_cases h : c (s / B) ≤ s % B
  · rw [decide_eq_true h]
    exact decide_eq_true (by omega)
  · rw [decide_eq_false h]
    exact decide_eq_false (by omega)
theorem Cnt.below (k : Cnt gs rows cs B c L) (fr : Fair gs rows) : belowL (gapsL gs rows (groupsP gs rows)) B (L * B) = (List.range (L * B)).map (bel B c) := by
  unfold belowL
  refine List.map_congr_left fun s hs => ?_
  rw [k.spots fr (Nat.le_of_lt (List.mem_range.mp hs))]
  rfl
theorem Cnt.belN (k : Cnt gs rows cs B c L) : bel B c (L * B) = sumC B c L := by
  have hB := k.hB
  have h := bel_eq (B := B) (c := c) (by omega) (fun g => Nat.le_of_lt (k.lt g)) L 0 (Nat.zero_le _)
  rw [Nat.add_zero, Nat.zero_sub, Nat.add_zero] at h
  exact h
theorem Cnt.pos (k : Cnt gs rows cs B c L) : 1 ≤ sumC B c L := by
  have h := sumC_mono (B := B) (c := c) k.hL
  have h2 : sumC B c 1 = 0 + (B - c 0) := rfl
  have := k.lt 0
  omega
theorem Cnt.top (k : Cnt gs rows cs B c L) : sumC B c L ≤ L * B := by
  rw [← k.belN]
  unfold bel
  exact Nat.le_trans (List.length_filter_le _ _) (by rw [List.length_range]; exact Nat.le_refl _)
/-- places and frames of the house over a round -/
theorem Cnt.bel_split (k : Cnt gs rows cs B c L) (s : Nat) : bel B c s = s / (L * B) * sumC B c L + bel B c (s % (L * B)) ∧ bor B c s = bor B c (s % (L * B)) := by
  have hB := k.hB
  have h1 := bel_mul (B := B) (c := c) (by omega) (fun g => Nat.le_of_lt (k.lt g)) k.per (s / (L * B)) (s % (L * B))
  have h2 := bor_mul (B := B) (c := c) (by omega) k.per (s / (L * B)) (s % (L * B))
  rw [Nat.mod_add_div] at h1 h2
  refine ⟨?_, h2⟩
  rw [h1, Nat.mul_comm (sumC B c L)]
  omega
theorem Cnt.spot (k : Cnt gs rows cs B c L) {s : Nat} (hs : bor B c s = true) : ∃ q, ((List.range (L * B)).filter (bor B c))[bel B c s % sumC B c L]? = some q ∧ bel B c s / sumC B c L * (L * B) + q = s := by
  have hB := k.hB
  have hLB : 0 < L * B := Nat.mul_pos k.hL (by omega)
  obtain ⟨e1, e2⟩ := k.bel_split s
  have hm := Nat.mod_lt s hLB
  have hq := spot_get (e2 ▸ hs) hm
  have hlt : bel B c (s % (L * B)) < sumC B c L := by
    rw [← k.belN]
    exact bel_lt (e2 ▸ hs) hm
  have d1 : bel B c s / sumC B c L = s / (L * B) := by
    rw [e1, Nat.mul_comm, Nat.mul_add_div k.pos, Nat.div_eq_of_lt hlt, Nat.add_zero]
  have d2 : bel B c s % sumC B c L = bel B c (s % (L * B)) := by
    rw [e1, Nat.mul_comm, Nat.mul_add_mod, Nat.mod_eq_of_lt hlt]
  refine ⟨s % (L * B), ?_, ?_⟩
  · rw [d2]
    exact hq
  · rw [d1, Nat.mul_comm]
    exact Nat.div_add_mod s (L * B)
end
end LM

set_option Elab.async false
set_option linter.all false
set_option maxRecDepth 100000
set_option maxHeartbeats 4000000
set_option pp.maxSteps 600
set_option pp.deepTerms false
namespace LM
open PySem PySem.Spec PyProof.Rows L2
local macro_rules | `(tactic| walk_at "hp") => `(tactic| first | assumption | exact upd_same | (rw [upd_ne (by assumption)]; assumption) | (rw [upd_ne (Ne.symm (by assumption))]; assumption) | (rw [upd_ne (by assumption)]; exact upd_same) | (rw [upd_ne (Ne.symm (by assumption))]; exact upd_same))
local macro_rules | `(tactic| walk_at "sq") => `(tactic| first | assumption | exact Or.inl (Or.inl (by assumption)) | exact Or.inl (Or.inl upd_same) | exact Or.inl (Or.inl (by walk_at "hp")))
local macro_rules | `(tactic| walk_at "ixl") => `(tactic| refine ⟨_, _, _, _, rfl, rfl, (by walk_at "sq"), (by rfl), ?_⟩)
local macro_rules | `(tactic| walk_at "setl") => `(tactic| refine ⟨_, _, _, _, rfl, rfl, (by walk_at "hp"), (by rfl), ?_⟩)
local macro_rules | `(tactic| walk_at "side") => `(tactic| refine idP ?_; first | omega | (show (0 : Int) < _; omega) | (show (0 : Int) < _ ∧ _ < _; omega) | (refine Or.inr ?_; show (-(2 ^ 64) : Int) < _ ∧ _ < _; omega) | (refine Or.inl ?_; show (-(2 ^ 64) : Int) < _ ∧ _ < _; omega) | exact divW (by omega) (by omega) _ | (refine ⟨by decide, by decide, ?_⟩; decide))
local macro_rules | `(tactic| walk_at "go1") => `(tactic| first
  | refine ⟨_, rfl, ?_⟩
  | refine ⟨_, _, rfl, rfl, (by walk_at "side"), ?_⟩
  | refine ⟨_, _, rfl, (by walk_at "side"), ?_⟩
  | refine ⟨_, _, rfl, rfl, ?_⟩
  | refine Or.inl ⟨_, rfl, ?_⟩
  | refine ⟨_, _, rfl, Or.inl (by walk_at "sq"), ?_⟩
  | walk_at "ixl"
  | walk_at "setl"
  | refine ⟨_, _, rfl, (by walk_at "sq"), rfl, ?_⟩
  | refine ⟨_, _, rfl, (by walk_at "sq"), ?_⟩
  | refine ⟨_, _, rfl, ?_⟩
  | refine ⟨rfl, ?_⟩
  | refine ⟨small (Nat.le_of_ble_eq_true rfl), ?_⟩)
local macro_rules | `(tactic| walk_at "go") => `(tactic| repeat walk_at "go1")

abbrev sis_way : Stmt := topS 19
theorem scis_way : FnScope ["value"] ["value"] (defScope sis_way) := ⟨rfl, rfl, rfl, by decide +kernel, rfl, by decide +kernel, by decide +kernel⟩
abbrev scheck_way : Stmt := topS 20
theorem sccheck_way : FnScope ["given"] ["given"] (defScope scheck_way) := ⟨rfl, rfl, rfl, by decide +kernel, rfl, by decide +kernel, by decide +kernel⟩
abbrev sHouse_first_frame : Stmt := inClass (topS 53) 13
theorem scHouse_first_frame : FnScope ["self", "group", "groups", "frames", "rounds", "rest"] ["self", "group"] (defScope sHouse_first_frame) := ⟨rfl, rfl, rfl, by decide +kernel, rfl, by decide +kernel, by decide +kernel⟩
abbrev sHouse_frame_bearing : Stmt := inClass (topS 53) 15
theorem scHouse_frame_bearing : FnScope ["self", "place", "group", "number", "behind"] ["self", "place"] (defScope sHouse_frame_bearing) := ⟨rfl, rfl, rfl, by decide +kernel, rfl, by decide +kernel, by decide +kernel⟩
abbrev sHouse_at : Stmt := inClass (topS 53) 10
theorem scHouse_at : FnScope ["self", "place", "way", "frame", "following"] ["self", "place", "way"] (defScope sHouse_at) := ⟨rfl, rfl, rfl, by decide +kernel, rfl, by decide +kernel, by decide +kernel⟩
def wayS (nx : Bool) : Str := if nx then "next" else "last"
def wayStr (x : Str) : Bool := (x == "next") || (x == "last")
def spIsWay : Sp := fun vs H Q _ => ∃ x : Str, vs = [.str x] ∧ ∀ H', Same H H' → Q (.bl (wayStr x)) H'
def spWay : Sp := fun vs H Q _ => ∃ nx : Bool, vs = [.str (wayS nx)] ∧ ∀ H', Same H H' → Q .non H'
/-- what is told of a place -/
def atO (B : Nat) (c : Nat → Nat) (s : Nat) (nx : Bool) : Option Int := if bor B c s = true then some (bel B c s : Int) else if nx = true then some (bel B c s : Int) else if 0 < bel B c s then some ((bel B c s : Int) - 1) else none
def bearO (B : Nat) (c : Nat → Nat) (s : Nat) : Option Int := if bor B c s = true then some (bel B c s : Int) else none
/-- a house at p, by its counts -/
def HouseBy (K : PySem.W.Frag) (C : Addr) (old : Addr → Prop) (H : Hp) (p b r : Addr) (bs : List Int) (rows : List R3) (cs : List Int) (B : Nat) (c : Nat → Nat) (L : Nat) : Prop := HouseAt K C old H p b r bs rows cs ∧ Cnt bs rows cs B c L
theorem HouseAt.by {K : PySem.W.Frag} {C : Addr} {old : Addr → Prop} {H : Hp} {p b r : Addr} {bs : List Int} {rows : List R3} {cs : List Int} (h : HouseAt K C old H p b r bs rows cs) : HouseBy K C old H p b r bs rows cs (bs.getLastD 1).toNat (cN bs rows) cs.length := ⟨h, cnt_of h.fair h.rep⟩
theorem hf_ff (b r sk ah rd : Addr) (t : Str) : (hf b r sk ah rd t).lookup ("_first_frame" : Str) = none := hf_no _ _ _ _ _ _ (by decide +kernel) (by decide +kernel) (by decide +kernel) (by decide +kernel) (by decide +kernel) (by decide +kernel)
theorem hf_fb (b r sk ah rd : Addr) (t : Str) : (hf b r sk ah rd t).lookup ("_frame_bearing" : Str) = none := hf_no _ _ _ _ _ _ (by decide +kernel) (by decide +kernel) (by decide +kernel) (by decide +kernel) (by decide +kernel) (by decide +kernel)
theorem hf_at (b r sk ah rd : Addr) (t : Str) : (hf b r sk ah rd t).lookup ("at" : Str) = none := hf_no _ _ _ _ _ _ (by decide +kernel) (by decide +kernel) (by decide +kernel) (by decide +kernel) (by decide +kernel) (by decide +kernel)
def spFirst (K : PySem.W.Frag) (C : Addr) : Sp := fun vs H Q _ => ∃ (old : Addr → Prop) (p b r : Addr) (bs : List Int) (rows : List R3) (cs : List Int) (B : Nat) (c : Nat → Nat) (L g : Nat), vs = [.ref p, .int (g : Int)] ∧ HouseBy K C old H p b r bs rows cs B c L ∧ ∀ H', Same H H' → Q (.int ((sumC B c g : Nat) : Int)) H'
def spBear (K : PySem.W.Frag) (C : Addr) : Sp := fun vs H Q _ => ∃ (old : Addr → Prop) (p b r : Addr) (bs : List Int) (rows : List R3) (cs : List Int) (B : Nat) (c : Nat → Nat) (L s : Nat), vs = [.ref p, .int (s : Int)] ∧ HouseBy K C old H p b r bs rows cs B c L ∧ ∀ H', Same H H' → Q (optV (bearO B c s)) H'
def spAt (K : PySem.W.Frag) (C : Addr) : Sp := fun vs H Q _ => ∃ (old : Addr → Prop) (p b r : Addr) (bs : List Int) (rows : List R3) (cs : List Int) (B : Nat) (c : Nat → Nat) (L s : Nat) (nx : Bool), vs = [.ref p, .int (s : Int), .str (wayS nx)] ∧ HouseBy K C old H p b r bs rows cs B c L ∧ ∀ H', Same H H' → Q (optV (atO B c s nx)) H'
section
variable {P : Program} {w : World} {K : PySem.W.Frag} {mg : Str → Option Value} {base : Heap}
theorem ok_isway {f : Addr} {fd : FuncData} (F : Fun K "is_way" "is_way" sis_way f fd) (N : Names mg) : FnOk P w K mg base CX0 1 f fd ["value"] spIsWay := by
  have sc := scis_way
  refine F.ok sc (fun vs H Q E h => ?_) (fun cdv A outer s H vs Q E hr h => ?_)
  · obtain ⟨x, rfl, _⟩ := h
    rfl
  · obtain ⟨x, rfl, k⟩ := h
    refine ⟨_, (pss_one (ps_ret (pe_and (pe_callB call_isi (by rfl) N.isinstance (by decide +kernel) (pa_cons (pv 0) (pa_cons (pe_ty "str" rfl N.str (by decide +kernel)) pa_nil))) (pe_one (pe_cmpR op_in_seq (pv 0) (pe_tup (pa_cons pe_str (pa_cons pe_str pa_nil))) (by rfl)))))), ?_⟩
    refine ⟨_, rfl, _, _, _, _, _, rfl, .ty _, .base (.str x), kit_ty (r := true) (by decide +kernel), _, rfl, ?_⟩
    refine iteT ?_
    refine ⟨_, rfl, Nat.le_of_ble_eq_true rfl, ?_⟩
    (intro q nq; generalize e_q : upd H q _ = H1; have s1 : Same H H1 := fun b x hb => (congrFun e_q b).symm.trans (same_new nq b x hb); have h1 := (congrFun e_q q).symm.trans upd_same; clear e_q)
    refine ⟨q, _, rfl, .inr (SqT.tup h1), rfl, rfl, ?_⟩
    have e : inV (.str x) [.str "next", .str "last"] = wayStr x := by
      show (("next" : Str) == x || (("last" : Str) == x || false)) = ((x == "next") || (x == "last"))
      rw [Bool.or_false, Bool.beq_comm (a := ("next" : Str)), Bool.beq_comm (a := ("last" : Str))]
    rw [if_neg Bool.false_ne_true, e]
    exact k _ s1
theorem ok_way {f : Addr} {fd : FuncData} (F : Fun K "check_way" "check_way" scheck_way f fd) (Dis_way : DefK P w K mg base "is_way" ["value"] 1 spIsWay) : FnOk P w K mg base CX0 2 f fd ["given"] spWay := by
  have sc := sccheck_way
  refine F.ok sc (fun vs H Q E h => ?_) (fun cdv A outer s H vs Q E hr h => ?_)
  · obtain ⟨nx, rfl, _⟩ := h
    rfl
  · obtain ⟨nx, rfl, k⟩ := h
    refine ⟨_, (pss_one (ps_if (pt_not (pt_val (pe_d Dis_way (hr.mono (by decide)) rfl (pa_cons (pv 0) pa_nil)))) (pss_one ps_never) pss_nil)), ?_⟩
    refine ⟨_, rfl, _, rfl, fun H1 s1 => ?_⟩
    have e : wayStr (wayS nx) = true := by cases nx <;> decide +kernel
    rw [e]
    refine ⟨_, rfl, ?_⟩
    exact iteF (k _ s1)
theorem ok_first {f C : Addr} {fd : FuncData} (F : Fun K "_first_frame" "House._first_frame" sHouse_first_frame f fd) (T : HouseTxt K mg C) (N : Names mg) : FnOk P w K mg base CX0 1 f fd ["self", "group"] (spFirst K C) := by
  have sc := scHouse_first_frame
  refine F.ok sc (fun vs H Q E h => ?_) (fun cdv A outer s H vs Q E hr h => ?_)
  · obtain ⟨old, p, b, r, bs, rows, cs, B, c, L, g, rfl, _⟩ := h
    rfl
  · obtain ⟨old, p, b, r, bs, rows, cs, B, c, L, g, rfl, ⟨⟨⟨dx, sk, ah, rd, e1, e2, e3, e4, _, _⟩, bt, rt, fr, _⟩, ct⟩, k⟩ := h
    refine ⟨_, (pss_cons (ps_asg (pe_fld (pv 0) rfl) (pg_tup rfl (pgs_cons (pg_name (i := 2) sc.nd rfl (Or.inl rfl)) (pgs_cons (pg_name (i := 3) sc.nd rfl (Or.inl rfl)) pgs_nil))))
      (pss_cons (ps_asg (pe_callB call_divmod (by rfl) N.divmod (by decide +kernel) (pa_cons (pv 1) (pa_cons (pv 2) pa_nil))) (pg_tup rfl (pgs_cons (pg_name (i := 4) sc.nd rfl (Or.inl rfl)) (pgs_cons (pg_name (i := 5) sc.nd rfl (Or.inl rfl)) pgs_nil))))
      (pss_one (ps_ret (pe_op op_add (pe_op op_mul (pv 4) (pv 3)) (pe_ix ix_list (pe_fld (pv 0) rfl) (pv 5) (fun _ _ => rfl))))))), ?_⟩
    rw [ct.total, ct.len] at e4
    have hL := ct.hL
    have hL7 := ct.hL7
    have hpos := ct.pos
    have htop := ct.top
    have hLB : L * B ≤ 7200 * 60 := Nat.mul_le_mul hL7 ct.hB6
    refine ⟨_, rfl, p, C, dx, _, _, rfl, e1, T.cl, T.nD, hf_round _ _ _ _ _ _, rd, _, rfl, SqT.tup e4, rfl, _, _, rfl, _, _, rfl, rfl, ?_⟩
    refine ⟨_, rfl, _, rfl, _, _, rfl, ⟨by omega, by omega⟩, ?_⟩
    (intro q nq; generalize e_q : upd H q _ = H1; have s1 : Same H H1 := fun b x hb => (congrFun e_q b).symm.trans (same_new nq b x hb); have h1 := (congrFun e_q q).symm.trans upd_same; clear e_q)
    refine ⟨q, _, rfl, SqT.tup h1, rfl, _, _, rfl, _, _, rfl, rfl, ?_⟩
    have hm : g % L < L := Nat.mod_lt _ hL
    have hlen : (sumsP (borneP bs cs)).length = L := by rw [sumsP_len, borneP_len, ct.len]
    refine ⟨_, rfl, _, rfl, _, _, rfl, rfl, .inr ⟨by omega, by omega⟩, _, rfl, p, C, dx, _, _, rfl, s1 _ _ e1, T.cl, T.nA, hf_ahead _ _ _ _ _ _, _, rfl, ah, _, _, _, rfl, rfl, SqL.lst (s1 _ _ e3), atI_getD (by omega) (by rw [hlen]; omega), _, _, rfl, rfl, ?_⟩
    have e : (g : Int) / (L : Int) * ((sumC B c L : Nat) : Int) + (sumsP (borneP bs cs)).getD ((g : Int) % (L : Int)).toNat 0 = ((sumC B c g : Nat) : Int) := by
      rw [← Int.natCast_emod, Int.toNat_natCast, ct.ahead hm, ← Int.natCast_ediv, ← Int.natCast_mul]
      have h1 := sumC_mul (B := B) ct.per (g / L) (g % L)
      rw [Nat.mod_add_div] at h1
      rw [h1, Nat.mul_comm (sumC B c L)]
      omega
    show Q (V.int ((g : Int) / (L : Int) * ((sumC B c L : Nat) : Int) + (sumsP (borneP bs cs)).getD ((g : Int) % (L : Int)).toNat 0)) H1
    rw [e]
    exact k _ s1
theorem ok_bear {f C fF : Addr} {fd fdF : FuncData} (F : Fun K "_frame_bearing" "House._frame_bearing" sHouse_frame_bearing f fd) (T : HouseTxt K mg C) (N : Names mg) (mF : Meth K C "_first_frame" fF) (GF : FnOk P w K mg base CX0 1 fF fdF ["self", "group"] (spFirst K C)) (bF : Binds K fdF ["self", "group"] []) :
    FnOk P w K mg base CX0 2 f fd ["self", "place"] (spBear K C) := by
  have sc := scHouse_frame_bearing
  refine F.ok sc (fun vs H Q E h => ?_) (fun cdv A outer s H vs Q E hr h => ?_)
  · obtain ⟨old, p, b, r, bs, rows, cs, B, c, L, x, rfl, _⟩ := h
    rfl
  · obtain ⟨old, p, b, r, bs, rows, cs, B, c, L, x, rfl, hB, k⟩ := h
    refine ⟨_, (pss_cons (ps_asg (pe_callB call_divmod (by rfl) N.divmod (by decide +kernel) (pa_cons (pv 1) (pa_cons (pe_ix ix_tup (pe_fld (pv 0) rfl) (pe_un un_neg pe_int) (fun _ _ => rfl)) pa_nil))) (pg_tup rfl (pgs_cons (pg_name (i := 2) sc.nd rfl (Or.inl rfl)) (pgs_cons (pg_name (i := 3) sc.nd rfl (Or.inl rfl)) pgs_nil))))
      (pss_cons (ps_set (i := 4) sc.nd rfl (Or.inl rfl) (pe_op op_sub (pv 3) (pe_ix ix_list (pe_fld (pv 0) rfl) (pe_op op_mod (pv 2) (pe_ix ix_tup (pe_fld (pv 0) rfl) pe_int (fun _ _ => rfl))) (fun _ _ => rfl))))
      (pss_one (ps_ret (pe_ifExp (pt_cmpR op_ge (pv 4) pe_int (nomark _)) (pe_op op_add (pe_meth (pv 0) T.cl mF GF (hr.mono (by decide)) bF .nil pass0 (pa_cons (pv 2) pa_nil)) (pv 4)) pe_non))))), ?_⟩
    obtain ⟨hA, ct⟩ := id hB
    obtain ⟨⟨dx, sk, ah, rd, e1, e2, e3, e4, _, _⟩, bt, rt, fr, _⟩ := id hA
    rw [ct.total, ct.len] at e4
    have hL := ct.hL
    have hL7 := ct.hL7
    have hB2 := ct.hB
    have hB6 := ct.hB6
    refine ⟨_, rfl, _, rfl, p, C, dx, _, _, rfl, e1, T.cl, T.nB, hf_bases _ _ _ _ _ _, _, rfl, b, _, _, _, rfl, rfl, bt, getLastD_map bs fr.b0, _, _, rfl, ?_⟩
    rw [ct.last]
    refine ⟨⟨by omega, by omega⟩, ?_⟩
    (intro q nq; generalize e_q : upd H q _ = H1; have s1 : Same H H1 := fun b x hb => (congrFun e_q b).symm.trans (same_new nq b x hb); have h1 := (congrFun e_q q).symm.trans upd_same; clear e_q)
    refine ⟨q, _, rfl, SqT.tup h1, rfl, _, _, rfl, _, _, rfl, rfl, ?_⟩
    have e1' := s1 _ _ e1
    have e2' := s1 _ _ e2
    have e4' := s1 _ _ e4
    have hm : x / B % L < L := Nat.mod_lt _ hL
    have hsk : atI (cs.map V.int) ((x : Int) / (B : Int) % (L : Int)) = some (V.int ((c (x / B) : Nat) : Int)) := by
      have h1 := c_mul ct.per (x / B / L) (x / B % L)
      rw [Nat.mod_add_div] at h1
      rw [← Int.natCast_ediv, ← Int.natCast_emod, atI_getD (by omega) (by rw [ct.len]; omega), Int.toNat_natCast, ct.skipped hm, h1]
    refine ⟨_, rfl, _, rfl, p, C, dx, _, _, rfl, e1', T.cl, T.nS, hf_skipped _ _ _ _ _ _, _, rfl, _, rfl, p, C, dx, _, _, rfl, e1', T.cl, T.nD, hf_round _ _ _ _ _ _, rd, _, _, _, rfl, rfl, SqT.tup e4', rfl, _, _, rfl, rfl, (by show (0 : Int) < _; omega), sk, _, _, _, rfl, rfl, SqL.lst e2', hsk, _, _, rfl, rfl, ?_⟩
    have hc := ct.lt (x / B)
    have hxB := Nat.mod_lt x (show 0 < B by omega)
    have hbel := bel_at (B := B) (c := c) (by omega) (fun g => Nat.le_of_lt (ct.lt g)) x
    refine ⟨_, rfl, _, _, rfl, rfl, _, rfl, ?_⟩
    refine ifD (fun hd => ?_) (fun hd => ?_)
    · have hd' : c (x / B) ≤ x % B := by rw [← Int.natCast_emod] at hd; omega
      refine ⟨_, rfl, p, dx, _, rfl, e1', hf_ff _ _ _ _ _ _, _, rfl, old, p, b, r, bs, rows, cs, B, c, L, x / B, (by rw [Int.natCast_ediv]; rfl), ⟨hA.same s1, ct⟩, fun H2 s2 => ⟨_, rfl, _, _, rfl, rfl, ?_⟩⟩
      have e : bearO B c x = some (((sumC B c (x / B) : Nat) : Int) + ((x : Int) % (B : Int) - ((c (x / B) : Nat) : Int))) := by
        unfold bearO bor
        rw [decide_eq_true hd', if_pos rfl, hbel, ← Int.natCast_emod]
        refine congrArg some ?_
        omega
      have := k H2 (s1.trans s2)
      rw [e] at this
      exact this
    · have hd' : ¬ c (x / B) ≤ x % B := by rw [← Int.natCast_emod] at hd; omega
      have e : bearO B c x = none := by
        unfold bearO bor
        rw [decide_eq_false hd', if_neg Bool.false_ne_true]
      have := k H1 s1
      rw [e] at this
      exact this
theorem ok_at {f C fF fB : Addr} {fd fdF fdB : FuncData} (F : Fun K "at" "House.at" sHouse_at f fd) (T : HouseTxt K mg C) (N : Names mg) (Dcheck_number : DefK P w K mg base "check_number" ["given"] 3 spChkNum) (Dcheck_way : DefK P w K mg base "check_way" ["given"] 2 spWay)
    (mF : Meth K C "_first_frame" fF) (GF : FnOk P w K mg base CX0 1 fF fdF ["self", "group"] (spFirst K C)) (bF : Binds K fdF ["self", "group"] [])
    (mB : Meth K C "_frame_bearing" fB) (GB : FnOk P w K mg base CX0 2 fB fdB ["self", "place"] (spBear K C)) (bB : Binds K fdB ["self", "place"] []) : FnOk P w K mg base CX0 4 f fd ["self", "place", "way"] (spAt K C) := by
  have sc := scHouse_at
  refine F.ok sc (fun vs H Q E h => ?_) (fun cdv A outer s H vs Q E hr h => ?_)
  · obtain ⟨old, p, b, r, bs, rows, cs, B, c, L, x, nx, rfl, _⟩ := h
    rfl
  · obtain ⟨old, p, b, r, bs, rows, cs, B, c, L, x, nx, rfl, hB, k⟩ := h
    refine ⟨_, (pss_cons (ps_expr (pe_d Dcheck_number (hr.mono (by decide)) rfl (pa_cons (pv 1) pa_nil)))
      (pss_cons (ps_expr (pe_d Dcheck_way (hr.mono (by decide)) rfl (pa_cons (pv 2) pa_nil)))
      (pss_cons (ps_set (i := 3) sc.nd rfl (Or.inl rfl) (pe_meth (pv 0) T.cl mB GB (hr.mono (by decide)) bB .nil pass0 (pa_cons (pv 1) pa_nil)))
      (pss_cons (ps_if (pt_cmpR op_notN (pv 3) pe_non (nomark _)) (pss_one (ps_ret (pv 3))) pss_nil)
      (pss_cons (ps_set (i := 4) sc.nd rfl (Or.inl rfl) (pe_meth (pv 0) T.cl mF GF (hr.mono (by decide)) bF .nil pass0 (pa_cons (pe_op op_fdiv (pv 1) (pe_ix ix_tup (pe_fld (pv 0) rfl) (pe_un un_neg pe_int) (fun _ _ => rfl))) pa_nil)))
      (pss_cons (ps_if (pt_cmpR op_eq (pv 2) pe_str (nomark _)) (pss_one (ps_ret (pv 4))) pss_nil)
      (pss_one (ps_ret (pe_ifExp (pt_cmpR op_gt (pv 4) pe_int (nomark _)) (pe_op op_sub (pv 4) pe_int) pe_non))))))))), ?_⟩
    obtain ⟨hA, ct⟩ := id hB
    obtain ⟨⟨dx, sk, ah, rd, e1, e2, e3, e4, _, _⟩, bt, rt, fr, _⟩ := id hA
    have hB2 := ct.hB
    have hB6 := ct.hB6
    refine ⟨_, rfl, _, rfl, by omega, ?_⟩
    refine ⟨_, rfl, nx, rfl, fun H1 s1 => ?_⟩
    refine ⟨_, rfl, p, dx, _, rfl, s1 _ _ e1, hf_fb _ _ _ _ _ _, _, rfl, old, p, b, r, bs, rows, cs, B, c, L, x, rfl, ⟨hA.same s1, ct⟩, fun H2 s2 => ?_⟩
    have s12 := s1.trans s2
    have hbel := bel_at (B := B) (c := c) (by omega) (fun g => Nat.le_of_lt (ct.lt g)) x
    refine ⟨_, rfl, rfl, _, rfl, ?_⟩
    by_cases hbo : bor B c x = true
    · have e0 : bearO B c x = some ((bel B c x : Nat) : Int) := if_pos hbo
      have e9 : atO B c x nx = some ((bel B c x : Nat) : Int) := if_pos hbo
      have kk := k H2 s12
      rw [e9] at kk
      rw [e0]
      refine ifN (fun _ => ⟨_, rfl, kk⟩) (fun hd => nomatch hd)
    · have e0 : bearO B c x = none := if_neg hbo
      have e9 : atO B c x nx = if nx = true then some ((bel B c x : Nat) : Int) else if 0 < bel B c x then some (((bel B c x : Nat) : Int) - 1) else none := if_neg hbo
      rw [e0]
      refine ifN (fun hd => absurd rfl hd) (fun _ => ?_)
      have hbel2 : bel B c x = sumC B c (x / B) := by
        unfold bor at hbo
        have : ¬ c (x / B) ≤ x % B := fun z => hbo (decide_eq_true z)
        omega
      refine ⟨_, rfl, p, dx, _, rfl, s12 _ _ e1, hf_ff _ _ _ _ _ _, _, rfl, _, rfl, p, C, dx, _, _, rfl, s12 _ _ e1, T.cl, T.nB, hf_bases _ _ _ _ _ _, _, rfl, b, _, _, _, rfl, rfl, Same.seqT s12 bt, getLastD_map bs fr.b0, _, _, rfl, rfl, (by rw [ct.last]; exact ⟨by omega, by omega⟩), ?_⟩
      refine ⟨old, p, b, r, bs, rows, cs, B, c, L, x / B, (by rw [ct.last, Int.natCast_ediv]; rfl), ⟨hA.same s12, ct⟩, fun H3 s3 => ?_⟩
      have s13 := s12.trans s3
      have kk := k H3 s13
      rw [e9] at kk
      rw [← hbel2]
      refine ⟨_, rfl, rfl, _, rfl, ?_⟩
      cases nx with
      | true =>
        rw [if_pos rfl] at kk
        exact ifD (fun _ => ⟨_, rfl, kk⟩) (fun hd => absurd rfl hd)
      | false =>
        rw [if_neg Bool.false_ne_true] at kk
        refine ifD (fun hd => absurd (V.str.inj hd) (by decide +kernel)) (fun _ => ?_)
        refine ⟨_, rfl, _, _, rfl, rfl, _, rfl, ?_⟩
        refine ifD (fun hd => ?_) (fun hd => ?_)
        · have hd' : 0 < bel B c x := by omega
          rw [if_pos hd'] at kk
          exact ⟨_, rfl, _, _, rfl, rfl, kk⟩
        · have hd' : ¬ 0 < bel B c x := by omega
          rw [if_neg hd'] at kk
          exact kk
end
end LM

set_option Elab.async false
set_option linter.all false
set_option maxRecDepth 100000
set_option maxHeartbeats 4000000
set_option pp.maxSteps 600
set_option pp.deepTerms false
namespace LM
open PySem PySem.Spec PyProof.Rows L2
local macro_rules | `(tactic| walk_at "hp") => `(tactic| first | assumption | exact upd_same | (rw [upd_ne (by assumption)]; assumption) | (rw [upd_ne (Ne.symm (by assumption))]; assumption) | (rw [upd_ne (by assumption)]; exact upd_same) | (rw [upd_ne (Ne.symm (by assumption))]; exact upd_same))
local macro_rules | `(tactic| walk_at "sq") => `(tactic| first | assumption | exact Or.inl (Or.inl (by assumption)) | exact Or.inl (Or.inl upd_same) | exact Or.inl (Or.inl (by walk_at "hp")))
local macro_rules | `(tactic| walk_at "ixl") => `(tactic| refine ⟨_, _, _, _, rfl, rfl, (by walk_at "sq"), (by rfl), ?_⟩)
local macro_rules | `(tactic| walk_at "setl") => `(tactic| refine ⟨_, _, _, _, rfl, rfl, (by walk_at "hp"), (by rfl), ?_⟩)
local macro_rules | `(tactic| walk_at "side") => `(tactic| refine idP ?_; first | omega | (show (0 : Int) < _; omega) | (show (0 : Int) < _ ∧ _ < _; omega) | (refine Or.inr ?_; show (-(2 ^ 64) : Int) < _ ∧ _ < _; omega) | (refine Or.inl ?_; show (-(2 ^ 64) : Int) < _ ∧ _ < _; omega) | exact divW (by omega) (by omega) _ | (refine ⟨by decide, by decide, ?_⟩; decide))
local macro_rules | `(tactic| walk_at "go1") => `(tactic| first
  | refine ⟨_, rfl, ?_⟩
  | refine ⟨_, _, rfl, rfl, (by walk_at "side"), ?_⟩
  | refine ⟨_, _, rfl, (by walk_at "side"), ?_⟩
  | refine ⟨_, _, rfl, rfl, ?_⟩
  | refine Or.inl ⟨_, rfl, ?_⟩
  | refine ⟨_, _, rfl, Or.inl (by walk_at "sq"), ?_⟩
  | walk_at "ixl"
  | walk_at "setl"
  | refine ⟨_, _, rfl, (by walk_at "sq"), rfl, ?_⟩
  | refine ⟨_, _, rfl, (by walk_at "sq"), ?_⟩
  | refine ⟨_, _, rfl, ?_⟩
  | refine ⟨rfl, ?_⟩
  | refine ⟨small (Nat.le_of_ble_eq_true rfl), ?_⟩)
local macro_rules | `(tactic| walk_at "go") => `(tactic| repeat walk_at "go1")

def natL (l : List Nat) : List V := l.map fun k => V.int ((k : Nat) : Int)
/-- the law's own house, by its counts -/
def HomeBy (old : Addr → Prop) (H : Hp) (d g l : Addr) (B : Nat) (c : Nat → Nat) (L : Nat) : Prop := ∃ (n : V) (sp be : Addr), H d = some (.dK [(Sum.inr "ground", .ref g), (Sum.inr "lanes", .ref l), (Sum.inr "groups", n), (Sum.inr "spots", .ref sp), (Sum.inr "below", .ref be)]) ∧
  H sp = some (.lst (natL ((List.range (L * B)).filter (bor B c)))) ∧ H be = some (.lst (natL ((List.range (L * B)).map (bel B c)))) ∧ ¬ old sp ∧ ¬ old be
theorem HomeAt.by {old : Addr → Prop} {H : Hp} {d g l : Addr} {gs : List Int} {rows : List R3} {cs : List Int} {B : Nat} {c : Nat → Nat} {L : Nat} (h : HomeAt old H d g l gs rows) (k : Cnt gs rows cs B c L) (fr : Fair gs rows) : HomeBy old H d g l B c L := by
  obtain ⟨s, b, cs', n, e1, e2, e3, e4, e5, e6, e7⟩ := h
  have eb : (gs.getLastD 1).toNat = B := by have := k.last; omega
  have e3' : cs' = gapsL gs rows (groupsP gs rows) := by rw [e3, e2]; rfl
  rw [eb, e3', (k.size fr).1] at e4 e5
  rw [k.spots fr (Nat.le_refl _)] at e4
  rw [k.below fr] at e5
  exact ⟨_, s, b, e1, e4, e5, e6, e7⟩
theorem HomeBy.same {old : Addr → Prop} {H H' : Hp} {d g l : Addr} {B : Nat} {c : Nat → Nat} {L : Nat} (h : HomeBy old H d g l B c L) (s : Same H H') : HomeBy old H' d g l B c L := by
  obtain ⟨n, sp, be, e1, e2, e3, e4, e5⟩ := h
  exact ⟨n, sp, be, s _ _ e1, s _ _ e2, s _ _ e3, e4, e5⟩
theorem HomeBy.els {old : Addr → Prop} {H H' : Hp} {d g l q : Addr} {B : Nat} {c : Nat → Nat} {L : Nat} (h : HomeBy old H d g l B c L) (hd : d ≠ q) (hq : old q) (e : Else q H H') : HomeBy old H' d g l B c L := by
  obtain ⟨n, sp, be, e1, e2, e3, e4, e5⟩ := h
  exact ⟨n, sp, be, e _ _ hd e1, e _ _ (fun z => e4 (z ▸ hq)) e2, e _ _ (fun z => e5 (z ▸ hq)) e3, e4, e5⟩
theorem natL_len (l : List Nat) : (natL l).length = l.length := List.length_map ..
theorem natL_flat : ∀ l : List Nat, (natL l).all flatV = true
  | [] => rfl
  | _ :: l => natL_flat l
theorem natL_in (i : Nat) : ∀ l : List Nat, inV (.int (i : Int)) (natL l) = decide (i ∈ l)
  | [] => rfl
  | k :: l => by
    have h := natL_in i l
    show (eqV (.int ((k : Nat) : Int)) (.int (i : Int)) || inV (.int (i : Int)) (natL l)) = _
    rw [h]
    by_cases hk : i = k
    · subst hk
      simp [eqV]
    · have : ¬ ((k : Nat) : Int) = (i : Int) := by omega
      simp [eqV, hk, this]
theorem natL_at {l : List Nat} {i : Nat} {x : Nat} (h : l[i]? = some x) : atI (natL l) ((i : Nat) : Int) = some (V.int (x : Int)) := by
  refine atI_nat ?_
  unfold natL
  rw [List.getElem?_map, h]
  rfl
def nearI (B : Nat) (c : Nat → Nat) (s : Nat) (nx : Bool) : Int := if nx = true ∨ bor B c s = true then (bel B c s : Int) else (bel B c s : Int) - 1
def spNear : Sp := fun vs H Q _ => ∃ (old : Addr → Prop) (d g l : Addr) (gs : List Int) (rows : List R3) (cs : List Int) (B : Nat) (c : Nat → Nat) (L s : Nat) (nx : Bool), vs = [.ref d, .int (s : Int), .str (wayS nx)] ∧ HomeBy old H d g l B c L ∧ Cnt gs rows cs B c L ∧ ∀ H', Same H H' → Q (.int (nearI B c s nx)) H'
def spSpot : Sp := fun vs H Q _ => ∃ (old : Addr → Prop) (d g l : Addr) (gs : List Int) (rows : List R3) (cs : List Int) (B : Nat) (c : Nat → Nat) (L s : Nat), vs = [.ref d, .int ((bel B c s : Nat) : Int)] ∧ HomeBy old H d g l B c L ∧ Cnt gs rows cs B c L ∧ bor B c s = true ∧ ∀ H', Same H H' → Q (.int (s : Int)) H'
section
variable {P : Program} {w : World} {K : PySem.W.Frag} {mg : Str → Option Value} {base : Heap}
end
end LM

set_option Elab.async false
set_option linter.all false
set_option maxRecDepth 100000
set_option maxHeartbeats 1000000
set_option pp.maxSteps 600
set_option pp.deepTerms false
namespace LM
open PySem PySem.Spec PyProof.Rows L2 RZ
local macro_rules | `(tactic| walk_at "hp") => `(tactic| first | assumption | exact upd_same | (rw [upd_ne (by assumption)]; assumption) | (rw [upd_ne (Ne.symm (by assumption))]; assumption) | (rw [upd_ne (by assumption)]; exact upd_same) | (rw [upd_ne (Ne.symm (by assumption))]; exact upd_same))
local macro_rules | `(tactic| walk_at "sq") => `(tactic| first | assumption | exact Or.inl (Or.inl (by assumption)) | exact Or.inl (Or.inl upd_same) | exact Or.inl (Or.inl (by walk_at "hp")))
local macro_rules | `(tactic| walk_at "ixl") => `(tactic| refine ⟨_, _, _, _, rfl, rfl, (by walk_at "sq"), (by rfl), ?_⟩)
local macro_rules | `(tactic| walk_at "setl") => `(tactic| refine ⟨_, _, _, _, rfl, rfl, (by walk_at "hp"), (by rfl), ?_⟩)
local macro_rules | `(tactic| walk_at "side") => `(tactic| refine idP ?_; first | omega | (show (0 : Int) < _; omega) | (show (0 : Int) < _ ∧ _ < _; omega) | (refine Or.inr ?_; show (-(2 ^ 64) : Int) < _ ∧ _ < _; omega) | (refine Or.inl ?_; show (-(2 ^ 64) : Int) < _ ∧ _ < _; omega) | exact divW (by omega) (by omega) _ | (refine ⟨by decide, by decide, ?_⟩; decide))
local macro_rules | `(tactic| walk_at "go1") => `(tactic| first
  | refine ⟨_, rfl, ?_⟩
  | refine ⟨_, _, rfl, rfl, (by walk_at "side"), ?_⟩
  | refine ⟨_, _, rfl, (by walk_at "side"), ?_⟩
  | refine ⟨_, _, rfl, rfl, ?_⟩
  | refine Or.inl ⟨_, rfl, ?_⟩
  | refine ⟨_, _, rfl, Or.inl (by walk_at "sq"), ?_⟩
  | walk_at "ixl"
  | walk_at "setl"
  | refine ⟨_, _, rfl, (by walk_at "sq"), rfl, ?_⟩
  | refine ⟨_, _, rfl, (by walk_at "sq"), ?_⟩
  | refine ⟨_, _, rfl, ?_⟩
  | refine ⟨rfl, ?_⟩
  | refine ⟨small (Nat.le_of_ble_eq_true rfl), ?_⟩)
local macro_rules | `(tactic| walk_at "go") => `(tactic| repeat walk_at "go1")

abbrev s_law_homes : Stmt := topS 73
theorem sc_law_homes : FnScope ["_law_vase_here", "_law_ground_here", "_law_found", "_law_turn"] ["_law_vase_here"] (defScope s_law_homes) := ⟨rfl, rfl, rfl, by decide +kernel, rfl, by decide +kernel, by decide +kernel⟩
theorem g_nx {i : Nat} {v : V} {σ : L2.St} {H : Hp} {D : L2.St → Hp → Prop} (h : D (σ.set i (some v)) H) : gName i v σ H D := h
/-! ### the law's own houses, several of them -/
theorem VaseAt.hereV {H : Hp} {p : Addr} (h : VaseAt H p) : H p ≠ none := by
  obtain ⟨_, _, _, _, _, _, q⟩ := h
  rw [q]
  exact fun z => nomatch z
structure LH where
  d : Addr
  g : Addr
  l : Addr
  gs : List Int
  rows : List R3
structure HomeX (p : Addr) (H : Hp) (h : LH) : Prop where
  at_ : HomeAt (fun q => q = p) H h.d h.g h.l h.gs h.rows
  dp : h.d ≠ p
  gp : h.g ≠ p
  hg : H h.g = some (.lst (h.gs.map V.int))
  ln : LanesAt p H h.l h.rows
  g0 : 1 ≤ h.gs.length
  g3 : h.gs.length ≤ 3
  gb : ∀ x ∈ h.gs, 2 ≤ x ∧ x ≤ 4
  r3 : h.rows.length ≤ 3
  ro : ∀ r ∈ h.rows, RowOk 4 h.gs r
section
variable {p : Addr} {H H' : Hp} {h : LH}
theorem HomeX.els (a : HomeX p H h) (e : Else p H H') : HomeX p H' h := ⟨a.at_.els a.dp rfl e, a.dp, a.gp, e _ _ a.gp a.hg, a.ln.els e, a.g0, a.g3, a.gb, a.r3, a.ro⟩
theorem HomeX.same (a : HomeX p H h) (e : Same H H') : HomeX p H' h := a.els (Same.els e)
theorem HomeX.dict (a : HomeX p H h) : HomeD H h.d h.g h.l := a.at_.dict
theorem HomeX.fair (a : HomeX p H h) : Fair h.gs h.rows :=
  ⟨a.g0, a.g3, fun x hx => ⟨(a.gb x hx).1, by have := (a.gb x hx).2; omega⟩, by have := a.r3; omega, fun x hx => ⟨(a.ro x hx).1, (a.ro x hx).2.1, (a.ro x hx).2.2.1, by have := (a.ro x hx).2.2.2.1; omega, (a.ro x hx).2.2.2.2⟩, Nat.le_trans (Nat.mul_le_mul (unit_16 a.g3 a.gb) (every_12' fun r hm => ⟨(a.ro r hm).2.2.1, (a.ro r hm).2.2.2.1⟩)) (by decide)⟩
/-- a list of references that is none of the house's changes -/
theorem HomeX.mut {q : Addr} {x : Addr} {xs ys : List V} (a : HomeX p H h) (hq : H q = some (.lst (.ref x :: xs))) (hl : h.l ≠ q) : HomeX p (upd H q (.lst ys)) h := by
  obtain ⟨⟨s, b, cs, n, e1, e2, e3, e4, e5, e6, e7⟩, a2, a3, a4, ⟨as, l1, l2, l3, l4⟩, a6, a7, a8, a9, a10⟩ := a
  have ni : ∀ {t : Addr} {ns : List Int}, H t = some (.lst (ns.map V.int)) → t ≠ q := fun {t ns} ht z => by
    rw [z, hq] at ht
    cases ns with
    | nil => cases ht
    | cons _ _ => cases ht
  have ni2 : ∀ {t : Addr} {ns : List Nat}, H t = some (.lst (ns.map fun k => V.int ((k : Nat) : Int))) → t ≠ q := fun {t ns} ht z => by
    rw [z, hq] at ht
    cases ns with
    | nil => cases ht
    | cons _ _ => cases ht
  have nd : h.d ≠ q := fun z => by rw [z, hq] at e1; cases e1
  refine ⟨⟨s, b, cs, n, (by rw [upd_ne nd]; exact e1), e2, e3, (by rw [upd_ne (ni2 e4)]; exact e4), (by rw [upd_ne (ni2 e5)]; exact e5), e6, e7⟩, a2, a3, (by rw [upd_ne (ni a4)]; exact a4), ⟨as, l1, l2, (by rw [upd_ne hl]; exact l3), paired_imp l4 fun a _ r hr => ?_⟩, a6, a7, a8, a9, a10⟩
  rw [upd_ne (fun z => by rw [z, hq] at hr; cases hr)]
  exact hr
end
/-- a house of the law's own: drawn with its ground or given it -/
def spHouseX (K : PySem.W.Frag) : Sp := fun vs H Q _ => ∃ (p : Addr), VaseAt H p ∧ (vs = [.ref p, .non] ∨ ∃ (g : Addr) (gs : List Int), vs = [.ref p, .ref g] ∧ g ≠ p ∧ H g = some (.lst (gs.map V.int)) ∧ 1 ≤ gs.length ∧ gs.length ≤ 3 ∧ ∀ x ∈ gs, 2 ≤ x ∧ x ≤ 4) ∧
  ∀ (h : LH) (H' : Hp), HomeX p H' h → H h.l = none → VaseAt H' p → Else p H H' → Q (.ref h.d) H'
def HomesX (p : Addr) (H : Hp) (a : Addr) (xs : List LH) : Prop := a ≠ p ∧ H a = some (.lst (xs.map fun h => V.ref h.d)) ∧ ∀ h ∈ xs, HomeX p H h
theorem HomesX.els {p : Addr} {H H' : Hp} {a : Addr} {xs : List LH} (h : HomesX p H a xs) (e : Else p H H') : HomesX p H' a xs := ⟨h.1, e _ _ h.1 h.2.1, fun x hx => (h.2.2 x hx).els e⟩
theorem HomesX.same {p : Addr} {H H' : Hp} {a : Addr} {xs : List LH} (h : HomesX p H a xs) (e : Same H H') : HomesX p H' a xs := h.els (Same.els e)
def spHomes (K : PySem.W.Frag) : Sp := fun vs H Q _ => ∃ (p : Addr), vs = [.ref p] ∧ VaseAt H p ∧ ∀ (a : Addr) (xs : List LH) (H' : Hp), HomesX p H' a xs → 1 ≤ xs.length → xs.length ≤ 3 → VaseAt H' p → Else p H H' → Q (.ref a) H'
section
variable {P : Program} {w : World} {K : PySem.W.Frag} {mg : Str → Option Value} {base : Heap}
theorem ok_houseX {f : Addr} {fd : FuncData} (F : Fun K "_law_house" "_law_house" s_law_house f fd) (D_law_ground : DefK P w K mg base "_law_ground" ["_law_vase_here", "_law_most"] 3 (spGround K)) (D_law_lanes : DefK P w K mg base "_law_lanes" ["_law_vase_here", "_law_ground_here"] 3 (spLanes K))
    (D_law_place_house : DefK P w K mg base "_law_place_house" ["_law_ground_here", "_law_lanes_here"] 3 (spPlace K)) : FnOk P w K mg base CX0 4 f fd ["_law_vase_here", "_law_ground_here"] (spHouseX K) := by
  have sc := sc_law_house
  refine F.ok sc (fun vs H Q E h => ?_) (fun cdv A outer s H vs Q E hr h => ?_)
  · obtain ⟨p, _, (rfl | ⟨g, gs, rfl, _⟩), _⟩ := h <;> rfl
  · obtain ⟨p, hv, hh0, k⟩ := h
    have rest : ∀ (g : Addr) (gs : List Int) (H1 : Hp), g ≠ p → H1 g = some (.lst (gs.map V.int)) → 1 ≤ gs.length → gs.length ≤ 3 → (∀ x ∈ gs, 2 ≤ x ∧ x ≤ 4) → VaseAt H1 p → Else p H H1 → ∀ (l : Addr) (rows : List R3) (H2 : Hp), H1 l = none → LanesAt p H2 l rows → rows.length ≤ 3 → (∀ r ∈ rows, RowOk 4 gs r) → VaseAt H2 p → Else p H1 H2 → spPlace K [.ref g, .ref l] H2 Q E := by
      intro g gs H1 hgp eg g0 g1 gb hv1 e1 l rows H2 nl eL hrl hro hv2 e2
      have hg2 := e2 _ _ hgp eg
      have hE : everyL rows ≤ 12 := every_12' fun r hm => ⟨(hro r hm).2.2.1, (hro r hm).2.2.2.1⟩
      have hU := unit_16 g1 gb
      refine ⟨g, l, gs, rows, 4, rfl, SqL.lst hg2, eL.in, g0, g1, (fun x hx => ⟨(gb x hx).1, by have := (gb x hx).2; omega⟩), by omega, by decide, hro, Nat.le_trans (Nat.mul_le_mul hU hE) (by decide), fun d H3 s3 nd hh => ?_⟩
      have e03 : Else p H H3 := (e1.trans e2).trans (Same.els s3)
      refine k ⟨d, g, l, gs, rows⟩ H3 ⟨hh.weak fun q hq => ?_, hv2.ne nd, hgp, s3 _ _ hg2, eL.same s3, g0, g1, gb, hrl, hro⟩ ?_ (hv2.same s3) e03
      · rw [hq]
        exact hv2.hereV
      · show H l = none
        cases q : H l with
        | none => rfl
        | some o =>
          have hlp : l ≠ p := hv1.ne nl
          have := e1 l o hlp q
          rw [nl] at this
          cases this
    refine ⟨_, (pss_cons (ps_set (i := 1) sc.nd rfl (Or.inl rfl) (pe_ifExp (pt_cmpR op_isN (pv 1) pe_non (nomark _)) (pe_d D_law_ground (hr.mono (by decide)) rfl (pa_cons (pv 0) (pa_cons pe_int pa_nil))) (pv 1)))
      (pss_one (ps_ret (pe_d D_law_place_house (hr.mono (by decide)) rfl (pa_cons (pv 1) (pa_cons (pe_d D_law_lanes (hr.mono (by decide)) rfl (pa_cons (pv 0) (pa_cons (pv 1) pa_nil))) pa_nil)))))), ?_⟩
    rcases hh0 with rfl | ⟨g, gs, rfl, hgp, eg, g0, g1, gb⟩
    · refine ⟨_, rfl, rfl, _, rfl, ?_⟩
      refine ifD (fun hd => ?_) (fun hd => absurd rfl hd)
      refine ⟨_, rfl, p, _, rfl, hv, by decide, by decide, fun g gs H1 ng eg g0 g1 gb hv1 e1 => ?_⟩
      have hgp := hv.ne ng
      refine ⟨_, rfl, _, rfl, _, rfl, ?_⟩
      exact ⟨p, g, gs, rfl, hv1, hgp, SqL.lst eg, g0, g1, (fun x hx => ⟨(gb x hx).1, by have := (gb x hx).2; omega⟩), rest g gs H1 hgp eg g0 g1 gb hv1 e1⟩
    · refine ⟨_, rfl, rfl, _, rfl, ?_⟩
      refine ifD (fun hd => nomatch hd) (fun _ => ?_)
      refine ⟨_, rfl, _, rfl, _, rfl, _, rfl, ?_⟩
      exact ⟨p, g, gs, rfl, hv, hgp, SqL.lst eg, g0, g1, (fun x hx => ⟨(gb x hx).1, by have := (gb x hx).2; omega⟩), rest g gs H hgp eg g0 g1 gb hv (Else.refl p H)⟩
theorem ok_homes {f : Addr} {fd : FuncData} (F : Fun K "_law_homes" "_law_homes" s_law_homes f fd) (N : Names mg) (D_law_pour : DefK P w K mg base "_law_pour" ["_law_vase_here", "_law_top"] 1 spPour) (D_law_ground : DefK P w K mg base "_law_ground" ["_law_vase_here", "_law_most"] 3 (spGround K)) (D_law_house : DefK P w K mg base "_law_house" ["_law_vase_here", "_law_ground_here"] 4 (spHouseX K)) : FnOk P w K mg base CX0 5 f fd ["_law_vase_here"] (spHomes K) := by
  have sc := sc_law_homes
  refine F.ok sc (fun vs H Q E h => ?_) (fun cdv A outer s H vs Q E hr h => ?_)
  · obtain ⟨p, rfl, _⟩ := h
    rfl
  · obtain ⟨p, rfl, hv, k⟩ := h
    refine ⟨_, (pss_cons (ps_set (i := 1) sc.nd rfl (Or.inl rfl) (pe_d D_law_ground (hr.mono (by decide)) rfl (pa_cons (pv 0) (pa_cons pe_int pa_nil))))
      (pss_cons (ps_set (i := 2) sc.nd rfl (Or.inl rfl) (pe_lst (pa_cons (pe_d D_law_house (hr.mono (by decide)) rfl (pa_cons (pv 0) (pa_cons (pv 1) pa_nil))) pa_nil)))
      (pss_cons (ps_for PassesOwn.never rfl (pi_range1 rfl N.range (pa_cons (pe_d D_law_pour (hr.mono (by decide)) rfl (pa_cons (pv 0) (pa_cons pe_int pa_nil))) pa_nil)) (pg_name (i := 3) sc.nd rfl (Or.inl rfl)) (pss_one (ps_expr (pe_bm PySem.F.plainAttrs_list PySem.F.slot_list_append PySem.F.type_list_append mt_append (pv 2) (pa_cons (pe_d D_law_house (hr.mono (by decide)) rfl (pa_cons (pv 0) (pa_cons (pe_ifExp (pt_cmpR op_gt (pe_d D_law_pour (hr.mono (by decide)) rfl (pa_cons (pv 0) (pa_cons pe_int pa_nil))) pe_int (nomark _)) (pv 1) pe_non) pa_nil))) pa_nil)))))
      (pss_one (ps_ret (pv 2)))))), ?_⟩
    refine ⟨_, rfl, p, _, rfl, hv, by decide, by decide, fun g gs H1 ng eg g0 g1 gb hv1 e1 => ?_⟩
    have hgp := hv.ne ng
    refine g_nx ?_
    dsimp only
    refine ⟨_, rfl, _, rfl, p, hv1, .inr ⟨g, gs, rfl, hgp, eg, g0, g1, gb⟩, fun h1 H2 hx1 _ hv2 e2 => ?_⟩
    refine ⟨Nat.le_of_ble_eq_true rfl, ?_⟩
    (intro D nD; generalize e_D : upd H2 D _ = H3; have s3 : Same H2 H3 := fun b x hb => (congrFun e_D b).symm.trans (same_new nD b x hb); have h3 := (congrFun e_D D).symm.trans upd_same; clear e_D)
    have nDp : D ≠ p := hv2.ne nD
    refine g_nx ?_
    dsimp only
    have eg3 := s3 _ _ (e2 _ _ hgp eg)
    refine ⟨_, rfl, p, _, rfl, hv2.same s3, by decide, by decide, fun z H4 z0 z1 hv4 e4 => ?_⟩
    obtain ⟨z, rfl⟩ := nat_of z0
    refine ⟨_, rfl, by omega, by omega, ?_⟩
    have hnD : ¬ H D ≠ none := fun z => by
      cases q : H D with
      | none => exact z q
      | some o =>
        have := (e1.trans e2) D o nDp q
        rw [nD] at this
        cases this
    have hl1 : h1.l ≠ D := by
      obtain ⟨_, _, _, l3, _⟩ := hx1.ln
      exact fun y => by rw [y, nD] at l3; cases l3
    refine for_range (n := z) (fun i σ H' => ∃ (v3 : Option V) (xs : List LH), σ = [some (.ref p), some (.ref g), some (.ref D), v3] ∧ VaseAt H' p ∧ Else p H H' ∧ (∃ x ys, H' D = some (.lst (.ref x :: ys))) ∧ HomesX p H' D xs ∧ xs.length = i + 1 ∧ (∀ h ∈ xs, h.l ≠ D) ∧ H' g = some (.lst (gs.map V.int))) ⟨_, [h1], rfl, hv4, e1.trans (e2.trans ((Same.els s3).trans e4)), ⟨_, _, e4 _ _ nDp h3⟩, ⟨nDp, e4 _ _ nDp h3, fun h hm => ?_⟩, rfl, fun h hm => ?_, e4 _ _ hgp eg3⟩ ?_ ?_
    · obtain rfl := List.mem_singleton.mp hm
      exact (hx1.same s3).els e4
    · obtain rfl := List.mem_singleton.mp hm
      exact hl1
    · rintro i σ H5 hi ⟨v3, xs, rfl, hv5, e5, ⟨x0, y0, eD0⟩, ⟨_, eD, hxs⟩, hlen, hls, eg5⟩
      refine g_nx ?_
      dsimp only
      have fin : ∀ (h : LH) (H7 : Hp), HomeX p H7 h → (∃ Hx, Else p H5 Hx ∧ Hx h.l = none) → VaseAt H7 p → Else p H5 H7 → ∃ (v3 : Option V) (xs' : List LH), [some (V.ref p), some (.ref g), some (.ref D), some (.int (0 + (i : Int)))] = [some (.ref p), some (.ref g), some (.ref D), v3] ∧ VaseAt (upd H7 D (.lst ((xs.map fun h => V.ref h.d) ++ [V.ref h.d]))) p ∧ Else p H (upd H7 D (.lst ((xs.map fun h => V.ref h.d) ++ [V.ref h.d]))) ∧ (∃ x ys, (upd H7 D (.lst ((xs.map fun h => V.ref h.d) ++ [V.ref h.d]))) D = some (.lst (.ref x :: ys))) ∧ HomesX p (upd H7 D (.lst ((xs.map fun h => V.ref h.d) ++ [V.ref h.d]))) D xs' ∧ xs'.length = i + 1 + 1 ∧ (∀ h ∈ xs', h.l ≠ D) ∧ (upd H7 D (.lst ((xs.map fun h => V.ref h.d) ++ [V.ref h.d]))) g = some (.lst (gs.map V.int)) := by
        intro h H7 hx7 ⟨Hx, eHx, nl⟩ hv7 e7
        have eD7 := e7 _ _ nDp eD
        have eD07 := e7 _ _ nDp eD0
        have hlD : h.l ≠ D := fun z => by
          have := eHx _ _ nDp eD
          rw [← z, nl] at this
          cases this
        have nDg : g ≠ D := fun z => by
          have := e7 _ _ hgp eg5
          rw [z, eD07] at this
          cases gs with
          | nil => cases this
          | cons _ _ => cases this
        have eU : (upd H7 D (.lst ((xs.map fun h => V.ref h.d) ++ [V.ref h.d]))) D = some (.lst ((xs ++ [h]).map fun h => V.ref h.d)) := by rw [upd_same, List.map_append]; rfl
        refine ⟨_, xs ++ [h], rfl, ?_, fun b o nb eb => ?_, ?_, ⟨nDp, eU, fun y hy => ?_⟩, by rw [List.length_append, hlen]; rfl, fun y hy => ?_, by rw [upd_ne nDg]; exact e7 _ _ hgp eg5⟩
        · obtain ⟨a, b, c, q1, q2, q3, eb⟩ := hv7
          exact ⟨a, b, c, q1, q2, q3, by rw [upd_ne nDp.symm]; exact eb⟩
        · have nbD : b ≠ D := fun z => hnD (by rw [← z, eb]; exact fun z => nomatch z)
          rw [upd_ne nbD]
          exact (e5.trans e7) _ _ nb eb
        · rw [eU]
          match xs, hlen with
          | x :: xt, _ => exact ⟨_, _, rfl⟩
        · rcases List.mem_append.mp hy with hy | hy
          · exact ((hxs y hy).els e7).mut eD07 (hls y hy)
          · obtain rfl := List.mem_singleton.mp hy
            exact hx7.mut eD07 hlD
        · rcases List.mem_append.mp hy with hy | hy
          · exact hls y hy
          · obtain rfl := List.mem_singleton.mp hy
            exact hlD
      have eDl : (xs.map fun h => V.ref h.d).length < sizeLine := smallLt (by rw [List.length_map]; omega)
      refine ⟨_, rfl, .inl ⟨rfl, _, SqL.lst eD⟩, _, rfl, _, rfl, p, _, rfl, hv5, by decide, by decide, fun y H6 y0 y1 hv6 e6 => ?_⟩
      have eg6 := e6 _ _ hgp eg5
      refine ⟨_, _, rfl, rfl, _, rfl, ?_⟩
      refine ifD (fun hd => ?_) (fun hd => ?_)
      · refine ⟨_, rfl, p, hv6, .inr ⟨g, gs, rfl, hgp, eg6, g0, g1, gb⟩, fun h H7 hx7 nl hv7 e7 => ?_⟩
        exact ⟨D, _, _, rfl, rfl, (e6.trans e7) _ _ nDp eD, eDl, fin h H7 hx7 ⟨H6, e6, nl⟩ hv7 (e6.trans e7)⟩
      · refine ⟨p, hv6, .inl rfl, fun h H7 hx7 nl hv7 e7 => ?_⟩
        exact ⟨D, _, _, rfl, rfl, (e6.trans e7) _ _ nDp eD, eDl, fin h H7 hx7 ⟨H6, e6, nl⟩ hv7 (e6.trans e7)⟩
    · rintro σ H5 ⟨v3, xs, rfl, hv5, e5, _, hX, hlen, hls, eg5⟩
      exact ⟨_, rfl, k D xs H5 hX (by omega) (by omega) hv5 e5⟩
end
end LM

set_option Elab.async false
set_option linter.all false
set_option maxRecDepth 100000
set_option maxHeartbeats 4000000
namespace LM
open PySem PySem.Spec PyProof.Rows L2
/-! ### zip of a list and a tuple, either way -/
def SqB (K : PySem.W.Frag) : Bool → Hp → Addr → List V → Prop
  | true => SqL K
  | false => SqT K
def ItB : Bool → Heap → Addr → Addr → Nat → Prop
  | true => Heap.IsListIter
  | false => Heap.IsTupleIter
def SeB : Bool → Heap → Addr → Array Value → Prop
  | true => Heap.IsList
  | false => Heap.IsTuple
def obB (b : Bool) (l : Addr) : Obj := { cls := .type (if b = true then "list_iterator" else "tuple_iterator"), data := .fields #[.ref l, .int 0 0] }
def ItzM (K : PySem.W.Frag) (m n : Bool) (a b : Addr) : It :=
  ⟨fun i H => ∃ (xs ys : List V), SqB K m H a xs ∧ SqB K n H b ys ∧ i < xs.length ∧ i < ys.length,
    fun i H v H' => ∃ T x y, v = .ref T ∧ H T = none ∧ H' = upd H T (.tup [x, y]) ∧ (∀ xs, SqB K m H a xs → xs[i]? = some x) ∧ ∀ ys, SqB K n H b ys → ys[i]? = some y,
    fun i H => ∃ xs ys : List V, SqB K m H a xs ∧ SqB K n H b ys ∧ i = min xs.length ys.length⟩
theorem drawsB {prog : Program} {w : World} {A : Around} (hh : A.handled = none) (m : Bool) (it l : Addr) (hne : l ≠ it) (items : Array Value) : Draws prog w A it [it, l] items.size (fun i v => items[i]? = some v) (fun i h => ItB m h it l i ∧ SeB m h l items) := by
  cases m with
  | true => exact Draws.list hh it l hne items
  | false => exact Draws.tuple hh it l hne items
theorem beginsB (m : Bool) (l : Addr) (items : Array Value) : Begins (.ref l) (obB m l) fun h => SeB m h l items := by
  cases m with
  | true => exact begins_list l items
  | false => exact begins_tuple l items
theorem itB_obj {m : Bool} {h : Heap} {it l : Addr} {i : Nat} (z : ItB m h it l i) : ∃ o, h.get? it = some o ∧ ∀ v, o.data ≠ .cell v := by
  cases m with
  | true =>
    obtain ⟨o, ho, hc, hd⟩ := z
    exact ⟨o, ho, fun v q => by rw [hd] at q; cases q⟩
  | false =>
    obtain ⟨o, ho, hc, hd⟩ := z
    exact ⟨o, ho, fun v q => by rw [hd] at q; cases q⟩
theorem itB_keep {m : Bool} {h h' : Heap} {it l : Addr} {i : Nat} (z : ItB m h it l i) (k : ∀ o, h.get? it = some o → h'.get? it = some o) : ItB m h' it l i := by
  cases m with
  | true => exact Heap.IsListIter.at z k
  | false => exact Heap.IsTupleIter.at z k
theorem itB_first {m : Bool} {h : Heap} {it l : Addr} (z : h.get? it = some (obB m l)) : ItB m h it l 0 := by
  cases m with
  | true => exact ⟨_, z, rfl, rfl⟩
  | false => exact ⟨_, z, rfl, rfl⟩
section
variable {X : Cx} {pins : List (Addr × Obj)} {σ : L2.St} {H : Hp} {s : Shared}
theorem sqB_get (I : Inv X pins σ H s) {m : Bool} {a : Addr} {xs : List V} (h : SqB X.K m H a xs) : ∃ its, Vals xs its ∧ SeB m s.heap a its.toArray ∧ a < s.heap.objs.size := by
  cases m with
  | true =>
    obtain ⟨its, rv, p, _⟩ := I.list h
    exact ⟨its, rv, p.isList, p.lt⟩
  | false =>
    obtain ⟨its, rv, p, _⟩ := I.tuple h
    obtain ⟨o, ho, _⟩ := id p
    exact ⟨its, rv, p, Heap.lt_size ho⟩
theorem sqB_inj (I : Inv X pins σ H s) {m : Bool} {a : Addr} {xs ys : List V} (h1 : SqB X.K m H a xs) (h2 : SqB X.K m H a ys) : xs = ys := by
  cases m with
  | true => exact I.list_inj h1 h2
  | false => exact I.tuple_inj h1 h2
end
theorem turn_zipM {P : Program} {w : World} {K : PySem.W.Frag} {elts : List Expr} {kk : Nat} {tpos : Pos} {m n : Bool} {a b z TI TO i1 i2 : Addr} (S : ZipSep2 z TI TO i1 i2 [i1, a] [i2, b]) (ha : a ≠ i1) (hb : b ≠ i2) :
    Turn P w K (.Tuple elts kk tpos) (ItzM K m n a b) [z, TI, TO, i1, i2] z (fun i h => IsZip h z TI TO .none ∧ IsTupOf2 h TI (.ref i1) (.ref i2) ∧ (∃ x y, IsTupOf2 h TO x y) ∧ ItB m h i1 a i ∧ ItB n h i2 b i) := by
  have objs : ∀ i h, (IsZip h z TI TO .none ∧ IsTupOf2 h TI (.ref i1) (.ref i2) ∧ (∃ x y, IsTupOf2 h TO x y) ∧ ItB m h i1 a i ∧ ItB n h i2 b i) → ∀ c ∈ [z, TI, TO, i1, i2], ∃ o, h.get? c = some o ∧ ∀ v, o.data ≠ .cell v := by
    rintro i h ⟨q1, q2, ⟨x, y, q3⟩, q4, q5⟩ c hc
    simp only [List.mem_cons, List.not_mem_nil, or_false] at hc
    rcases hc with rfl | rfl | rfl | rfl | rfl
    · exact ⟨_, q1, fun v q => nomatch q⟩
    · exact ⟨_, q2, fun v q => nomatch q⟩
    · exact ⟨_, q3, fun v q => nomatch q⟩
    · exact itB_obj q4
    · exact itB_obj q5
  refine ⟨by simp, objs, ?_, ?_, ?_, fun A i s Q E st h => wpAny_pyIter_zip st.1 h⟩
  · rintro i h h' ⟨q1, q2, ⟨x, y, q3⟩, q4, q5⟩ k
    exact ⟨k z (by simp) _ q1, k TI (by simp) _ q2, ⟨x, y, k TO (by simp) _ q3⟩, itB_keep q4 fun o q => k i1 (by simp) o q, itB_keep q5 fun o q => k i2 (by simp) o q⟩
  · intro X hP hw hK hc i pins s σ H E I hf st hg
    subst hP hw hK
    have ob := objs i s.heap st
    obtain ⟨q1, q2, q3, q4, q5⟩ := st
    obtain ⟨xs, ys, h1, h2, l1, l2⟩ := hg
    obtain ⟨its, rv, p, _⟩ := sqB_get I h1
    obtain ⟨jts, rw_, r, _⟩ := sqB_get I h2
    have W := GoesN.zip2 (elts := elts) (x1 := kk) (pos := tpos) S (drawsB (prog := X.prog) (w := X.w) (A := X.A.in1) (I.ok.hd hc) m i1 a ha its.toArray) (drawsB (prog := X.prog) (w := X.w) (A := X.A.in1) (I.ok.hd hc) n i2 b hb jts.toArray)
    have e1 := rv.length
    have e2 := rw_.length
    have g1 : xs[i]? = some xs[i] := List.getElem?_eq_getElem l1
    have g2 : ys[i]? = some ys[i] := List.getElem?_eq_getElem l2
    obtain ⟨u, hu, ru⟩ := rv.get g1
    obtain ⟨v, hv, rv2⟩ := rw_.get g2
    refine W.goes i s _ E (by simp; omega) ⟨q1, q2, q3, ⟨q4, p⟩, ⟨q5, r⟩⟩ fun y h' tk hy st' hk _ => ?_
    obtain ⟨T, x1, x2, rfl, hT, k1, k2, hp⟩ := hy
    obtain rfl : x1 = u := by
      have z1 : its[i]? = some x1 := by simpa using k1
      exact Option.some.inj (z1.symm.trans hu)
    obtain rfl : x2 = v := by
      have z1 : jts[i]? = some x2 := by simpa using k2
      exact Option.some.inj (z1.symm.trans hv)
    have new : ObjOk X.prog X.w (upd H T (.tup [xs[i], ys[i]])) h' T (.tup [xs[i], ys[i]]) := ⟨by show 2 ≤ sizeLine; decide, [x1, x2], .cons ru (.cons rv2 .nil), hp⟩
    have J : Inv X pins σ (upd H T (.tup [xs[i], ys[i]])) { s with heap := h', toks := tk } :=
      I.turnedNew (ch := [z, TI, TO, i1, i2]) (fun c o hc q => hk c o (fun hm => hc (by simp only [List.mem_cons, List.not_mem_nil, or_false] at hm ⊢; rcases hm with h | h | h | h <;> simp [h])) q) hf hT new
    refine ⟨.ref T, _, J, rfl, ⟨T, xs[i], ys[i], rfl, I.hok.fresh hT, rfl, fun zs hz => by rw [sqB_inj I hz h1]; exact g1, fun zs hz => by rw [sqB_inj I hz h2]; exact g2⟩, ⟨st'.1, st'.2.1, st'.2.2.1, st'.2.2.2.1.1, st'.2.2.2.2.1⟩, fun c hc => ?_⟩
    obtain ⟨o, ho, _⟩ := ob c hc
    have hlt := Heap.lt_size ho
    rw [upd_ne (Nat.ne_of_lt (Nat.lt_of_lt_of_le hlt hT))]
    exact (hf c hc).1
  · intro X hP hw hK hc i pins s σ H E I hf st hg
    subst hP hw hK
    obtain ⟨q1, q2, q3, q4, q5⟩ := st
    obtain ⟨xs, ys, h1, h2, he⟩ := hg
    obtain ⟨its, rv, p, _⟩ := sqB_get I h1
    obtain ⟨jts, rw_, r, _⟩ := sqB_get I h2
    have W := GoesN.zip2 (elts := elts) (x1 := kk) (pos := tpos) S (drawsB (prog := X.prog) (w := X.w) (A := X.A.in1) (I.ok.hd hc) m i1 a ha its.toArray) (drawsB (prog := X.prog) (w := X.w) (A := X.A.in1) (I.ok.hd hc) n i2 b hb jts.toArray)
    have e1 := rv.length
    have e2 := rw_.length
    have en : i = min its.toArray.size jts.toArray.size := by simp; omega
    refine W.stops s _ E ⟨q1, q2, q3, ⟨en ▸ q4, p⟩, ⟨en ▸ q5, r⟩⟩ fun h' tk hk _ => ?_
    exact I.turnedL (t' := tk) (ch := [z, TI, TO, i1, i2]) (fun c o hc q => hk c o (fun hm => hc (by simp only [List.mem_cons, List.not_mem_nil, or_false] at hm ⊢; rcases hm with h | h | h | h <;> simp [h])) q) hf
def iZipM (K : PySem.W.Frag) (m n : Bool) (ta : TA) : TI := fun σ H R => ta σ H fun vs H1 => ∃ a b xs ys, vs = [.ref a, .ref b] ∧ SqB K m H1 a xs ∧ SqB K n H1 b ys ∧ R (ItzM K m n a b) H1
theorem pi_zipM {X : Cx} {e e2 : Expr} {ta : TA} {p pos tpos : Pos} {elts : List Expr} {kk : Nat} (m n : Bool) (hg : Gl X "zip") (hm : X.mg "zip" = none) (ha : PA X [e, e2] ta)
    (hst : starEach [e, e2] X.env = (false, eval e X.env) :: starEach [e2] X.env := by rfl) (hpl : (backTo pos (starEach [e2] X.env)).any (·.1) = false := by rfl) : PI X (.Tuple elts kk tpos) (.Call (.Name "zip" p) [e, e2] [] pos) (iZipM X.K m n ta) := by
  refine ⟨fun pins s σ H R I h => Call_ (ld_blt I hg hm PyProof.Rows.boot_zip (PyProof.Rows.callWith_type1 (thn (ha.run pos pins s σ H _ I h) fun us s1 ⟨vs, H1, I1, r1, a, b, xs, ys, ev, h1, h2, q⟩ => ?_) hst hpl))⟩
  subst ev
  obtain ⟨u, v, rfl, ru, rv⟩ := vals2 r1
  obtain rfl : u = Value.ref a := ru
  obtain rfl : v = Value.ref b := rv
  obtain ⟨its, _, p1, lt1⟩ := sqB_get I1 h1
  obtain ⟨jts, _, p2, lt2⟩ := sqB_get I1 h2
  have hS : ZipSep2 (s1.heap.objs.size + 4) (s1.heap.objs.size + 2) (s1.heap.objs.size + 3) s1.heap.objs.size (s1.heap.objs.size + 1) [s1.heap.objs.size, a] [s1.heap.objs.size + 1, b] := zip_sep2 (fun c hc => by rw [List.mem_singleton.mp hc]; exact lt1) (fun c hc => by rw [List.mem_singleton.mp hc]; exact lt2)
  refine zip_begins2 (beginsB m a its.toArray) (beginsB n b jts.toArray) p1 p2 fun h' hz hTI hTO g1 g2 hsz hk => wpAny_pyIter_zip hz ?_
  refine ⟨s1.heap.objs.size + 4, [s1.heap.objs.size + 4, s1.heap.objs.size + 2, s1.heap.objs.size + 3, s1.heap.objs.size, s1.heap.objs.size + 1], _, _, H1, rfl, I1.kept (t' := s1.toks) hk, turn_zipM hS (Nat.ne_of_lt lt1) (Nat.ne_of_lt (Nat.lt_succ_of_lt lt2)), ⟨hz, hTI, ⟨_, _, hTO⟩, itB_first g1, itB_first g2⟩, fun c hc => ?_, q⟩
  have hle : s1.heap.objs.size ≤ c := by
    simp only [List.mem_cons, List.not_mem_nil, or_false] at hc
    rcases hc with h | h | h | h | h <;> rw [h] <;> first | exact Nat.le_refl _ | exact Nat.le_add_right _ _
  exact I1.fpOk hle (I1.hok.fresh hle)
theorem walk_zipM {K : PySem.W.Frag} {m n : Bool} {a b : Addr} {xs ys : List V} {k : Nat} (hk : k = min xs.length ys.length) : Walk (ItzM K m n a b) k (fun H => SqB K m H a xs ∧ SqB K n H b ys) (YPair (fun i => xs[i]?) (fun i => ys[i]?)) := by
  refine ⟨fun i _ hi ⟨q1, q2⟩ => ⟨xs, ys, q1, q2, by omega, by omega⟩, fun _ ⟨q1, q2⟩ => ⟨xs, ys, q1, q2, hk⟩, fun i H v H' _ ⟨q1, q2⟩ y => ?_⟩
  obtain ⟨T, x, z, h1, h2, h3, h4, h5⟩ := y
  exact ⟨T, x, z, h1, h2, h3, h4 xs q1, h5 ys q2⟩
end LM

set_option Elab.async false
set_option linter.all false
set_option maxRecDepth 100000
set_option maxHeartbeats 4000000
namespace LM
open PySem PySem.Spec PyProof.Rows L2
/-! ### own == and != beside any value -/
section
open Builtin
variable {prog : Program} {w : World} {A : Around} {E : Value → Shared → Prop} {s : Shared} {K : PySem.W.Frag} {x C L f : Addr} {h₀ : Heap} {m : Str → Option Value} {ox : Obj} {od : Option Obj} {b tb : Value}
theorem objNe_own {Q : Fin → Shared → Prop} (hu : A.units < cLine) (X : K.In s.heap) (I : PySem.W.InstAt s.heap x ox C od) (hs : PySem.W.findIn K (.ref C) "__eq__" = some (some (.ref f))) (hf : PySem.W.isFn K (.ref f) = true)
    (h : wpAny (model prog w) A (call (.ref f) [.ref x, b]) (fun v s' => ∃ r, v = .bool r ∧ Q (.done (.ret (.bool (!r)))) s') E s) : wpAny (model prog w) A (Builtin.«object.__ne__» ⟨[.ref x, b], []⟩) Q E s := by
  unfold Builtin.«object.__ne__»
  refine wpAny_bind (wpAny_pure ?_)
  refine wpAny_bind (wpAny_cRoomFor hu ?_)
  refine wpAny_bind (PySem.W.ifBound_K X I hs hf (wpAny_mono h (fun v s' ⟨r, ev, q⟩ => ?_) fun _ _ e => e))
  subst ev
  exact wpAny_bind (wpAny_truthy_bool (wpAny_pure q))
theorem ne_own {Q : Value → Shared → Prop} (hu : A.units + 1 < cLine) (Fx : Fr h₀ L s.heap m) (X₀ : K.In h₀) (I : PySem.W.InstAt s.heap x ox C od) (hb : PySem.W.Looks (model prog w) s.heap (typeOf b) tb) (hn : PySem.W.notFirst K C tb = true)
    (hne : PySem.W.findIn K (.ref C) "__ne__" = some (some (.builtin "object.__ne__"))) (hob : PySem.W.mroIn K C (.type "object") = some true) (hs : PySem.W.findIn K (.ref C) "__eq__" = some (some (.ref f))) (hf : PySem.W.isFn K (.ref f) = true)
    (h : wpAny (model prog w) A.in1 (call (.ref f) [.ref x, b]) (fun v s' => ∃ r, v = .bool r ∧ Q (.bool (!r)) s') E s) : wpAny (model prog w) A (richCompare .NotEq (.ref x) b) Q E s := by
  have X := X₀.keeps Fx.keep
  have one : wpAny (model prog w) A (tryCompare (.ref x) "__ne__" b) (fun r s' => ∃ v, r = some v ∧ Q v s') E s := by
    unfold tryCompare
    refine wpAny_bind ?_
    simp only [callSpecialIfBound?, bindSpecialIfBound?]
    refine wpAny_holding (wpAny_bind (wpAny_bind (wpAny_bind (I.type.here ((PySem.W.looks_findIn X hne).here ?_)))))
    have hbind := PySem.F.slot_object_ne.bind
    simp only [hbind]
    refine wpAny_bind (wpAny_askSetting (wpAny_ite ?_))
    have fin : wpAny (model prog w) A (call (.builtin "object.__ne__") ([.ref x] ++ [b]) >>= fun v => pure (some v)) (fun r s' => wpAny (model prog w) A (match r with | some .notImplemented | none => pure none | some v => pure (some v)) (fun r s' => ∃ v, r = some v ∧ Q v s') E s') E s := by
      refine wpAny_bind (wpAny_call (codeAny_call_builtin PySem.F.slot_object_ne.plain PySem.F.cmpEntry_ne (@PySem.W.check_slot (model prog w) _ _ s "object.__ne__" "object" "__ne__" (.ref x) [b] [] _ PySem.F.cmpKind_ne PySem.F.cmpSplit_ne (I.type.andThen (PySem.W.looks_mroIn X hob)) (PySem.F.cmpArgs_ne _ _) (objNe_own (A := A.in1) (Nat.lt_of_succ_lt hu |> fun z => by show A.units + 1 < cLine; exact hu) X I hs hf (wpAny_mono h (fun v s' ⟨r, ev, q⟩ => ⟨r, ev, ?_⟩) fun _ _ e => e)))))
      exact wpAny_pure (wpAny_pure ⟨_, rfl, q⟩)
    split
    · exact wpAny_bind (wpAny_pure (wpAny_pure fin))
    · exact wpAny_tryCatch (wpAny_bind (wpAny_pure (wpAny_pure fin)))
  unfold richCompare
  simp only [oneThing_ref]
  refine wpAny_holding (wpAny_bind (wpAny_cRoomFor (Nat.lt_of_succ_lt hu) ?_))
  refine wpAny_bind (I.type.here (wpAny_bind (hb.here ?_)))
  have fin2 : wpAny (model prog w) A (tryCompare (.ref x) "__ne__" b) (fun r s' => ∃ v, r = some v ∧ Q v s') E s := one
  split
  · rename_i q
    have e : PySem.W.subIn K tb (.ref C) = some false := (Bool.or_eq_true_iff.mp hn).elim (fun e => by rw [beq_iff_eq.mp e] at q; simp at q) fun e => beq_iff_eq.mp e
    refine wpAny_bind ((PySem.W.looks_subIn X e).here ?_)
    simp only [Bool.false_eq_true, if_false]
    exact wpAny_bind (wpAny_mono fin2 (fun r s' ⟨v, ev, hq⟩ => by subst ev; exact wpAny_pure hq) fun _ _ e => e)
  · refine wpAny_bind (wpAny_pure ?_)
    simp only [Bool.false_eq_true, if_false]
    exact wpAny_bind (wpAny_mono fin2 (fun r s' ⟨v, ev, hq⟩ => by subst ev; exact wpAny_pure hq) fun _ _ e => e)
end

/-- the class's own == at f, its != that of object -/
structure OwnE (K : PySem.W.Frag) (C f : Addr) : Prop where
  eq : PySem.W.findIn K (.ref C) "__eq__" = some (some (.ref f))
  fn : PySem.W.isFn K (.ref f) = true
  ne : PySem.W.findIn K (.ref C) "__ne__" = some (some (.builtin "object.__ne__"))
  ob : PySem.W.mroIn K C (.type "object") = some true
/-- an instance beside any value: what the own == promises, ng: turned about -/
def rEqO (K : PySem.W.Frag) (C : Addr) (sp : Sp) (E : XK) (ng : Bool) : R2 := fun x y H Q => ∃ a dx fs t, x = .ref a ∧ H a = some (.ins C dx fs) ∧ TyX K H y t ∧ PySem.W.notFirst K C t = true ∧ sp [.ref a, y] H (fun v H' => ∃ r, v = .bl r ∧ Q (.bl (if ng = true then !r else r)) H') E
section
variable {X : Cx} {CX : CXT} {k : Nat} {C f : Addr} {fd : FuncData} {ps : List Str} {sp : Sp} {E : XK}
theorem ty_looks {pins : List (Addr × Obj)} {σ : L2.St} {H : Hp} {s : Shared} {x : V} {u t : Value} (I : Inv X pins σ H s) (rx : RelV x u) (ty : TyX X.K H x t) : PySem.W.Looks (model X.prog X.w) s.heap (typeOf u) t := by
  obtain ⟨Pp, Z, hp, _⟩ := L2.kit_of I rx ty
  exact Z.ty _ _ I.kIn hp
theorem op_eqO (O : OwnE X.K C f) (F : FnOk X.prog X.w X.K X.mg X.base CX k f fd ps sp) (hr : Room k X.A) (hb : Binds X.K fd ps []) (hx : Passes CX X E) : OpR X (compareOp .Eq) (rEqO X.K C sp E false) := by
  intro pins s σ H x y v u Q I rx ry ⟨a, dx, fs, t, ex, ea, ty, nf, h⟩
  subst ex
  obtain rfl : v = Value.ref a := rx
  obtain ⟨mA, J, _⟩ := ins_get I.hok ea
  obtain ⟨od, J, _⟩ := J.look
  obtain ⟨m, hF⟩ := I.fr
  show wpAny (model X.prog X.w) X.A (richCompare .Eq (.ref a) u) (EP X pins σ Q) X.xe s
  refine PySem.W.cmp_K (op := .Eq) hr.units0 hF I.ok.mod.kin J (ty_looks I ry ty) nf O.eq O.fn ?_
  refine wpAny_mono (run_fn (us := [.ref a, u]) (vs := [.ref a, y]) F hr hb .nil hx I (.cons rfl (.cons ry .nil)) h) (fun w s' hq => ?_) fun _ _ z => z
  obtain ⟨v', H', I', rw_, r, er, q⟩ := hq
  subst er
  obtain rfl : w = Value.bool r := rw_
  exact ⟨.bl r, H', I', rfl, q⟩
theorem op_neO (O : OwnE X.K C f) (F : FnOk X.prog X.w X.K X.mg X.base CX k f fd ps sp) (hr : Room (k + 1) X.A) (hb : Binds X.K fd ps []) (hx : Passes CX X.nox E) : OpR X (compareOp .NotEq) (rEqO X.K C sp E true) := by
  intro pins s σ H x y v u Q I rx ry ⟨a, dx, fs, t, ex, ea, ty, nf, h⟩
  subst ex
  obtain rfl : v = Value.ref a := rx
  obtain ⟨mA, J, _⟩ := ins_get I.hok ea
  obtain ⟨od, J, _⟩ := J.look
  obtain ⟨m, hF⟩ := I.fr
  show wpAny (model X.prog X.w) X.A (richCompare .NotEq (.ref a) u) (EP X pins σ Q) X.xe s
  refine ne_own (hu_of hr) hF I.ok.mod.kin J (ty_looks I ry ty) nf O.ne O.ob O.eq O.fn ?_
  have hl := F.len _ _ _ _ h
  refine wpAny_call (codeAny_mono (F.run X.A.in1 X.stack s H ⟨[.ref a, u], []⟩ [.ref a, u] [.ref a, y] _ E hr.in1 I.env0.in1 (by
    have := hb s [.ref a, u] I.kIn (by simpa using hl)
    simpa using this) (.cons rfl (.cons ry .nil)) h) fun r s' hq => ?_)
  cases r with
  | error er => exact False.elim (hx pins σ H s er s' (I.wish _) hq)
  | ok fl =>
    cases fl with
    | ret w =>
      obtain ⟨v', H', I', rw_, r, er, q⟩ := I.after hq
      subst er
      obtain rfl : w = Value.bool r := rw_
      exact ⟨r, rfl, .bl (!r), H', I', rfl, q⟩
    | next => exact False.elim hq
    | brk => exact False.elim hq
    | cont => exact False.elim hq
end

/-! ### str, repr and bool of an instance -/
section
variable {X : Cx} {CX : CXT} {k : Nat} {C f : Addr} {fd : FuncData} {ps : List Str} {sp : Sp} {E : XK}
def rStrO (C : Addr) (sp : Sp) (E : XK) : List V → Hp → VK → Prop := fun xs H Q => ∃ a dx fs, xs = [.ref a] ∧ H a = some (.ins C dx fs) ∧ sp [.ref a] H (fun v H' => ∃ z, v = .str z ∧ Q (.str z) H') E
theorem call_strO (hs : PySem.W.findIn X.K (.ref C) "__str__" = some (some (.ref f))) (hf : PySem.W.isFn X.K (.ref f) = true) (F : FnOk X.prog X.w X.K X.mg X.base CX k f fd ps sp) (hr : Room (k + 2) X.A) (hb : Binds X.K fd ps []) (hx : Passes CX X.nox E) : CallR X (.type "str") (rStrO C sp E) := by
  intro pins s σ H xs us Q I va ⟨a, dx, fs, ex, ea, h⟩
  subst ex
  obtain ⟨u, rfl, ru⟩ := vals1 va
  obtain rfl : u = Value.ref a := ru
  obtain ⟨mA, J, _⟩ := ins_get I.hok ea
  obtain ⟨od, J, _⟩ := J.look
  have hl := F.len _ _ _ _ h
  refine PySem.W.kso_call (by have := hu_of hr; have := hr.in1.in1.units0; exact this) I.kIn J hs hf ?_
  refine wpAny_call (codeAny_mono (F.run X.A.in1.in1 X.stack s H ⟨[.ref a], []⟩ [.ref a] [.ref a] _ E hr.in1.in1 I.env0.in1.in1 (by
    have := hb s [.ref a] I.kIn (by simpa using hl)
    simpa using this) (.cons rfl .nil) h) fun r s' hq => ?_)
  cases r with
  | error er => exact False.elim (hx pins σ H s er s' (I.wish _) hq)
  | ok fl =>
    cases fl with
    | ret w =>
      obtain ⟨v', H', I', rw_, z, er, q⟩ := I.after hq
      subst er
      obtain ⟨t, rfl⟩ := rw_
      exact ⟨.str z, H', I', ⟨t, rfl⟩, q⟩
    | next => exact False.elim hq
    | brk => exact False.elim hq
    | cont => exact False.elim hq
theorem call_reprO (hs : PySem.W.findIn X.K (.ref C) "__repr__" = some (some (.ref f))) (hf : PySem.W.isFn X.K (.ref f) = true) (F : FnOk X.prog X.w X.K X.mg X.base CX k f fd ps sp) (hr : Room (k + 1) X.A) (hb : Binds X.K fd ps []) (hx : Passes CX X.nox E) : CallR X (.builtin "repr") (rStrO C sp E) := by
  intro pins s σ H xs us Q I va ⟨a, dx, fs, ex, ea, h⟩
  subst ex
  obtain ⟨u, rfl, ru⟩ := vals1 va
  obtain rfl : u = Value.ref a := ru
  obtain ⟨mA, J, _⟩ := ins_get I.hok ea
  obtain ⟨od, J, _⟩ := J.look
  obtain ⟨m, hF⟩ := I.fr
  have hl := F.len _ _ _ _ h
  refine PySem.W.repr_K hr.in1.units0 hF I.ok.mod.kin J hs hf ?_
  refine wpAny_call (codeAny_mono (F.run X.A.in1 X.stack s H ⟨[.ref a], []⟩ [.ref a] [.ref a] _ E hr.in1 I.env0.in1 (by
    have := hb s [.ref a] I.kIn (by simpa using hl)
    simpa using this) (.cons rfl .nil) h) fun r s' hq => ?_)
  cases r with
  | error er => exact False.elim (hx pins σ H s er s' (I.wish _) hq)
  | ok fl =>
    cases fl with
    | ret w =>
      obtain ⟨v', H', I', rw_, z, er, q⟩ := I.after hq
      subst er
      obtain ⟨t, rfl⟩ := rw_
      exact ⟨.str z, H', I', ⟨t, rfl⟩, q⟩
    | next => exact False.elim hq
    | brk => exact False.elim hq
    | cont => exact False.elim hq
end
/-! ### first, *others = a list -/
section
variable {X : Cx}
theorem pgs_star {e : Expr} {es : List Expr} {p : Pos} {t : TG} {u : TGs} (h1 : PG X e t) (h2 : PGs X es u) (hs : (assignEach (.Starred e p :: es) X.env).map (·.2) = assign e X.env :: (assignEach es X.env).map (·.2) := by rfl) : PGs X (.Starred e p :: es) (gCons t u) := by
  refine ⟨fun pins s σ H vs us Q I r ⟨v, vr, e1, h⟩ => ?_⟩
  subst e1
  cases r with
  | cons r rr =>
    rw [hs]
    refine assignInOrder_cons (thn (h1.run pins s σ H _ _ _ I r h) fun _ s1 ⟨σ1, H1, I1, q1⟩ => ?_)
    exact h2.run pins s1 σ1 H1 vr _ Q I1 rr q1
/-- a list's first item, and a new list of the others -/
def gStar1 (K : PySem.W.Frag) (t : TGs) : TG := fun v σ H Q => ∃ a x xs, v = .ref a ∧ SqL K H a (x :: xs) ∧ ∀ D, H D = none → t [x, .ref D] σ (upd H D (.lst xs)) Q
theorem pg_star1 {es : List Expr} {k : Nat} {pos : Pos} {t : TGs} (hc : X.calm = true) (h : PGs X es t) (hn : (assignEach es X.env).length = 2 := by rfl) (hst : (assignEach es X.env).findIdx? (·.1) = some 1 := by rfl) : PG X (.Tuple es k pos) (gStar1 X.K t) := by
  refine ⟨fun pins s σ H v u Q I r ⟨a, x, xs, e1, hq, hw⟩ => ?_⟩
  subst e1
  obtain rfl : u = Value.ref a := r
  obtain ⟨its, rv, pl, hz⟩ := I.list hq
  cases rv with
  | @cons _ y _ ys ry rys =>
  have hl := pl.isList
  have hlt : a ≠ s.heap.objs.size := Nat.ne_of_lt pl.lt
  have hh : X.A.handled = none := I.ok.hd hc
  rw [PyProof.Rows.assign_Tuple]
  refine wpAny_bind (wpAny_standAt ?_)
  unfold unpack
  rw [hn, hst]
  refine wpAny_bind (wpAny_holding ?_)
  unfold unpackItems notIterableAtAll
  refine wpAny_bind (wpAny_bind (wpAny_specialOf hl.typeIs PySem.F.slot_list_iter.lookup (wpAny_pure ?_)))
  simp only [Bool.false_eq_true, if_false]
  refine wpAny_bind (wpAny_holding (wpAny_pyIter_list hl ?_))
  refine wpAny_bind (wpAny_holding (PySem.W.kun_draw hlt 1 0 _ _ ⟨_, Heap.get?_push_size _ rfl, rfl, rfl⟩ (hl.push _) (by simp) fun h1 hit1 hs1 => ?_))
  have hl1 : h1.IsList a (y :: ys).toArray := (hl.push _).extBut hs1.extBut hlt
  obtain ⟨oi, hoi, _⟩ := id hit1
  obtain ⟨ol, hol, _⟩ := id hl1
  have hsz : (y :: ys).toArray.size ≤ sizeLine := by
    have e := rys.length
    simp only [List.size_toArray, List.length_cons] at hz ⊢
    omega
  show wpAny _ _ (if ([y] : List Value).length < 1 then _ else _) _ _ _
  rw [if_neg (by simp)]
  refine wpAny_bind (wpAny_holding (PySem.W.kun_collect (s := { s with heap := h1 }) (T := "list_iterator") (.inr (.inr (.inl rfl))) (Walks.list (A := X.A.in1) hh s.heap.objs.size a hlt (y :: ys).toArray) (fun j u st => st.1.typeIs) (k := 1) (by simp) ⟨hit1, hl1⟩ (Heap.lt_size hoi) (Heap.lt_size hol) (fun h2 tk hk => ?_) hsz))
  show wpAny _ _ (if ys.length < 0 then _ else _) _ _ _
  rw [if_neg (Nat.not_lt_zero _)]
  show wpAny _ _ (newList (ys.take (ys.length - 0)) >>= fun d => pure ([y] ++ [d] ++ ys.drop (ys.length - 0))) _ _ _
  rw [Nat.sub_zero, List.take_length, List.drop_length]
  have hk2 : ∀ b o, s.heap.get? b = some o → h2.get? b = some o := fun b o e => by
    have hb : b ≠ s.heap.objs.size := Nat.ne_of_lt (Heap.lt_size e)
    exact hk b o hb (hs1.extBut b o hb (Heap.get?_push_of_some _ e))
  have I2 : Inv X pins σ H { s with heap := h2, toks := tk } := I.kept (t' := tk) hk2
  refine wpAny_bind (wpAny_newList (s := { s with heap := h2, toks := tk }) ?_ (by simp only [List.size_toArray, List.length_cons] at hsz; omega))
  refine wpAny_pure ?_
  have hsz' : ys.length ≤ sizeLine := by simp only [List.size_toArray, List.length_cons] at hsz; omega
  have hxs : xs.length ≤ sizeLine := by rw [rys.length]; exact hsz'
  have kk : ∀ b u, h2.get? b = some u → (h2.push { cls := .type "list", data := .seq ys.toArray }).get? b = some u := fun b u e => Heap.get?_push_of_some _ e
  have I3 := I2.laid (t' := tk) kk (Nat.le_refl _) (show ObjOk X.prog X.w (upd H _ (.lst xs)) _ _ (.lst xs) from ⟨hxs, ys, 0, rys, Heap.get?_push_size _ rfl⟩)
  exact thn (h.run pins _ σ _ [x, .ref h2.objs.size] [y, .ref h2.objs.size] Q I3 (.cons ry (.cons rfl .nil)) (hw _ (I2.hok.fresh (Nat.le_refl _)))) fun _ s' hh => hh
end

/-! ### bool of an instance without __bool__ and __len__ -/
section
variable {prog : Program} {w : World} {A : Around} {E : Value → Shared → Prop} {s : Shared}
theorem meets_bool_ref (x : Addr) : MeetsIn prog w (Builtin.«bool.__new__» ⟨[.type "bool", .ref x], []⟩) (fun A R s => (∀ (Q : Bool → Shared → Prop) (E : Value → Shared → Prop), Q true s → wpAny (model prog w) A.in1 (truthy (.ref x)) Q E s) ∧ R (.ok (.ret (.bool true))) s) :=
  .of_wp fun A R s hs => by
    obtain ⟨hl, hs⟩ := hs
    obtain ⟨hp, g, d, tk, os⟩ := s
    have f1 := F.conv_sub_bool
    repeat (any_goals (first | assumption | (with_reducible refine hl _ _ ?_) | wp_step))
    all_goals first | exact ⟨_, rfl, hs⟩ | exact hs | skip
theorem call_bool_ref {x : Addr} {Q : Value → Shared → Prop} (hl : ∀ (Q : Bool → Shared → Prop) (E : Value → Shared → Prop), Q true s → wpAny (model prog w) A.in1.in1 (truthy (.ref x)) Q E s) (h : Q (.bool true) s) : wpAny (model prog w) A (call (.type "bool") [.ref x]) Q E s :=
  callType_newIn F.called_bool F.newNe_bool (F.typeCall_bool_1 (.ref x)) (F.newCall_bool_1 (.ref x)) (fun obj => F.args_object_init_2 obj (.ref x)) F.entry_bool_new (meets_bool_ref x) ⟨hl, rfl, h⟩
end
section
variable {X : Cx} {CX : CXT} {k : Nat} {C f : Addr} {fd : FuncData} {ps : List Str} {sp : Sp} {E : XK}
theorem call_boolO (hs : PySem.W.findIn X.K (.ref C) "__bool__" = some none) (hl : PySem.W.findIn X.K (.ref C) "__len__" = some none) : CallR X (.type "bool") (fun xs H Q => ∃ a dx fs, xs = [.ref a] ∧ H a = some (.ins C dx fs) ∧ Q (.bl true) H) := by
  intro pins s σ H xs us Q I va ⟨a, dx, fs, ex, ea, h⟩
  subst ex
  obtain ⟨u, rfl, ru⟩ := vals1 va
  obtain rfl : u = Value.ref a := ru
  obtain ⟨mA, J, _⟩ := ins_get I.hok ea
  obtain ⟨od, J, _⟩ := J.look
  obtain ⟨m, hF⟩ := I.fr
  exact call_bool_ref (fun Q E h => PySem.W.truthy_K0 hF I.ok.mod.kin J hs hl h) ⟨.bl true, H, I, rfl, h⟩
/-- x(..), x a local name that holds the class at C -/
def tMakeV (i : Nat) (C : Addr) (sp : Sp) (dvs : List V) (E : XK) (t : TA) : TE := fun σ H Q => σ[i]? = some (some (.ref C)) ∧ tMake C sp dvs E t σ H Q
theorem pe_makeV {x : Str} {i : Nat} {ds : List Value} {dvs : List V} {e : Expr} {es : List Expr} {t : TA} {p pos : Pos} (M : Mk X.K C f) (F : FnOk X.prog X.w X.K X.mg X.base CX k f fd ps sp) (hr : Room (k + 1) X.A) (hN : X.N[i]? = some x) (hv : Vis X.env.scope x) (hb : Binds X.K fd ps ds) (hd : Vals dvs ds) (hx : Passes CX X E) (ha : PA X (e :: es) t)
    (hdb : (x == ("__debug__" : Str)) = false := by decide) (hcd : (x == ("__classdict__" : Str)) = false := by decide)
    (he : starEach (e :: es) X.env = (false, eval e X.env) :: starEach es X.env := by rfl) (hpl : (backTo pos (starEach es X.env)).any (·.1) = false := by rfl) : PE X (.Call (.Name x p) (e :: es) [] pos) (tMakeV i C sp dvs E t) := by
  refine ⟨fun pins s σ H Q I h => ?_⟩
  obtain ⟨hs, ht⟩ := h
  refine wpAny_Call_Name_kw (thn ((pe_var (pos := p) hN hv hdb hcd).run pins s σ H (fun v H1 => v = .ref C ∧ H1 = H) I ⟨.ref C, hs, rfl, rfl⟩) fun u s1 ⟨v, H1, I1, r1, q1⟩ => ?_)
  obtain ⟨rfl, rfl⟩ := q1
  cases r1
  refine PySem.W.callWith_K (h₀ := X.base) I.ok.mod.kin M.kp (thn (ha.run pos pins s1 σ _ _ I1 ht) fun us s2 ⟨vs, H2, I2, r, q⟩ => ⟨I2.kIn, ?_⟩) he hpl
  exact run_make M F hr hb hd hx I2 r q
end
/-! ### values of other kinds beside an instance -/
/-- a value that is no instance of the class at C, nor of a class below it -/
structure Alien (K : PySem.W.Frag) (C : Addr) (H : Hp) (y : V) : Prop where
  ty : ∃ t, TyX K H y t ∧ PySem.W.notFirst K C t = true ∧ PySem.W.kitOne K t (.ref C) = some false
/-- what of the text the kinds of values ask, for the class at C -/
structure Other (K : PySem.W.Frag) (C : Addr) : Prop where
  own1 : PySem.W.notFirst K C (.ref C) = true
  own2 : PySem.W.kitOne K (.ref C) (.ref C) = some true
  str1 : PySem.W.notFirst K C (.type "str") = true
  str2 : PySem.W.kitOne K (.type "str") (.ref C) = some false
  int1 : PySem.W.notFirst K C (.type "int") = true
  int2 : PySem.W.kitOne K (.type "int") (.ref C) = some false
  non1 : PySem.W.notFirst K C (.type "NoneType") = true
  non2 : PySem.W.kitOne K (.type "NoneType") (.ref C) = some false
  lst1 : PySem.W.notFirst K C (.type "list") = true
  lst2 : PySem.W.kitOne K (.type "list") (.ref C) = some false
  tup1 : PySem.W.notFirst K C (.type "tuple") = true
  tup2 : PySem.W.kitOne K (.type "tuple") (.ref C) = some false
  dic1 : PySem.W.notFirst K C (.type "dict") = true
  dic2 : PySem.W.kitOne K (.type "dict") (.ref C) = some false
section
variable {K : PySem.W.Frag} {C : Addr} {H : Hp}
theorem Other.str (o : Other K C) (x : Str) : Alien K C H (.str x) := ⟨_, .base (.str _), o.str1, o.str2⟩
theorem Other.int (o : Other K C) (x : Int) : Alien K C H (.int x) := ⟨_, .base (.int _), o.int1, o.int2⟩
theorem Other.non (o : Other K C) : Alien K C H .non := ⟨_, .base .non, o.non1, o.non2⟩
theorem Other.lst (o : Other K C) {a : Addr} {xs : List V} (h : H a = some (.lst xs)) : Alien K C H (.ref a) := ⟨_, .base (.lst h), o.lst1, o.lst2⟩
theorem Other.dic (o : Other K C) {a : Addr} {xs : List (Key × V)} (h : H a = some (.dK xs)) : Alien K C H (.ref a) := ⟨_, .base (.dK h), o.dic1, o.dic2⟩
end
/-- what isinstance asks of an instance of the class at C itself -/
structure OwnT (K : PySem.W.Frag) (C : Addr) : Prop where
  ha : PySem.W.findIn K (.ref C) "__class__" = some (some (.builtin "object.__class__"))
  hn : PySem.W.specialIn K (.builtin "object.__class__") "__get__" = some (some (.builtin "getset_descriptor.__get__"))
  htk : PySem.W.takesIn K (.builtin "object.__class__") = some true
  hm : PySem.W.mroIn K C (.type "object") = some true
theorem OwnT.ty {K : PySem.W.Frag} {C : Addr} {H : Hp} {a dx : Addr} {fs : List (Str × V)} (o : OwnT K C) (cl : Cls K C) (e : H a = some (.ins C dx fs)) : TyX K H (.ref a) (.ref C) := .base (.ins e cl o.ha o.hn o.htk o.hm)
end LM

set_option Elab.async false
set_option linter.all false
set_option maxRecDepth 100000
set_option maxHeartbeats 4000000
namespace LM
open PySem PySem.Spec PyProof.Rows L2
theorem dig_acc : ∀ (l : List Int) (q : Int) (acc : List Int), l.foldl digStep (q, acc) = ((l.foldl digStep (q, [])).1, (l.foldl digStep (q, [])).2 ++ acc)
  | [], q, acc => rfl
  | b :: l, q, acc => by
    rw [List.foldl_cons, List.foldl_cons]
    show l.foldl digStep (q / b, q % b :: acc) = ((l.foldl digStep (q / b, [q % b])).1, (l.foldl digStep (q / b, [q % b])).2 ++ acc)
    rw [dig_acc l (q / b) (q % b :: acc), dig_acc l (q / b) [q % b], List.append_assoc]
    rfl
theorem labelP_nil (p : Int) : labelP [] p = [p] := rfl
theorem labelP_snoc (bs : List Int) (b p : Int) : labelP (bs ++ [b]) p = labelP bs (p / b) ++ [p % b] := by
  unfold labelP
  rw [List.reverse_append, List.reverse_singleton, List.singleton_append, List.foldl_cons]
  show (bs.reverse.foldl digStep (p / b, [p % b])).1 :: (bs.reverse.foldl digStep (p / b, [p % b])).2 = _
  rw [dig_acc]
  rfl
theorem snoc_of {α : Type} : ∀ (l : List α), l = [] ∨ ∃ r x, l = r ++ [x]
  | [] => .inl rfl
  | x :: l => .inr ⟨(x :: l).dropLast, (x :: l).getLast (List.cons_ne_nil _ _), (List.dropLast_concat_getLast _).symm⟩
theorem snoc_ind {α : Type} {P : List α → Prop} (h0 : P []) (h1 : ∀ l x, P l → P (l ++ [x])) (l : List α) : P l := by
  rw [← List.reverse_reverse l]
  induction l.reverse with
  | nil => exact h0
  | cons x r ih =>
    rw [List.reverse_cons]
    exact h1 _ _ ih
theorem labelP_len (bs : List Int) (p : Int) : (labelP bs p).length = bs.length + 1 := by
  induction bs using snoc_ind generalizing p with
  | h0 => rfl
  | h1 l x ih => rw [labelP_snoc, List.length_append, ih, List.length_append]; rfl
/-- the place of a label -/
def placeOf (bs ds : List Int) : Int := (bs.zip ds.tail).foldl (fun a p => a * p.1 + p.2) (ds.headD 0)
/-- whether these are the numbers of a label -/
def boundL (bs ds : List Int) : List Bool := (bs.zip ds.tail).map fun p => decide (0 ≤ p.2) && decide (p.2 ≤ p.1 - 1)
def labelB (bs ds : List Int) : Bool := decide (ds.length = bs.length + 1) && (decide (0 ≤ ds.headD 0) && (boundL bs ds).all id)
theorem zip_snoc {bs ds : List Int} {b d : Int} (h : ds.length = bs.length + 1) : (bs ++ [b]).zip (ds ++ [d]).tail = bs.zip ds.tail ++ [(b, d)] := by
  cases ds with
  | nil => simp at h
  | cons x ds =>
    show (bs ++ [b]).zip (ds ++ [d]) = bs.zip ds ++ [(b, d)]
    rw [List.zip_append (by simpa using h.symm)]
    rfl
theorem headD_snoc {ds : List Int} {d : Int} (h : 1 ≤ ds.length) : (ds ++ [d]).headD 0 = ds.headD 0 := by
  cases ds with
  | nil => simp at h
  | cons x ds => rfl
theorem placeOf_snoc {bs ds : List Int} {b d : Int} (h : ds.length = bs.length + 1) : placeOf (bs ++ [b]) (ds ++ [d]) = placeOf bs ds * b + d := by
  unfold placeOf
  rw [zip_snoc h, headD_snoc (by omega), List.foldl_append]
  rfl
theorem labelB_snoc {bs ds : List Int} {b d : Int} (h : ds.length = bs.length + 1) : labelB (bs ++ [b]) (ds ++ [d]) = (labelB bs ds && (decide (0 ≤ d) && decide (d ≤ b - 1))) := by
  unfold labelB boundL
  rw [zip_snoc h, headD_snoc (by omega), List.map_append, List.all_append, List.length_append, List.length_append, h]
  simp [Bool.and_assoc]
theorem place_label (bs : List Int) (p : Int) (hb : ∀ x ∈ bs, 2 ≤ x) : placeOf bs (labelP bs p) = p := by
  induction bs using snoc_ind generalizing p with
  | h0 => rfl
  | h1 l x ih =>
    rw [labelP_snoc, placeOf_snoc (labelP_len _ _), ih _ fun y hy => hb y (List.mem_append_left _ hy), Int.mul_comm]
    exact Int.mul_ediv_add_emod _ _
theorem label_ok (bs : List Int) (p : Int) (hb : ∀ x ∈ bs, 2 ≤ x) (hp : 0 ≤ p) : labelB bs (labelP bs p) = true := by
  induction bs using snoc_ind generalizing p with
  | h0 =>
    show (decide (1 = 0 + 1) && (decide (0 ≤ p) && true)) = true
    rw [decide_eq_true hp]
    rfl
  | h1 l x ih =>
    have hx := hb x (by simp)
    have h1 := Int.emod_nonneg p (show x ≠ 0 by omega)
    have h2 := Int.emod_lt_of_pos p (show 0 < x by omega)
    rw [labelP_snoc, labelB_snoc (labelP_len _ _), ih _ (fun y hy => hb y (List.mem_append_left _ hy)) (Int.ediv_nonneg hp (by omega)), decide_eq_true h1, decide_eq_true (show p % x ≤ x - 1 by omega)]
    rfl
theorem labelB_len {bs ds : List Int} (h : labelB bs ds = true) : ds.length = bs.length + 1 := by
  unfold labelB at h
  rw [Bool.and_eq_true] at h
  exact of_decide_eq_true h.1
theorem label_place (bs : List Int) : ∀ (ds : List Int), labelB bs ds = true → (∀ x ∈ bs, 2 ≤ x) → labelP bs (placeOf bs ds) = ds := by
  induction bs using snoc_ind with
  | h0 =>
    intro ds h _
    have hl := labelB_len h
    match ds, hl with
    | [d], _ => rfl
  | h1 l x ih =>
    intro ds h hb
    have hl := labelB_len h
    rcases snoc_of ds with rfl | ⟨r, d, rfl⟩
    · simp at hl
    · have hr : r.length = l.length + 1 := by simpa using hl
      rw [labelB_snoc hr, Bool.and_eq_true, Bool.and_eq_true] at h
      obtain ⟨h1, h2, h3⟩ := h
      have h2 := of_decide_eq_true h2
      have h3 := of_decide_eq_true h3
      have hx := hb x (by simp)
      have e1 : (placeOf l r * x + d) / x = placeOf l r := by
        rw [Int.add_comm, Int.add_mul_ediv_right _ _ (by omega), Int.ediv_eq_zero_of_lt h2 (by omega), Int.zero_add]
      have e2 : (placeOf l r * x + d) % x = d := by
        rw [Int.add_comm, Int.add_mul_emod_self_right, Int.emod_eq_of_lt h2 (by omega)]
      rw [placeOf_snoc hr, labelP_snoc, e1, e2, ih r h1 fun y hy => hb y (List.mem_append_left _ hy)]
/-- the number of a label's group -/
def groupOf (bs ds : List Int) : Int := (bs.dropLast.zip ds.tail).foldl (fun a p => a * p.1 + p.2) (ds.headD 0)
theorem group_label (bs : List Int) (p : Int) (hb : ∀ x ∈ bs, 2 ≤ x) (h : 1 ≤ bs.length) : groupOf bs (labelP bs p) = p / bs.getLastD 1 ∧ ∃ r, labelP bs p = r ++ [p % bs.getLastD 1] ∧ r.length = bs.length := by
  rcases snoc_of bs with rfl | ⟨r, x, rfl⟩
  · simp at h
  · have el : (r ++ [x]).getLastD 1 = x := by simp
    rw [el, labelP_snoc]
    refine ⟨?_, labelP r (p / x), rfl, by rw [labelP_len]; simp⟩
    unfold groupOf
    rw [List.dropLast_concat, headD_snoc (by rw [labelP_len]; omega)]
    have hl := labelP_len r (p / x)
    have e : r.zip (labelP r (p / x) ++ [p % x]).tail = r.zip (labelP r (p / x)).tail := by
      cases q : labelP r (p / x) with
      | nil => rw [q] at hl; simp at hl
      | cons y t =>
        rw [q] at hl
        show r.zip (t ++ [p % x]) = r.zip t
        conv => lhs; rw [← List.append_nil r, List.zip_append (by simpa using hl.symm)]
        simp
    rw [e]
    exact place_label r (p / x) fun y hy => hb y (List.mem_append_left _ hy)
/-- the label behind a label, as the law tells it -/
def laterStep (bs : List Int) (s : List Int × Nat) : List Int × Nat :=
  if s.1.getD s.2 0 = bs.getD (s.2 - 1) 0 then ((s.1.set s.2 0).set (s.2 - 1) (s.1.getD (s.2 - 1) 0 + 1), s.2 - 1) else s
def laterN (bs ds : List Int) : Nat → List Int × Nat
  | 0 => (ds.set bs.length (ds.getD bs.length 0 + 1), bs.length)
  | i + 1 => laterStep bs (laterN bs ds i)
def laterL (bs ds : List Int) : List Int := (laterN bs ds bs.length).1
theorem laterN_at (bs ds : List Int) : ∀ i, (laterN bs ds i).2 ≤ bs.length ∧ bs.length ≤ (laterN bs ds i).2 + i
  | 0 => ⟨Nat.le_refl _, Nat.le_refl _⟩
  | i + 1 => by
    have h := laterN_at bs ds i
    show (laterStep bs (laterN bs ds i)).2 ≤ _ ∧ _ ≤ (laterStep bs (laterN bs ds i)).2 + _
    unfold laterStep
    split
    · dsimp only
      omega
    · omega
theorem laterN_len (bs ds : List Int) : ∀ i, (laterN bs ds i).1.length = ds.length
  | 0 => by show (ds.set _ _).length = _; rw [List.length_set]
  | i + 1 => by
    show (laterStep bs (laterN bs ds i)).1.length = _
    unfold laterStep
    split
    · dsimp only
      rw [List.length_set, List.length_set, laterN_len bs ds i]
    · exact laterN_len bs ds i
theorem later_label (bs : List Int) (p : Int) (hb : ∀ x ∈ bs, 2 ≤ x) (hp : 0 ≤ p) (h1 : 1 ≤ bs.length) (h3 : bs.length ≤ 3) : laterL bs (labelP bs p) = labelP bs (p + 1) := by
  have hB := label_ok bs p hb hp
  have hP := place_label bs p hb
  have hl := labelP_len bs p
  suffices labelB bs (laterL bs (labelP bs p)) = true ∧ placeOf bs (laterL bs (labelP bs p)) = p + 1 by
    rw [← this.2]
    exact (label_place bs _ this.1 hb).symm
  generalize labelP bs p = ds at hB hP hl
  match bs, h1, h3 with
  | [b], _, _ =>
    match ds, hl with
    | [x, y], _ =>
      have hb1 := hb b (by simp)
      simp [labelB, boundL] at hB
      replace hP : x * b + y = p := hP
      show labelB [b] (laterStep [b] ([x, y + 1], 1)).1 = true ∧ placeOf [b] (laterStep [b] ([x, y + 1], 1)).1 = p + 1
      unfold laterStep
      by_cases c : y + 1 = b
      · have e : (if ([x, y + 1] : List Int).getD 1 0 = ([b] : List Int).getD (1 - 1) 0 then (((([x, y + 1] : List Int).set 1 0).set (1 - 1) (([x, y + 1] : List Int).getD (1 - 1) 0 + 1), 1 - 1) : List Int × Nat) else ([x, y + 1], 1)) = ([x + 1, 0], 0) := if_pos c
        rw [e]
        refine ⟨?_, ?_⟩
        · simp [labelB, boundL]; omega
        · show (x + 1) * b + 0 = p + 1
          rw [Int.add_mul]; omega
      · have e : (if ([x, y + 1] : List Int).getD 1 0 = ([b] : List Int).getD (1 - 1) 0 then (((([x, y + 1] : List Int).set 1 0).set (1 - 1) (([x, y + 1] : List Int).getD (1 - 1) 0 + 1), 1 - 1) : List Int × Nat) else ([x, y + 1], 1)) = ([x, y + 1], 1) := if_neg c
        rw [e]
        refine ⟨?_, ?_⟩
        · simp [labelB, boundL]; omega
        · show x * b + (y + 1) = p + 1
          omega
  | [a, b], _, _ =>
    match ds, hl with
    | [x, y, z], _ =>
      have hb1 := hb a (by simp)
      have hb2 := hb b (by simp)
      simp [labelB, boundL] at hB
      replace hP : (x * a + y) * b + z = p := hP
      have st1 : laterStep [a, b] ([x, y, z + 1], 2) = if z + 1 = b then ([x, y + 1, 0], 1) else ([x, y, z + 1], 2) := rfl
      have st2 : laterStep [a, b] ([x, y + 1, 0], 1) = if y + 1 = a then ([x + 1, 0, 0], 0) else ([x, y + 1, 0], 1) := rfl
      show labelB [a, b] (laterStep [a, b] (laterStep [a, b] ([x, y, z + 1], 2))).1 = true ∧ placeOf [a, b] (laterStep [a, b] (laterStep [a, b] ([x, y, z + 1], 2))).1 = p + 1
      rw [st1]
      by_cases c : z + 1 = b
      · rw [if_pos c, st2]
        by_cases d : y + 1 = a
        · rw [if_pos d]
          refine ⟨?_, ?_⟩
          · simp [labelB, boundL]; omega
          · show ((x + 1) * a + 0) * b + 0 = p + 1
            rw [show (x + 1) * a + 0 = (x * a + y) + 1 by rw [Int.add_mul]; omega, Int.add_mul]; omega
        · rw [if_neg d]
          refine ⟨?_, ?_⟩
          · simp [labelB, boundL]; omega
          · show (x * a + (y + 1)) * b + 0 = p + 1
            rw [← Int.add_assoc, Int.add_mul]; omega
      · rw [if_neg c, st1, if_neg c]
        refine ⟨?_, ?_⟩
        · simp [labelB, boundL]; omega
        · show (x * a + y) * b + (z + 1) = p + 1
          omega
  | [a, b, c], _, _ =>
    match ds, hl with
    | [w, x, y, z], _ =>
      have hb1 := hb a (by simp)
      have hb2 := hb b (by simp)
      have hb3 := hb c (by simp)
      simp [labelB, boundL] at hB
      replace hP : ((w * a + x) * b + y) * c + z = p := hP
      have st1 : laterStep [a, b, c] ([w, x, y, z + 1], 3) = if z + 1 = c then ([w, x, y + 1, 0], 2) else ([w, x, y, z + 1], 3) := rfl
      have st2 : laterStep [a, b, c] ([w, x, y + 1, 0], 2) = if y + 1 = b then ([w, x + 1, 0, 0], 1) else ([w, x, y + 1, 0], 2) := rfl
      have st3 : laterStep [a, b, c] ([w, x + 1, 0, 0], 1) = if x + 1 = a then ([w + 1, 0, 0, 0], 0) else ([w, x + 1, 0, 0], 1) := rfl
      show labelB [a, b, c] (laterStep [a, b, c] (laterStep [a, b, c] (laterStep [a, b, c] ([w, x, y, z + 1], 3)))).1 = true ∧ placeOf [a, b, c] (laterStep [a, b, c] (laterStep [a, b, c] (laterStep [a, b, c] ([w, x, y, z + 1], 3)))).1 = p + 1
      rw [st1]
      by_cases h1 : z + 1 = c
      · rw [if_pos h1, st2]
        by_cases h2 : y + 1 = b
        · rw [if_pos h2, st3]
          by_cases h3 : x + 1 = a
          · rw [if_pos h3]
            refine ⟨?_, ?_⟩
            · simp [labelB, boundL]; omega
            · show (((w + 1) * a + 0) * b + 0) * c + 0 = p + 1
              rw [show (w + 1) * a + 0 = (w * a + x) + 1 by rw [Int.add_mul]; omega, show (w * a + x + 1) * b + 0 = ((w * a + x) * b + y) + 1 by rw [Int.add_mul]; omega, Int.add_mul]; omega
          · rw [if_neg h3]
            refine ⟨?_, ?_⟩
            · simp [labelB, boundL]; omega
            · show ((w * a + (x + 1)) * b + 0) * c + 0 = p + 1
              rw [← Int.add_assoc, show (w * a + x + 1) * b + 0 = ((w * a + x) * b + y) + 1 by rw [Int.add_mul]; omega, Int.add_mul]; omega
        · rw [if_neg h2, st2, if_neg h2]
          refine ⟨?_, ?_⟩
          · simp [labelB, boundL]; omega
          · show ((w * a + x) * b + (y + 1)) * c + 0 = p + 1
            rw [← Int.add_assoc, Int.add_mul]; omega
      · rw [if_neg h1, st1, if_neg h1, st1, if_neg h1]
        refine ⟨?_, ?_⟩
        · simp [labelB, boundL]; omega
        · show ((w * a + x) * b + y) * c + (z + 1) = p + 1
          omega
/-! ### texts of words -/
abbrev sg (x : Str) : List Nat := x.cps.toList
theorem sg_app (x y : Str) : sg (x ++ y) = sg x ++ sg y := by
  show (x.cps ++ y.cps).toList = _
  rw [Array.toList_append]
theorem sg_inj {x y : Str} (h : sg x = sg y) : x = y := by
  cases x
  cases y
  exact congrArg Str.mk (Array.toList_inj.mp h)
theorem sg_join (c : Nat) (x y : Str) (r : List Str) : sg (Str.join ⟨#[c]⟩ (x :: y :: r)) = sg x ++ c :: sg (Str.join ⟨#[c]⟩ (y :: r)) := by
  show sg (x ++ ⟨#[c]⟩ ++ Str.join ⟨#[c]⟩ (y :: r)) = _
  rw [sg_app, sg_app, List.append_assoc]
  rfl
theorem cut_one {c : Nat} : ∀ {a b x y : List Nat}, c ∉ a → c ∉ b → a ++ c :: x = b ++ c :: y → a = b ∧ x = y
  | [], [], x, y, _, _, h => ⟨rfl, by simpa using h⟩
  | [], d :: b, x, y, _, hb, h => by
    have h1 : c = d := by simpa using congrArg List.head? h
    exact absurd (by rw [h1]; exact List.mem_cons_self) hb
  | d :: a, [], x, y, ha, _, h => by
    have h1 : d = c := by simpa using congrArg List.head? h
    exact absurd (by rw [h1]; exact List.mem_cons_self) ha
  | d :: a, e :: b, x, y, ha, hb, h => by
    have h1 : d = e ∧ a ++ c :: x = b ++ c :: y := by simpa using h
    have h2 := cut_one (fun z => ha (List.mem_cons_of_mem _ z)) (fun z => hb (List.mem_cons_of_mem _ z)) h1.2
    exact ⟨by rw [h1.1, h2.1], h2.2⟩
theorem joinC_inj (c : Nat) : ∀ (as bs : List Str), as ≠ [] → bs ≠ [] → (∀ p ∈ as, c ∉ sg p) → (∀ p ∈ bs, c ∉ sg p) → Str.join ⟨#[c]⟩ as = Str.join ⟨#[c]⟩ bs → as = bs
  | [], _, h, _, _, _, _ => absurd rfl h
  | _, [], _, h, _, _, _ => absurd rfl h
  | [a], [b], _, _, _, _, h => by
    have h' : a = b := h
    rw [h']
  | [a], b :: d :: r, _, _, ha, _, h => by
    have e := congrArg sg h
    rw [sg_join] at e
    have e' : sg a = sg b ++ c :: sg (Str.join ⟨#[c]⟩ (d :: r)) := e
    exact absurd (by rw [e']; simp) (ha a List.mem_cons_self)
  | a :: d :: r, [b], _, _, _, hb, h => by
    have e := congrArg sg h
    rw [sg_join] at e
    have e' : sg a ++ c :: sg (Str.join ⟨#[c]⟩ (d :: r)) = sg b := e
    exact absurd (by rw [← e']; simp) (hb b List.mem_cons_self)
  | a :: a2 :: r, b :: b2 :: s, _, _, ha, hb, h => by
    have e := congrArg sg h
    rw [sg_join, sg_join] at e
    obtain ⟨e1, e2⟩ := cut_one (ha a List.mem_cons_self) (hb b List.mem_cons_self) e
    rw [sg_inj e1, joinC_inj c (a2 :: r) (b2 :: s) (List.cons_ne_nil _ _) (List.cons_ne_nil _ _) (fun p hp => ha p (List.mem_cons_of_mem _ hp)) (fun p hp => hb p (List.mem_cons_of_mem _ hp)) (sg_inj e2)]
theorem join_glued (sep : Str) (ws : List Str) : Txt.join sep ws = Str.join sep ws := StrLaws.glued_eq_join sep ws
theorem split_ne (x y : Str) : Txt.split x y ≠ [] := fun h => by
  have := PyProof.Rows.split_pos x y
  rw [h] at this
  exact absurd this (by decide)
theorem split_join (c : Nat) (ws : List Str) (h0 : ws ≠ []) (hw : ∀ p ∈ ws, c ∉ sg p) : Txt.split (Txt.join ⟨#[c]⟩ ws) ⟨#[c]⟩ = ws := by
  refine joinC_inj c _ _ (split_ne _ _) h0 (StrLaws.split_free _ c) hw ?_
  rw [StrLaws.join_split, join_glued]
/-! ### words of figures -/
def figB (w : Str) : Bool := !(sg w).isEmpty && (sg w).all fun c => decide (48 ≤ c) && decide (c ≤ 57)
theorem dig_cls : ∀ c : Nat, c < 128 → Unicode.isDigit c = (decide (48 ≤ c) && decide (c ≤ 57)) := by
  have k : ∀ n : _root_.Fin 128, Unicode.isDigit n.val = (decide (48 ≤ n.val) && decide (n.val ≤ 57)) := by decide +kernel
  exact fun c h => k ⟨c, h⟩
theorem all_toL (x : Str) (p : Nat → Bool) : x.cps.all p = (sg x).all p := by
  rw [← Array.all_toList]
theorem fig_eq (w : Str) : (Txt.isascii w && Txt.isdigit w) = figB w := by
  unfold Txt.isascii Txt.isdigit figB
  rw [all_toL, all_toL]
  have h0 : decide (w.length > 0) = !(sg w).isEmpty := by
    show decide (w.cps.size > 0) = !w.cps.toList.isEmpty
    rw [← Array.length_toList]
    cases w.cps.toList <;> simp
  rw [h0]
  have h1 : ((sg w).all (fun x => decide (x < 128)) && (sg w).all Unicode.isDigit) = (sg w).all fun c => decide (48 ≤ c) && decide (c ≤ 57) := by
    generalize sg w = l
    induction l with
    | nil => rfl
    | cons c l ih =>
      rw [List.all_cons, List.all_cons, List.all_cons, ← ih]
      by_cases h : c < 128
      · rw [decide_eq_true h, dig_cls c h]
        cases (decide (48 ≤ c) && decide (c ≤ 57)) <;> cases (l.all fun x => decide (x < 128)) <;> simp
      · rw [decide_eq_false h, decide_eq_false (show ¬ c ≤ 57 by omega)]
        simp
  rw [← h1]
  cases (sg w).isEmpty <;> simp
theorem figB_iff {w : Str} : figB w = true ↔ sg w ≠ [] ∧ NumText.AllDigits (sg w) := by
  unfold figB NumText.AllDigits
  generalize sg w = l
  rw [Bool.and_eq_true, List.all_eq_true]
  constructor
  · rintro ⟨h1, h2⟩
    refine ⟨fun z => by rw [z] at h1; exact absurd h1 (by decide), fun c hc => ?_⟩
    have := h2 c hc
    rw [Bool.and_eq_true, decide_eq_true_eq, decide_eq_true_eq] at this
    exact this
  · rintro ⟨h1, h2⟩
    refine ⟨?_, fun c hc => ?_⟩
    · cases l with
      | nil => exact absurd rfl h1
      | cons => rfl
    · rw [Bool.and_eq_true, decide_eq_true_eq, decide_eq_true_eq]
      exact h2 c hc
/-- the number that figures write -/
def worthN (w : Str) : Nat := NumText.digitsVal (sg w)
theorem sg_num (m : Nat) : sg (numS (m : Int)) = (Nat.toDigits 10 m).map Char.toNat := PySem.W.KIN.signs_num m
theorem num_worth (m : Nat) : worthN (numS (m : Int)) = m := by
  unfold worthN
  rw [sg_num]
  exact PySem.W.KIN.val_back m
theorem num_fig (m : Nat) : figB (numS (m : Int)) = true := by
  rw [figB_iff, sg_num]
  refine ⟨fun e => ?_, fun c hc => ?_⟩
  · have h := toDigits_len_ge 10 m
    rw [List.map_eq_nil_iff.mp e] at h
    exact absurd h (by decide)
  · obtain ⟨ch, hch, e⟩ := List.mem_map.mp hc
    have r := digit_range (Nat.isDigit_of_mem_toDigits (by decide) (by decide) hch)
    rw [← e]
    exact r
theorem fig_free {w : Str} (h : figB w = true) {c : Nat} (hc : c < 48 ∨ 57 < c) : c ∉ sg w := fun hm => by
  have := (figB_iff.mp h).2 c hm
  omega
theorem worth_snoc (w : Str) (i : Nat) (c : Nat) (h : (sg w)[i]? = some c) : NumText.digitsVal ((sg w).take (i + 1)) = NumText.digitsVal ((sg w).take i) * 10 + (c - 48) := by
  rw [List.take_add_one, h]
  exact NumText.digitsVal_snoc _ _
theorem fig_int {c : Nat} (h : 48 ≤ c ∧ c ≤ 57) : PySem.intText? ⟨#[c]⟩ = some ((c - 48 : Nat) : Int) := by
  have e := PySem.intText_digits (x := ⟨#[c]⟩) (fun d hd => by rw [List.mem_singleton.mp hd]; exact h) (List.cons_ne_nil _ _) (show 1 ≤ 4300 by decide)
  rw [e]
  show some (((0 * 10 + (c - 48) : Nat)) : Int) = _
  rw [Nat.zero_mul, Nat.zero_add]
/-! ### small numbers with zeros in front -/
def padS (b d : Int) : Str := Txt.zfill (numS d) (((numS (b - 1)).length : Nat) : Int)
def padL (b d : Int) : Str := Txt.mul "0" ((((numS (b - 1)).length : Nat) : Int) - (((numS d).length : Nat) : Int)) ++ numS d
theorem pad_small : ∀ b : _root_.Fin 61, ∀ d : _root_.Fin 61, d.val < b.val → figB (padS b.val d.val) = true ∧ worthN (padS b.val d.val) = d.val ∧ padS b.val d.val = padL b.val d.val ∧ (padS b.val d.val).length ≤ 2 ∧ (numS b.val).length ≤ 2 := by decide +kernel
theorem pad_of {b d : Int} (h0 : 0 ≤ d) (h1 : d ≤ b - 1) (h2 : b ≤ 60) : figB (padS b d) = true ∧ ((worthN (padS b d) : Nat) : Int) = d ∧ padS b d = padL b d ∧ (padS b d).length ≤ 2 ∧ (numS b).length ≤ 2 := by
  obtain ⟨d, rfl⟩ := Int.eq_ofNat_of_zero_le h0
  obtain ⟨b, rfl⟩ := Int.eq_ofNat_of_zero_le (show 0 ≤ b by omega)
  obtain ⟨q1, q2, q3, q4, q5⟩ := pad_small ⟨b, by omega⟩ ⟨d, by omega⟩ (show d < b by omega)
  exact ⟨q1, congrArg Int.ofNat q2, q3, q4, q5⟩
/-! ### texts of labels -/
theorem str_assoc (x y z : Str) : x ++ y ++ z = x ++ (y ++ z) := sg_inj (by rw [sg_app, sg_app, sg_app, sg_app, List.append_assoc])
theorem join_two (sep x y : Str) : ∀ r : List Str, Str.join sep (x :: y :: r) = Str.join sep ((x ++ sep ++ y) :: r)
  | [] => rfl
  | z :: r => by
    show x ++ sep ++ (y ++ sep ++ Str.join sep (z :: r)) = (x ++ sep ++ y) ++ sep ++ Str.join sep (z :: r)
    simp only [str_assoc]
theorem join_fold (sep : Str) : ∀ (r : List Str) (x : Str), Str.join sep (x :: r) = r.foldl (fun s y => s ++ sep ++ y) x
  | [], x => rfl
  | y :: r, x => by rw [join_two, join_fold sep r, List.foldl_cons]
def wordsP (bs ds : List Int) : List Str := numS (ds.headD 0) :: (bs.zip ds.tail).map fun p => padS p.1 p.2
def labelS (bs ds : List Int) : Str := Txt.join ":" (wordsP bs ds)
def wordedStep (s : Str) (p : Int × Int) : Str := s ++ ":" ++ Txt.mul "0" ((((numS (p.1 - 1)).length : Nat) : Int) - (((numS p.2).length : Nat) : Int)) ++ numS p.2
def wordedL (bs ds : List Int) : Str := (bs.zip ds.tail).foldl wordedStep (numS (ds.headD 0))
theorem col_eq : (":" : Str) = ⟨#[58]⟩ := by decide
theorem zip_bound {bs ds : List Int} (h : labelB bs ds = true) : ∀ p ∈ bs.zip ds.tail, 0 ≤ p.2 ∧ p.2 ≤ p.1 - 1 := by
  intro p hp
  unfold labelB boundL at h
  rw [Bool.and_eq_true, Bool.and_eq_true, List.all_eq_true] at h
  have := h.2.2 _ (List.mem_map.mpr ⟨p, hp, rfl⟩)
  simpa using this
theorem zip_left {bs ds : List Int} {m : Int} (hb : ∀ x ∈ bs, x ≤ m) : ∀ p ∈ bs.zip ds, p.1 ≤ m := fun p hp => hb _ (List.of_mem_zip hp).1
theorem label_head {bs ds : List Int} (h : labelB bs ds = true) : 0 ≤ ds.headD 0 := by
  unfold labelB at h
  rw [Bool.and_eq_true, Bool.and_eq_true] at h
  exact of_decide_eq_true h.2.1
theorem worded_eq {bs ds : List Int} (h : labelB bs ds = true) (hb : ∀ x ∈ bs, x ≤ 60) : wordedL bs ds = labelS bs ds := by
  unfold wordedL labelS wordsP
  rw [join_glued, join_fold, List.foldl_map]
  have h1 := zip_bound h
  have h2 := zip_left (ds := ds.tail) hb
  generalize bs.zip ds.tail = l at h1 h2
  generalize numS (ds.headD 0) = s
  induction l generalizing s with
  | nil => rfl
  | cons p l ih =>
    rw [List.foldl_cons, List.foldl_cons, ih (fun q hq => h1 q (List.mem_cons_of_mem _ hq)) fun q hq => h2 q (List.mem_cons_of_mem _ hq)]
    obtain ⟨a, b⟩ := h1 p List.mem_cons_self
    rw [(pad_of a b (h2 p List.mem_cons_self)).2.2.1]
    unfold wordedStep padL
    simp only [str_assoc]
theorem words_fig {bs ds : List Int} (h : labelB bs ds = true) (hb : ∀ x ∈ bs, x ≤ 60) : ∀ w ∈ wordsP bs ds, figB w = true := by
  intro w hw
  rcases List.mem_cons.mp hw with rfl | hw
  · obtain ⟨m, e⟩ := Int.eq_ofNat_of_zero_le (label_head h)
    rw [e]
    exact num_fig m
  · obtain ⟨p, hp, rfl⟩ := List.mem_map.mp hw
    obtain ⟨a, b⟩ := zip_bound h p hp
    exact (pad_of a b (zip_left hb p hp)).1
theorem words_worth {bs ds : List Int} (h : labelB bs ds = true) (hb : ∀ x ∈ bs, x ≤ 60) : (wordsP bs ds).map (fun w => ((worthN w : Nat) : Int)) = ds := by
  have hl := labelB_len h
  have h1 := zip_bound h
  have h2 := zip_left (ds := ds.tail) hb
  have h0 := label_head h
  cases ds with
  | nil => simp at hl
  | cons d ds =>
    have hl' : ds.length = bs.length := by simpa using hl
    unfold wordsP
    rw [List.map_cons, List.map_map]
    obtain ⟨m, e⟩ := Int.eq_ofNat_of_zero_le (show 0 ≤ d from h0)
    have e0 : ((worthN (numS ((d :: ds).headD 0)) : Nat) : Int) = d := by
      show ((worthN (numS d) : Nat) : Int) = d
      rw [e, num_worth]
    rw [e0]
    refine congrArg (d :: ·) ?_
    show (bs.zip ds).map _ = ds
    have e1 : (bs.zip ds).map (fun p => ((worthN (padS p.1 p.2) : Nat) : Int)) = (bs.zip ds).map Prod.snd := List.map_congr_left fun p hp => by
      obtain ⟨a, b⟩ := h1 p hp
      exact (pad_of a b (h2 p hp)).2.1
    exact e1.trans (List.map_snd_zip (by omega))
/-- the label that is read off a text -/
def readL (bs : List Int) (x : Str) : Option (List Int) :=
  if ((Txt.split x ":").map figB).all id = true then
    if labelB bs ((Txt.split x ":").map fun w => ((worthN w : Nat) : Int)) = true ∧ labelS bs ((Txt.split x ":").map fun w => ((worthN w : Nat) : Int)) = x then some ((Txt.split x ":").map fun w => ((worthN w : Nat) : Int)) else none
  else none
theorem label_split {bs ds : List Int} (h : labelB bs ds = true) (hb : ∀ x ∈ bs, x ≤ 60) : Txt.split (labelS bs ds) ":" = wordsP bs ds := by
  unfold labelS
  rw [col_eq]
  exact split_join 58 _ (List.cons_ne_nil _ _) fun p hp => fig_free (words_fig h hb p hp) (.inr (by decide))
theorem read_label {bs ds : List Int} (h : labelB bs ds = true) (hb : ∀ x ∈ bs, x ≤ 60) : readL bs (labelS bs ds) = some ds := by
  unfold readL
  rw [label_split h hb, words_worth h hb, if_pos, if_pos ⟨h, rfl⟩]
  rw [List.all_map, List.all_eq_true]
  exact fun w hw => words_fig h hb w hw
theorem num_len {m : Int} (h0 : 0 ≤ m) (h1 : m < 10 ^ 60) : (numS m).length ≤ 60 := by
  obtain ⟨n, rfl⟩ := Int.eq_ofNat_of_zero_le h0
  have hn : n < 10 ^ 60 := by
    have : ((10 : Int) ^ 60) = ((10 ^ 60 : Nat) : Int) := by decide
    omega
  have e : (numS (n : Int)).length = (Nat.toDigits 10 n).length := by
    show (numS (n : Int)).cps.size = _
    rw [← Array.length_toList]
    show (sg (numS (n : Int))).length = _
    rw [sg_num, List.length_map]
  rw [e]
  exact Nat.le_trans (Nat.le_refl _) (toDigits_len_pow (by decide) (by decide) hn)
end LM

set_option Elab.async false
set_option linter.all false
set_option maxRecDepth 100000
set_option maxHeartbeats 4000000
set_option pp.maxSteps 600
set_option pp.deepTerms false
namespace LM
open PySem PySem.Spec PyProof.Rows L2 RZ
local macro_rules | `(tactic| walk_at "hp") => `(tactic| first | assumption | exact upd_same | (rw [upd_ne (by assumption)]; assumption) | (rw [upd_ne (Ne.symm (by assumption))]; assumption) | (rw [upd_ne (by assumption)]; exact upd_same) | (rw [upd_ne (Ne.symm (by assumption))]; exact upd_same))
local macro_rules | `(tactic| walk_at "sq") => `(tactic| first | assumption | exact Or.inl (Or.inl (by assumption)) | exact Or.inl (Or.inl upd_same) | exact Or.inl (Or.inl (by walk_at "hp")))
local macro_rules | `(tactic| walk_at "ixl") => `(tactic| refine ⟨_, _, _, _, rfl, rfl, (by walk_at "sq"), (by rfl), ?_⟩)
local macro_rules | `(tactic| walk_at "setl") => `(tactic| refine ⟨_, _, _, _, rfl, rfl, (by walk_at "hp"), (by rfl), ?_⟩)
local macro_rules | `(tactic| walk_at "side") => `(tactic| refine idP ?_; first | omega | (show (0 : Int) < _; omega) | (show (0 : Int) < _ ∧ _ < _; omega) | (refine Or.inr ?_; show (-(2 ^ 64) : Int) < _ ∧ _ < _; omega) | (refine Or.inl ?_; show (-(2 ^ 64) : Int) < _ ∧ _ < _; omega) | exact divW (by omega) (by omega) _ | (refine ⟨by decide, by decide, ?_⟩; decide))
local macro_rules | `(tactic| walk_at "go1") => `(tactic| first
  | refine ⟨_, rfl, ?_⟩
  | refine ⟨_, _, rfl, rfl, (by walk_at "side"), ?_⟩
  | refine ⟨_, _, rfl, (by walk_at "side"), ?_⟩
  | refine ⟨_, _, rfl, rfl, ?_⟩
  | refine Or.inl ⟨_, rfl, ?_⟩
  | refine ⟨_, _, rfl, Or.inl (by walk_at "sq"), ?_⟩
  | walk_at "ixl"
  | walk_at "setl"
  | refine ⟨_, _, rfl, (by walk_at "sq"), rfl, ?_⟩
  | refine ⟨_, _, rfl, (by walk_at "sq"), ?_⟩
  | refine ⟨_, _, rfl, ?_⟩
  | refine ⟨rfl, ?_⟩
  | refine ⟨small (Nat.le_of_ble_eq_true rfl), ?_⟩)
local macro_rules | `(tactic| walk_at "go") => `(tactic| repeat walk_at "go1")

abbrev shas_figures_alone : Stmt := topS 23
theorem schas_figures_alone : FnScope ["word"] ["word"] (defScope shas_figures_alone) := ⟨rfl, rfl, rfl, by decide +kernel, rfl, by decide +kernel, by decide +kernel⟩
abbrev sworth : Stmt := topS 24
theorem scworth : FnScope ["figures", "number", "figure"] ["figures"] (defScope sworth) := ⟨rfl, rfl, rfl, by decide +kernel, rfl, by decide +kernel, by decide +kernel⟩
abbrev sread_number : Stmt := topS 25
theorem scread_number : FnScope ["word"] ["word"] (defScope sread_number) := ⟨rfl, rfl, rfl, by decide +kernel, rfl, by decide +kernel, by decide +kernel⟩
abbrev snumbers_behind : Stmt := topS 52
theorem scnumbers_behind : FnScope ["word", "line", "first", "others", "other"] ["word", "line"] (defScope snumbers_behind) := ⟨rfl, rfl, rfl, by decide +kernel, rfl, by decide +kernel, by decide +kernel⟩
def spHasFig : Sp := fun vs H Q _ => ∃ (w : Str), vs = [.str w] ∧ Q (.bl (figB w)) H
def spWorth : Sp := fun vs H Q _ => ∃ (w : Str), vs = [.str w] ∧ figB w = true ∧ Q (.int ((worthN w : Nat) : Int)) H
/-- the number that a word is read as, None if it is none -/
def readN (w : Str) : Option Int := if figB w = true ∧ ¬ (Txt.startswith w "0" = true ∧ w ≠ "0") then some ((worthN w : Nat) : Int) else none
theorem read_small : ∀ k : _root_.Fin 61, readN (numS (k.val : Int)) = some (k.val : Int) := by decide +kernel
theorem read_num {n : Int} (h0 : 0 ≤ n) (h1 : n ≤ 60) : readN (numS n) = some n := by
  have := read_small ⟨n.toNat, by omega⟩
  have e : ((n.toNat : Nat) : Int) = n := by omega
  simpa [e] using this
def readV : Option Int → V
  | none => .non
  | some n => .int n
def spReadNum : Sp := fun vs H Q _ => ∃ (w : Str), vs = [.str w] ∧ Q (readV (readN w)) H
/-- what stands behind a word in a line -/
def spBehind : Sp := fun vs H Q _ => ∃ (word line w : Str) (ws : List Str), vs = [.str word, .str line] ∧ line.length ≤ 100000 ∧ Txt.split line " " = w :: ws ∧
  (w = word → ∀ (t : Addr) H', Same H H' → H t = none → H' t = some (.tup (ws.map fun x => readV (readN x))) → Q (.ref t) H') ∧ (w ≠ word → ∀ H', Same H H' → Q .non H')
section
variable {P : Program} {w : World} {K : PySem.W.Frag} {mg : Str → Option Value} {base : Heap}
theorem ok_hasfig {f : Addr} {fd : FuncData} (F : Fun K "has_figures_alone" "has_figures_alone" shas_figures_alone f fd) : FnOk P w K mg base CX0 1 f fd ["word"] spHasFig := by
  have sc := schas_figures_alone
  refine F.ok sc (fun vs H Q E h => ?_) (fun cdv A outer s H vs Q E hr h => ?_)
  · obtain ⟨w, rfl, _⟩ := h
    rfl
  · obtain ⟨w, rfl, k⟩ := h
    refine ⟨_, (pss_one (ps_ret (pe_and (pe_m0 PySem.F.slot_str_isascii PySem.F.type_str_isascii mt_isascii (pv 0)) (pe_one (pe_m0 PySem.F.slot_str_isdigit PySem.F.type_str_isdigit mt_isdigit (pv 0)))))), ?_⟩
    refine ⟨_, rfl, ⟨_, rfl⟩, _, rfl, rfl, trivial, _, rfl, ?_⟩
    rw [← fig_eq] at k
    refine ifB (fun h1 => ?_) (fun h1 => ?_)
    · refine ⟨_, rfl, ⟨_, rfl⟩, _, rfl, rfl, trivial, ?_⟩
      rw [h1, Bool.true_and] at k
      exact k
    · rw [h1, Bool.false_and] at k
      exact k
theorem ok_worth {f : Addr} {fd : FuncData} (F : Fun K "worth" "worth" sworth f fd) (N : Names mg) : FnOk P w K mg base CX0 1 f fd ["figures"] spWorth := by
  have sc := scworth
  refine F.ok sc (fun vs H Q E h => ?_) (fun cdv A outer s H vs Q E hr h => ?_)
  · obtain ⟨w, rfl, _⟩ := h
    rfl
  · obtain ⟨z, rfl, hf, k⟩ := h
    refine ⟨_, (pss_cons (ps_set (i := 1) sc.nd rfl (Or.inl rfl) pe_int)
      (pss_cons (ps_for PassesOwn.never rfl (pi_str (pv 0)) (pg_name (i := 2) sc.nd rfl (Or.inl rfl)) (pss_one (ps_set (i := 1) sc.nd rfl (Or.inl rfl) (pe_op op_add (pe_op op_mul pe_int (pv 1)) (pe_callTy (T := "int") call_int_str (by rfl) N.int (by decide +kernel) (pa_cons (pv 2) pa_nil))))))
      (pss_one (ps_ret (pv 1))))), ?_⟩
    obtain ⟨f1, f2⟩ := figB_iff.mp hf
    refine ⟨_, rfl, _, rfl, for_it walk_str (fun i σ H' => ∃ v2 : Option V, σ = [some (.str z), some (.int ((NumText.digitsVal ((sg z).take i) : Nat) : Int)), v2] ∧ H' = H) ⟨_, rfl, rfl⟩ (fun _ _ _ _ _ => trivial) ?_ ?_⟩
    · rintro i x σ H1 H2 hi ⟨v2, rfl, rfl⟩ ⟨rfl, c, hc, rfl⟩
      have hc' : (sg z)[i]? = some c := by rw [← Array.getElem?_toList] at hc; exact hc
      have hcc := f2 c (List.mem_of_getElem? hc')
      refine ⟨_, rfl, _, _, rfl, rfl, .inl ⟨by decide, by decide⟩, _, rfl, _, _, rfl, fig_int hcc, (show 1 ≤ 640 by decide), _, _, rfl, rfl, ?_⟩
      refine ⟨_, (by rw [worth_snoc z i c hc', Int.natCast_add, Int.natCast_mul, Int.mul_comm]; rfl), rfl⟩
    · rintro σ H' ⟨v2, rfl, rfl⟩
      refine ⟨_, rfl, ?_⟩
      have e : (sg z).take z.cps.size = sg z := List.take_of_length_le (by rw [Array.length_toList]; exact Nat.le_refl _)
      rw [e]
      exact k
theorem ok_readnum {f : Addr} {fd : FuncData} (F : Fun K "read_number" "read_number" sread_number f fd) (Dhas_figures_alone : DefK P w K mg base "has_figures_alone" ["word"] 1 spHasFig) (Dworth : DefK P w K mg base "worth" ["figures"] 1 spWorth) : FnOk P w K mg base CX0 2 f fd ["word"] spReadNum := by
  have sc := scread_number
  refine F.ok sc (fun vs H Q E h => ?_) (fun cdv A outer s H vs Q E hr h => ?_)
  · obtain ⟨w, rfl, _⟩ := h
    rfl
  · obtain ⟨z, rfl, k⟩ := h
    refine ⟨_, (pss_cons (ps_if (PW.pt (pw_or (pt_not (pt_val (pe_d Dhas_figures_alone (hr.mono (by decide)) rfl (pa_cons (pv 0) pa_nil)))) (pw_or1 (PW.pt (pw_and (pt_val (pe_m1 PySem.F.slot_str_startswith PySem.F.type_str_startswith mt_startswith (pv 0) pe_str)) (pw_and1 (pt_cmpR op_ne (pv 0) pe_str (nomark _)))))))) (pss_one (ps_ret pe_non)) pss_nil)
      (pss_one (ps_ret (pe_d Dworth (hr.mono (by decide)) rfl (pa_cons (pv 0) pa_nil))))), ?_⟩
    refine ⟨_, rfl, z, rfl, _, rfl, ?_⟩
    cases hf : figB z with
    | false =>
      refine iteT ?_
      have e : readN z = none := by
        unfold readN
        rw [if_neg (fun h => by rw [hf] at h; exact Bool.false_ne_true h.1)]
      rw [e] at k
      exact k
    | true =>
      refine iteF ?_
      refine ⟨_, rfl, ⟨_, rfl⟩, z, _, rfl, rfl, _, rfl, ?_⟩
      have yes : ¬ (Txt.startswith z "0" = true ∧ z ≠ "0") → readV (readN z) = .int ((worthN z : Nat) : Int) := fun h => by
        unfold readN
        rw [if_pos ⟨hf, h⟩]
        rfl
      cases hz : Txt.startswith z "0" with
      | false =>
        rw [yes (fun h => by rw [hz] at h; exact Bool.false_ne_true h.1)] at k
        refine iteF ?_
        exact ⟨_, rfl, z, rfl, hf, k⟩
      | true =>
        refine iteT ?_
        refine ⟨_, rfl, rfl, _, rfl, ?_⟩
        refine ifN (fun hd => ?_) (fun hd => ?_)
        · have e : readN z = none := by
            unfold readN
            rw [if_neg (fun h => h.2 ⟨hz, fun e => hd (congrArg V.str e)⟩)]
          rw [e] at k
          exact k
        · rw [yes (fun h => h.2 (V.str.inj hd))] at k
          exact ⟨_, rfl, z, rfl, hf, k⟩
theorem ok_behind {f : Addr} {fd : FuncData} (F : Fun K "numbers_behind" "numbers_behind" snumbers_behind f fd) (N : Names mg) (Dread_number : DefK P w K mg base "read_number" ["word"] 2 spReadNum) : FnOk P w K mg base CX0 3 f fd ["word", "line"] spBehind := by
  have sc := scnumbers_behind
  refine F.ok sc (fun vs H Q E h => ?_) (fun cdv A outer s H vs Q E hr h => ?_)
  · obtain ⟨a, b, w, ws, rfl, _⟩ := h
    rfl
  · obtain ⟨word, line, w, ws, rfl, hl, hsp, k1, k2⟩ := h
    refine ⟨_, (pss_cons (ps_asg (pe_split (pv 1) pe_str) (pg_star1 rfl (pgs_cons (pg_name (i := 2) sc.nd rfl (Or.inl rfl)) (pgs_star (pg_name (i := 3) sc.nd rfl (Or.inl rfl)) pgs_nil))))
      (pss_cons (ps_if (pt_cmpR op_ne (pv 2) (pv 0) (nomark _)) (pss_one (ps_ret pe_non)) pss_nil)
      (pss_one (ps_ret (pe_callTy (T := "tuple") call_tuple_of (by rfl) N.tuple (by decide +kernel) (pa_cons (pe_lc (own := [("other", 4)]) rfl sc.nd (pi_list (pv 3)) (blkOk_by (own := [("other", 4)]) (N := ["word", "line", "first", "others", "other"]) (sc := defScope (topS 52)) (by decide +kernel)) (fun _ _ _ _ _ => (pg_name (i := 4) sc.nd rfl (Or.inl rfl))) (fun _ _ _ _ _ => pts_nil) (fun _ _ _ _ _ => (pe_d Dread_number (hr.mono (by decide)) rfl (pa_cons (pv 4) pa_nil)))) pa_nil)))))), ?_⟩
    refine ⟨_, rfl, ⟨_, rfl⟩, _, _, rfl, rfl, (by decide), Nat.le_trans (show line.length + 2 ≤ 100002 by omega) (by decide), ?_⟩
    (intro q nq; generalize e_q : upd H q _ = H1; have s1 : Same H H1 := fun b x hb => (congrFun e_q b).symm.trans (same_new nq b x hb); have h1 := (congrFun e_q q).symm.trans upd_same; clear e_q)
    rw [hsp] at h1
    refine ⟨q, _, _, rfl, SqL.lst h1, ?_⟩
    (intro r nr; generalize e_r : upd H1 r _ = H2; have s2 : Same H1 H2 := fun b x hb => (congrFun e_r b).symm.trans (same_new nr b x hb); have h2 := (congrFun e_r r).symm.trans upd_same; clear e_r)
    have s02 := s1.trans s2
    refine ⟨_, _, rfl, _, _, rfl, rfl, ?_⟩
    refine ⟨_, rfl, _, rfl, rfl, _, rfl, ?_⟩
    refine ifN (fun hd => k2 (fun e => hd (congrArg V.str e)) H2 s02) (fun hd => ?_)
    have k1 := k1 (V.str.inj hd)
    clear k2 hd
    refine ⟨_, rfl, r, rfl, ⟨_, SqL.lst h2⟩, ?_⟩
    intro D nD
    have hwl : ws.length ≤ 100001 := by
      have := PyProof.Rows.split_le line " "
      rw [hsp] at this
      have : ws.length + 1 ≤ line.length + 2 := this
      omega
    refine lc_list (K := K) (xs := ws.map V.str) (fun i H' => Same H2 H' ∧ H' D = some (.lst ((ws.take i).map fun x => readV (readN x)))) ⟨same_new nD, upd_same⟩ (fun i H' _ ⟨sm, _⟩ => SqL.lst (sm _ _ h2)) ?_ ?_
    · rintro i y H' hy ⟨sm, eD⟩
      obtain ⟨x, hx, rfl⟩ : ∃ b, ws[i]? = some b ∧ y = V.str b := by
        rw [List.getElem?_map] at hy
        obtain ⟨z, hz, e⟩ := Option.map_eq_some_iff.mp hy
        exact ⟨z, hz, e.symm⟩
      refine ⟨rfl, ?_⟩
      refine ⟨_, rfl, x, rfl, _, eD, smallLt (by rw [List.length_map, List.length_take]; omega), same_mut sm nD, ?_⟩
      rw [upd_same, List.take_add_one, hx, List.map_append]
      rfl
    rintro H3 ⟨s3, eD⟩
    rw [List.take_of_length_le (by rw [List.length_map]; exact Nat.le_refl _)] at eD
    refine ⟨D, _, rfl, .inl ⟨SqL.lst eD, ?_⟩⟩
    (intro t nt; generalize e_t : upd H3 t _ = H4; have s4 : Same H3 H4 := fun b x hb => (congrFun e_t b).symm.trans (same_new nt b x hb); have h4 := (congrFun e_t t).symm.trans upd_same; clear e_t)
    exact k1 t H4 (s02.trans (s3.trans s4)) ((s02.trans s3).free nt) h4
end
end LM

set_option Elab.async false
set_option linter.all false
set_option maxRecDepth 100000
set_option maxHeartbeats 4000000
set_option pp.maxSteps 600
set_option pp.deepTerms false
namespace LM
open PySem PySem.Spec PyProof.Rows L2 RZ
local macro_rules | `(tactic| walk_at "hp") => `(tactic| first | assumption | exact upd_same | (rw [upd_ne (by assumption)]; assumption) | (rw [upd_ne (Ne.symm (by assumption))]; assumption) | (rw [upd_ne (by assumption)]; exact upd_same) | (rw [upd_ne (Ne.symm (by assumption))]; exact upd_same))
local macro_rules | `(tactic| walk_at "sq") => `(tactic| first | assumption | exact Or.inl (Or.inl (by assumption)) | exact Or.inl (Or.inl upd_same) | exact Or.inl (Or.inl (by walk_at "hp")))
local macro_rules | `(tactic| walk_at "ixl") => `(tactic| refine ⟨_, _, _, _, rfl, rfl, (by walk_at "sq"), (by rfl), ?_⟩)
local macro_rules | `(tactic| walk_at "setl") => `(tactic| refine ⟨_, _, _, _, rfl, rfl, (by walk_at "hp"), (by rfl), ?_⟩)
local macro_rules | `(tactic| walk_at "side") => `(tactic| refine idP ?_; first | omega | (show (0 : Int) < _; omega) | (show (0 : Int) < _ ∧ _ < _; omega) | (refine Or.inr ?_; show (-(2 ^ 64) : Int) < _ ∧ _ < _; omega) | (refine Or.inl ?_; show (-(2 ^ 64) : Int) < _ ∧ _ < _; omega) | exact divW (by omega) (by omega) _ | (refine ⟨by decide, by decide, ?_⟩; decide))
local macro_rules | `(tactic| walk_at "go1") => `(tactic| first
  | refine ⟨_, rfl, ?_⟩
  | refine ⟨_, _, rfl, rfl, (by walk_at "side"), ?_⟩
  | refine ⟨_, _, rfl, (by walk_at "side"), ?_⟩
  | refine ⟨_, _, rfl, rfl, ?_⟩
  | refine Or.inl ⟨_, rfl, ?_⟩
  | refine ⟨_, _, rfl, Or.inl (by walk_at "sq"), ?_⟩
  | walk_at "ixl"
  | walk_at "setl"
  | refine ⟨_, _, rfl, (by walk_at "sq"), rfl, ?_⟩
  | refine ⟨_, _, rfl, (by walk_at "sq"), ?_⟩
  | refine ⟨_, _, rfl, ?_⟩
  | refine ⟨rfl, ?_⟩
  | refine ⟨small (Nat.le_of_ble_eq_true rfl), ?_⟩)
local macro_rules | `(tactic| walk_at "go") => `(tactic| repeat walk_at "go1")

abbrev sis_label : Stmt := topS 27
theorem scis_label : FnScope ["bases", "value", "bounded", "base", "number"] ["bases", "value"] (defScope sis_label) := ⟨rfl, rfl, rfl, by decide +kernel, rfl, by decide +kernel, by decide +kernel⟩
abbrev splace_of : Stmt := topS 28
theorem scplace_of : FnScope ["bases", "label", "place", "base", "number"] ["bases", "label"] (defScope splace_of) := ⟨rfl, rfl, rfl, by decide +kernel, rfl, by decide +kernel, by decide +kernel⟩
abbrev swritten_number : Stmt := topS 22
theorem scwritten_number : FnScope ["number", "parts", "rest"] ["number"] (defScope swritten_number) := ⟨rfl, rfl, rfl, by decide +kernel, rfl, by decide +kernel, by decide +kernel⟩
abbrev swritten_label : Stmt := topS 30
theorem scwritten_label : FnScope ["bases", "label", "words", "base", "number"] ["bases", "label"] (defScope swritten_label) := ⟨rfl, rfl, rfl, by decide +kernel, rfl, by decide +kernel, by decide +kernel⟩
def spIsLabel (K : PySem.W.Frag) : Sp := fun vs H Q _ => ∃ (a l : Addr) (bs ds : List Int), vs = [.ref a, .ref l] ∧ SqT K H a (bs.map V.int) ∧ SqT K H l (ds.map V.int) ∧ 1 ≤ bs.length ∧ bs.length ≤ 3 ∧ ∀ H', Same H H' → Q (.bl (labelB bs ds)) H'
def spPlaceOf (K : PySem.W.Frag) : Sp := fun vs H Q _ => ∃ (a l : Addr) (bs ds : List Int), vs = [.ref a, .ref l] ∧ SqT K H a (bs.map V.int) ∧ SqT K H l (ds.map V.int) ∧ ds.length = bs.length + 1 ∧ bs.length ≤ 3 ∧ (∀ x ∈ bs, 2 ≤ x ∧ x ≤ 60) ∧ ∀ H', Same H H' → Q (.int (placeOf bs ds)) H'
def spNumText : Sp := fun vs H Q _ => ∃ (n : Int), vs = [.int n] ∧ 0 ≤ n ∧ n < 10 ^ 60 ∧ ∀ H', Same H H' → Q (.str (numS n)) H'
def spLabelText (K : PySem.W.Frag) : Sp := fun vs H Q _ => ∃ (a l : Addr) (bs ds : List Int), vs = [.ref a, .ref l] ∧ SqT K H a (bs.map V.int) ∧ SqT K H l (ds.map V.int) ∧ labelB bs ds = true ∧ bs.length ≤ 3 ∧ (∀ x ∈ bs, 2 ≤ x ∧ x ≤ 60) ∧ ds.headD 0 < 10 ^ 60 ∧ ∀ H', Same H H' → Q (.str (labelS bs ds)) H'
/-- what is read: the label, or None -/
def readO (o : Option (List Int)) (H : Hp) (Q : V → Hp → Prop) : Prop := match o with
  | none => ∀ H', Same H H' → Q .non H'
  | some ds => ∀ (t : Addr) H', Same H H' → H t = none → H' t = some (.tup (ds.map V.int)) → Q (.ref t) H'
def spReadLabel (K : PySem.W.Frag) : Sp := fun vs H Q _ => ∃ (a : Addr) (bs : List Int) (x : Str), vs = [.ref a, .str x] ∧ SqT K H a (bs.map V.int) ∧ 1 ≤ bs.length ∧ bs.length ≤ 3 ∧ (∀ x ∈ bs, 2 ≤ x ∧ x ≤ 60) ∧ x.length ≤ 90 ∧ (∀ w ∈ (Txt.split x ":").head?, w.length ≤ 59) ∧ readO (readL bs x) H Q
theorem cut_tail (xs : List V) : cutV xs (some 1) none = xs.drop 1 := cut_from xs 1
theorem not_whole {n : Nat} (h : 1 ≤ n) : ¬ (HT.sIx n 0 (some 1) = 0 ∧ HT.sIx n n none = n) := fun z => by
  have e : HT.sIx n 0 (some 1) = min 1 n := HT.sIx_nat n 0 1
  rw [e] at z
  omega
theorem zip_get {bs ds : List Int} {i : Nat} {x1 x2 : V} (hi : i < (bs.zip ds).length) (g1 : (bs.map V.int)[i]? = some x1) (g2 : (ds.map V.int)[i]? = some x2) : ∃ b d, (bs.zip ds)[i]? = some (b, d) ∧ x1 = .int b ∧ x2 = .int d := by
  rw [List.getElem?_map] at g1 g2
  obtain ⟨b, hb, rfl⟩ := Option.map_eq_some_iff.mp g1
  obtain ⟨d, hd, rfl⟩ := Option.map_eq_some_iff.mp g2
  exact ⟨b, d, List.getElem?_zip_eq_some.mpr ⟨hb, hd⟩, rfl, rfl⟩
theorem pad_all : ∀ k : _root_.Fin 61, PadOk (k.val : Int) = true := by decide +kernel
theorem pad_ok {k : Nat} (h : k ≤ 60) : PadOk (k : Int) = true := pad_all ⟨k, by omega⟩
theorem digits_lt : ∀ cs : List Nat, NumText.AllDigits cs → NumText.digitsVal cs < 10 ^ cs.length := by
  intro cs
  induction cs using snoc_ind with
  | h0 => exact fun _ => (by decide : 0 < 1)
  | h1 l c ih =>
    intro h
    have h1 := ih fun d hd => h d (List.mem_append_left _ hd)
    have h2 := h c (by simp)
    rw [NumText.digitsVal_snoc, List.length_append]
    show _ < 10 ^ (l.length + 1)
    rw [Nat.pow_succ]
    omega
theorem big_log {n : Int} (h0 : 0 ≤ n) (h1 : n < 10 ^ 60) : n.natAbs.log2 < 1920 := by
  have hn : n.natAbs < 10 ^ 60 := by
    have : ((10 : Int) ^ 60) = ((10 ^ 60 : Nat) : Int) := by decide
    omega
  rcases Nat.eq_zero_or_pos n.natAbs with z | z
  · rw [z]
    decide
  · exact Nat.lt_trans ((Nat.log2_lt (by omega)).mpr (Nat.lt_trans hn (show 10 ^ 60 < 2 ^ 200 by decide))) (by decide)
section
variable {P : Program} {w : World} {K : PySem.W.Frag} {mg : Str → Option Value} {base : Heap}
theorem ok_islabel {f : Addr} {fd : FuncData} (F : Fun K "is_label" "is_label" sis_label f fd) (N : Names mg) (Dis_integer_within : DefK P w K mg base "is_integer_within" ["value", "low", "high"] 2 spWithin) (Dis_number : DefK P w K mg base "is_number" ["value"] 2 spIsNum) : FnOk P w K mg base CX0 3 f fd ["bases", "value"] (spIsLabel K) := by
  have sc := scis_label
  refine F.ok sc (fun vs H Q E h => ?_) (fun cdv A outer s H vs Q E hr h => ?_)
  · obtain ⟨a, l, bs, ds, rfl, _⟩ := h
    rfl
  · obtain ⟨a, l, bs, ds, rfl, hb, hd, b1, b3, k⟩ := h
    refine ⟨_, (pss_cons (ps_if (PW.pt (pw_or (pt_not (pt_val (pe_callB call_isi (by rfl) N.isinstance (by decide +kernel) (pa_cons (pv 1) (pa_cons (pe_ty "tuple" rfl N.tuple (by decide +kernel)) pa_nil))))) (pw_or1 (pt_cmpR op_ne (pe_callB call_len_seq (by rfl) N.len (by decide +kernel) (pa_cons (pv 1) pa_nil)) (pe_op op_add (pe_callB call_len_seq (by rfl) N.len (by decide +kernel) (pa_cons (pv 0) pa_nil)) pe_int) (nomark _))))) (pss_one (ps_ret pe_bl)) pss_nil)
      (pss_cons (ps_setLc (i := 2) (own := [("base", 3), ("number", 4)]) (g := gTup K 2 (gCons (gName 3) (gCons (gName 4) gNil))) rfl sc.nd rfl rfl (sw_true rfl rfl rfl (by decide +kernel)) (pi_zipA rfl N.zip (pa_cons (pv 0) (pa_cons (pe_slice sl_tup (pv 1) (po_some pe_int) po_none) pa_nil))) (blkOk_by (own := [("base", 3), ("number", 4)]) (N := ["bases", "value", "bounded", "base", "number"]) (sc := defScope (topS 27)) (by decide +kernel)) (fun _ _ _ _ _ => (pg_tup rfl (pgs_cons (pg_name (i := 3) sc.nd rfl (Or.inl rfl) (Or.inr rfl)) (pgs_cons (pg_name (i := 4) sc.nd rfl (Or.inl rfl) (Or.inr rfl)) pgs_nil)))) (fun _ _ _ _ _ => pts_nil) (fun _ _ _ _ _ => (pe_d Dis_integer_within (hr.mono (by decide)) rfl (pa_cons (pv 4) (pa_cons pe_int (pa_cons (pe_op op_sub (pv 3) pe_int) pa_nil))))))
      (pss_one (ps_ret (pe_and (pe_d Dis_number (hr.mono (by decide)) rfl (pa_cons (pe_ix ix_tup (pv 1) pe_int (fun _ _ => rfl)) pa_nil)) (pe_one (pe_callB (cr_all rfl) (by rfl) N.all (by decide +kernel) (pa_cons (pv 2) pa_nil)))))))), ?_⟩
    refine ⟨_, rfl, _, _, _, _, _, rfl, .ty _, tyT hd, kit_ty (r := true) (by decide +kernel), _, rfl, ?_⟩
    refine iteF ?_
    refine ⟨_, rfl, l, _, rfl, .inr hd, _, rfl, a, _, rfl, .inr hb, _, _, rfl, rfl, rfl, _, rfl, ?_⟩
    rw [List.length_map, List.length_map]
    by_cases hlen : ds.length = bs.length + 1
    rotate_left
    · refine ifN (fun hd' => ?_) (fun hd' => absurd (V.int.inj hd') (by omega))
      have e : labelB bs ds = false := by
        unfold labelB
        rw [decide_eq_false hlen]
        rfl
      rw [e] at k
      exact k H (Same.refl H)
    refine ifN (fun hd' => absurd (congrArg V.int (by omega)) hd') (fun _ => ?_)
    have hx : 0 < ds.length := by omega
    have h0 : ds.headD 0 = ds[0] := by cases ds with | nil => simp at hx | cons => rfl
    refine ⟨_, rfl, _, rfl, _, rfl, l, _, rfl, hd, not_whole (by rw [List.length_map]; exact hx), ?_⟩
    (intro t nt; generalize e_t : upd H t _ = H1; have s1 : Same H H1 := fun b x hb => (congrFun e_t b).symm.trans (same_new nt b x hb); have h1 := (congrFun e_t t).symm.trans upd_same; clear e_t)
    have h1' : H1 t = some (.tup (ds.tail.map V.int)) := by rw [h1, cut_tail, List.drop_one, List.map_tail]
    refine ⟨a, t, _, _, rfl, .inr ⟨Same.seqT s1 hb, SqT.tup h1', ?_⟩⟩
    intro D nD
    refine lc_it (walk_zipT (n := (bs.zip ds.tail).length) (by rw [List.length_zip, List.length_map, List.length_map])) (fun i H' => Same H1 H' ∧ H' D = some (.lst ((((bs.zip ds.tail).take i).map fun p => decide (0 ≤ p.2) && decide (p.2 ≤ p.1 - 1)).map V.bl))) ⟨same_new nD, upd_same⟩ (fun i H' _ ⟨sm, _⟩ => ⟨Same.seqT (s1.trans sm) hb, SqT.tup (sm _ _ h1')⟩) ?_ ?_
    · rintro i x H2 H3 hi ⟨sm, eD⟩ ⟨T, x1, x2, rfl, nT, rfl, g1, g2⟩
      obtain ⟨b, d, hz, rfl, rfl⟩ := zip_get hi g1 g2
      have zl : (bs.zip ds.tail).length ≤ 3 := by rw [List.length_zip]; omega
      refine ⟨T, _, rfl, SqT.tup upd_same, rfl, _, _, rfl, _, _, rfl, rfl, rfl, ?_⟩
      have eD2 := same_new nT (o := HO.tup [V.int b, V.int d]) _ _ eD
      refine ⟨_, rfl, _, rfl, _, _, rfl, rfl, d, 0, b - 1, rfl, _, eD2, smallLt (by rw [List.length_map, List.length_map, List.length_take]; omega), same_mut (Same.of_new sm nT) nD, ?_⟩
      rw [upd_same, List.take_add_one, hz, List.map_append, List.map_append]
      rfl
    rintro H2 ⟨sm, eD⟩
    rw [List.take_of_length_le (Nat.le_refl _)] at eD
    have s02 := s1.trans sm
    refine ⟨_, rfl, l, _, _, _, rfl, rfl, Same.seqT s02 hd, atI_nat (map_get hx), ds[0], rfl, _, rfl, ?_⟩
    rw [← h0]
    have kk := k H2 s02
    have e : labelB bs ds = (decide (0 ≤ ds.headD 0) && (boundL bs ds).all id) := by
      unfold labelB
      rw [decide_eq_true hlen, Bool.true_and]
    rw [e] at kk
    refine ifB (fun h1 => ?_) (fun h1 => ?_)
    · rw [h1, Bool.true_and] at kk
      exact ⟨_, rfl, D, _, rfl, SqL.lst eD, kk⟩
    · rw [h1, Bool.false_and] at kk
      exact kk
theorem ok_placeof {f : Addr} {fd : FuncData} (F : Fun K "place_of" "place_of" splace_of f fd) (N : Names mg) : FnOk P w K mg base CX0 1 f fd ["bases", "label"] (spPlaceOf K) := by
  have sc := scplace_of
  refine F.ok sc (fun vs H Q E h => ?_) (fun cdv A outer s H vs Q E hr h => ?_)
  · obtain ⟨a, l, bs, ds, rfl, _⟩ := h
    rfl
  · obtain ⟨a, l, bs, ds, rfl, hb, hd, hl, b3, bb, k⟩ := h
    refine ⟨_, (pss_cons (ps_set (i := 2) sc.nd rfl (Or.inl rfl) (pe_ix ix_tup (pv 1) pe_int (fun _ _ => rfl)))
      (pss_cons (ps_for PassesOwn.never rfl (pi_zipA rfl N.zip (pa_cons (pv 0) (pa_cons (pe_slice sl_tup (pv 1) (po_some pe_int) po_none) pa_nil))) (pg_tup rfl (pgs_cons (pg_name (i := 3) sc.nd rfl (Or.inl rfl)) (pgs_cons (pg_name (i := 4) sc.nd rfl (Or.inl rfl)) pgs_nil))) (pss_one (ps_set (i := 2) sc.nd rfl (Or.inl rfl) (pe_op op_add (pe_op op_mul (pv 2) (pv 3)) (pv 4)))))
      (pss_one (ps_ret (pv 2))))), ?_⟩
    have hx : 0 < ds.length := by omega
    have h0 : ds.headD 0 = ds[0] := by cases ds with | nil => simp at hx | cons => rfl
    refine ⟨_, rfl, l, _, _, _, rfl, rfl, hd, atI_nat (map_get hx), ?_⟩
    rw [← h0]
    refine ⟨_, rfl, _, rfl, _, rfl, l, _, rfl, hd, not_whole (by rw [List.length_map]; exact hx), ?_⟩
    (intro t nt; generalize e_t : upd H t _ = H1; have s1 : Same H H1 := fun b x hb => (congrFun e_t b).symm.trans (same_new nt b x hb); have h1 := (congrFun e_t t).symm.trans upd_same; clear e_t)
    have h1' : H1 t = some (.tup (ds.tail.map V.int)) := by rw [h1, cut_tail, List.drop_one, List.map_tail]
    refine ⟨a, t, _, _, rfl, .inr ⟨Same.seqT s1 hb, SqT.tup h1', ?_⟩⟩
    refine for_it (walk_zipT (n := (bs.zip ds.tail).length) (by rw [List.length_zip, List.length_map, List.length_map])) (fun i σ H' => ∃ v3 v4 : Option V, σ = [some (.ref a), some (.ref l), some (.int (((bs.zip ds.tail).take i).foldl (fun a p => a * p.1 + p.2) (ds.headD 0))), v3, v4] ∧ Same H1 H') ⟨_, _, rfl, Same.refl H1⟩ (fun i σ H' _ ⟨_, _, _, sm⟩ => ⟨Same.seqT (s1.trans sm) hb, SqT.tup (sm _ _ h1')⟩) ?_ ?_
    · rintro i x σ H2 H3 hi ⟨v3, v4, rfl, sm⟩ ⟨T, x1, x2, rfl, nT, rfl, g1, g2⟩
      obtain ⟨b, d, hz, rfl, rfl⟩ := zip_get hi g1 g2
      have hbb := bb b (List.of_mem_zip (List.mem_of_getElem? hz)).1
      refine ⟨T, _, rfl, SqT.tup upd_same, rfl, _, _, rfl, _, _, rfl, rfl, ?_⟩
      refine ⟨_, rfl, _, rfl, _, _, rfl, rfl, .inr ⟨by omega, by omega⟩, _, rfl, _, _, rfl, rfl, ?_⟩
      exact ⟨_, _, (by rw [take_fold _ _ _ i _ hz]; rfl), Same.of_new sm nT⟩
    · rintro σ H' ⟨v3, v4, rfl, sm⟩
      rw [List.take_of_length_le (Nat.le_refl _)]
      exact ⟨_, rfl, k _ (s1.trans sm)⟩
theorem ok_numtext {f : Addr} {fd : FuncData} (F : Fun K "written_number" "written_number" swritten_number f fd) (N : Names mg) : FnOk P w K mg base CX0 1 f fd ["number"] spNumText := by
  have sc := scwritten_number
  refine F.ok sc (fun vs H Q E h => ?_) (fun cdv A outer s H vs Q E hr h => ?_)
  · obtain ⟨n, rfl, _⟩ := h
    rfl
  · obtain ⟨n, rfl, n0, n1, k⟩ := h
    refine ⟨_, (pss_cons (ps_set (i := 1) sc.nd rfl (Or.inl rfl) (pe_lst pa_nil))
      (pss_cons (ps_while PassesOwn.never (pt_cmpR op_ge (pv 0) (pe_op op_pow pe_int pe_int) (nomark _)) (pss_cons (ps_asg (pe_callB call_divmodW (by rfl) N.divmod (by decide +kernel) (pa_cons (pv 0) (pa_cons (pe_op op_pow pe_int pe_int) pa_nil))) (pg_tup rfl (pgs_cons (pg_name (i := 0) sc.nd rfl (Or.inl rfl)) (pgs_cons (pg_name (i := 2) sc.nd rfl (Or.inl rfl)) pgs_nil))))
      (pss_one (ps_expr (pe_bm PySem.F.plainAttrs_list PySem.F.slot_list_append PySem.F.type_list_append mt_append (pv 1) (pa_cons (pe_bm PySem.F.plainAttrs_str PySem.F.slot_str_zfill PySem.F.type_str_zfill mt_zfill (pe_callTy (T := "str") call_str_int (by rfl) N.str (by decide +kernel) (pa_cons (pv 2) pa_nil)) (pa_cons pe_int pa_nil)) pa_nil))))))
      (pss_cons (ps_expr (pe_bm PySem.F.plainAttrs_list PySem.F.slot_list_append PySem.F.type_list_append mt_append (pv 1) (pa_cons (pe_callTy (T := "str") call_str_int (by rfl) N.str (by decide +kernel) (pa_cons (pv 0) pa_nil)) pa_nil)))
      (pss_one (ps_ret (pe_joinRev rfl pe_str rfl N.reversed (pv 1))))))), ?_⟩
    refine ⟨Nat.le_of_ble_eq_true rfl, ?_⟩
    (intro p np; generalize e_p : upd H p _ = H1; have s1 : Same H H1 := fun b x hb => (congrFun e_p b).symm.trans (same_new np b x hb); have h1 := (congrFun e_p p).symm.trans upd_same; clear e_p)
    refine while_by (fun σ H' => ∃ v2 : Option V, σ = [some (.int n), some (.ref p), v2] ∧ H' = H1) (fun _ _ => 0) ⟨_, rfl, rfl⟩ ?_ ?_
    · rintro σ H' ⟨v2, rfl, rfl⟩
      refine ⟨_, rfl, _, _, rfl, rfl, ⟨by decide, by decide, by decide⟩, _, _, rfl, rfl, _, rfl, ?_⟩
      refine ifD (fun hd => absurd hd (by show ¬ (10 : Int) ^ 60 ≤ n; omega)) (fun hd => ?_)
      refine ⟨_, rfl, .inl ⟨rfl, _, SqL.lst h1⟩, _, rfl, n, rfl, big_log n0 n1, p, _, _, rfl, rfl, h1, smallLt (by decide), ?_⟩
      generalize e2 : upd H' p _ = H2
      have h2 : H2 p = some (.lst ([numS n].map V.str)) := (congrFun e2 p).symm.trans upd_same
      have s2 : Same H H2 := fun b o e => by rw [← e2, upd_ne (ne_of_none e np)]; exact s1 _ _ e
      refine ⟨⟨_, rfl⟩, _, rfl, _, p, [numS n], rfl, rfl, SqL.lst h2, ?_, ?_⟩
      · have := num_len n0 n1
        show ((numS n).length + 0) + 1 * 0 ≤ 16777216
        omega
      · exact k H2 s2
    · intro σ H' Q1 Q2 hm h
      obtain ⟨v, hv, i, j, e1, e2, c, i2, j2, e3, e4, b, e5, q⟩ := h
      exact ⟨v, hv, i, j, e1, e2, c, i2, j2, e3, e4, b, e5, hm _ _ q⟩
theorem ok_labeltext {f : Addr} {fd : FuncData} (F : Fun K "written_label" "written_label" swritten_label f fd) (N : Names mg) (Dwritten_number : DefK P w K mg base "written_number" ["number"] 1 spNumText) : FnOk P w K mg base CX0 2 f fd ["bases", "label"] (spLabelText K) := by
  have sc := scwritten_label
  refine F.ok sc (fun vs H Q E h => ?_) (fun cdv A outer s H vs Q E hr h => ?_)
  · obtain ⟨a, l, bs, ds, rfl, _⟩ := h
    rfl
  · obtain ⟨a, l, bs, ds, rfl, hb, hd, hl, b3, bb, h60, k⟩ := h
    refine ⟨_, (pss_cons (ps_set (i := 2) sc.nd rfl (Or.inl rfl) (pe_lst (pa_cons (pe_d Dwritten_number (hr.mono (by decide)) rfl (pa_cons (pe_ix ix_tup (pv 1) pe_int (fun _ _ => rfl)) pa_nil)) pa_nil)))
      (pss_cons (ps_for PassesOwn.never rfl (pi_zipA rfl N.zip (pa_cons (pv 0) (pa_cons (pe_slice sl_tup (pv 1) (po_some pe_int) po_none) pa_nil))) (pg_tup rfl (pgs_cons (pg_name (i := 3) sc.nd rfl (Or.inl rfl)) (pgs_cons (pg_name (i := 4) sc.nd rfl (Or.inl rfl)) pgs_nil))) (pss_one (ps_expr (pe_bm PySem.F.plainAttrs_list PySem.F.slot_list_append PySem.F.type_list_append mt_append (pv 2) (pa_cons (pe_bm PySem.F.plainAttrs_str PySem.F.slot_str_zfill PySem.F.type_str_zfill mt_zfill (pe_callTy (T := "str") call_str_int (by rfl) N.str (by decide +kernel) (pa_cons (pv 4) pa_nil)) (pa_cons (pe_callB call_len_str (by rfl) N.len (by decide +kernel) (pa_cons (pe_callTy (T := "str") call_str_int (by rfl) N.str (by decide +kernel) (pa_cons (pe_op op_sub (pv 3) pe_int) pa_nil)) pa_nil)) pa_nil)) pa_nil)))))
      (pss_one (ps_ret (pe_join pe_str (pv 2)))))), ?_⟩
    have hlen := labelB_len hl
    have hx : 0 < ds.length := by omega
    have h0 : ds.headD 0 = ds[0] := by cases ds with | nil => simp at hx | cons => rfl
    refine ⟨_, rfl, l, _, _, _, rfl, rfl, hd, atI_nat (map_get hx), ?_⟩
    rw [← h0]
    refine ⟨_, rfl, label_head hl, h60, fun H1 s1 => ?_⟩
    refine ⟨Nat.le_of_ble_eq_true rfl, ?_⟩
    (intro p np; generalize e_p : upd H1 p _ = H2; have s2 : Same H1 H2 := fun b x hb => (congrFun e_p b).symm.trans (same_new np b x hb); have h2 := (congrFun e_p p).symm.trans upd_same; clear e_p)
    have s02 := s1.trans s2
    refine ⟨_, rfl, _, rfl, _, rfl, l, _, rfl, Same.seqT s02 hd, not_whole (by rw [List.length_map]; exact hx), ?_⟩
    (intro t nt; generalize e_t : upd H2 t _ = H3; have s3 : Same H2 H3 := fun b x hb => (congrFun e_t b).symm.trans (same_new nt b x hb); have h3 := (congrFun e_t t).symm.trans upd_same; clear e_t)
    have h3' : H3 t = some (.tup (ds.tail.map V.int)) := by rw [h3, cut_tail, List.drop_one, List.map_tail]
    have s03 := s02.trans s3
    have hzb := zip_bound hl
    have hzl := zip_left (ds := ds.tail) (m := 60) fun x hx => (bb x hx).2
    have ntp : t ≠ p := fun z => by rw [z, s3 _ _ h2] at h3; cases h3
    refine ⟨a, t, _, _, rfl, .inr ⟨Same.seqT s03 hb, SqT.tup h3', ?_⟩⟩
    refine for_it (walk_zipT (n := (bs.zip ds.tail).length) (by rw [List.length_zip, List.length_map, List.length_map])) (fun i σ H' => ∃ v3 v4 : Option V, σ = [some (.ref a), some (.ref l), some (.ref p), v3, v4] ∧ Same H1 H' ∧ H' t = some (.tup (ds.tail.map V.int)) ∧ H' p = some (.lst ((numS (ds.headD 0) :: ((bs.zip ds.tail).take i).map fun p => padS p.1 p.2).map V.str)))
      ⟨_, _, rfl, s2.trans s3, h3', s3 _ _ h2⟩ (fun i σ H' _ ⟨_, _, _, sm, ht, _⟩ => ⟨Same.seqT (s1.trans sm) hb, SqT.tup ht⟩) ?_ ?_
    · rintro i x σ H4 H5 hi ⟨v3, v4, rfl, sm, ht, hp⟩ ⟨T, x1, x2, rfl, nT, rfl, g1, g2⟩
      obtain ⟨b, d, hz, rfl, rfl⟩ := zip_get hi g1 g2
      obtain ⟨q0, q1⟩ := hzb _ (List.mem_of_getElem? hz)
      have q2 := hzl _ (List.mem_of_getElem? hz)
      dsimp only at q0 q1 q2
      obtain ⟨_, _, _, q5, _⟩ := pad_of q0 q1 q2
      refine ⟨T, _, rfl, SqT.tup upd_same, rfl, _, _, rfl, _, _, rfl, rfl, ?_⟩
      generalize e5 : upd H4 T _ = H5
      have s5 : Same H4 H5 := fun b o e => by rw [← e5, upd_ne (ne_of_none e nT)]; exact e
      have hp5 := s5 _ _ hp
      have zl : (bs.zip ds.tail).length ≤ 3 := by rw [List.length_zip]; omega
      have nl := num_len (m := b - 1) (by omega) (Int.lt_of_le_of_lt (show b - 1 ≤ 60 by omega) (by decide))
      refine ⟨_, rfl, .inl ⟨rfl, _, SqL.lst hp5⟩, _, rfl, d, rfl, big_log q0 (Int.lt_of_le_of_lt (show d ≤ 60 by omega) (by decide)), rfl, _, rfl, _, _, rfl, rfl, b - 1, rfl, big_log (show 0 ≤ b - 1 by omega) (Int.lt_of_le_of_lt (show b - 1 ≤ 60 by omega) (by decide)), numS (b - 1), rfl, small (by omega), _, _, rfl, rfl, pad_ok nl, p, _, _, rfl, rfl, hp5, smallLt (by rw [List.length_map, List.length_cons, List.length_map, List.length_take]; omega), ?_⟩
      refine ⟨_, _, rfl, same_mut (sm.trans s5) np, ?_, ?_⟩
      · rw [upd_ne ntp]
        exact s5 _ _ ht
      · rw [upd_same, List.take_add_one, hz, List.map_append, ← List.cons_append, List.map_append]
        rfl
    · rintro σ H' ⟨v3, v4, rfl, sm, ht, hp⟩
      rw [List.take_of_length_le (Nat.le_refl _)] at hp
      refine ⟨⟨_, rfl⟩, _, rfl, _, p, wordsP bs ds, rfl, rfl, .inl (SqL.lst hp), ?_, k H' (s1.trans sm)⟩
      refine Nat.le_trans (join_le _ _ 60 fun y hy => ?_) ?_
      · rcases List.mem_cons.mp hy with rfl | hy
        · exact num_len (label_head hl) h60
        · obtain ⟨z, hz, rfl⟩ := List.mem_map.mp hy
          obtain ⟨a1, a2⟩ := hzb z hz
          have := (pad_of a1 a2 (hzl z hz)).2.2.2.1
          omega
      · have e : ((":" : Str)).length = 1 := by decide
        rw [e]
        unfold wordsP
        rw [List.length_cons, List.length_map, List.length_zip]
        omega
end
end LM

set_option Elab.async false
set_option linter.all false
set_option maxRecDepth 100000
set_option maxHeartbeats 4000000
namespace LM
open PySem PySem.Spec PyProof.Rows L2
/-! ### texts of houses -/
theorem join_free (c : Nat) (sep : Str) (hs : c ∉ sg sep) : ∀ ws : List Str, (∀ w ∈ ws, c ∉ sg w) → c ∉ sg (Str.join sep ws)
  | [], _ => by
    show c ∉ sg Str.empty
    exact fun z => nomatch z
  | [x], h => h x (List.mem_singleton.mpr rfl)
  | x :: y :: r, h => by
    show c ∉ sg (x ++ sep ++ Str.join sep (y :: r))
    rw [sg_app, sg_app]
    intro z
    rcases List.mem_append.mp z with z | z
    · rcases List.mem_append.mp z with z | z
      · exact h x List.mem_cons_self z
      · exact hs z
    · exact join_free c sep hs (y :: r) (fun w hw => h w (List.mem_cons_of_mem _ hw)) z
theorem sp_eq : (" " : Str) = ⟨#[32]⟩ := by decide
theorem nl_eq : ("\n" : Str) = ⟨#[10]⟩ := by decide
theorem num_free {x : Int} (h : 0 ≤ x) {c : Nat} (hc : c < 48 ∨ 57 < c) : c ∉ sg (numS x) := by
  obtain ⟨m, rfl⟩ := Int.eq_ofNat_of_zero_le h
  exact fig_free (num_fig m) hc
theorem spaced_free {ns : List Int} (h : ∀ x ∈ ns, 0 ≤ x) {c : Nat} (hc : c < 48 ∨ 57 < c) (h32 : c ≠ 32) : c ∉ sg (spacedS ns) := by
  unfold spacedS
  rw [join_glued]
  refine join_free c _ ?_ _ fun w hw => ?_
  · rw [sp_eq]
    intro z
    exact h32 (List.mem_singleton.mp z)
  · obtain ⟨x, hx, rfl⟩ := List.mem_map.mp hw
    exact num_free (h x hx) hc
theorem empty_app (x : Str) : Str.empty ++ x = x := sg_inj (by rw [sg_app]; rfl)
/-- a line of a house: a word, and numbers behind it -/
theorem line_join (a : Str) : ∀ {ns : List Int}, ns ≠ [] → Str.empty ++ (a ++ " ") ++ spacedS ns = Txt.join " " (a :: ns.map numS)
  | [], h => absurd rfl h
  | n :: ns, _ => by
    unfold spacedS
    rw [join_glued, join_glued, empty_app]
    rfl
theorem line_split (a : Str) {ns : List Int} (h0 : ns ≠ []) (h : ∀ x ∈ ns, 0 ≤ x) (ha : 32 ∉ sg a) : Txt.split (Str.empty ++ (a ++ " ") ++ spacedS ns) " " = a :: ns.map numS := by
  rw [line_join a h0, sp_eq]
  refine split_join 32 _ (List.cons_ne_nil _ _) fun p hp => ?_
  rcases List.mem_cons.mp hp with rfl | hp
  · exact ha
  · obtain ⟨x, hx, rfl⟩ := List.mem_map.mp hp
    exact num_free (h x hx) (.inl (by decide))
theorem house_word : ("house " : Str) = "house" ++ " " := by decide
theorem skip_word : ("skip " : Str) = "skip" ++ " " := by decide
def headS (bs : List Int) : Str := Str.empty ++ "house " ++ spacedS bs
theorem head_split {bs : List Int} (h0 : bs ≠ []) (h : ∀ x ∈ bs, 0 ≤ x) : Txt.split (headS bs) " " = ("house" : Str) :: bs.map numS := by
  unfold headS
  rw [house_word]
  exact line_split ("house" : Str) h0 h (by decide)
theorem row_split {x : R3} (h : 0 ≤ x.1 ∧ 0 ≤ x.2.1 ∧ 0 ≤ x.2.2) : Txt.split (rowS x) " " = ("skip" : Str) :: [x.1, x.2.1, x.2.2].map numS := by
  unfold rowS
  rw [skip_word]
  refine line_split ("skip" : Str) (List.cons_ne_nil _ _) (fun y hy => ?_) (by decide)
  simp at hy
  rcases hy with rfl | rfl | rfl
  · exact h.1
  · exact h.2.1
  · exact h.2.2
theorem house_split {bs : List Int} {rows : List R3} (h : ∀ x ∈ bs, 0 ≤ x) (hr : ∀ x ∈ rows, 0 ≤ x.1 ∧ 0 ≤ x.2.1 ∧ 0 ≤ x.2.2) : Txt.split (houseS bs rows) "\n" = headS bs :: rows.map rowS := by
  have e : houseS bs rows = Txt.join "\n" (headS bs :: rows.map rowS) := rfl
  have fr : ∀ (a : Str) (ns : List Int), 10 ∉ sg a → (∀ x ∈ ns, 0 ≤ x) → 10 ∉ sg (Str.empty ++ a ++ spacedS ns) := fun a ns ha hn z => by
    rw [sg_app, sg_app] at z
    rcases List.mem_append.mp z with z | z
    · rcases List.mem_append.mp z with z | z
      · exact nomatch z
      · exact ha z
    · exact spaced_free hn (.inl (by decide)) (by decide) z
  rw [e, nl_eq]
  refine split_join 10 _ (List.cons_ne_nil _ _) fun p hp => ?_
  rcases List.mem_cons.mp hp with rfl | hp
  · exact fr _ _ (by decide) h
  · obtain ⟨x, hx, rfl⟩ := List.mem_map.mp hp
    refine fr _ _ (by decide) fun y hy => ?_
    simp at hy
    have := hr x hx
    rcases hy with rfl | rfl | rfl
    · exact this.1
    · exact this.2.1
    · exact this.2.2
/-- the text of a house, as the law writes it -/
def statedStep (s : Str) (x : R3) : Str := s ++ "\nskip " ++ spacedS [x.1, x.2.1, x.2.2]
def statedL (bs : List Int) (rows : List R3) : Str := rows.foldl statedStep ("house " ++ spacedS bs)
theorem stated_eq (bs : List Int) (rows : List R3) : statedL bs rows = houseS bs rows := by
  have e : houseS bs rows = Txt.join "\n" (headS bs :: rows.map rowS) := rfl
  have e2 : headS bs = "house " ++ spacedS bs := by
    unfold headS
    rw [empty_app]
  have e3 : ("\nskip " : Str) = "\n" ++ "skip " := by decide
  unfold statedL
  rw [e, join_glued, join_fold, List.foldl_map, e2]
  clear e e2
  generalize ("house " : Str) ++ spacedS bs = s
  induction rows generalizing s with
  | nil => rfl
  | cons x rows ih =>
    rw [List.foldl_cons, List.foldl_cons]
    have e4 : statedStep s x = s ++ "\n" ++ rowS x := by
      unfold statedStep rowS
      rw [empty_app, e3]
      exact sg_inj (by simp only [sg_app, List.append_assoc])
    rw [e4]
    exact ih _
theorem house_len {bs : List Int} {rows : List R3} (h3 : bs.length ≤ 3) (hb : ∀ x ∈ bs, 0 ≤ x ∧ x ≤ 60) (h6 : rows.length ≤ 6) (hr : ∀ x ∈ rows, (0 ≤ x.1 ∧ x.1 ≤ 60) ∧ (0 ≤ x.2.1 ∧ x.2.1 ≤ 60) ∧ 0 ≤ x.2.2 ∧ x.2.2 ≤ 60) : (houseS bs rows).length ≤ 3000 ∧ (headS bs).length ≤ 300 ∧ ∀ x ∈ rows, (rowS x).length ≤ 300 := by
  have l0 : (Str.empty ++ "house " : Str).length = 6 := by decide
  have l1 : (Str.empty ++ "skip " : Str).length = 5 := by decide
  have hh : (headS bs).length ≤ 300 := by
    have := spaced_len h3 hb
    unfold headS
    rw [Str.length_append, l0]
    omega
  have hw : ∀ x ∈ rows, (rowS x).length ≤ 300 := fun x hx => by
    have h := hr x hx
    have := spaced_len (ns := [x.1, x.2.1, x.2.2]) (Nat.le_refl 3) (fun z hz => by
      simp at hz
      rcases hz with rfl | rfl | rfl
      · exact h.1
      · exact h.2.1
      · exact h.2.2)
    unfold rowS
    rw [Str.length_append, l1]
    omega
  refine ⟨?_, hh, hw⟩
  have e : houseS bs rows = Txt.join "\n" (headS bs :: rows.map rowS) := rfl
  rw [e]
  refine Nat.le_trans (join_len _ _ 300 fun y hy => ?_) ?_
  · rcases List.mem_cons.mp hy with rfl | hy
    · exact hh
    · obtain ⟨x, hx, rfl⟩ := List.mem_map.mp hy
      exact hw x hx
  · have e : (("\n" : Str)).length = 1 := by decide
    rw [List.length_cons, List.length_map, e]
    refine Nat.le_trans (Nat.mul_le_mul_right _ (show rows.length + 1 ≤ 7 by omega)) (by decide)
end LM

set_option Elab.async false
set_option linter.all false
set_option maxRecDepth 100000
set_option maxHeartbeats 4000000
set_option pp.maxSteps 600
set_option pp.deepTerms false
namespace LM
open PySem PySem.Spec PyProof.Rows L2 RZ
local macro_rules | `(tactic| walk_at "hp") => `(tactic| first | assumption | exact upd_same | (rw [upd_ne (by assumption)]; assumption) | (rw [upd_ne (Ne.symm (by assumption))]; assumption) | (rw [upd_ne (by assumption)]; exact upd_same) | (rw [upd_ne (Ne.symm (by assumption))]; exact upd_same))
local macro_rules | `(tactic| walk_at "sq") => `(tactic| first | assumption | exact Or.inl (Or.inl (by assumption)) | exact Or.inl (Or.inl upd_same) | exact Or.inl (Or.inl (by walk_at "hp")))
local macro_rules | `(tactic| walk_at "ixl") => `(tactic| refine ⟨_, _, _, _, rfl, rfl, (by walk_at "sq"), (by rfl), ?_⟩)
local macro_rules | `(tactic| walk_at "setl") => `(tactic| refine ⟨_, _, _, _, rfl, rfl, (by walk_at "hp"), (by rfl), ?_⟩)
local macro_rules | `(tactic| walk_at "side") => `(tactic| refine idP ?_; first | omega | (show (0 : Int) < _; omega) | (show (0 : Int) < _ ∧ _ < _; omega) | (refine Or.inr ?_; show (-(2 ^ 64) : Int) < _ ∧ _ < _; omega) | (refine Or.inl ?_; show (-(2 ^ 64) : Int) < _ ∧ _ < _; omega) | exact divW (by omega) (by omega) _ | (refine ⟨by decide, by decide, ?_⟩; decide))
local macro_rules | `(tactic| walk_at "go1") => `(tactic| first
  | refine ⟨_, rfl, ?_⟩
  | refine ⟨_, _, rfl, rfl, (by walk_at "side"), ?_⟩
  | refine ⟨_, _, rfl, (by walk_at "side"), ?_⟩
  | refine ⟨_, _, rfl, rfl, ?_⟩
  | refine Or.inl ⟨_, rfl, ?_⟩
  | refine ⟨_, _, rfl, Or.inl (by walk_at "sq"), ?_⟩
  | walk_at "ixl"
  | walk_at "setl"
  | refine ⟨_, _, rfl, (by walk_at "sq"), rfl, ?_⟩
  | refine ⟨_, _, rfl, (by walk_at "sq"), ?_⟩
  | refine ⟨_, _, rfl, ?_⟩
  | refine ⟨rfl, ?_⟩
  | refine ⟨small (Nat.le_of_ble_eq_true rfl), ?_⟩)
local macro_rules | `(tactic| walk_at "go") => `(tactic| repeat walk_at "go1")

abbrev sHouse_read : Stmt := inClass (topS 53) 1
theorem scHouse_read : FnScope ["cls", "text", "first", "others", "bases", "rows", "line"] ["cls", "text"] (defScope sHouse_read) := ⟨rfl, rfl, rfl, by decide +kernel, rfl, by decide +kernel, by decide +kernel⟩
abbrev sHouse__eq_ : Stmt := inClass (topS 53) 16
theorem scHouse__eq_ : FnScope ["self", "other"] ["self", "other"] (defScope sHouse__eq_) := ⟨rfl, rfl, rfl, by decide +kernel, rfl, by decide +kernel, by decide +kernel⟩
abbrev sHouse__str_ : Stmt := inClass (topS 53) 17
theorem scHouse__str_ : FnScope ["self"] ["self"] (defScope sHouse__str_) := ⟨rfl, rfl, rfl, by decide +kernel, rfl, by decide +kernel, by decide +kernel⟩
abbrev sHouse__repr_ : Stmt := inClass (topS 53) 18
theorem scHouse__repr_ : FnScope ["self"] ["self"] (defScope sHouse__repr_) := ⟨rfl, rfl, rfl, by decide +kernel, rfl, by decide +kernel, by decide +kernel⟩
theorem Other.tup {K : PySem.W.Frag} {C : Addr} {H : Hp} (o : Other K C) {a : Addr} {xs : List V} (h : SqT K H a xs) : Alien K C H (.ref a) := ⟨_, tyT h, o.tup1, o.tup2⟩
theorem hf_text (b r sk ah rd : Addr) (t : Str) : (hf b r sk ah rd t).lookup ("_text" : Str) = some (.str t) := by
  unfold hf
  rw [lookup_putF, if_neg (by decide +kernel), lookup_putF, if_neg (by decide +kernel), lookup_putF, if_neg (by decide +kernel), lookup_putF, if_pos rfl]
theorem hf_rows (b r sk ah rd : Addr) (t : Str) : (hf b r sk ah rd t).lookup ("_rows" : Str) = some (.ref r) := by
  unfold hf
  rw [lookup_putF, if_neg (by decide +kernel), lookup_putF, if_neg (by decide +kernel), lookup_putF, if_neg (by decide +kernel), lookup_putF, if_neg (by decide +kernel), lookup_putF, if_pos rfl]
/-- an instance of the class with this text -/
def TextAt (C : Addr) (H : Hp) (p : Addr) (z : Str) : Prop := ∃ dx fs, H p = some (.ins C dx fs) ∧ fs.lookup ("_text" : Str) = some (.str z)
theorem HouseAt.text {K : PySem.W.Frag} {C : Addr} {old : Addr → Prop} {H : Hp} {p b r : Addr} {bs : List Int} {rows : List R3} {cs : List Int} (h : HouseAt K C old H p b r bs rows cs) : TextAt C H p (houseS bs rows) := by
  obtain ⟨⟨dx, sk, ah, rd, e1, _⟩, _⟩ := h
  exact ⟨dx, _, e1, hf_text _ _ _ _ _ _⟩
theorem TextAt.same {C : Addr} {H H' : Hp} {p : Addr} {z : Str} (h : TextAt C H p z) (s : Same H H') : TextAt C H' p z := by
  obtain ⟨dx, fs, e1, e2⟩ := h
  exact ⟨dx, fs, s _ _ e1, e2⟩
def spEq (K : PySem.W.Frag) (C : Addr) : Sp := fun vs H Q _ => ∃ (p : Addr) (y : V) (z : Str), vs = [.ref p, y] ∧ TextAt C H p z ∧ ((∃ q z', y = .ref q ∧ TextAt C H q z' ∧ Q (.bl (decide (z = z'))) H) ∨ (Alien K C H y ∧ Q (.bl false) H))
def spStr (C : Addr) : Sp := fun vs H Q _ => ∃ (p : Addr) (z : Str), vs = [.ref p] ∧ TextAt C H p z ∧ Q (.str z) H
def reprS (bs : List Int) (rows : List R3) : Str := Str.empty ++ "House(" ++ spacedS bs ++ ", " ++ numS rows.length ++ " rows)"
def spRepr (K : PySem.W.Frag) (C : Addr) : Sp := fun vs H Q _ => ∃ (old : Addr → Prop) (p b r : Addr) (bs : List Int) (rows : List R3) (cs : List Int), vs = [.ref p] ∧ HouseAt K C old H p b r bs rows cs ∧ ∀ H', Same H H' → Q (.str (reprS bs rows)) H'
def spRead (K : PySem.W.Frag) (C : Addr) : Sp := fun vs H Q _ => ∃ (bs : List Int) (rows : List R3), vs = [.ref C, .str (houseS bs rows)] ∧ Fair bs rows ∧
  ∀ (p b r : Addr) (cs : List Int) H', Same H H' → H p = none → HouseAt K C (fun q => H q ≠ none) H' p b r bs rows cs → Q (.ref p) H'
section
variable {P : Program} {w : World} {K : PySem.W.Frag} {mg : Str → Option Value} {base : Heap}
theorem ok_eq {f C : Addr} {fd : FuncData} (F : Fun K "__eq__" "House.__eq__" sHouse__eq_ f fd) (T : HouseTxt K mg C) (N : Names mg) (O : Other K C) (W : OwnT K C) : FnOk P w K mg base CX0 1 f fd ["self", "other"] (spEq K C) := by
  have sc := scHouse__eq_
  refine F.ok sc (fun vs H Q E h => ?_) (fun cdv A outer s H vs Q E hr h => ?_)
  · obtain ⟨p, y, z, rfl, _⟩ := h
    rfl
  · obtain ⟨p, y, z, rfl, ⟨dx, fs, e1, l1⟩, h⟩ := h
    refine ⟨_, (pss_one (ps_ret (pe_and (pe_callB call_isi (by rfl) N.isinstance (by decide +kernel) (pa_cons (pv 1) (pa_cons (pe_glob (v := .ref C) rfl T.mgC rfl) pa_nil))) (pe_one (pe_cmpR op_eq (pe_fld (pv 0) rfl) (pe_fld (pv 1) rfl) (nomark _)))))), ?_⟩
    rcases h with ⟨q, z', rfl, ⟨dx', fs', e2, l2⟩, k⟩ | ⟨⟨t, ty, n1, n2⟩, k⟩
    · refine ⟨_, rfl, _, _, _, _, _, rfl, .own _, W.ty T.cl e2, O.own2, _, rfl, ?_⟩
      refine iteT ?_
      refine ⟨_, rfl, p, C, dx, _, _, rfl, e1, T.cl, T.nT, l1, _, rfl, q, C, dx', _, _, rfl, e2, T.cl, T.nT, l2, rfl, ?_⟩
      have e : decide (V.str z = V.str z') = decide (z = z') := by
        by_cases h : z = z'
        · rw [decide_eq_true h, decide_eq_true (congrArg V.str h)]
        · rw [decide_eq_false h, decide_eq_false (fun q => h (V.str.inj q))]
      rw [e]
      exact k
    · refine ⟨_, rfl, _, _, _, _, _, rfl, .own _, ty, n2, _, rfl, ?_⟩
      exact iteF k
theorem ok_str {f C : Addr} {fd : FuncData} (F : Fun K "__str__" "House.__str__" sHouse__str_ f fd) (T : HouseTxt K mg C) (N : Names mg) : FnOk P w K mg base CX0 1 f fd ["self"] (spStr C) := by
  have sc := scHouse__str_
  refine F.ok sc (fun vs H Q E h => ?_) (fun cdv A outer s H vs Q E hr h => ?_)
  · obtain ⟨p, z, rfl, _⟩ := h
    rfl
  · obtain ⟨p, z, rfl, ⟨dx, fs, e1, l1⟩, k⟩ := h
    refine ⟨_, (pss_one (ps_ret (pe_callTy (T := "str") SkE.call_str_str (by rfl) N.str (by decide +kernel) (pa_cons (pe_fld (pv 0) rfl) pa_nil)))), ?_⟩
    exact ⟨_, rfl, p, C, dx, _, _, rfl, e1, T.cl, T.nT, l1, z, rfl, k⟩
theorem ok_repr {f C : Addr} {fd : FuncData} (F : Fun K "__repr__" "House.__repr__" sHouse__repr_ f fd) (T : HouseTxt K mg C) (N : Names mg) (Dspaced : DefK P w K mg base "spaced" ["parts"] 1 (spSpaced K)) : FnOk P w K mg base CX0 2 f fd ["self"] (spRepr K C) := by
  have sc := scHouse__repr_
  refine F.ok sc (fun vs H Q E h => ?_) (fun cdv A outer s H vs Q E hr h => ?_)
  · obtain ⟨old, p, b, r, bs, rows, cs, rfl, _⟩ := h
    rfl
  · obtain ⟨old, p, b, r, bs, rows, cs, rfl, hA, k⟩ := h
    refine ⟨_, (pss_one (ps_ret (pe_joined (.cons pe_str (.cons (pe_fmt (pe_d Dspaced (hr.mono (by decide)) rfl (pa_cons (pe_fld (pv 0) rfl) pa_nil))) (.cons pe_str (.cons (pe_fmt (pe_callB call_len_seq (by rfl) N.len (by decide +kernel) (pa_cons (pe_fld (pv 0) rfl) pa_nil))) (.cons pe_str .nil)))))))), ?_⟩
    obtain ⟨⟨dx, sk, ah, rd, e1, e2, e3, e4, _, _⟩, hb, hrt, fr, _⟩ := hA
    obtain ⟨as, hrt, pr⟩ := hrt
    have hpl := pr.length
    have hb' : ∀ x ∈ bs, 0 ≤ x ∧ x ≤ 60 := fun x hx => ⟨by have := (fr.bb x hx).1; omega, (fr.bb x hx).2⟩
    have hls := spaced_len fr.b3 hb'
    have l0 : (Str.empty ++ ("House(" : Str)).length = 6 := by decide
    have l1 : (", " : Str).length = 2 := by decide
    have l2 : (" rows)" : Str).length = 6 := by decide
    have r6 := fr.r6
    have ln := numS_len (n := ((rows.length : Nat) : Int)) (by omega) (by omega)
    refine ⟨_, rfl, small (by rw [l0]; omega), _, rfl, p, C, dx, _, _, rfl, e1, T.cl, T.nB, hf_bases _ _ _ _ _ _, b, bs, rfl, hb, fr.b3, hb', fun H1 s1 => ?_⟩
    refine .inl ⟨_, rfl, small (by omega), _, rfl, small (by rw [Str.length_append, l0]; omega), ?_⟩
    have e1' := s1 _ _ e1
    have ln' : (toString (((as.map V.ref).length : Nat) : Int) : Str).length ≤ 62 := by
      rw [List.length_map, hpl]
      exact ln
    have hlog : ((((as.map V.ref).length : Nat) : Int)).natAbs.log2 < 1920 := by
      rw [List.length_map, hpl, Int.natAbs_natCast]
      rcases Nat.eq_zero_or_pos rows.length with z | z
      · rw [z]; decide
      · exact Nat.lt_trans ((Nat.log2_lt (by omega)).mpr (show rows.length < 2 ^ 6 by omega)) (by decide)
    refine ⟨_, rfl, small (by rw [Str.length_append, Str.length_append, l0, l1]; omega), _, rfl, p, C, dx, _, _, rfl, e1', T.cl, T.nR, hf_rows _ _ _ _ _ _, r, _, rfl, .inr (Same.seqT s1 hrt), ?_⟩
    refine .inr ⟨_, rfl, hlog, _, rfl, small (by rw [Str.length_append, Str.length_append, Str.length_append, l0, l1]; omega), ?_⟩
    refine ⟨_, rfl, small (by rw [Str.length_append, Str.length_append, Str.length_append, Str.length_append, l0, l1, l2]; omega), ?_⟩
    have := k H1 s1
    unfold reprS at this
    rw [List.length_map, hpl]
    exact this
theorem ok_read {f C fI : Addr} {fd fdI : FuncData} (F : Fun K "read" "House.read" sHouse_read f fd) (T : HouseTxt K mg C) (N : Names mg) (MK : Mk K C fI) (GI : FnOk P w K mg base CX0 5 fI fdI ["self", "bases", "rows"] (spInit K C)) (bI : Binds K fdI ["self", "bases", "rows"] [])
    (Dnumbers_behind : DefK P w K mg base "numbers_behind" ["word", "line"] 3 spBehind) : FnOk P w K mg base CX0 7 f fd ["cls", "text"] (spRead K C) := by
  have sc := scHouse_read
  refine F.ok sc (fun vs H Q E h => ?_) (fun cdv A outer s H vs Q E hr h => ?_)
  · obtain ⟨bs, rows, rfl, _⟩ := h
    rfl
  · obtain ⟨bs, rows, rfl, fr, k⟩ := h
    refine ⟨_, (pss_cons (ps_if (pt_not (pt_val (pe_callB call_isi (by rfl) N.isinstance (by decide +kernel) (pa_cons (pv 1) (pa_cons (pe_ty "str" rfl N.str (by decide +kernel)) pa_nil))))) (pss_one ps_never) pss_nil)
      (pss_cons (ps_asg (pe_split (pv 1) pe_str) (pg_star1 rfl (pgs_cons (pg_name (i := 2) sc.nd rfl (Or.inl rfl)) (pgs_star (pg_name (i := 3) sc.nd rfl (Or.inl rfl)) pgs_nil))))
      (pss_cons (ps_set (i := 4) sc.nd rfl (Or.inl rfl) (pe_d Dnumbers_behind (hr.mono (by decide)) rfl (pa_cons pe_str (pa_cons (pv 2) pa_nil))))
      (pss_cons (ps_set (i := 5) sc.nd rfl (Or.inl rfl) (pe_callTy (T := "tuple") call_tuple_of (by rfl) N.tuple (by decide +kernel) (pa_cons (pe_lc (own := [("line", 6)]) rfl sc.nd (pi_list (pv 3)) (blkOk_by (own := [("line", 6)]) (N := ["cls", "text", "first", "others", "bases", "rows", "line"]) (sc := defScope (inClass (topS 53) 1)) (by decide +kernel)) (fun _ _ _ _ _ => (pg_name (i := 6) sc.nd rfl (Or.inl rfl))) (fun _ _ _ _ _ => pts_nil) (fun _ _ _ _ _ => (pe_d Dnumbers_behind (hr.mono (by decide)) rfl (pa_cons pe_str (pa_cons (pv 6) pa_nil))))) pa_nil)))
      (pss_one (ps_try_thru0 (pss_one (ps_ret (pe_makeV (i := 0) MK GI hr rfl (Or.inl rfl) bI .nil pass0 (pa_cons (pv 4) (pa_cons (pv 5) pa_nil))))))))))), ?_⟩
    have hb0 : ∀ x ∈ bs, 0 ≤ x := fun x hx => by have := (fr.bb x hx).1; omega
    have hb' : ∀ x ∈ bs, 0 ≤ x ∧ x ≤ 60 := fun x hx => ⟨hb0 x hx, (fr.bb x hx).2⟩
    have hro : ∀ x ∈ rows, (0 ≤ x.1 ∧ x.1 ≤ 60) ∧ (0 ≤ x.2.1 ∧ x.2.1 ≤ 60) ∧ 0 ≤ x.2.2 ∧ x.2.2 ≤ 60 := fun x hx => by
      have o := fr.ro x hx
      have h1 := o.1; have h2 := o.2.1; have h3 := o.2.2.1; have h4 := o.2.2.2.1; have h5 := o.2.2.2.2.1; have h6 := o.2.2.2.2.2
      have hl := (fr.bb _ (lastD_mem fr.b0)).2
      have h3 := fr.b3
      exact ⟨⟨h1, by omega⟩, ⟨by omega, h4⟩, h5, by omega⟩
    obtain ⟨t1, t2, t3⟩ := house_len fr.b3 hb' fr.r6 hro
    refine ⟨_, rfl, _, _, _, _, _, rfl, .ty _, .base (.str _), kit_ty (r := true) (by decide +kernel), _, rfl, ?_⟩
    refine iteF ?_
    refine ⟨_, rfl, ⟨_, rfl⟩, _, _, rfl, rfl, (by decide), Nat.le_trans (show (houseS bs rows).length + 2 ≤ 3002 by omega) (by decide), ?_⟩
    (intro q nq; generalize e_q : upd H q _ = H1; have s1 : Same H H1 := fun b x hb => (congrFun e_q b).symm.trans (same_new nq b x hb); have h1 := (congrFun e_q q).symm.trans upd_same; clear e_q)
    rw [house_split hb0 fun x hx => ⟨(hro x hx).1.1, (hro x hx).2.1.1, (hro x hx).2.2.1⟩] at h1
    refine ⟨q, _, _, rfl, SqL.lst h1, ?_⟩
    (intro o no; generalize e_o : upd H1 o _ = H2; have s2 : Same H1 H2 := fun b x hb => (congrFun e_o b).symm.trans (same_new no b x hb); have h2 := (congrFun e_o o).symm.trans upd_same; clear e_o)
    have s02 := s1.trans s2
    refine ⟨_, _, rfl, _, _, rfl, rfl, ?_⟩
    have hb0' : bs ≠ [] := fun z => by have := fr.b0; rw [z] at this; exact absurd this (by decide)
    refine ⟨_, rfl, _, _, _, _, rfl, by omega, head_split hb0' hb0, fun _ b H3 s3 nb eb => ?_, fun h => absurd rfl h⟩
    have eb' : H3 b = some (.tup (bs.map V.int)) := by
      rw [eb, List.map_map]
      refine congrArg (fun l => some (HO.tup l)) (List.map_congr_left fun x hx => ?_)
      show readV (readN (numS x)) = V.int x
      rw [read_num (hb' x hx).1 (hb' x hx).2]
      rfl
    have s03 := s02.trans s3
    have h3 := s3 _ _ h2
    refine ⟨_, rfl, o, rfl, ⟨_, SqL.lst h3⟩, ?_⟩
    intro D nD
    refine lc_list (K := K) (xs := (rows.map rowS).map V.str) (fun i H' => ∃ ts : List Addr, Same H3 H' ∧ H' D = some (.lst (ts.map V.ref)) ∧ Paired (fun a (x : R3) => H' a = some (.tup [.int x.1, .int x.2.1, .int x.2.2])) ts (rows.take i)) ⟨[], same_new nD, upd_same, .nil⟩ (fun i H' _ ⟨_, s, _⟩ => SqL.lst (s _ _ h3)) ?_ ?_
    · rintro i x H' hx ⟨ts, sm, eD, pt⟩
      obtain ⟨y, hy, rfl⟩ : ∃ b, rows[i]? = some b ∧ x = V.str (rowS b) := by
        rw [List.map_map, List.getElem?_map] at hx
        obtain ⟨z, hz, e⟩ := Option.map_eq_some_iff.mp hx
        exact ⟨z, hz, e.symm⟩
      have hym := List.mem_of_getElem? hy
      have hry := hro y hym
      refine ⟨rfl, ?_⟩
      refine ⟨_, rfl, _, _, _, _, rfl, by have := t3 y hym; omega, row_split ⟨hry.1.1, hry.2.1.1, hry.2.2.1⟩, fun _ t H4 s4 nt et => ?_, fun h => absurd rfl h⟩
      have et' : H4 t = some (.tup [.int y.1, .int y.2.1, .int y.2.2]) := by
        rw [et]
        refine congrArg (fun l => some (HO.tup l)) ?_
        show [readV (readN (numS y.1)), readV (readN (numS y.2.1)), readV (readN (numS y.2.2))] = _
        rw [read_num hry.1.1 hry.1.2, read_num hry.2.1.1 hry.2.1.2, read_num hry.2.2.1 hry.2.2.2]
        rfl
      have eD4 := s4 _ _ eD
      have hpt := pt.length
      refine ⟨_, eD4, smallLt (by have := fr.r6; rw [List.length_map, hpt, List.length_take]; omega), ts ++ [t], same_mut (sm.trans s4) nD, ?_, ?_⟩
      · rw [upd_same, List.map_append]
        rfl
      · rw [List.take_add_one, hy]
        have ntD : t ≠ D := fun z => by rw [z, eD] at nt; cases nt
        refine paired_app (paired_imp pt fun c hc y hy => ?_) ?_
        · have hy2 := s4 _ _ hy
          rw [upd_ne (fun z => by rw [z, eD4] at hy2; cases hy2)]
          exact hy2
        · rw [upd_ne ntD]
          exact et'
    rintro H4 ⟨ts, s4, eD, pt⟩
    rw [List.take_of_length_le (by rw [List.length_map, List.length_map]; exact Nat.le_refl _)] at pt
    refine ⟨D, _, rfl, .inl ⟨SqL.lst eD, ?_⟩⟩
    (intro r nr; generalize e_r : upd H4 r _ = H5; have s5 : Same H4 H5 := fun b x hb => (congrFun e_r b).symm.trans (same_new nr b x hb); have h5 := (congrFun e_r r).symm.trans upd_same; clear e_r)
    refine ⟨rfl, _, rfl, _, rfl, ?_⟩
    intro p dx np ndx ndp
    generalize e6 : upd (upd H5 dx (.own p)) p _ = H6
    have s6 : Same H5 H6 := fun c o h => (congrFun e6 c).symm.trans (by rw [upd_ne (ne_of_none h np), upd_ne (ne_of_none h ndx)]; exact h)
    have hp6 : H6 p = some (.ins C dx []) := (congrFun e6 p).symm.trans upd_same
    have s35 := s4.trans s5
    have s05 := s03.trans s35
    refine ⟨p, dx, b, r, bs, rows, rfl, hp6, SqT.tup (s6 _ _ (s35 _ _ eb')), ⟨ts, SqT.tup (s6 _ _ h5), paired_imp pt fun a _ x q => SqT.tup (s6 _ _ (s5 _ _ q))⟩, fr, fun cs H7 hh e7 => ⟨rfl, k p b r cs H7 ?_ (s05.free np) (hh.weak fun q hq z => ?_)⟩⟩
    rotate_left
    · cases e : H q with
      | none => exact hq e
      | some o =>
        have := s6 _ _ (s05 _ _ e)
        rw [z] at this
        cases this
    exact fun c o h => e7 _ _ (ne_of_none (s05 _ _ h) np) (s6 _ _ (s05 _ _ h))
end
end LM

set_option Elab.async false
set_option linter.all false
set_option maxRecDepth 100000
set_option maxHeartbeats 4000000
set_option pp.maxSteps 600
set_option pp.deepTerms false
namespace LM
open PySem PySem.Spec PyProof.Rows L2 RZ
local macro_rules | `(tactic| walk_at "hp") => `(tactic| first | assumption | exact upd_same | (rw [upd_ne (by assumption)]; assumption) | (rw [upd_ne (Ne.symm (by assumption))]; assumption) | (rw [upd_ne (by assumption)]; exact upd_same) | (rw [upd_ne (Ne.symm (by assumption))]; exact upd_same))
local macro_rules | `(tactic| walk_at "sq") => `(tactic| first | assumption | exact Or.inl (Or.inl (by assumption)) | exact Or.inl (Or.inl upd_same) | exact Or.inl (Or.inl (by walk_at "hp")))
local macro_rules | `(tactic| walk_at "ixl") => `(tactic| refine ⟨_, _, _, _, rfl, rfl, (by walk_at "sq"), (by rfl), ?_⟩)
local macro_rules | `(tactic| walk_at "setl") => `(tactic| refine ⟨_, _, _, _, rfl, rfl, (by walk_at "hp"), (by rfl), ?_⟩)
local macro_rules | `(tactic| walk_at "side") => `(tactic| refine idP ?_; first | omega | (show (0 : Int) < _; omega) | (show (0 : Int) < _ ∧ _ < _; omega) | (refine Or.inr ?_; show (-(2 ^ 64) : Int) < _ ∧ _ < _; omega) | (refine Or.inl ?_; show (-(2 ^ 64) : Int) < _ ∧ _ < _; omega) | exact divW (by omega) (by omega) _ | (refine ⟨by decide, by decide, ?_⟩; decide))
local macro_rules | `(tactic| walk_at "go1") => `(tactic| first
  | refine ⟨_, rfl, ?_⟩
  | refine ⟨_, _, rfl, rfl, (by walk_at "side"), ?_⟩
  | refine ⟨_, _, rfl, (by walk_at "side"), ?_⟩
  | refine ⟨_, _, rfl, rfl, ?_⟩
  | refine Or.inl ⟨_, rfl, ?_⟩
  | refine ⟨_, _, rfl, Or.inl (by walk_at "sq"), ?_⟩
  | walk_at "ixl"
  | walk_at "setl"
  | refine ⟨_, _, rfl, (by walk_at "sq"), rfl, ?_⟩
  | refine ⟨_, _, rfl, (by walk_at "sq"), ?_⟩
  | refine ⟨_, _, rfl, ?_⟩
  | refine ⟨rfl, ?_⟩
  | refine ⟨small (Nat.le_of_ble_eq_true rfl), ?_⟩)
local macro_rules | `(tactic| walk_at "go") => `(tactic| repeat walk_at "go1")

abbrev s_law_stated : Stmt := topS 71
theorem sc_law_stated : FnScope ["_law_home", "_law_found", "_law_lane", "_law_base", "_law_figure"] ["_law_home"] (defScope s_law_stated) := ⟨rfl, rfl, rfl, by decide +kernel, rfl, by decide +kernel, by decide +kernel⟩
def spStated (K : PySem.W.Frag) : Sp := fun vs H Q _ => ∃ (d g l : Addr) (gs : List Int) (rows : List R3), vs = [.ref d] ∧ HomeD H d g l ∧ SqL K H g (gs.map V.int) ∧ LanesIn K H l rows ∧ Fair gs rows ∧ ∀ H', Same H H' → Q (.str (houseS gs rows)) H'
theorem small_log {n : Int} (h0 : 0 ≤ n) (h1 : n ≤ 60) : n.natAbs.log2 < 1920 := by
  rcases Nat.eq_zero_or_pos n.natAbs with z | z
  · rw [z]; decide
  · exact Nat.lt_trans ((Nat.log2_lt (by omega)).mpr (show n.natAbs < 2 ^ 6 by omega)) (by decide)
theorem row_60 {gs : List Int} {rows : List R3} (fr : Fair gs rows) : ∀ x ∈ rows, (0 ≤ x.1 ∧ x.1 ≤ 60) ∧ (0 ≤ x.2.1 ∧ x.2.1 ≤ 60) ∧ 0 ≤ x.2.2 ∧ x.2.2 ≤ 60 := fun x hx => by
  have o := fr.ro x hx
  have h1 := o.1; have h2 := o.2.1; have h3 := o.2.2.1; have h4 := o.2.2.2.1; have h5 := o.2.2.2.2.1; have h6 := o.2.2.2.2.2
  have hl := (fr.bb _ (lastD_mem fr.b0)).2
  have h3 := fr.b3
  exact ⟨⟨h1, by omega⟩, ⟨by omega, h4⟩, h5, by omega⟩
theorem spaced_bound {ns : List Int} (h3 : ns.length ≤ 3) (hb : ∀ x ∈ ns, 0 ≤ x ∧ x ≤ 60) : ((ns.map numS).map (·.length)).sum + (ns.map numS).length * (" " : Str).length ≤ 16777216 := by
  refine Nat.le_trans (join_le _ _ 62 fun y hy => ?_) ?_
  · obtain ⟨x, hx, rfl⟩ := List.mem_map.mp hy
    exact numS_len (hb x hx).1 (hb x hx).2
  · rw [List.length_map]
    have e : ((" " : Str)).length = 1 := by decide
    rw [e]
    omega
section
variable {P : Program} {w : World} {K : PySem.W.Frag} {mg : Str → Option Value} {base : Heap}
theorem ok_stated {f : Addr} {fd : FuncData} (F : Fun K "_law_stated" "_law_stated" s_law_stated f fd) (N : Names mg) : FnOk P w K mg base CX0 1 f fd ["_law_home"] (spStated K) := by
  have sc := sc_law_stated
  refine F.ok sc (fun vs H Q E h => ?_) (fun cdv A outer s H vs Q E hr h => ?_)
  · obtain ⟨d, g, l, gs, rows, rfl, _⟩ := h
    rfl
  · obtain ⟨d, g, l, gs, rows, rfl, hd, hg, hl, fr, k⟩ := h
    have hu := hu_of hr
    obtain ⟨n0, sa, ba, ed⟩ := id hd
    have hb' : ∀ x ∈ gs, 0 ≤ x ∧ x ≤ 60 := fun x hx => ⟨by have := (fr.bb x hx).1; omega, (fr.bb x hx).2⟩
    have hro := row_60 fr
    rw [← stated_eq] at k
    refine ⟨_, (pss_cons (ps_set (i := 1) sc.nd rfl (Or.inl rfl) (pe_op op_add_str pe_str (pe_join pe_str (pe_lc (own := [("_law_base", 3)]) rfl sc.nd (pi_list (pe_dget hu (pv 0) pe_str (fun _ _ => rfl))) (blkOk_by (own := [("_law_base", 3)]) (N := ["_law_home", "_law_found", "_law_lane", "_law_base", "_law_figure"]) (sc := defScope (topS 71)) (by decide +kernel)) (fun _ _ _ _ _ => (pg_name (i := 3) sc.nd rfl (Or.inl rfl))) (fun _ _ _ _ _ => pts_nil) (fun _ _ _ _ _ => (pe_callTy (T := "str") call_str_int (by rfl) N.str (by decide +kernel) (pa_cons (pv 3) pa_nil)))))))
      (pss_cons (ps_for PassesOwn.never rfl (pi_list (pe_dget hu (pv 0) pe_str (fun _ _ => rfl))) (pg_name (i := 2) sc.nd rfl (Or.inl rfl)) (pss_one (ps_set (i := 1) sc.nd rfl (Or.inl rfl) (pe_op op_add_str (pe_op op_add_str (pv 1) pe_str) (pe_join pe_str (pe_lc (own := [("_law_figure", 4)]) rfl sc.nd (pi_list (pv 2)) (blkOk_by (own := [("_law_figure", 4)]) (N := ["_law_home", "_law_found", "_law_lane", "_law_base", "_law_figure"]) (sc := defScope (topS 71)) (by decide +kernel)) (fun _ _ _ _ _ => (pg_name (i := 4) sc.nd rfl (Or.inl rfl))) (fun _ _ _ _ _ => pts_nil) (fun _ _ _ _ _ => (pe_callTy (T := "str") call_str_int (by rfl) N.str (by decide +kernel) (pa_cons (pv 4) pa_nil)))))))))
      (pss_one (ps_ret (pv 1))))), ?_⟩
    refine ⟨⟨_, rfl⟩, _, rfl, d, _, rfl, DGet.some (s := "ground") ed rfl, g, rfl, ⟨_, hg⟩, ?_⟩
    intro D nD
    refine lc_list (K := K) (xs := gs.map V.int) (fun i H' => Same H H' ∧ H' D = some (.lst (((gs.take i).map numS).map V.str))) ⟨same_new nD, upd_same⟩ (fun i H' _ ⟨s, _⟩ => s.seq hg) ?_ ?_
    · rintro i x H' hx ⟨sm, eD⟩
      obtain ⟨n, hn, rfl⟩ : ∃ b, gs[i]? = some b ∧ x = V.int b := by
        rw [List.getElem?_map] at hx
        obtain ⟨z, hz, e⟩ := Option.map_eq_some_iff.mp hx
        exact ⟨z, hz, e.symm⟩
      obtain ⟨b0, b1⟩ := hb' n (List.mem_of_getElem? hn)
      have g3 := fr.b3
      refine ⟨rfl, ?_⟩
      refine ⟨_, rfl, n, rfl, small_log b0 b1, _, eD, smallLt (by rw [List.length_map, List.length_map, List.length_take]; omega), same_mut sm nD, ?_⟩
      rw [upd_same, List.take_add_one, hn, List.map_append, List.map_append]
      rfl
    rintro H1 ⟨s1, eD⟩
    rw [List.take_of_length_le (by rw [List.length_map]; exact Nat.le_refl _)] at eD
    refine ⟨_, D, _, rfl, rfl, .inl (SqL.lst eD), spaced_bound fr.b3 hb', ?_⟩
    have l0 : ("house " : Str).length = 6 := by decide
    have l1 : ("\nskip " : Str).length = 6 := by decide
    have hls := spaced_len fr.b3 hb'
    refine ⟨_, _, rfl, rfl, small (by rw [l0]; show 6 + (spacedS gs).length ≤ 1000000; omega), ?_⟩
    have ed1 := s1 _ _ ed
    obtain ⟨as, hl1, pr⟩ := hl.same s1
    have hpl := pr.length
    refine ⟨_, rfl, d, _, rfl, DGet.some (s := "lanes") ed1 rfl, l, rfl, ⟨_, hl1⟩, for_list (K := K) (xs := as.map V.ref) (fun i σ H' => ∃ v2 v3 v4 : Option V, σ = [some (.ref d), some (.str (statedL gs (rows.take i))), v2, v3, v4] ∧ Same H1 H') ⟨_, _, _, rfl, Same.refl H1⟩ (fun i σ H' _ ⟨_, _, _, _, s⟩ => s.seq hl1) ?_ ?_⟩
    · rintro i x σ H' hx ⟨v2, v3, v4, rfl, sm⟩
      obtain ⟨ra, hra, rfl⟩ : ∃ b, as[i]? = some b ∧ x = V.ref b := by
        rw [List.getElem?_map] at hx
        obtain ⟨z, hz, e⟩ := Option.map_eq_some_iff.mp hx
        exact ⟨z, hz, e.symm⟩
      obtain ⟨y, hy, hya⟩ := paired_at pr hra
      have hry := hro y (List.mem_of_getElem? hy)
      have h3 : ∀ z ∈ [y.1, y.2.1, y.2.2], 0 ≤ z ∧ z ≤ 60 := fun z hz => by
        simp at hz
        rcases hz with rfl | rfl | rfl
        · exact hry.1
        · exact hry.2.1
        · exact hry.2.2
      have hlen : (statedL gs (rows.take i)).length ≤ 3000 := by
        rw [stated_eq]
        exact (house_len fr.b3 hb' (by have := fr.r6; rw [List.length_take]; omega) fun x hx => hro x (List.mem_of_mem_take hx)).1
      have hya' := sm _ _ hya
      have hsl := spaced_len (ns := [y.1, y.2.1, y.2.2]) (Nat.le_refl 3) h3
      refine ⟨_, rfl, _, _, rfl, rfl, small (by rw [l1]; omega), ?_⟩
      refine ⟨⟨_, rfl⟩, _, rfl, ra, rfl, ⟨_, SqL.lst hya'⟩, ?_⟩
      intro D2 nD2
      have hya2 : SqL K H' ra ([y.1, y.2.1, y.2.2].map V.int) := SqL.lst hya'
      generalize hns : [y.1, y.2.1, y.2.2] = ns at h3 hsl hya2
      have hn3 : ns.length = 3 := by rw [← hns]; rfl
      refine lc_list (K := K) (xs := ns.map V.int) (fun i H'' => Same H' H'' ∧ H'' D2 = some (.lst (((ns.take i).map numS).map V.str))) ⟨same_new nD2, upd_same⟩ (fun i H'' _ ⟨s, _⟩ => s.seq hya2) ?_ ?_
      · rintro j x H'' hx ⟨sm2, eD2⟩
        obtain ⟨n, hn, rfl⟩ : ∃ b, ns[j]? = some b ∧ x = V.int b := by
          rw [List.getElem?_map] at hx
          obtain ⟨z, hz, e⟩ := Option.map_eq_some_iff.mp hx
          exact ⟨z, hz, e.symm⟩
        obtain ⟨b0, b1⟩ := h3 n (List.mem_of_getElem? hn)
        refine ⟨rfl, ?_⟩
        refine ⟨_, rfl, n, rfl, small_log b0 b1, _, eD2, smallLt (by rw [List.length_map, List.length_map, List.length_take]; omega), same_mut sm2 nD2, ?_⟩
        rw [upd_same, List.take_add_one, hn, List.map_append, List.map_append]
        rfl
      rintro H2 ⟨s2, eD2⟩
      rw [List.take_of_length_le (by rw [List.length_map]; exact Nat.le_refl _)] at eD2
      refine ⟨_, D2, _, rfl, rfl, .inl (SqL.lst eD2), spaced_bound (by omega) h3, ?_⟩
      refine ⟨_, _, rfl, rfl, small (by rw [Str.length_append, l1]; show _ + (spacedS ns).length ≤ _; omega), ?_⟩
      have st := take_fold statedStep ("house " ++ spacedS gs) rows i y hy
      have e : statedL gs (rows.take (i + 1)) = statedL gs (rows.take i) ++ "\nskip " ++ spacedS ns := by
        unfold statedL
        rw [st, ← hns]
        rfl
      rw [e]
      exact ⟨_, _, _, rfl, sm.trans s2⟩
    · rintro σ H' ⟨v2, v3, v4, rfl, sm⟩
      rw [List.take_of_length_le (by rw [List.length_map, hpl]; exact Nat.le_refl _)]
      exact ⟨_, rfl, k H' (s1.trans sm)⟩
end
end LM

set_option Elab.async false
set_option linter.all false
set_option maxRecDepth 100000
set_option maxHeartbeats 4000000
namespace LM
open PySem PySem.Spec PyProof.Rows L2
/-! ### errors of the program: classes with an __init__ that calls their base's -/
/-- a class below ValueError without an __init__ of its own -/
structure BaseC (K : PySem.W.Frag) (W : Addr) : Prop where
  ga : PySem.W.specialIn K (.ref W) "__getattribute__" = some (some (.builtin "type.__getattribute__"))
  rd : PySem.W.readsIn K W (.type "type") = true
  vi : PySem.W.findCls K (.ref W) (.type "type") "__init__" = some (.val (.builtin "ValueError.__init__"))
section
variable {X : Cx} {W : Addr} {x : Str} {e : Expr} {es : List Expr} {ta : TA} {p1 p2 pos : Pos}
theorem pe_cinit {pl : Sem Bool} (B : BaseC X.K W) (hg : Gl X x) (hm : X.mg x = some (.ref W)) (ha : PA X (e :: es) ta) (hdb : (x == ("__debug__" : Str)) = false := by decide)
    (hc : eval (.Call (.Attribute (.Name x p1) "__init__" p2) (e :: es) [] pos) X.env = (do
      let ov ← eval (.Name x p1) X.env
      standAt p2.atName
      let (f, first) ← holding [ov] (getMethod ov "__init__" pl)
      callWith pos f first (backTo pos (starEach (e :: es) X.env)) (backToKw pos (keywordEach [] X.env))) := by rfl)
    (he : starEach (e :: es) X.env = (false, eval e X.env) :: starEach es X.env := by rfl) (hpl : (backTo pos (starEach es X.env)).any (·.1) = false := by rfl) :
    PE X (.Call (.Attribute (.Name x p1) "__init__" p2) (e :: es) [] pos) (tVeI X.K ta) := by
  refine ⟨fun pins s σ H Q I h => PySem.W.methodCall_KW (ld_glob I hg hm ?_ hdb) hc⟩
  refine PySem.W.method_cls I.kIn B.ga (PySem.W.cls_value I.kIn B.rd B.vi (by decide +kernel) ?_)
  show wpAny _ _ (callWith pos (Value.builtin "ValueError.__init__") [] (backTo pos (starEach (e :: es) X.env)) []) _ _ _
  refine PyProof.Rows.callWith_method1 (thn (ha.run pos pins _ σ H _ (I.tok _) h) fun us s1 ⟨vs, H1, I1, r1, a, C, ws, ev, hl, T, ea, q⟩ => ?_) he hpl
  subst ev
  cases r1 with
  | @cons _ u0 _ ur ra rw' =>
    obtain rfl : u0 = Value.ref a := ra
    exact oinit_ok T I1 ea (by rw [← Paired.length rw', sizeLine_eq]; omega) fun s' J => ⟨.non, H1, J, rfl, q⟩
end
/-- what __init__ leaves of the exception at a: its one field -/
def spExI (K : PySem.W.Frag) (C : Addr) (f : Str) : Sp := fun vs H Q _ => ∃ (a : Addr) (y : V), vs = [.ref a, y] ∧ H a = some (exo a C none) ∧ ∀ dx, H dx = none → dx ≠ a → Q .non (upd (upd H dx (exd dx [(f, y)])) a (exo a C (some dx)))
theorem made_read {K : PySem.W.Frag} {C : Addr} {f : Str} {H : Hp} {y : V} {Q : XK} (k : ∀ d H', Same H H' → H d = none → H' d = some (.xd [(f, y)]) → Q (.ref C) (some d) H') (a : Addr) (ha : H a = none) :
    spExI K C f [.ref a, y] (upd H a (exo a C none)) (fun v H2 => v = .non ∧ ∃ (d : Addr) (fs : List (Str × V)), H2 a = some (exo a C (some d)) ∧ H2 d = some (exd d fs) ∧ H d = none ∧ Q (.ref C) (some d) (upd (del H2 a) d (.xd fs))) (fun _ _ _ => False) := by
  refine ⟨a, y, rfl, upd_same, fun dx ndx ne => ?_⟩
  rw [upd_ne ne] at ndx
  refine ⟨rfl, dx, [(f, y)], upd_same, by rw [upd_ne ne, upd_same], ndx, k dx _ (fun b o e => ?_) ndx upd_same⟩
  rw [upd_ne (ne_of_none e ndx), del_ne (ne_of_none e ha), upd_ne (ne_of_none e ha), upd_ne (ne_of_none e ndx), upd_ne (ne_of_none e ha)]
  exact e
/-- what of the text a class of errors must have; its __init__ at fI -/
structure ErrC (P : Program) (w : World) (K : PySem.W.Frag) (mg : Str → Option Value) (base : Heap) (x : Str) (C : Addr) (f : Str) : Prop where
  ox : OexC K C
  gC : mg x = some (.ref C)
  no : PySem.W.findIn K (.ref C) f = some none
  xf : XfC K C
  te : PySem.W.exmOne K (.ref C) (.ref C) = some true
  ini : ∃ (fI : Addr) (fd : FuncData) (ps : List Str), PySem.W.findIn K (.ref C) "__init__" = some (some (.ref fI)) ∧ PySem.W.typeIn K (.ref fI) = some (.type "function") ∧ FnOk P w K mg base CX0 1 fI fd ps (spExI K C f) ∧ Binds K fd ps []
section
variable {X : Cx} {C : Addr} {x f : Str} {e : Expr} {te : TE} {p pos : Pos}
/-- X(e), to be raised -/
theorem pmk_err (E : ErrC X.prog X.w X.K X.mg X.base x C f) (hr : Room 2 X.A) (hg : Gl X x) (he : PE X e te) (hdb : (x == ("__debug__" : Str)) = false := by decide) (hs : starEach [e] X.env = (false, eval e X.env) :: starEach [] X.env := by rfl) (hpl : (backTo pos (starEach [] X.env)).any (·.1) = false := by rfl) :
    PMk X (.Call (.Name x p) [e] [] pos) (tMkO C (spExI X.K C f) [] (tCons te tNil)) := by
  obtain ⟨fI, fd, ps, iC, tI, F, hb⟩ := E.ini
  exact pmk_oex E.ox iC tI F hr hb .nil pass0 hg E.gC (pa_cons he pa_nil hs) hdb hs hpl
/-- o.m(..), where what is raised is wished for at the slots -/
def tMethS (C : Addr) (m : Str) (sp : Sp) (E : L2.St → XK) (ta : TE) (t : TA) : TE := fun σ H Q => ta σ H fun x H1 => ∃ a dx fs, x = .ref a ∧ H1 a = some (.ins C dx fs) ∧ fs.lookup m = none ∧ t σ H1 fun vs H2 => sp (x :: vs) H2 Q (E σ)
theorem pe_methS {pl : Sem Bool} {CX : CXT} {k : Nat} {C fa : Addr} {m : Str} {fd : FuncData} {ps : List Str} {sp : Sp} {E : L2.St → XK} {o : Expr} {es : List Expr} {ta : TE} {t : TA} {apos : Pos} (he : PE X o ta) (c : Cls X.K C) (hm : Meth X.K C m fa) (F : FnOk X.prog X.w X.K X.mg X.base CX k fa fd ps sp) (hr : Room k X.A) (hb : Binds X.K fd ps []) (hx : ∀ σ, PassesAt CX X σ (E σ)) (ha : PA X (e :: es) t)
    (hst : starEach (e :: es) X.env = (false, eval e X.env) :: starEach es X.env := by rfl) (hpl : (backTo pos (starEach es X.env)).any (·.1) = false := by rfl)
    (ht : eval (.Call (.Attribute o m apos) (e :: es) [] pos) X.env = (do
      let ov ← eval o X.env
      standAt apos.atName
      let (f, first) ← holding [ov] (getMethod ov m pl)
      callWith pos f first (backTo pos (starEach (e :: es) X.env)) (backToKw pos (keywordEach [] X.env))) := by rfl) :
    PE X (.Call (.Attribute o m apos) (e :: es) [] pos) (tMethS C m sp E ta t) := by
  refine ⟨fun pins s σ H Q I h => PySem.W.methodCall_KW (pl := pl) (thn (he.run pins s σ H _ I h) fun u s1 ⟨x, H1, I1, rx, a, dx, fs, ex, ea, l, q⟩ => ?_) ht⟩
  subst ex
  obtain rfl : u = Value.ref a := rx
  refine getmeth_ok I1 ea c hm l ?_
  refine PySem.W.callWith_K (first := [.ref a]) (h₀ := X.base) I.ok.mod.kin hm.kp (thn (ha.run pos pins s1 σ H1 _ I1 q) fun us s2 ⟨vs, H2, I2, r, q2⟩ => ⟨I2.kIn, ?_⟩) hst hpl
  exact run_fnS (us := .ref a :: us) (vs := .ref a :: vs) F hr hb (hx σ) I2 (.cons rfl r) q2
end
section
variable {P : Program} {w : World} {K : PySem.W.Frag} {mg : Str → Option Value} {base : Heap}
theorem exi_read {K : PySem.W.Frag} {C : Addr} {f : Str} {H : Hp} {vs : List V} {Q : VK} {E : XK} (h : spExI K C f vs H Q E) : vs.length = 2 := by
  obtain ⟨a, y, rfl, _⟩ := h
  rfl
end
end LM

set_option Elab.async false
set_option linter.all false
set_option maxRecDepth 100000
set_option maxHeartbeats 4000000
namespace LM
open PySem PySem.Spec PyProof.Rows L2
/-! ### repr of any value -/
/-- the value y at H, as data: of any kind; a dict only if it is empty -/
inductive Dv (K : PySem.W.Frag) (H : Hp) : V → PyData → Prop
  | dp {y : V} {d : PyData} (h : Dp K H y d) (n : d.hasDict = false) : Dv K H y d
  | dic {a : Addr} (h : H a = some (.dK [])) : Dv K H (.ref a) (.dict [])
theorem Dv.reads {X : Cx} {pins : List (Addr × Obj)} {σ : L2.St} {H : Hp} {s : Shared} (I : Inv X pins σ H s) {y : V} {d : PyData} {u : Value} (h : Dv X.K H y d) (r : RelV y u) : ∃ as, Reads s.heap u d as ∧ (d.hasDict = true → sysModules ∉ as) := by
  cases h with
  | dp h n =>
    obtain ⟨as, rd⟩ := Dp.reads I d y u h r
    exact ⟨as, rd, PyData.noDict_hsm n⟩
  | @dic a h =>
    obtain rfl : u = Value.ref a := r
    obtain ⟨_, hs, vs, kv, o, es, ep, ho, hx, hd, _, pr, _⟩ := I.hok a _ h
    cases kv
    have he : es.toList = [] := by
      cases e : es.toList with
      | nil => rfl
      | cons z l =>
        rw [e] at pr
        cases pr
    refine ⟨a :: [] ++ [], Reads.dict ho hx.1 hd (by rw [he]; exact .nil) (by rw [he]; exact .nil), fun _ hm => ?_⟩
    rw [List.mem_singleton.mp hm] at hs
    rw [beq_self_eq_true] at hs
    cases hs
def rReprV (K : PySem.W.Frag) : List V → Hp → VK → Prop := fun xs G R => ∃ (y : V) (d : PyData), xs = [y] ∧ Dv K G y d ∧ d.showable = true ∧ d.depth ≤ 20 ∧ d.shown.length ≤ sizeLine ∧ R (.str d.shown) G
theorem call_reprV {X : Cx} (hgd : X.A.guards = some []) (hu : X.A.units + 64 < cLine) : CallR X (.builtin "repr") (rReprV X.K) := by
  intro pins s σ G xs us R I va sat
  obtain ⟨y, d, rfl, hd, h1, h3, hz, q⟩ := sat
  obtain ⟨u, rfl, ru⟩ := vals1 va
  obtain ⟨as, rd, hs⟩ := hd.reads I ru
  cases rd with
  | none => exact PySem.P.repr_of_none ⟨.str _, G, I.tok _, ⟨_, rfl⟩, q⟩
  | bool b => exact PySem.P.repr_of_bool ⟨.str _, G, I.tok _, ⟨_, rfl⟩, q⟩
  | int i t => exact PySem.P.repr_of_int (by simpa [PyData.showable] using h1) ⟨.str _, G, I.tok _, ⟨_, rfl⟩, q⟩
  | str x t => exact PySem.P.repr_of_str ⟨.str _, G, I.tok _, ⟨_, rfl⟩, q⟩ hz
  | list a1 a2 a3 a4 => exact repr_of_reads' (.list a1 a2 a3 a4) h1 hs hgd (by omega) (fun _ _ z => z) (fun h' u tk hk => ⟨.str _, G, I.kept hk, ⟨u, rfl⟩, q⟩) hz
  | tuple a1 a2 a3 a4 => exact repr_of_reads' (.tuple a1 a2 a3 a4) h1 hs hgd (by omega) (fun _ _ z => z) (fun h' u tk hk => ⟨.str _, G, I.kept hk, ⟨u, rfl⟩, q⟩) hz
  | dict a1 a2 a3 a4 a5 => exact repr_of_reads' (.dict a1 a2 a3 a4 a5) h1 hs hgd (by omega) (fun _ _ z => z) (fun h' u tk hk => ⟨.str _, G, I.kept hk, ⟨u, rfl⟩, q⟩) hz
end LM

set_option Elab.async false
set_option linter.all false
set_option maxRecDepth 100000
set_option maxHeartbeats 4000000
namespace LM
open PySem PySem.Spec PyProof.Rows L2
/-- a loop over zip of two lists, the second not the longer one -/
theorem for_zipM {K : PySem.W.Frag} {a b : Addr} {xs ys : List V} {g : TG} {tb : TS} {D : Ends} {σ : L2.St} {H : Hp} (hl : ys.length ≤ xs.length) (Pv : Nat → L2.St → Hp → Prop) (h0 : Pv 0 σ H) (hq : ∀ i σ H, Pv i σ H → SqL K H a xs ∧ SqL K H b ys)
    (hs : ∀ (i : Nat) (x y : V) (T : Addr) (σ : L2.St) (H : Hp), xs[i]? = some x → ys[i]? = some y → Pv i σ H → H T = none → g (.ref T) σ (upd H T (.tup [x, y])) fun σ2 H2 => tb { D with nx := Pv (i + 1), ct := Pv (i + 1), bk := D.nx } σ2 H2) (hd : ∀ σ H, Pv ys.length σ H → D.nx σ H) :
    ∃ W : Nat → Nat → L2.St → Hp → Prop, (∃ m, W 0 m σ H) ∧ ∀ i m σ H, W i m σ H →
      ((Itz K a b).stop i H ∧ D.nx σ H) ∨ ((Itz K a b).go i H ∧ ∃ N : L2.St → Hp → Prop, (∀ σ' H', N σ' H' → ∃ m', m' < m ∧ W (i + 1) m' σ' H') ∧ ∀ v H', (Itz K a b).yld i H v H' → g v σ H' fun σ2 H2 => tb { D with nx := N, ct := N, bk := D.nx } σ2 H2) := by
  refine ⟨fun i m σ H => m = ys.length - i ∧ i ≤ ys.length ∧ Pv i σ H, ⟨ys.length, rfl, Nat.zero_le _, h0⟩, ?_⟩
  rintro i m σ H ⟨rfl, hi, p⟩
  obtain ⟨qx, qy⟩ := hq i σ H p
  by_cases hlt2 : i < ys.length
  · have hlt : i < xs.length := by omega
    have hx : xs[i]? = some xs[i] := List.getElem?_eq_getElem hlt
    have hy : ys[i]? = some ys[i] := List.getElem?_eq_getElem hlt2
    refine .inr ⟨⟨xs, ys, _, _, qx, qy, hx, hy⟩, Pv (i + 1), fun σ' H' p' => ⟨ys.length - (i + 1), by omega, rfl, hlt2, p'⟩, fun v H' y => ?_⟩
    obtain ⟨T, x', y', rfl, hT, rfl, f1, f2⟩ := y
    exact hs i x' y' T σ H (f1 xs qx) (f2 ys qy) p hT
  · have e : i = ys.length := by omega
    subst e
    exact .inl ⟨⟨xs, ys, qx, qy, Or.inr (Nat.le_refl _)⟩, hd σ H p⟩
/-- a loop over enumerate of a list -/
theorem for_enumL {K : PySem.W.Frag} {a : Addr} {xs : List V} {g : TG} {tb : TS} {D : Ends} {σ : L2.St} {H : Hp} (Pv : Nat → L2.St → Hp → Prop) (h0 : Pv 0 σ H) (hl : ∀ i σ H, i ≤ xs.length → Pv i σ H → SqL K H a xs)
    (hs : ∀ i x T σ H, xs[i]? = some x → H T = none → Pv i σ H → g (.ref T) σ (upd H T (.tup [.int (i : Nat), x])) fun σ2 H2 => tb { D with nx := Pv (i + 1), ct := Pv (i + 1), bk := D.nx } σ2 H2) (hd : ∀ σ H, Pv xs.length σ H → D.nx σ H) :
    ∃ W : Nat → Nat → L2.St → Hp → Prop, (∃ m, W 0 m σ H) ∧ ∀ i m σ H, W i m σ H →
      ((Ite K a).stop i H ∧ D.nx σ H) ∨ ((Ite K a).go i H ∧ ∃ N : L2.St → Hp → Prop, (∀ σ' H', N σ' H' → ∃ m', m' < m ∧ W (i + 1) m' σ' H') ∧ ∀ x H', (Ite K a).yld i H x H' → g x σ H' fun σ2 H2 => tb { D with nx := N, ct := N, bk := D.nx } σ2 H2) := by
  refine ⟨fun i m σ H => m = xs.length - i ∧ i ≤ xs.length ∧ Pv i σ H, ⟨xs.length, by simp, Nat.zero_le _, h0⟩, ?_⟩
  rintro i m σ H ⟨rfl, hi, p⟩
  have q := hl i σ H hi p
  by_cases hlt : i < xs.length
  · refine .inr ⟨⟨xs, xs[i], q, by simp [hlt]⟩, Pv (i + 1), fun σ' H' p' => ⟨xs.length - (i + 1), by omega, rfl, hlt, p'⟩, fun v H' y => ?_⟩
    obtain ⟨T, x, rfl, nT, rfl, f⟩ := y
    exact hs i x T σ H (f xs q) nT p
  · have e : i = xs.length := by omega
    subst e
    exact .inl ⟨⟨xs, q, Nat.le_refl _⟩, hd σ H p⟩
theorem lc_enumL {K : PySem.W.Frag} {a : Addr} {xs : List V} {g : TG} {tt : TT} {te : TE} {vs : List Nat} {σ : L2.St} {H1 : Hp} {D : Addr} {Qd : Hp → Prop} (Pv : Nat → Hp → Prop) (h0 : Pv 0 (upd H1 D (.lst []))) (hl : ∀ i H, i ≤ xs.length → Pv i H → SqL K H a xs)
    (hs : ∀ i x T H, xs[i]? = some x → H T = none → Pv i H → g (.ref T) (wipe σ vs) (upd H T (.tup [.int (i : Nat), x])) fun σ2 H2 => wipe σ2 vs = wipe σ vs ∧ tt σ2 H2 fun b H3 =>
      if b = true then te σ2 H3 fun y H4 => ∃ acc, H4 D = some (.lst acc) ∧ acc.length < sizeLine ∧ Pv (i + 1) (upd H4 D (.lst (acc ++ [y]))) else Pv (i + 1) H3) (hd : ∀ H, Pv xs.length H → Qd H) :
    ∃ W : Nat → Nat → Hp → Prop, (∃ m, W 0 m (upd H1 D (.lst []))) ∧ ∀ i m H, W i m H →
      ((Ite K a).stop i H ∧ Qd H) ∨ ((Ite K a).go i H ∧ ∃ Nx : Hp → Prop, (∀ H', Nx H' → ∃ m', m' < m ∧ W (i + 1) m' H') ∧ ∀ x H', (Ite K a).yld i H x H' → g x (wipe σ vs) H' fun σ2 H2 => wipe σ2 vs = wipe σ vs ∧ tt σ2 H2 fun b H3 =>
        if b = true then te σ2 H3 fun y H4 => ∃ acc, H4 D = some (.lst acc) ∧ acc.length < sizeLine ∧ Nx (upd H4 D (.lst (acc ++ [y]))) else Nx H3) := by
  refine ⟨fun i m H => m = xs.length - i ∧ i ≤ xs.length ∧ Pv i H, ⟨xs.length, by simp, Nat.zero_le _, h0⟩, ?_⟩
  rintro i m H ⟨rfl, hi, p⟩
  have q := hl i H hi p
  by_cases hlt : i < xs.length
  · refine .inr ⟨⟨xs, xs[i], q, by simp [hlt]⟩, Pv (i + 1), fun H' p' => ⟨xs.length - (i + 1), by omega, rfl, hlt, p'⟩, fun v H' y => ?_⟩
    obtain ⟨T, x, rfl, nT, rfl, f⟩ := y
    exact hs i x T H (f xs q) nT p
  · have e : i = xs.length := by omega
    subst e
    exact .inl ⟨⟨xs, q, Nat.le_refl _⟩, hd H p⟩
end LM

set_option Elab.async false
set_option linter.all false
set_option maxRecDepth 100000
set_option maxHeartbeats 2000000
set_option pp.maxSteps 600
set_option pp.deepTerms false
/-! clips of a record -/
namespace LM
open PySem PySem.Spec PyProof.Rows L2 RZ
local macro_rules | `(tactic| walk_at "hp") => `(tactic| first | assumption | exact upd_same | (rw [upd_ne (by assumption)]; assumption) | (rw [upd_ne (Ne.symm (by assumption))]; assumption) | (rw [upd_ne (by assumption)]; exact upd_same) | (rw [upd_ne (Ne.symm (by assumption))]; exact upd_same))
local macro_rules | `(tactic| walk_at "sq") => `(tactic| first | assumption | exact Or.inl (Or.inl (by assumption)) | exact Or.inl (Or.inl upd_same) | exact Or.inl (Or.inl (by walk_at "hp")))
local macro_rules | `(tactic| walk_at "ixl") => `(tactic| refine ⟨_, _, _, _, rfl, rfl, (by walk_at "sq"), (by rfl), ?_⟩)
local macro_rules | `(tactic| walk_at "setl") => `(tactic| refine ⟨_, _, _, _, rfl, rfl, (by walk_at "hp"), (by rfl), ?_⟩)
local macro_rules | `(tactic| walk_at "side") => `(tactic| refine idP ?_; first | omega | (show (0 : Int) < _; omega) | (show (0 : Int) < _ ∧ _ < _; omega) | (refine Or.inr ?_; show (-(2 ^ 64) : Int) < _ ∧ _ < _; omega) | (refine Or.inl ?_; show (-(2 ^ 64) : Int) < _ ∧ _ < _; omega) | exact divW (by omega) (by omega) _ | (refine ⟨by decide, by decide, ?_⟩; decide))
local macro_rules | `(tactic| walk_at "go1") => `(tactic| first
  | refine ⟨_, rfl, ?_⟩
  | refine ⟨_, _, rfl, rfl, (by walk_at "side"), ?_⟩
  | refine ⟨_, _, rfl, (by walk_at "side"), ?_⟩
  | refine ⟨_, _, rfl, rfl, ?_⟩
  | refine Or.inl ⟨_, rfl, ?_⟩
  | refine ⟨_, _, rfl, Or.inl (by walk_at "sq"), ?_⟩
  | walk_at "ixl"
  | walk_at "setl"
  | refine ⟨_, _, rfl, (by walk_at "sq"), rfl, ?_⟩
  | refine ⟨_, _, rfl, (by walk_at "sq"), ?_⟩
  | refine ⟨_, _, rfl, ?_⟩
  | refine ⟨rfl, ?_⟩
  | refine ⟨small (Nat.le_of_ble_eq_true rfl), ?_⟩)
local macro_rules | `(tactic| walk_at "go") => `(tactic| repeat walk_at "go1")

abbrev scheck_house : Stmt := topS 54
theorem sccheck_house : FnScope ["given"] ["given"] (defScope scheck_house) := ⟨rfl, rfl, rfl, by decide +kernel, rfl, by decide +kernel, by decide +kernel⟩
abbrev sis_clip : Stmt := topS 56
theorem scis_clip : FnScope ["value", "house", "frame", "many"] ["value"] (defScope sis_clip) := ⟨rfl, rfl, rfl, by decide +kernel, rfl, by decide +kernel, by decide +kernel⟩
abbrev scheck_clips : Stmt := topS 57
theorem sccheck_clips : FnScope ["clips", "index", "clip"] ["clips"] (defScope scheck_clips) := ⟨rfl, rfl, rfl, by decide +kernel, rfl, by decide +kernel, by decide +kernel⟩
abbrev sgoes_on : Stmt := topS 58
theorem scgoes_on : FnScope ["clip", "following", "house", "frame", "many"] ["clip", "following"] (defScope sgoes_on) := ⟨rfl, rfl, rfl, by decide +kernel, rfl, by decide +kernel, by decide +kernel⟩
/-- a clip: a house by its address and its text, a frame, how many -/
structure PC where
  p : Addr
  z : Str
  lo : Nat
  ex : Nat
def PC.vs (k : PC) : List V := [.ref k.p, .int (k.lo : Int), .int (k.ex : Int)]
def ClipAt (K : PySem.W.Frag) (C : Addr) (H : Hp) (a : Addr) (k : PC) : Prop := SqT K H a k.vs ∧ TextAt C H k.p k.z
def ClipsT (K : PySem.W.Frag) (C : Addr) (H : Hp) (t : Addr) (ks : List PC) : Prop := ∃ as : List Addr, SqT K H t (as.map V.ref) ∧ Paired (fun a (k : PC) => ClipAt K C H a k) as ks
theorem ClipAt.same {K : PySem.W.Frag} {C : Addr} {H H' : Hp} {a : Addr} {k : PC} (h : ClipAt K C H a k) (s : Same H H') : ClipAt K C H' a k := ⟨Same.seqT s h.1, h.2.same s⟩
theorem ClipsT.same {K : PySem.W.Frag} {C : Addr} {H H' : Hp} {t : Addr} {ks : List PC} (h : ClipsT K C H t ks) (s : Same H H') : ClipsT K C H' t ks := by
  obtain ⟨as, h1, h2⟩ := h
  exact ⟨as, Same.seqT s h1, paired_imp h2 fun _ _ _ q => q.same s⟩
theorem TextAt.els {C : Addr} {H H' : Hp} {q p : Addr} {ys : List V} {z : Str} (h : TextAt C H p z) (hq : H q = some (.lst ys)) (e : Else q H H') : TextAt C H' p z := by
  obtain ⟨dx, fs, e1, e2⟩ := h
  exact ⟨dx, fs, e _ _ (fun z => by rw [z, hq] at e1; cases e1) e1, e2⟩
theorem tupT_els {K : PySem.W.Frag} {H H' : Hp} {q a : Addr} {ys xs : List V} (hq : H q = some (.lst ys)) (e : Else q H H') (h : SqT K H a xs) : SqT K H' a xs := by
  rcases h with (h | ⟨o, h⟩) | h
  · exact .inl (.inl (e _ _ (fun z => by rw [z, hq] at h; cases h) h))
  · exact .inl (.inr ⟨o, e _ _ (fun z => by rw [z, hq] at h; cases h) h⟩)
  · exact .inr h
theorem ClipsT.els {K : PySem.W.Frag} {C : Addr} {H H' : Hp} {q t : Addr} {ys : List V} {ks : List PC} (h : ClipsT K C H t ks) (hq : H q = some (.lst ys)) (e : Else q H H') : ClipsT K C H' t ks := by
  obtain ⟨as, h1, h2⟩ := h
  exact ⟨as, tupT_els hq e h1, paired_imp h2 fun _ _ _ r => ⟨tupT_els hq e r.1, r.2.els hq e⟩⟩
theorem ClipsT.len {K : PySem.W.Frag} {C : Addr} {H : Hp} {t : Addr} {ks : List PC} {as : List Addr} (h : Paired (fun a (k : PC) => ClipAt K C H a k) as ks) : as.length = ks.length := h.length
/-- whether a clip goes on -/
def goB (k l : PC) : Bool := decide (k.z = l.z) && decide ((k.lo : Int) + (k.ex : Int) = (l.lo : Int))
def spChkHouse (C : Addr) : Sp := fun vs H Q _ => ∃ (p : Addr) (dx : Addr) (fs : List (Str × V)), vs = [.ref p] ∧ H p = some (.ins C dx fs) ∧ Q .non H
def spIsClip (K : PySem.W.Frag) (C : Addr) : Sp := fun vs H Q _ => ∃ (a : Addr) (k : PC), vs = [.ref a] ∧ ClipAt K C H a k ∧ 1 ≤ k.ex ∧ ∀ H', Same H H' → Q (.bl true) H'
def spChkClips (K : PySem.W.Frag) (C : Addr) : Sp := fun vs H Q _ => ∃ (t : Addr) (ks : List PC), vs = [.ref t] ∧ ClipsT K C H t ks ∧ ks.length ≤ 20 ∧ (∀ k ∈ ks, 1 ≤ k.ex) ∧ ∀ H', Same H H' → Q .non H'
def spGoesOn (K : PySem.W.Frag) (C : Addr) : Sp := fun vs H Q _ => ∃ (a b : Addr) (k l : PC), vs = [.ref a, .ref b] ∧ ClipAt K C H a k ∧ ClipAt K C H b l ∧ Q (.bl (goB k l)) H
section
variable {P : Program} {w : World} {K : PySem.W.Frag} {mg : Str → Option Value} {base : Heap}
theorem ok_chkhouse {f C : Addr} {fd : FuncData} (F : Fun K "check_house" "check_house" scheck_house f fd) (T : HouseTxt K mg C) (N : Names mg) (O : Other K C) (W : OwnT K C) : FnOk P w K mg base CX0 1 f fd ["given"] (spChkHouse C) := by
  have sc := sccheck_house
  refine F.ok sc (fun vs H Q E h => ?_) (fun cdv A outer s H vs Q E hr h => ?_)
  · obtain ⟨p, dx, fs, rfl, _⟩ := h
    rfl
  · obtain ⟨p, dx, fs, rfl, e, k⟩ := h
    refine ⟨_, (pss_one (ps_if (pt_not (pt_val (pe_callB call_isi (by rfl) N.isinstance (by decide +kernel) (pa_cons (pv 0) (pa_cons (pe_glob (v := .ref C) rfl T.mgC rfl) pa_nil))))) (pss_one ps_never) pss_nil)), ?_⟩
    refine ⟨_, rfl, _, _, _, _, _, rfl, .own _, W.ty T.cl e, O.own2, _, rfl, ?_⟩
    exact iteF k
theorem ok_isclip {f C : Addr} {fd : FuncData} (F : Fun K "is_clip" "is_clip" sis_clip f fd) (T : HouseTxt K mg C) (N : Names mg) (O : Other K C) (W : OwnT K C) (Dis_number : DefK P w K mg base "is_number" ["value"] 2 spIsNum) : FnOk P w K mg base CX0 3 f fd ["value"] (spIsClip K C) := by
  have sc := scis_clip
  refine F.ok sc (fun vs H Q E h => ?_) (fun cdv A outer s H vs Q E hr h => ?_)
  · obtain ⟨a, k, rfl, _⟩ := h
    rfl
  · obtain ⟨a, kk, rfl, ⟨ha, tx⟩, hx, k⟩ := h
    refine ⟨_, (pss_cons (ps_if (PW.pt (pw_or (pt_not (pt_val (pe_callB call_isi (by rfl) N.isinstance (by decide +kernel) (pa_cons (pv 0) (pa_cons (pe_ty "tuple" rfl N.tuple (by decide +kernel)) pa_nil))))) (pw_or1 (pt_cmpR op_ne (pe_callB call_len_seq (by rfl) N.len (by decide +kernel) (pa_cons (pv 0) pa_nil)) pe_int (nomark _))))) (pss_one (ps_ret pe_bl)) pss_nil)
      (pss_cons (ps_asg (pv 0) (pg_tup rfl (pgs_cons (pg_name (i := 1) sc.nd rfl (Or.inl rfl)) (pgs_cons (pg_name (i := 2) sc.nd rfl (Or.inl rfl)) (pgs_cons (pg_name (i := 3) sc.nd rfl (Or.inl rfl)) pgs_nil)))))
      (pss_one (ps_ret (pe_and (pe_callB call_isi (by rfl) N.isinstance (by decide +kernel) (pa_cons (pv 1) (pa_cons (pe_glob (v := .ref C) rfl T.mgC rfl) pa_nil))) (pe_and (pe_d Dis_number (hr.mono (by decide)) rfl (pa_cons (pv 2) pa_nil)) (pe_and (pe_d Dis_number (hr.mono (by decide)) rfl (pa_cons (pv 3) pa_nil)) (pe_one (pe_cmpR op_ge (pv 3) pe_int (nomark _)))))))))), ?_⟩
    obtain ⟨dx, fs, e1, _⟩ := id tx
    refine ⟨_, rfl, _, _, _, _, _, rfl, .ty _, tyT ha, kit_ty (r := true) (by decide +kernel), _, rfl, ?_⟩
    refine iteF ?_
    refine ⟨_, rfl, a, _, rfl, .inr ha, rfl, _, rfl, ?_⟩
    refine ifN (fun hd => absurd rfl hd) (fun _ => ?_)
    refine ⟨_, rfl, a, _, rfl, ha, rfl, _, _, rfl, _, _, rfl, _, _, rfl, rfl, ?_⟩
    dsimp only
    refine ⟨_, rfl, _, _, _, _, _, rfl, .own _, W.ty T.cl e1, O.own2, _, rfl, iteT ?_⟩
    refine ⟨_, rfl, _, rfl, _, rfl, ?_⟩
    rw [decide_eq_true (show (0 : Int) ≤ (kk.lo : Int) by omega)]
    refine iteT ?_
    refine ⟨_, rfl, _, rfl, _, rfl, ?_⟩
    rw [decide_eq_true (show (0 : Int) ≤ (kk.ex : Int) by omega)]
    refine iteT ?_
    refine ⟨_, rfl, _, _, rfl, rfl, ?_⟩
    show Q (V.bl (decide ((1 : Int) ≤ (kk.ex : Int)))) H
    rw [decide_eq_true (show (1 : Int) ≤ (kk.ex : Int) by omega)]
    exact k H (Same.refl H)
theorem ok_chkclips {f C : Addr} {fd : FuncData} (F : Fun K "check_clips" "check_clips" scheck_clips f fd) (T : HouseTxt K mg C) (N : Names mg) (hMC : ∃ t, mg "MOST_CLIPS" = some (.int 20 t)) (Dis_clip : DefK P w K mg base "is_clip" ["value"] 3 (spIsClip K C)) : FnOk P w K mg base CX0 4 f fd ["clips"] (spChkClips K C) := by
  have sc := sccheck_clips
  refine F.ok sc (fun vs H Q E h => ?_) (fun cdv A outer s H vs Q E hr h => ?_)
  · obtain ⟨t, ks, rfl, _⟩ := h
    rfl
  · obtain ⟨t, ks, rfl, ⟨as, ht, pa⟩, h20, hx, k⟩ := h
    refine ⟨_, (pss_cons (ps_if (PW.pt (pw_or (pt_not (pt_val (pe_callB call_isi (by rfl) N.isinstance (by decide +kernel) (pa_cons (pv 0) (pa_cons (pe_ty "tuple" rfl N.tuple (by decide +kernel)) pa_nil))))) (pw_or1 (pt_cmpR op_gt (pe_callB call_len_seq (by rfl) N.len (by decide +kernel) (pa_cons (pv 0) pa_nil)) (pe_const rfl hMC) (nomark _))))) (pss_one ps_never) pss_nil)
      (pss_one (ps_for PassesOwn.never rfl (pi_enumT rfl N.enumerate (pa_cons (pv 0) pa_nil)) (pg_tup rfl (pgs_cons (pg_name (i := 1) sc.nd rfl (Or.inl rfl)) (pgs_cons (pg_name (i := 2) sc.nd rfl (Or.inl rfl)) pgs_nil))) (pss_one (ps_if (pt_not (pt_val (pe_d Dis_clip (hr.mono (by decide)) rfl (pa_cons (pv 2) pa_nil)))) (pss_one ps_never) pss_nil))))), ?_⟩
    have hpl := pa.length
    refine ⟨_, rfl, _, _, _, _, _, rfl, .ty _, tyT ht, kit_ty (r := true) (by decide +kernel), _, rfl, ?_⟩
    refine iteF ?_
    refine ⟨_, rfl, t, _, rfl, .inr ht, _, _, rfl, rfl, _, rfl, ?_⟩
    rw [List.length_map]
    refine ifD (fun hd => absurd hd (by show ¬ ((20 : Int) < ((as.length : Nat) : Int)); omega)) (fun _ => ?_)
    refine ⟨_, rfl, t, _, rfl, ht, for_enumT (K := K) (xs := as.map V.ref) (fun i σ H' => ∃ v1 v2 : Option V, σ = [some (.ref t), v1, v2] ∧ Same H H') ⟨_, _, rfl, Same.refl H⟩ (fun i σ H' _ ⟨_, _, _, s⟩ => Same.seqT s ht) ?_ ?_⟩
    · rintro i x T' σ H' hx' nT ⟨v1, v2, rfl, sm⟩
      rw [List.getElem?_map] at hx'
      obtain ⟨a, ha, rfl⟩ := Option.map_eq_some_iff.mp hx'
      obtain ⟨kk, hk, ck⟩ := paired_at pa ha
      have sT := Same.of_new (o := .tup [.int ((i : Nat) : Int), .ref a]) sm nT
      refine ⟨T', _, rfl, SqT.tup upd_same, rfl, _, _, rfl, _, _, rfl, rfl, ?_⟩
      refine ⟨_, rfl, a, kk, rfl, ck.same sT, hx kk (List.mem_of_getElem? hk), fun H2 s2 => ⟨_, rfl, ?_⟩⟩
      refine iteF ?_
      exact ⟨_, _, rfl, sT.trans s2⟩
    · rintro σ H' ⟨v1, v2, rfl, sm⟩
      exact k H' sm
theorem ok_goeson {f C fEq : Addr} {fd fdEq : FuncData} (F : Fun K "goes_on" "goes_on" sgoes_on f fd) (T : HouseTxt K mg C) (N : Names mg) (O : Other K C) (W : OwnT K C) (OE : OwnE K C fEq) (GEq : FnOk P w K mg base CX0 1 fEq fdEq ["self", "other"] (LM.spEq K C)) (bEq : Binds K fdEq ["self", "other"] []) : FnOk P w K mg base CX0 2 f fd ["clip", "following"] (spGoesOn K C) := by
  have sc := scgoes_on
  refine F.ok sc (fun vs H Q E h => ?_) (fun cdv A outer s H vs Q E hr h => ?_)
  · obtain ⟨a, b, k, l, rfl, _⟩ := h
    rfl
  · obtain ⟨a, b, kk, ll, rfl, ⟨ha, tk⟩, ⟨hb, tl⟩, k⟩ := h
    refine ⟨_, (pss_cons (ps_asg (pv 0) (pg_tup rfl (pgs_cons (pg_name (i := 2) sc.nd rfl (Or.inl rfl)) (pgs_cons (pg_name (i := 3) sc.nd rfl (Or.inl rfl)) (pgs_cons (pg_name (i := 4) sc.nd rfl (Or.inl rfl)) pgs_nil)))))
      (pss_one (ps_ret (pe_and (pe_cmpR (op_eqO OE GEq (hr.mono (by decide)) bEq pass0) (pv 2) (pe_ix ix_tup (pv 1) pe_int (fun _ _ => rfl)) (nomark _)) (pe_one (pe_cmpR op_eq (pe_op op_add (pv 3) (pv 4)) (pe_ix ix_tup (pv 1) pe_int (fun _ _ => rfl)) (nomark _))))))), ?_⟩
    obtain ⟨dx, fs, e1, _⟩ := id tk
    obtain ⟨dx2, fs2, e2, _⟩ := id tl
    refine ⟨_, rfl, a, _, rfl, ha, rfl, _, _, rfl, _, _, rfl, _, _, rfl, rfl, ?_⟩
    dsimp only
    refine ⟨_, rfl, _, rfl, b, _, _, _, rfl, rfl, hb, rfl, kk.p, dx, fs, _, rfl, e1, W.ty T.cl e2, O.own1, kk.p, _, _, rfl, tk, .inl ⟨ll.p, _, rfl, tl, _, rfl, _, rfl, ?_⟩⟩
    by_cases hz : kk.z = ll.z
    · rw [decide_eq_true hz]
      refine iteT ?_
      refine ⟨_, rfl, _, rfl, _, _, rfl, rfl, _, rfl, b, _, _, _, rfl, rfl, hb, rfl, rfl, ?_⟩
      have e : goB kk ll = decide (V.int ((kk.lo : Int) + (kk.ex : Int)) = V.int (ll.lo : Int)) := by
        unfold goB
        rw [decide_eq_true hz, Bool.true_and]
        exact decide_eq_decide.mpr ⟨congrArg V.int, V.int.inj⟩
      rw [e] at k
      exact k
    · rw [decide_eq_false hz]
      refine iteF ?_
      have e : goB kk ll = false := by
        unfold goB
        rw [decide_eq_false hz, Bool.false_and]
      rw [e] at k
      exact k
end
end LM

set_option Elab.async false
set_option linter.all false
set_option maxRecDepth 100000
set_option maxHeartbeats 4000000
set_option pp.maxSteps 600
set_option pp.deepTerms false
/-! lists of clips -/
namespace LM
open PySem PySem.Spec PyProof.Rows L2 RZ
local macro_rules | `(tactic| walk_at "hp") => `(tactic| first | assumption | exact upd_same | (rw [upd_ne (by assumption)]; assumption) | (rw [upd_ne (Ne.symm (by assumption))]; assumption) | (rw [upd_ne (by assumption)]; exact upd_same) | (rw [upd_ne (Ne.symm (by assumption))]; exact upd_same))
local macro_rules | `(tactic| walk_at "sq") => `(tactic| first | assumption | exact Or.inl (Or.inl (by assumption)) | exact Or.inl (Or.inl upd_same) | exact Or.inl (Or.inl (by walk_at "hp")))
local macro_rules | `(tactic| walk_at "ixl") => `(tactic| refine ⟨_, _, _, _, rfl, rfl, (by walk_at "sq"), (by rfl), ?_⟩)
local macro_rules | `(tactic| walk_at "setl") => `(tactic| refine ⟨_, _, _, _, rfl, rfl, (by walk_at "hp"), (by rfl), ?_⟩)
local macro_rules | `(tactic| walk_at "side") => `(tactic| refine idP ?_; first | omega | (show (0 : Int) < _; omega) | (show (0 : Int) < _ ∧ _ < _; omega) | (refine Or.inr ?_; show (-(2 ^ 64) : Int) < _ ∧ _ < _; omega) | (refine Or.inl ?_; show (-(2 ^ 64) : Int) < _ ∧ _ < _; omega) | exact divW (by omega) (by omega) _ | (refine ⟨by decide, by decide, ?_⟩; decide))
local macro_rules | `(tactic| walk_at "go1") => `(tactic| first
  | refine ⟨_, rfl, ?_⟩
  | refine ⟨_, _, rfl, rfl, (by walk_at "side"), ?_⟩
  | refine ⟨_, _, rfl, (by walk_at "side"), ?_⟩
  | refine ⟨_, _, rfl, rfl, ?_⟩
  | refine Or.inl ⟨_, rfl, ?_⟩
  | refine ⟨_, _, rfl, Or.inl (by walk_at "sq"), ?_⟩
  | walk_at "ixl"
  | walk_at "setl"
  | refine ⟨_, _, rfl, (by walk_at "sq"), rfl, ?_⟩
  | refine ⟨_, _, rfl, (by walk_at "sq"), ?_⟩
  | refine ⟨_, _, rfl, ?_⟩
  | refine ⟨rfl, ?_⟩
  | refine ⟨small (Nat.le_of_ble_eq_true rfl), ?_⟩)
local macro_rules | `(tactic| walk_at "go") => `(tactic| repeat walk_at "go1")

abbrev sCutlist__init_ : Stmt := inClass (topS 59) 0
theorem scCutlist__init_ : FnScope ["self", "house", "frame", "clips", "lengths", "clip"] ["self", "house", "frame", "clips"] (defScope sCutlist__init_) := ⟨rfl, rfl, rfl, by decide +kernel, rfl, by decide +kernel, by decide +kernel⟩
def cf (h : Addr) (st : Int) (ct ah : Addr) (tot : Int) : List (Str × V) := putF "_total" (.int tot) (putF "_shown_ahead" (.ref ah) (putF "_clips" (.ref ct) (putF "_start" (.int st) (putF "_house" (.ref h) []))))
section
variable (h : Addr) (st : Int) (ct ah : Addr) (tot : Int)
theorem cf_total : (cf h st ct ah tot).lookup ("_total" : Str) = some (.int tot) := by
  unfold cf
  rw [lookup_putF, if_pos rfl]
theorem cf_ahead : (cf h st ct ah tot).lookup ("_shown_ahead" : Str) = some (.ref ah) := by
  unfold cf
  rw [lookup_putF, if_neg (by decide +kernel), lookup_putF, if_pos rfl]
theorem cf_clips : (cf h st ct ah tot).lookup ("_clips" : Str) = some (.ref ct) := by
  unfold cf
  iterate 2 rw [lookup_putF, if_neg (by decide +kernel)]
  rw [lookup_putF, if_pos rfl]
theorem cf_start : (cf h st ct ah tot).lookup ("_start" : Str) = some (.int st) := by
  unfold cf
  iterate 3 rw [lookup_putF, if_neg (by decide +kernel)]
  rw [lookup_putF, if_pos rfl]
theorem cf_house : (cf h st ct ah tot).lookup ("_house" : Str) = some (.ref h) := by
  unfold cf
  iterate 4 rw [lookup_putF, if_neg (by decide +kernel)]
  rw [lookup_putF, if_pos rfl]
theorem cf_look : (cf h st ct ah tot).lookup ("look" : Str) = none := by
  unfold cf
  iterate 5 rw [lookup_putF, if_neg (by decide +kernel)]
  rfl
end
structure CutTxt (K : PySem.W.Frag) (mg : Str → Option Value) (cc : Addr) : Prop where
  cl : Cls K cc
  nH : NoAttr K cc "_house"
  nS : NoAttr K cc "_start"
  nC : NoAttr K cc "_clips"
  nA : NoAttr K cc "_shown_ahead"
  nT : NoAttr K cc "_total"
  mgC : mg "Cutlist" = some (.ref cc)
def exsP (ks : List PC) : List Int := ks.map fun k => (k.ex : Int)
/-- a list of clips -/
structure CutAt (K : PySem.W.Frag) (C cc : Addr) (old : Addr → Prop) (H : Hp) (m h ct ah : Addr) (z : Str) (st : Nat) (ks : List PC) : Prop where
  ob : ∃ dx, H m = some (.ins cc dx (cf h st ct ah (exsP ks).sum))
  hs : TextAt C H h z
  cl : ClipsT K C H ct ks
  sh : H ah = some (.lst ((sumsP (exsP ks)).map V.int))
  nah : ¬ old ah
  k20 : ks.length ≤ 20
  kx : ∀ k ∈ ks, 1 ≤ k.ex
theorem CutAt.same {K : PySem.W.Frag} {C cc : Addr} {old : Addr → Prop} {H H' : Hp} {m h ct ah : Addr} {z : Str} {st : Nat} {ks : List PC} (a : CutAt K C cc old H m h ct ah z st ks) (s : Same H H') : CutAt K C cc old H' m h ct ah z st ks := by
  obtain ⟨⟨dx, e⟩, h2, h3, h4, h5, h6, h7⟩ := a
  exact ⟨⟨dx, s _ _ e⟩, h2.same s, h3.same s, s _ _ h4, h5, h6, h7⟩
theorem CutAt.weak {K : PySem.W.Frag} {C cc : Addr} {o1 o2 : Addr → Prop} {H : Hp} {m h ct ah : Addr} {z : Str} {st : Nat} {ks : List PC} (a : CutAt K C cc o1 H m h ct ah z st ks) (i : ∀ q, o2 q → o1 q) : CutAt K C cc o2 H m h ct ah z st ks := ⟨a.ob, a.hs, a.cl, a.sh, fun z => a.nah (i _ z), a.k20, a.kx⟩
theorem CutAt.els {K : PySem.W.Frag} {C cc : Addr} {old : Addr → Prop} {H H' : Hp} {m h ct ah q : Addr} {z : Str} {st : Nat} {ks : List PC} {ys : List V} (a : CutAt K C cc old H m h ct ah z st ks) (hq : H q = some (.lst ys)) (ho : old q) (e : Else q H H') : CutAt K C cc old H' m h ct ah z st ks := by
  obtain ⟨⟨dx, eo⟩, h2, h3, h4, h5, h6, h7⟩ := a
  exact ⟨⟨dx, e _ _ (fun z => by rw [z, hq] at eo; cases eo) eo⟩, h2.els hq e, h3.els hq e, e _ _ (fun z => h5 (z ▸ ho)) h4, h5, h6, h7⟩
theorem TextAt.elsI {C cc dx : Addr} {H H' : Hp} {p a : Addr} {z : Str} (h : TextAt C H a z) (hp : H p = some (.ins cc dx [])) (e : Else p H H') : TextAt C H' a z := by
  obtain ⟨d, fs, e1, e2⟩ := h
  refine ⟨d, fs, e _ _ (fun y => ?_) e1, e2⟩
  rw [y, hp] at e1
  cases e1
  cases e2
theorem ClipsT.elsI {K : PySem.W.Frag} {C cc dx : Addr} {H H' : Hp} {p t : Addr} {ks : List PC} (h : ClipsT K C H t ks) (hp : H p = some (.ins cc dx [])) (e : Else p H H') : ClipsT K C H' t ks := by
  obtain ⟨as, h1, h2⟩ := h
  exact ⟨as, els_seqT hp e h1, paired_imp h2 fun _ _ _ r => ⟨els_seqT hp e r.1, r.2.elsI hp e⟩⟩
def spCutInit (K : PySem.W.Frag) (C cc : Addr) : Sp := fun vs H Q _ => ∃ (p dx h ct : Addr) (z : Str) (st : Nat) (ks : List PC), vs = [.ref p, .ref h, .int (st : Int), .ref ct] ∧ H p = some (.ins cc dx []) ∧ TextAt C H h z ∧ ClipsT K C H ct ks ∧ ks.length ≤ 20 ∧ (∀ k ∈ ks, 1 ≤ k.ex) ∧
  ∀ (ah : Addr) H', CutAt K C cc (fun q => H q ≠ none) H' p h ct ah z st ks → Else p H H' → Q .non H'
section
variable {P : Program} {w : World} {K : PySem.W.Frag} {mg : Str → Option Value} {base : Heap} {C cc : Addr}
theorem ok_cutinit {f : Addr} {fd : FuncData} {dv : List V} (F : FunD K "__init__" "Cutlist.__init__" (defArgs sCutlist__init_) (defBody sCutlist__init_) (defScope sCutlist__init_) dv [] f fd) (T : CutTxt K mg cc) (N : Names mg)
    (Dcheck_house : DefK P w K mg base "check_house" ["given"] 1 (spChkHouse C)) (Dcheck_number : DefK P w K mg base "check_number" ["given"] 3 spChkNum) (Dcheck_clips : DefK P w K mg base "check_clips" ["clips"] 4 (spChkClips K C)) (Dsums_ahead : DefK P w K mg base "sums_ahead" ["numbers"] 1 (spSums K)) :
    FnOk P w K mg base CX0 5 f fd ["self", "house", "frame", "clips"] (spCutInit K C cc) := by
  have sc := scCutlist__init_
  refine funD_ok F sc (fun vs H Q E h => ?_) (fun cdv A outer s H vs Q E hr h => ?_)
  · obtain ⟨p, dx, h, ct, z, st, ks, rfl, _⟩ := h
    rfl
  · obtain ⟨p, dx, h, ct, z, st, ks, rfl, hp, ht, hc, k20, kx, k⟩ := h
    refine ⟨_, (pss_cons (ps_expr (pe_d Dcheck_house (hr.mono (by decide)) rfl (pa_cons (pv 1) pa_nil)))
      (pss_cons (ps_expr (pe_d Dcheck_number (hr.mono (by decide)) rfl (pa_cons (pv 2) pa_nil)))
      (pss_cons (ps_expr (pe_d Dcheck_clips (hr.mono (by decide)) rfl (pa_cons (pv 3) pa_nil)))
      (pss_cons (ps_setLc (i := 4) (own := [("clip", 5)]) rfl sc.nd rfl rfl (sw_true rfl rfl rfl (by decide +kernel)) (pi_tup (pv 3)) (blkOk_by (own := [("clip", 5)]) (N := ["self", "house", "frame", "clips", "lengths", "clip"]) (sc := defScope (inClass (topS 59) 0)) (by decide +kernel)) (fun _ _ _ _ _ => (pg_name (i := 5) sc.nd rfl (Or.inl rfl))) (fun _ _ _ _ _ => pts_nil) (fun _ _ _ _ _ => (pe_ix (show IxR _ (rIxT K) from ix_tup) (pv 5) pe_int (fun _ _ => rfl))))
      (pss_cons (ps_fld (pv 0) (pv 1) rfl)
      (pss_cons (ps_fld (pv 0) (pv 2) rfl)
      (pss_cons (ps_fld (pv 0) (pv 3) rfl)
      (pss_cons (ps_fld (pv 0) (pe_d Dsums_ahead (hr.mono (by decide)) rfl (pa_cons (pv 4) pa_nil)) rfl)
      (pss_one (ps_fld (pv 0) (pe_callB (cr_sum rfl) (by rfl) N.sum (by decide +kernel) (pa_cons (pv 4) pa_nil)) rfl)))))))))), ?_⟩
    obtain ⟨dh, fh, eh, _⟩ := id ht
    refine ⟨_, rfl, h, dh, fh, rfl, eh, ?_⟩
    refine ⟨_, rfl, (st : Int), rfl, by omega, ?_⟩
    refine ⟨_, rfl, ct, ks, rfl, hc, k20, kx, fun H1 s1 => ?_⟩
    obtain ⟨as, hct, pa⟩ := id (hc.same s1)
    have hpl := pa.length
    refine ⟨_, rfl, ct, rfl, ⟨_, hct⟩, ?_⟩
    intro D nD
    refine lc_tup (K := K) (xs := as.map V.ref) (fun i H' => Same H1 H' ∧ H' D = some (.lst ((exsP (ks.take i)).map V.int))) ⟨same_new nD, upd_same⟩ (fun i H' _ ⟨s, _⟩ => Same.seqT s hct) ?_ ?_
    · rintro i x H2 hx ⟨sm, eD⟩
      rw [List.getElem?_map] at hx
      obtain ⟨a, ha, rfl⟩ := Option.map_eq_some_iff.mp hx
      obtain ⟨kk, hk, ck⟩ := paired_at pa ha
      refine ⟨rfl, ?_⟩
      refine ⟨_, rfl, a, _, _, _, rfl, rfl, Same.seqT sm ck.1, rfl, ?_⟩
      refine ⟨_, eD, smallLt (by unfold exsP; rw [List.length_map, List.length_map, List.length_take]; omega), same_mut sm nD, ?_⟩
      rw [upd_same]
      unfold exsP
      rw [List.take_add_one, hk, List.map_append, List.map_append]
      rfl
    rintro H2 ⟨s2, eD⟩
    rw [List.length_map, hpl, List.take_of_length_le (Nat.le_refl _)] at eD
    have s02 := s1.trans s2
    have hp2 := s02 _ _ hp
    have nDp : D ≠ p := fun z => by rw [z, s1 _ _ hp] at nD; cases nD
    refine g_nx ?_
    dsimp only
    refine ⟨_, rfl, _, rfl, p, cc, dx, _, rfl, hp2, T.cl, T.nH, few0, ?_⟩
    (generalize e_f : upd H2 p _ = H3; have hp3 := (congrFun e_f p).symm.trans upd_same; have x3 : Else p H2 H3 := e_f ▸ els_upd; clear e_f)
    refine ⟨_, rfl, _, rfl, p, cc, dx, _, rfl, hp3, T.cl, T.nS, few1, ?_⟩
    (generalize e_f : upd H3 p _ = H4; have hp4 := (congrFun e_f p).symm.trans upd_same; have x4 : Else p H3 H4 := e_f ▸ els_upd; clear e_f)
    refine ⟨_, rfl, _, rfl, p, cc, dx, _, rfl, hp4, T.cl, T.nC, few2, ?_⟩
    (generalize e_f : upd H4 p _ = H5; have hp5 := (congrFun e_f p).symm.trans upd_same; have x5 : Else p H4 H5 := e_f ▸ els_upd; clear e_f)
    have x25 := (x3.trans x4).trans x5
    have eD5 := x25 _ _ nDp eD
    refine ⟨_, rfl, D, exsP ks, rfl, SqL.lst eD5, by unfold exsP; rw [List.length_map]; omega, fun ah H6 s6 nah eah => ?_⟩
    have hp6 := s6 _ _ hp5
    have nap : ah ≠ p := fun z => by rw [z, hp5] at nah; cases nah
    refine ⟨_, rfl, p, cc, dx, _, rfl, hp6, T.cl, T.nA, few3, ?_⟩
    (generalize e_f : upd H6 p _ = H7; have hp7 := (congrFun e_f p).symm.trans upd_same; have x7 : Else p H6 H7 := e_f ▸ els_upd; clear e_f)
    have eD7 := x7 _ _ nDp (s6 _ _ eD5)
    refine ⟨_, rfl, D, _, rfl, SqL.lst eD7, ?_⟩
    refine ⟨_, rfl, p, cc, dx, _, rfl, hp7, T.cl, T.nT, few4, ?_⟩
    (generalize e_f : upd H7 p _ = H8; have hp8 := (congrFun e_f p).symm.trans upd_same; have x8 : Else p H7 H8 := e_f ▸ els_upd; clear e_f)
    have x08 : Else p H H8 := (Same.els s02).trans (x25.trans ((Same.els s6).trans (x7.trans x8)))
    exact k ah H8 ⟨⟨dx, hp8⟩, ht.elsI hp x08, hc.elsI hp x08, x8 _ _ nap (x7 _ _ nap eah), fun z => z (els_free ((Same.els s02).trans x25) nap nah), k20, kx⟩ x08
end
end LM

set_option Elab.async false
set_option linter.all false
set_option maxRecDepth 100000
set_option maxHeartbeats 4000000
set_option pp.maxSteps 600
set_option pp.deepTerms false
/-! what a list of clips tells -/
namespace LM
open PySem PySem.Spec PyProof.Rows L2 RZ
local macro_rules | `(tactic| walk_at "hp") => `(tactic| first | assumption | exact upd_same | (rw [upd_ne (by assumption)]; assumption) | (rw [upd_ne (Ne.symm (by assumption))]; assumption) | (rw [upd_ne (by assumption)]; exact upd_same) | (rw [upd_ne (Ne.symm (by assumption))]; exact upd_same))
local macro_rules | `(tactic| walk_at "sq") => `(tactic| first | assumption | exact Or.inl (Or.inl (by assumption)) | exact Or.inl (Or.inl upd_same) | exact Or.inl (Or.inl (by walk_at "hp")))
local macro_rules | `(tactic| walk_at "ixl") => `(tactic| refine ⟨_, _, _, _, rfl, rfl, (by walk_at "sq"), (by rfl), ?_⟩)
local macro_rules | `(tactic| walk_at "setl") => `(tactic| refine ⟨_, _, _, _, rfl, rfl, (by walk_at "hp"), (by rfl), ?_⟩)
local macro_rules | `(tactic| walk_at "side") => `(tactic| refine idP ?_; first | omega | (show (0 : Int) < _; omega) | (show (0 : Int) < _ ∧ _ < _; omega) | (refine Or.inr ?_; show (-(2 ^ 64) : Int) < _ ∧ _ < _; omega) | (refine Or.inl ?_; show (-(2 ^ 64) : Int) < _ ∧ _ < _; omega) | exact divW (by omega) (by omega) _ | (refine ⟨by decide, by decide, ?_⟩; decide))
local macro_rules | `(tactic| walk_at "go1") => `(tactic| first
  | refine ⟨_, rfl, ?_⟩
  | refine ⟨_, _, rfl, rfl, (by walk_at "side"), ?_⟩
  | refine ⟨_, _, rfl, (by walk_at "side"), ?_⟩
  | refine ⟨_, _, rfl, rfl, ?_⟩
  | refine Or.inl ⟨_, rfl, ?_⟩
  | refine ⟨_, _, rfl, Or.inl (by walk_at "sq"), ?_⟩
  | walk_at "ixl"
  | walk_at "setl"
  | refine ⟨_, _, rfl, (by walk_at "sq"), rfl, ?_⟩
  | refine ⟨_, _, rfl, (by walk_at "sq"), ?_⟩
  | refine ⟨_, _, rfl, ?_⟩
  | refine ⟨rfl, ?_⟩
  | refine ⟨small (Nat.le_of_ble_eq_true rfl), ?_⟩)
local macro_rules | `(tactic| walk_at "go") => `(tactic| repeat walk_at "go1")

abbrev sCutlist_starts : Stmt := inClass (topS 59) 4
theorem scCutlist_starts : FnScope ["self", "ahead"] ["self"] (defScope sCutlist_starts) := ⟨rfl, rfl, rfl, by decide +kernel, rfl, by decide +kernel, by decide +kernel⟩
abbrev sCutlist_joins : Stmt := inClass (topS 59) 6
theorem scCutlist_joins : FnScope ["self", "clips", "at"] ["self"] (defScope sCutlist_joins) := ⟨rfl, rfl, rfl, by decide +kernel, rfl, by decide +kernel, by decide +kernel⟩
abbrev sCutlist_look : Stmt := inClass (topS 59) 7
theorem scCutlist_look : FnScope ["self", "number", "index"] ["self", "number"] (defScope sCutlist_look) := ⟨rfl, rfl, rfl, by decide +kernel, rfl, by decide +kernel, by decide +kernel⟩
abbrev sCutlist__repr_ : Stmt := inClass (topS 59) 11
theorem scCutlist__repr_ : FnScope ["self"] ["self"] (defScope sCutlist__repr_) := ⟨rfl, rfl, rfl, by decide +kernel, rfl, by decide +kernel, by decide +kernel⟩
def PC0 : PC := ⟨0, Str.empty, 0, 0⟩
/-- whether the clip behind the i-th one goes on from it -/
def goI (ks : List PC) (i : Nat) : Bool := goB (ks.getD i PC0) (ks.getD (i + 1) PC0)
def joinsP (ks : List PC) (n : Nat) : List Int := ((List.range n).filter (goI ks)).map fun i => ((i + 1 : Nat) : Int)
/-- how many frames stand ahead -/
def sumN (ks : List PC) (i : Nat) : Nat := ((ks.take i).map PC.ex).sum
theorem exs_sum : ∀ ks : List PC, (exsP ks).sum = (((ks.map PC.ex).sum : Nat) : Int)
  | [] => rfl
  | k :: ks => by
    show (k.ex : Int) + (exsP ks).sum = _
    rw [exs_sum ks, List.map_cons, List.sum_cons]
    omega
theorem exs_take (ks : List PC) (i : Nat) : ((exsP ks).take i).sum = ((sumN ks i : Nat) : Int) := by
  unfold sumN
  rw [← exs_sum]
  unfold exsP
  rw [List.map_take]
theorem sumN_succ {ks : List PC} {i : Nat} {k : PC} (h : ks[i]? = some k) : sumN ks (i + 1) = sumN ks i + k.ex := by
  unfold sumN
  rw [List.take_add_one, h, List.map_append, List.sum_append]
  simp
theorem sumN_mono {ks : List PC} {i j : Nat} (h : i ≤ j) : sumN ks i ≤ sumN ks j := by
  induction j with
  | zero =>
    have : i = 0 := by omega
    rw [this]
    exact Nat.le_refl _
  | succ j ih =>
    rcases Nat.lt_or_ge i (j + 1) with z | z
    · refine Nat.le_trans (ih (by omega)) ?_
      cases e : ks[j]? with
      | none =>
        have : ks.length ≤ j := List.getElem?_eq_none_iff.mp e
        unfold sumN
        rw [List.take_of_length_le this, List.take_of_length_le (by omega)]
        exact Nat.le_refl _
      | some k => rw [sumN_succ e]; omega
    · have : i = j + 1 := by omega
      rw [this]
      exact Nat.le_refl _
theorem sums_at {ks : List PC} {i : Nat} (h : i < ks.length) : (sumsP (exsP ks))[i]? = some ((sumN ks i : Nat) : Int) := by
  unfold sumsP
  have e : (exsP ks).length = ks.length := List.length_map ..
  rw [e, List.getElem?_map, List.getElem?_range h]
  show some ((exsP ks).take i).sum = _
  rw [exs_take]
theorem sumsD_at {ks : List PC} {i : Nat} (h : i < ks.length) : (sumsP (exsP ks)).getD i 0 = ((sumN ks i : Nat) : Int) := by
  rw [List.getD_eq_getElem?_getD, sums_at h]
  rfl
theorem lna_at {ks : List PC} {i n : Nat} {k : PC} (hk : ks[i]? = some k) (h1 : sumN ks i ≤ n) (h2 : n < sumN ks i + k.ex) : lna (sumsP (exsP ks)) (n : Int) = i := by
  have hi : i < ks.length := (List.getElem?_eq_some_iff.mp hk).1
  have hl : (sumsP (exsP ks)).length = ks.length := by rw [sumsP_len]; exact List.length_map ..
  have h0 : (sumsP (exsP ks)).getD 0 0 ≤ (n : Int) := by
    rw [sumsD_at (by omega)]
    have : sumN ks 0 = 0 := rfl
    omega
  have hlt := lna_lt (sumsP (exsP ks)) (n : Int) (by rw [hl]; omega)
  have sp := lnaGo_spec (sumsP (exsP ks)) (n : Int) ks.length 0 ks.length (by omega) h0 (.inl rfl)
  have e : lna (sumsP (exsP ks)) (n : Int) = lnaGo (sumsP (exsP ks)) (n : Int) 0 ks.length := by
    unfold lna
    rw [hl]
  rw [← e] at sp
  rw [hl] at hlt
  generalize lna (sumsP (exsP ks)) (n : Int) = r at hlt sp
  obtain ⟨s1, s2⟩ := sp
  rw [sumsD_at hlt] at s1
  rcases Nat.lt_trichotomy r i with z | z | z
  · rcases s2 with q | q
    · omega
    · rw [sumsD_at (by omega)] at q
      have := sumN_mono (ks := ks) (show r + 1 ≤ i by omega)
      omega
  · exact z
  · have h3 := sumN_mono (ks := ks) (show i + 1 ≤ r by omega)
    rw [sumN_succ hk] at h3
    omega
theorem log60 {n : Int} (h0 : 0 ≤ n) (h1 : n < 10 ^ 60) : n.natAbs.log2 < 1920 := by
  rcases Nat.eq_zero_or_pos n.natAbs with z | z
  · rw [z]; decide
  · have p60 : (10 : Int) ^ 60 = 1000000000000000000000000000000000000000000000000000000000000 := by decide
    exact Nat.lt_trans ((Nat.log2_lt (by omega)).mpr (show n.natAbs < 2 ^ 200 by omega)) (by decide)
theorem len60 {n : Int} (h0 : 0 ≤ n) (h1 : n < 10 ^ 60) : (numS n).length ≤ 2000 := by
  have := int_text_length_le (k := 1920) (by decide) (log60 h0 h1)
  show (Str.ofString (toString n)).length ≤ 2000
  rw [PySem.ofString_length]
  omega
theorem joins_succ (ks : List PC) (i : Nat) : joinsP ks (i + 1) = joinsP ks i ++ if goI ks i = true then [((i + 1 : Nat) : Int)] else [] := by
  unfold joinsP
  rw [List.range_succ, List.filter_append, List.map_append]
  congr 1
  cases h : goI ks i <;> simp [h]
theorem joins_len (ks : List PC) (i : Nat) : (joinsP ks i).length ≤ i := by
  unfold joinsP
  rw [List.length_map]
  exact Nat.le_trans (List.length_filter_le _ _) (by rw [List.length_range]; exact Nat.le_refl _)
def reprC (n : Nat) (tot : Int) : Str := Str.empty ++ "Cutlist(" ++ numS n ++ " clips, " ++ numS tot ++ " frames)"
def spStarts (K : PySem.W.Frag) (C cc : Addr) : Sp := fun vs H Q _ => ∃ (old : Addr → Prop) (m h ct ah : Addr) (z : Str) (st : Nat) (ks : List PC), vs = [.ref m] ∧ CutAt K C cc old H m h ct ah z st ks ∧ ∀ (t : Addr) H', Same H H' → H' t = some (.tup (((sumsP (exsP ks)).map fun x => (st : Int) + x).map V.int)) → Q (.ref t) H'
def spJoins (K : PySem.W.Frag) (C cc : Addr) : Sp := fun vs H Q _ => ∃ (old : Addr → Prop) (m h ct ah : Addr) (z : Str) (st : Nat) (ks : List PC), vs = [.ref m] ∧ CutAt K C cc old H m h ct ah z st ks ∧ ∀ (t : Addr) H', Same H H' → H' t = some (.tup ((joinsP ks (ks.length - 1)).map V.int)) → Q (.ref t) H'
def spLook (K : PySem.W.Frag) (C cc : Addr) : Sp := fun vs H Q _ => ∃ (old : Addr → Prop) (m h ct ah : Addr) (z : Str) (st : Nat) (ks : List PC) (n i : Nat) (k : PC), vs = [.ref m, .int (n : Int)] ∧ CutAt K C cc old H m h ct ah z st ks ∧ ks[i]? = some k ∧ sumN ks i ≤ n ∧ n < sumN ks i + k.ex ∧
  ∀ (t : Addr) H', Same H H' → H' t = some (.tup [.int (i : Int), .int ((k.lo : Int) + (n : Int) - ((sumN ks i : Nat) : Int)), .int ((st : Int) + (n : Int))]) → Q (.ref t) H'
def spReprC (K : PySem.W.Frag) (C cc : Addr) : Sp := fun vs H Q _ => ∃ (old : Addr → Prop) (m h ct ah : Addr) (z : Str) (st : Nat) (ks : List PC), vs = [.ref m] ∧ CutAt K C cc old H m h ct ah z st ks ∧ (exsP ks).sum < 10 ^ 60 ∧ ∀ H', Same H H' → Q (.str (reprC ks.length (exsP ks).sum)) H'
section
variable {P : Program} {w : World} {K : PySem.W.Frag} {mg : Str → Option Value} {base : Heap} {C cc : Addr}
theorem ok_starts {f : Addr} {fd : FuncData} (F : Fun K "starts" "Cutlist.starts" sCutlist_starts f fd) (T : CutTxt K mg cc) (N : Names mg) : FnOk P w K mg base CX0 1 f fd ["self"] (spStarts K C cc) := by
  have sc := scCutlist_starts
  refine F.ok sc (fun vs H Q E h => ?_) (fun cdv A outer s H vs Q E hr h => ?_)
  · obtain ⟨old, m, h, ct, ah, z, st, ks, rfl, _⟩ := h
    rfl
  · obtain ⟨old, m, h, ct, ah, z, st, ks, rfl, a, k⟩ := h
    refine ⟨_, (pss_one (ps_ret (pe_callTy (T := "tuple") call_tuple_of (by rfl) N.tuple (by decide +kernel) (pa_cons (pe_lc (own := [("ahead", 1)]) rfl sc.nd (pi_list (pe_fld (pv 0) rfl)) (blkOk_by (own := [("ahead", 1)]) (N := ["self", "ahead"]) (sc := defScope (inClass (topS 59) 4)) (by decide +kernel)) (fun _ _ _ _ _ => (pg_name (i := 1) sc.nd rfl (Or.inl rfl))) (fun _ _ _ _ _ => pts_nil) (fun _ _ _ _ _ => (pe_op op_add (show PE _ _ (tFld K _ _) from (pe_fld (pv 0) rfl)) (pv 1)))) pa_nil)))), ?_⟩
    obtain ⟨dx, e1⟩ := a.ob
    have hsh := a.sh
    have hl : (sumsP (exsP ks)).length = ks.length := by rw [sumsP_len]; exact List.length_map ..
    have h20 := a.k20
    refine ⟨_, rfl, m, cc, dx, _, _, rfl, e1, T.cl, T.nA, cf_ahead _ _ _ _ _, ah, rfl, ⟨_, SqL.lst hsh⟩, ?_⟩
    intro D nD
    refine lc_list (K := K) (xs := (sumsP (exsP ks)).map V.int) (fun i H' => Same H H' ∧ H' D = some (.lst ((((sumsP (exsP ks)).take i).map fun x => (st : Int) + x).map V.int))) ⟨same_new nD, upd_same⟩ (fun i H' _ ⟨s, _⟩ => SqL.lst (s _ _ hsh)) ?_ ?_
    · rintro i x H' hx ⟨sm, eD⟩
      rw [List.getElem?_map] at hx
      obtain ⟨b, hb, rfl⟩ := Option.map_eq_some_iff.mp hx
      refine ⟨rfl, ?_⟩
      refine ⟨_, rfl, m, cc, dx, _, _, rfl, sm _ _ e1, T.cl, T.nS, cf_start _ _ _ _ _, _, rfl, _, _, rfl, rfl, ?_⟩
      refine ⟨_, eD, smallLt (by rw [List.length_map, List.length_map, List.length_take]; omega), same_mut sm nD, ?_⟩
      rw [upd_same, List.take_add_one, hb, List.map_append, List.map_append]
      rfl
    rintro H1 ⟨s1, eD⟩
    rw [List.take_of_length_le (by rw [List.length_map]; exact Nat.le_refl _)] at eD
    refine ⟨D, _, rfl, .inl ⟨SqL.lst eD, ?_⟩⟩
    (intro t nt; generalize e_t : upd H1 t _ = H2; have s2 : Same H1 H2 := fun b x hb => (congrFun e_t b).symm.trans (same_new nt b x hb); have h2 := (congrFun e_t t).symm.trans upd_same; clear e_t)
    exact k t H2 (s1.trans s2) h2
theorem ok_look {f : Addr} {fd : FuncData} (F : Fun K "look" "Cutlist.look" sCutlist_look f fd) (T : CutTxt K mg cc) (N : Names mg) (Dis_integer_within : DefK P w K mg base "is_integer_within" ["value", "low", "high"] 2 spWithin) (Dlast_not_above : DefK P w K mg base "last_not_above" ["ascending", "number"] 1 (spLna K)) : FnOk P w K mg base CX0 3 f fd ["self", "number"] (spLook K C cc) := by
  have sc := scCutlist_look
  refine F.ok sc (fun vs H Q E h => ?_) (fun cdv A outer s H vs Q E hr h => ?_)
  · obtain ⟨old, m, h, ct, ah, z, st, ks, n, i, kk, rfl, _⟩ := h
    rfl
  · obtain ⟨old, m, h, ct, ah, z, st, ks, n, i, kk, rfl, a, hk, h1, h2, k⟩ := h
    refine ⟨_, (pss_cons (ps_if (pt_not (pt_val (pe_d Dis_integer_within (hr.mono (by decide)) rfl (pa_cons (pv 1) (pa_cons pe_int (pa_cons (pe_op op_sub (pe_fld (pv 0) rfl) pe_int) pa_nil)))))) (pss_one ps_never) pss_nil)
      (pss_cons (ps_set (i := 2) sc.nd rfl (Or.inl rfl) (pe_d Dlast_not_above (hr.mono (by decide)) rfl (pa_cons (pe_fld (pv 0) rfl) (pa_cons (pv 1) pa_nil))))
      (pss_one (ps_ret (pe_tup (pa_cons (pv 2) (pa_cons (pe_op op_sub (pe_op op_add (pe_ix ix_tup (pe_ix ix_tup (pe_fld (pv 0) rfl) (pv 2) (fun _ _ => rfl)) pe_int (fun _ _ => rfl)) (pv 1)) (pe_ix ix_list (pe_fld (pv 0) rfl) (pv 2) (fun _ _ => rfl))) (pa_cons (pe_op op_add (pe_fld (pv 0) rfl) (pv 1)) pa_nil)))))))), ?_⟩
    obtain ⟨dx, e1⟩ := a.ob
    have hsh := a.sh
    have hl : (sumsP (exsP ks)).length = ks.length := by rw [sumsP_len]; exact List.length_map ..
    have h20 := a.k20
    obtain ⟨as, hct, pa⟩ := a.cl
    have hi : i < ks.length := (List.getElem?_eq_some_iff.mp hk).1
    have htot : (exsP ks).sum = ((sumN ks ks.length : Nat) : Int) := by rw [← exs_take, List.take_of_length_le (by unfold exsP; rw [List.length_map]; exact Nat.le_refl _)]
    have hle := sumN_mono (ks := ks) (show i + 1 ≤ ks.length by omega)
    rw [sumN_succ hk] at hle
    obtain ⟨ai, hai, hci⟩ : ∃ ai, as[i]? = some ai ∧ ClipAt K C H ai kk := by
      have hpl := pa.length
      have e : as[i]? = some (as[i]'(by omega)) := List.getElem?_eq_getElem _
      obtain ⟨y, hy, r⟩ := paired_at pa e
      rw [hk] at hy
      cases hy
      exact ⟨_, e, r⟩
    refine ⟨_, rfl, _, rfl, m, cc, dx, _, _, rfl, e1, T.cl, T.nT, cf_total _ _ _ _ _, _, _, rfl, rfl, _, _, _, rfl, _, rfl, ?_⟩
    rw [within_true (by omega) (show (n : Int) ≤ (exsP ks).sum - 1 by rw [htot]; omega)]
    refine iteF ?_
    refine ⟨_, rfl, m, cc, dx, _, _, rfl, e1, T.cl, T.nA, cf_ahead _ _ _ _ _, _, rfl, ah, _, _, rfl, SqL.lst hsh, by omega, by omega, ?_⟩
    rw [lna_at hk h1 h2]
    refine g_nx ?_
    dsimp only
    have hati : atI (as.map V.ref) ((i : Nat) : Int) = some (V.ref ai) := atI_nat (by rw [List.getElem?_map, hai]; rfl)
    have hats : atI ((sumsP (exsP ks)).map V.int) ((i : Nat) : Int) = some (V.int ((sumN ks i : Nat) : Int)) := atI_nat (by rw [List.getElem?_map, sums_at hi]; rfl)
    refine ⟨_, rfl, _, rfl, m, cc, dx, _, _, rfl, e1, T.cl, T.nC, cf_clips _ _ _ _ _, _, rfl, ct, _, _, _, rfl, rfl, hct, hati, ai, _, _, _, rfl, rfl, hci.1, rfl, _, rfl, _, _, rfl, rfl, ?_⟩
    refine ⟨_, rfl, m, cc, dx, _, _, rfl, e1, T.cl, T.nA, cf_ahead _ _ _ _ _, _, rfl, ah, _, _, _, rfl, rfl, SqL.lst hsh, hats, _, _, rfl, rfl, ?_⟩
    refine ⟨_, rfl, m, cc, dx, _, _, rfl, e1, T.cl, T.nS, cf_start _ _ _ _ _, _, rfl, _, _, rfl, rfl, small (Nat.le_of_ble_eq_true rfl), ?_⟩
    (intro t nt; generalize e_t : upd H t _ = H1; have s1 : Same H H1 := fun b x hb => (congrFun e_t b).symm.trans (same_new nt b x hb); have h1' := (congrFun e_t t).symm.trans upd_same; clear e_t)
    exact k t H1 s1 h1'
theorem ok_reprC {f : Addr} {fd : FuncData} (F : Fun K "__repr__" "Cutlist.__repr__" sCutlist__repr_ f fd) (T : CutTxt K mg cc) (N : Names mg) (Dwritten_number : DefK P w K mg base "written_number" ["number"] 1 spNumText) : FnOk P w K mg base CX0 2 f fd ["self"] (spReprC K C cc) := by
  have sc := scCutlist__repr_
  refine F.ok sc (fun vs H Q E h => ?_) (fun cdv A outer s H vs Q E hr h => ?_)
  · obtain ⟨old, m, h, ct, ah, z, st, ks, rfl, _⟩ := h
    rfl
  · obtain ⟨old, m, h, ct, ah, z, st, ks, rfl, a, h60, k⟩ := h
    refine ⟨_, (pss_one (ps_ret (pe_joined (.cons pe_str (.cons (pe_fmt (pe_callB call_len_seq (by rfl) N.len (by decide +kernel) (pa_cons (pe_fld (pv 0) rfl) pa_nil))) (.cons pe_str (.cons (pe_fmt (pe_d Dwritten_number (hr.mono (by decide)) rfl (pa_cons (pe_fld (pv 0) rfl) pa_nil))) (.cons pe_str .nil)))))))), ?_⟩
    obtain ⟨dx, e1⟩ := a.ob
    have h20 := a.k20
    obtain ⟨as, hct, pa⟩ := a.cl
    have hpl := pa.length
    have h0 : 0 ≤ (exsP ks).sum := by rw [exs_sum]; omega
    have l0 : (Str.empty ++ ("Cutlist(" : Str)).length = 8 := by decide
    have l1 : (" clips, " : Str).length = 8 := by decide
    have l2 : (" frames)" : Str).length = 8 := by decide
    have n1 := numS_len (n := ((ks.length : Nat) : Int)) (by omega) (by omega)
    have n2 := len60 h0 h60
    refine ⟨_, rfl, small (by rw [l0]; omega), _, rfl, m, cc, dx, _, _, rfl, e1, T.cl, T.nC, cf_clips _ _ _ _ _, ct, _, rfl, .inr hct, ?_⟩
    rw [List.length_map, hpl]
    have n1' : (toString ((ks.length : Nat) : Int) : Str).length ≤ 62 := n1
    have n2' : (toString (exsP ks).sum : Str).length ≤ 2000 := n2
    refine .inr ⟨_, rfl, small_log (by omega) (by omega), _, rfl, small (by rw [Str.length_append, l0]; omega), ?_⟩
    refine ⟨_, rfl, small (by rw [Str.length_append, Str.length_append, l0, l1]; omega), _, rfl, m, cc, dx, _, _, rfl, e1, T.cl, T.nT, cf_total _ _ _ _ _, _, rfl, h0, h60, fun H1 s1 => ?_⟩
    refine .inl ⟨_, rfl, small (by omega), _, rfl, small (by rw [Str.length_append, Str.length_append, Str.length_append, l0, l1]; omega), ?_⟩
    exact ⟨_, rfl, small (by rw [Str.length_append, Str.length_append, Str.length_append, Str.length_append, l0, l1, l2]; omega), k H1 s1⟩
theorem ok_joins {f : Addr} {fd : FuncData} (F : Fun K "joins" "Cutlist.joins" sCutlist_joins f fd) (T : CutTxt K mg cc) (N : Names mg) (Dgoes_on : DefK P w K mg base "goes_on" ["clip", "following"] 2 (spGoesOn K C)) : FnOk P w K mg base CX0 3 f fd ["self"] (spJoins K C cc) := by
  have sc := scCutlist_joins
  refine F.ok sc (fun vs H Q E h => ?_) (fun cdv A outer s H vs Q E hr h => ?_)
  · obtain ⟨old, m, h, ct, ah, z, st, ks, rfl, _⟩ := h
    rfl
  · obtain ⟨old, m, h, ct, ah, z, st, ks, rfl, a, k⟩ := h
    refine ⟨_, (pss_cons (ps_set (i := 1) sc.nd rfl (Or.inr rfl) (pe_fld (pv 0) rfl))
      (pss_one (ps_ret (pe_callTy (T := "tuple") call_tuple_of (by rfl) N.tuple (by decide +kernel) (pa_cons (pe_lc (own := [("at", 2)]) rfl sc.nd (pi_range2 rfl N.range (pa_cons pe_int (pa_cons (pe_callB call_len_seq (by rfl) N.len (by decide +kernel) (pa_cons (pv 1) pa_nil)) pa_nil))) (blkOk_by (own := [("at", 2)]) (N := ["self", "clips", "at"]) (sc := defScope (inClass (topS 59) 6)) (by decide +kernel)) (fun _ _ _ _ _ => (pg_name (i := 2) sc.nd rfl (Or.inl rfl))) (fun _ _ _ _ _ => (pts_one (pt_val (pe_d Dgoes_on (hr.mono (by decide)) rfl (pa_cons (pe_ix (show IxR _ (rIxT K) from ix_tup) (pv 1) (pe_op op_sub (pv 2) pe_int) (fun _ _ => rfl)) (pa_cons (pe_ix (show IxR _ (rIxT K) from ix_tup) (pv 1) (pv 2) (fun _ _ => rfl)) pa_nil)))))) (fun _ _ _ _ _ => (pv 2))) pa_nil))))), ?_⟩
    obtain ⟨dx, e1⟩ := a.ob
    have h20 := a.k20
    obtain ⟨as, hct, pa⟩ := a.cl
    have hpl := pa.length
    refine ⟨_, rfl, m, cc, dx, _, _, rfl, e1, T.cl, T.nC, cf_clips _ _ _ _ _, ?_⟩
    refine g_nx ?_
    dsimp only
    refine ⟨_, rfl, ct, _, rfl, .inr hct, ?_⟩
    rw [List.length_map, hpl]
    refine ⟨_, _, rfl, ⟨by omega, by omega, by omega, by omega⟩, ?_⟩
    intro D nD
    rw [show (((ks.length : Nat) : Int) - 1).toNat = ks.length - 1 by omega]
    refine lc_range (n := ks.length - 1) (fun i H' => Same H H' ∧ H' D = some (.lst ((joinsP ks i).map V.int))) ⟨same_new nD, upd_same⟩ ?_ ?_
    · rintro i H1 hi ⟨sm, eD⟩
      refine ⟨rfl, ?_⟩
      rw [show (1 : Int) + (i : Int) = ((i + 1 : Nat) : Int) by omega]
      obtain ⟨a1, ha1⟩ : ∃ a1, as[i]? = some a1 := ⟨_, List.getElem?_eq_getElem (by omega)⟩
      obtain ⟨a2, ha2⟩ : ∃ a2, as[i + 1]? = some a2 := ⟨_, List.getElem?_eq_getElem (by omega)⟩
      obtain ⟨k1, hk1, c1⟩ := paired_at pa ha1
      obtain ⟨k2, hk2, c2⟩ := paired_at pa ha2
      have at1 : atI (as.map V.ref) (((i + 1 : Nat) : Int) - 1) = some (V.ref a1) := by
        rw [show ((i + 1 : Nat) : Int) - 1 = ((i : Nat) : Int) by omega]
        exact atI_nat (by rw [List.getElem?_map, ha1]; rfl)
      have at2 : atI (as.map V.ref) ((i + 1 : Nat) : Int) = some (V.ref a2) := atI_nat (by rw [List.getElem?_map, ha2]; rfl)
      have hct1 := Same.seqT sm hct
      refine ⟨_, rfl, _, rfl, _, _, rfl, rfl, ct, _, _, _, rfl, rfl, hct1, at1, _, rfl, _, rfl, ct, _, _, _, rfl, rfl, hct1, at2, a1, a2, k1, k2, rfl, c1.same sm, c2.same sm, ?_⟩
      have hg : goI ks i = goB k1 k2 := by
        unfold goI
        rw [List.getD_eq_getElem?_getD, List.getD_eq_getElem?_getD, hk1, hk2]
        rfl
      have hjl := joins_len ks i
      refine ⟨_, rfl, ?_⟩
      cases hb : goB k1 k2 with
      | true =>
        refine iteT ⟨_, rfl, _, eD, smallLt (by rw [List.length_map]; omega), same_mut sm nD, ?_⟩
        rw [upd_same, joins_succ, hg, hb, if_pos rfl, List.map_append]
        rfl
      | false =>
        refine iteF ⟨sm, ?_⟩
        rw [joins_succ, hg, hb, if_neg Bool.false_ne_true, List.append_nil]
        exact eD
    · rintro H1 ⟨s1, eD⟩
      refine ⟨D, _, rfl, .inl ⟨SqL.lst eD, ?_⟩⟩
      (intro t nt; generalize e_t : upd H1 t _ = H2; have s2 : Same H1 H2 := fun b x hb => (congrFun e_t b).symm.trans (same_new nt b x hb); have h2 := (congrFun e_t t).symm.trans upd_same; clear e_t)
      exact k t H2 (s1.trans s2) h2
end
end LM

set_option Elab.async false
set_option linter.all false
set_option maxRecDepth 100000
set_option maxHeartbeats 4000000
set_option pp.maxSteps 600
set_option pp.deepTerms false
/-! the law's own clips -/
namespace LM
open PySem PySem.Spec PyProof.Rows L2 RZ
local macro_rules | `(tactic| walk_at "hp") => `(tactic| first | assumption | exact upd_same | (rw [upd_ne (by assumption)]; assumption) | (rw [upd_ne (Ne.symm (by assumption))]; assumption) | (rw [upd_ne (by assumption)]; exact upd_same) | (rw [upd_ne (Ne.symm (by assumption))]; exact upd_same))
local macro_rules | `(tactic| walk_at "sq") => `(tactic| first | assumption | exact Or.inl (Or.inl (by assumption)) | exact Or.inl (Or.inl upd_same) | exact Or.inl (Or.inl (by walk_at "hp")))
local macro_rules | `(tactic| walk_at "ixl") => `(tactic| refine ⟨_, _, _, _, rfl, rfl, (by walk_at "sq"), (by rfl), ?_⟩)
local macro_rules | `(tactic| walk_at "setl") => `(tactic| refine ⟨_, _, _, _, rfl, rfl, (by walk_at "hp"), (by rfl), ?_⟩)
local macro_rules | `(tactic| walk_at "side") => `(tactic| refine idP ?_; first | omega | (show (0 : Int) < _; omega) | (show (0 : Int) < _ ∧ _ < _; omega) | (refine Or.inr ?_; show (-(2 ^ 64) : Int) < _ ∧ _ < _; omega) | (refine Or.inl ?_; show (-(2 ^ 64) : Int) < _ ∧ _ < _; omega) | exact divW (by omega) (by omega) _ | (refine ⟨by decide, by decide, ?_⟩; decide))
local macro_rules | `(tactic| walk_at "go1") => `(tactic| first
  | refine ⟨_, rfl, ?_⟩
  | refine ⟨_, _, rfl, rfl, (by walk_at "side"), ?_⟩
  | refine ⟨_, _, rfl, (by walk_at "side"), ?_⟩
  | refine ⟨_, _, rfl, rfl, ?_⟩
  | refine Or.inl ⟨_, rfl, ?_⟩
  | refine ⟨_, _, rfl, Or.inl (by walk_at "sq"), ?_⟩
  | walk_at "ixl"
  | walk_at "setl"
  | refine ⟨_, _, rfl, (by walk_at "sq"), rfl, ?_⟩
  | refine ⟨_, _, rfl, (by walk_at "sq"), ?_⟩
  | refine ⟨_, _, rfl, ?_⟩
  | refine ⟨rfl, ?_⟩
  | refine ⟨small (Nat.le_of_ble_eq_true rfl), ?_⟩)
local macro_rules | `(tactic| walk_at "go") => `(tactic| repeat walk_at "go1")

abbrev s_law_clips : Stmt := topS 76
theorem sc_law_clips : FnScope ["_law_vase_here", "_law_homes_here", "_law_most", "_law_found", "_law_turn", "_law_extent"] ["_law_vase_here", "_law_homes_here", "_law_most"] (defScope s_law_clips) := ⟨rfl, rfl, rfl, by decide +kernel, rfl, by decide +kernel, by decide +kernel⟩
abbrev s_law_filmed : Stmt := topS 77
theorem sc_law_filmed : FnScope ["_law_clips_here", "_law_homes_here", "_law_at", "_law_begin", "_law_extent"] ["_law_clips_here", "_law_homes_here"] (defScope s_law_filmed) := ⟨rfl, rfl, rfl, by decide +kernel, rfl, by decide +kernel, by decide +kernel⟩
abbrev s_law_goes_on : Stmt := topS 79
theorem sc_law_goes_on : FnScope ["_law_homes_here", "_law_early", "_law_late"] ["_law_homes_here", "_law_early", "_law_late"] (defScope s_law_goes_on) := ⟨rfl, rfl, rfl, by decide +kernel, rfl, by decide +kernel, by decide +kernel⟩
structure CL where
  i : Nat
  lo : Nat
  ex : Nat
def CL.vs (c : CL) : List V := [.int (c.i : Int), .int (c.lo : Int), .int (c.ex : Int)]
/-- a list of the law's own clips -/
def ClipsL (p : Addr) (H : Hp) (l : Addr) (cs : List CL) : Prop := l ≠ p ∧ ∃ as : List Addr, H l = some (.lst (as.map V.ref)) ∧ (∀ a ∈ as, a ≠ p) ∧ Paired (fun a (c : CL) => H a = some (.lst c.vs)) as cs
theorem ClipsL.els {p : Addr} {H H' : Hp} {l : Addr} {cs : List CL} (h : ClipsL p H l cs) (e : Else p H H') : ClipsL p H' l cs := by
  obtain ⟨h1, as, h2, h3, h4⟩ := h
  exact ⟨h1, as, e _ _ h1 h2, h3, paired_imp h4 fun a ha _ q => e _ _ (h3 a ha) q⟩
theorem ClipsL.same {p : Addr} {H H' : Hp} {l : Addr} {cs : List CL} (h : ClipsL p H l cs) (s : Same H H') : ClipsL p H' l cs := h.els (Same.els s)
theorem more_pair {H : Hp} {l a : Addr} {o : HO} {as : List Addr} {cs : List CL} {c : CL} (h2 : H l = some (.lst (as.map V.ref))) (h4 : Paired (fun a (c : CL) => H a = some (.lst c.vs)) as cs) (ha : H a = some (.lst c.vs)) (hal : a ≠ l) : Paired (fun a (c : CL) => upd H l o a = some (.lst c.vs)) (as ++ [a]) (cs ++ [c]) := by
  refine paired_app (paired_imp h4 fun b hb y q => ?_) ?_
  · rw [upd_ne (fun z => ?_)]
    · exact q
    · rw [z, h2] at q
      injection q with q
      injection q with q
      cases as with
      | nil => cases hb
      | cons x r => cases q
  · rw [upd_ne hal]
    exact ha
theorem upd_vase {H : Hp} {p q : Addr} {o : HO} (h : VaseAt H p) (n : q ≠ p) : VaseAt (upd H q o) p := by
  obtain ⟨a, b, c, h1, h2, h3, e⟩ := h
  exact ⟨a, b, c, h1, h2, h3, by rw [upd_ne n.symm]; exact e⟩
theorem atI_end {xs : List V} {x : V} (h : xs[xs.length - 1]? = some x) (h0 : 1 ≤ xs.length) : atI xs (-1) = some x := by
  have hne : xs ≠ [] := fun e => by rw [e] at h0; exact absurd h0 (by decide)
  have e : xs = xs.dropLast ++ [x] := by
    have := List.dropLast_concat_getLast hne
    rw [List.getElem?_eq_getElem (by omega)] at h
    rw [List.getLast_eq_getElem, Option.some.inj h] at this
    exact this.symm
  rw [e]
  exact atI_last _ _
def clD (c : CL) : PyData := .list [.int c.i, .int c.lo, .int c.ex]
theorem cl_dp {K : PySem.W.Frag} {H : Hp} : ∀ {as : List Addr} {cs : List CL}, Paired (fun a (c : CL) => H a = some (.lst c.vs)) as cs → DpAll K H (as.map V.ref) (cs.map clD)
  | _, _, .nil => .nil
  | _, _, .cons r t => .cons (.lst (SqL.lst r) (.cons (.int _) (.cons (.int _) (.cons (.int _) .nil)))) (cl_dp t)
theorem cl_lay : ∀ cs : List CL, PyData.canLayAll0 (cs.map clD) = true ∧ PyData.depthAll (cs.map clD) ≤ 1
  | [] => by simp [PyData.canLayAll0, PyData.depthAll]
  | c :: cs => by
    obtain ⟨h1, h2⟩ := cl_lay cs
    have hd : PyData.depth (clD c) = 1 := by simp [clD, PyData.depth, PyData.depthAll]
    refine ⟨?_, ?_⟩
    · simp only [List.map_cons, PyData.canLayAll0, h1]
      simp [clD, PyData.canLay0, PyData.canLayAll0]
    · simp only [List.map_cons, PyData.depthAll, hd]
      omega
theorem cl_shp (cs : List CL) : SeqAt.shaped (.list (cs.map clD)) = true := by
  obtain ⟨h1, h2⟩ := cl_lay cs
  unfold SeqAt.shaped
  rw [PyData.canLay0, h1, PyData.depth]
  simp only [Bool.true_and, decide_eq_true_eq]
  omega
def ClOk (nh : Nat) (c : CL) : Prop := c.i < nh ∧ 1 ≤ c.ex ∧ c.ex ≤ 10 ^ 30 + 1
def spClips (K : PySem.W.Frag) : Sp := fun vs H Q _ => ∃ (p a : Addr) (xs : List LH) (most : Nat), vs = [.ref p, .ref a, .int (most : Int)] ∧ VaseAt H p ∧ HomesX p H a xs ∧ 1 ≤ xs.length ∧ xs.length ≤ 3 ∧ most ≤ 9 ∧
  ∀ (l : Addr) (cs : List CL) H', ClipsL p H' l cs → cs.length ≤ most → (∀ c ∈ cs, ClOk xs.length c ∧ c.lo + c.ex + 1 ≤ 10 ^ 33) → VaseAt H' p → Else p H H' → Q (.ref l) H'
/-- the program's clips, made of the law's own -/
def MadeC (xs : List LH) (ks : List PC) (cs : List CL) : Prop := Paired (fun (k : PC) (c : CL) => (∃ x, xs[c.i]? = some x ∧ k.z = houseS x.gs x.rows) ∧ k.lo = c.lo ∧ k.ex = c.ex) ks cs
def spFilmed (K : PySem.W.Frag) (C : Addr) : Sp := fun vs H Q _ => ∃ (p l a : Addr) (xs : List LH) (cs : List CL), vs = [.ref l, .ref a] ∧ ClipsL p H l cs ∧ HomesX p H a xs ∧ (∀ c ∈ cs, ClOk xs.length c) ∧ cs.length ≤ 20 ∧ ∀ (t : Addr) (ks : List PC) H', Same H H' → ClipsT K C H' t ks → MadeC xs ks cs → Q (.ref t) H'
def goC (x y : LH) (c d : CL) : Bool := decide (houseS x.gs x.rows = houseS y.gs y.rows) && decide ((c.lo : Int) + (c.ex : Int) = (d.lo : Int))
def spGoesL (K : PySem.W.Frag) : Sp := fun vs H Q _ => ∃ (p a : Addr) (xs : List LH) (b1 b2 : Addr) (c1 c2 : CL) (x1 x2 : LH), vs = [.ref a, .ref b1, .ref b2] ∧ HomesX p H a xs ∧ H b1 = some (.lst c1.vs) ∧ H b2 = some (.lst c2.vs) ∧ xs[c1.i]? = some x1 ∧ xs[c2.i]? = some x2 ∧ ∀ H', Same H H' → Q (.bl (goC x1 x2 c1 c2)) H'
section
variable {P : Program} {w : World} {K : PySem.W.Frag} {mg : Str → Option Value} {base : Heap} {C : Addr}
theorem ok_clips {f : Addr} {fd : FuncData} (F : Fun K "_law_clips" "_law_clips" s_law_clips f fd) (N : Names mg) (D_law_pour : DefK P w K mg base "_law_pour" ["_law_vase_here", "_law_top"] 1 spPour) (D_law_pluck : DefK P w K mg base "_law_pluck" ["_law_vase_here", "_law_menu"] 2 (spPluck K)) : FnOk P w K mg base CX0 3 f fd ["_law_vase_here", "_law_homes_here", "_law_most"] (spClips K) := by
  have sc := sc_law_clips
  refine F.ok sc (fun vs H Q E h => ?_) (fun cdv A outer s H vs Q E hr h => ?_)
  · obtain ⟨p, a, xs, most, rfl, _⟩ := h
    rfl
  · obtain ⟨p, a, xs, most, rfl, hv, hX, x1, x3, h9, k⟩ := h
    refine ⟨_, (pss_cons (ps_set (i := 3) sc.nd rfl (Or.inl rfl) (pe_lst pa_nil))
      (pss_cons (ps_for PassesOwn.never rfl (pi_range1 rfl N.range (pa_cons (pe_d D_law_pour (hr.mono (by decide)) rfl (pa_cons (pv 0) (pa_cons (pe_op op_add (pv 2) pe_int) pa_nil))) pa_nil)) (pg_name (i := 4) sc.nd rfl (Or.inl rfl)) (pss_cons (ps_set (i := 5) sc.nd rfl (Or.inl rfl) (pe_op op_add pe_int (pe_d D_law_pluck (hr.mono (by decide)) rfl (pa_cons (pv 0) (pa_cons (pe_lst (pa_cons pe_int (pa_cons pe_int (pa_cons pe_int (pa_cons pe_int (pa_cons (pe_d D_law_pour (hr.mono (by decide)) rfl (pa_cons (pv 0) (pa_cons pe_int pa_nil))) (pa_cons (pe_op op_pow pe_int pe_int) pa_nil))))))) pa_nil)))))
      (pss_one (ps_if (PW.pt (pw_and (pt_cmpR (op_neD (hu64 hr)) (pv 3) (pe_lst pa_nil) (nomark _)) (pw_and1 (pt_cmpR op_eq (pe_d D_law_pour (hr.mono (by decide)) rfl (pa_cons (pv 0) (pa_cons pe_int pa_nil))) pe_int (nomark _))))) (pss_one (ps_expr (pe_bm PySem.F.plainAttrs_list PySem.F.slot_list_append PySem.F.type_list_append mt_append (pv 3) (pa_cons (pe_lst (pa_cons (pe_ix ix_list (pe_ix ix_list (pv 3) (pe_un un_neg pe_int) (fun _ _ => rfl)) pe_int (fun _ _ => rfl)) (pa_cons (pe_op op_add (pe_op op_add (pe_ix ix_list (pe_ix ix_list (pv 3) (pe_un un_neg pe_int) (fun _ _ => rfl)) pe_int (fun _ _ => rfl)) (pe_ix ix_list (pe_ix ix_list (pv 3) (pe_un un_neg pe_int) (fun _ _ => rfl)) pe_int (fun _ _ => rfl))) (pe_d D_law_pluck (hr.mono (by decide)) rfl (pa_cons (pv 0) (pa_cons (pe_lst (pa_cons pe_int (pa_cons pe_int (pa_cons pe_int (pa_cons pe_int pa_nil))))) pa_nil)))) (pa_cons (pv 5) pa_nil)))) pa_nil)))) (pss_one (ps_expr (pe_bm PySem.F.plainAttrs_list PySem.F.slot_list_append PySem.F.type_list_append mt_append (pv 3) (pa_cons (pe_lst (pa_cons (pe_d D_law_pour (hr.mono (by decide)) rfl (pa_cons (pv 0) (pa_cons (pe_callB call_len_seq (by rfl) N.len (by decide +kernel) (pa_cons (pv 1) pa_nil)) pa_nil))) (pa_cons (pe_d D_law_pluck (hr.mono (by decide)) rfl (pa_cons (pv 0) (pa_cons (pe_lst (pa_cons pe_int (pa_cons (pe_d D_law_pour (hr.mono (by decide)) rfl (pa_cons (pv 0) (pa_cons pe_int pa_nil))) (pa_cons (pe_op op_pow pe_int pe_int) pa_nil)))) pa_nil))) (pa_cons (pv 5) pa_nil)))) pa_nil))))))))
      (pss_one (ps_ret (pv 3))))), ?_⟩
    refine ⟨Nat.le_of_ble_eq_true rfl, ?_⟩
    (intro l nl; generalize e_l : upd H l _ = H1; have s1 : Same H H1 := fun b x hb => (congrFun e_l b).symm.trans (same_new nl b x hb); have h1 := (congrFun e_l l).symm.trans upd_same; clear e_l)
    have nlp := hv.ne nl
    refine g_nx ?_
    dsimp only
    refine ⟨_, rfl, _, rfl, _, _, rfl, rfl, p, _, rfl, hv.same s1, by omega, by omega, fun z H2 z0 z1 hv2 e2 => ?_⟩
    obtain ⟨z, rfl⟩ := nat_of z0
    refine ⟨_, rfl, by omega, by omega, ?_⟩
    have e02 : Else p H H2 := (Same.els s1).trans e2
    refine for_range (n := z) (fun i σ H' => VaseAt H' p ∧ Else p H H' ∧ ∃ (as : List Addr) (cs : List CL) (v4 v5 : Option V), σ = [some (.ref p), some (.ref a), some (.int (most : Int)), some (.ref l), v4, v5] ∧ H' l = some (.lst (as.map V.ref)) ∧ (∀ a ∈ as, a ≠ p) ∧ Paired (fun a (c : CL) => H' a = some (.lst c.vs)) as cs ∧ cs.length = i ∧ ∀ c ∈ cs, ClOk xs.length c ∧ c.lo + c.ex + 1 ≤ i * 10 ^ 31) ⟨hv2, e02, [], [], _, _, rfl, e2 _ _ nlp h1, (fun _ h => nomatch h), .nil, rfl, (fun _ h => nomatch h)⟩ ?_ ?_
    · rintro i σ H3 hi ⟨hv3, e3, as, cs, v4, v5, rfl, el, nas, pa, hcl, hcs⟩
      have hpl := pa.length
      refine g_nx ?_
      dsimp only
      refine ⟨_, rfl, _, rfl, p, _, rfl, hv3, by decide, by decide, fun y H4 y0 y1 hv4 e4 => ?_⟩
      obtain ⟨y, rfl⟩ := nat_of y0
      refine ⟨_, _, rfl, rfl, ⟨by decide, by decide, by decide⟩, Nat.le_of_ble_eq_true rfl, ?_⟩
      (intro m nm; generalize e_m : upd H4 m _ = H5; have s5 : Same H4 H5 := fun b x hb => (congrFun e_m b).symm.trans (same_new nm b x hb); have h5 := (congrFun e_m m).symm.trans upd_same; clear e_m)
      have hv5 := hv4.same s5
      refine ⟨p, m, _, rfl, hv5, hv4.ne nm, SqL.lst h5, by show 0 < 6; decide, by show 6 ≤ 20000; decide, fun x H6 hx hv6 e6 => ?_⟩
      obtain ⟨x, rfl, hx30⟩ : ∃ n : Nat, x = V.int (n : Int) ∧ n ≤ 10 ^ 30 := by
        have b1 : 4 ≤ 10 ^ 30 := by decide
        have b2 : 12 ≤ 10 ^ 30 := by decide
        simp only [List.mem_cons, List.not_mem_nil, or_false] at hx
        rcases hx with rfl | rfl | rfl | rfl | rfl | rfl
        · exact ⟨0, rfl, by omega⟩
        · exact ⟨1, rfl, by omega⟩
        · exact ⟨2, rfl, by omega⟩
        · exact ⟨4, rfl, by omega⟩
        · exact ⟨y, rfl, by omega⟩
        · exact ⟨10 ^ 30, congrArg V.int (by decide), Nat.le_refl _⟩
      refine ⟨_, _, rfl, rfl, ?_⟩
      refine g_nx ?_
      dsimp only
      rw [show (1 : Int) + (x : Int) = ((x + 1 : Nat) : Int) by omega]
      have e36 : Else p H3 H6 := (e4.trans (Same.els s5)).trans e6
      have el6 := e36 _ _ nlp el
      have pa6 : Paired (fun a (c : CL) => H6 a = some (.lst c.vs)) as cs := paired_imp pa fun a ha _ q => e36 _ _ (nas a ha) q
      have e06 := e3.trans e36
      clear e3 e4 e6 e36 el pa hv3 hv4 hv5 s5 h5 nm hx
      refine ⟨_, rfl, Nat.le_of_ble_eq_true rfl, ?_⟩
      (intro o no; generalize e_o : upd H6 o _ = H7; have s7 : Same H6 H7 := fun b x hb => (congrFun e_o b).symm.trans (same_new no b x hb); have h7 := (congrFun e_o o).symm.trans upd_same; clear e_o)
      have hv7 := hv6.same s7
      have el7 := s7 _ _ el6
      have pa7 : Paired (fun a (c : CL) => H7 a = some (.lst c.vs)) as cs := paired_imp pa6 fun a ha _ q => s7 _ _ q
      have e07 := e06.trans (Same.els s7)
      clear el6 pa6 e06 s7 no hv6
      refine ⟨_, _, .lst (SqL.lst el7) (cl_dp pa7), .lst (SqL.lst h7) .nil, cl_shp cs, by decide, _, rfl, ?_⟩
      by_cases hne : cs = []
      · have eqq : PyData.eqv (.list (cs.map clD)) (.list []) = true := by rw [hne]; decide
        rw [eqq]
        refine iteF (iteF ?_)
        refine ⟨_, rfl, .inl ⟨rfl, _, SqL.lst el7⟩, _, rfl, _, rfl, a, _, rfl, .inl (SqL.lst (e07 _ _ hX.1 hX.2.1)), p, _, rfl, hv7, by rw [List.length_map]; omega, by rw [List.length_map]; omega, fun q HB q0 q1 hvB eB => ?_⟩
        obtain ⟨q, rfl⟩ := nat_of q0
        rw [List.length_map] at q1
        refine ⟨_, rfl, _, rfl, p, _, rfl, hvB, by decide, by decide, fun y2 HC y20 y21 hvC eC => ?_⟩
        obtain ⟨y2, rfl⟩ := nat_of y20
        refine ⟨_, _, rfl, rfl, ⟨by decide, by decide, by decide⟩, Nat.le_of_ble_eq_true rfl, ?_⟩
        (intro mm nmm; generalize e_mm : upd HC mm _ = HD_; have sD : Same HC HD_ := fun b x hb => (congrFun e_mm b).symm.trans (same_new nmm b x hb); have hD := (congrFun e_mm mm).symm.trans upd_same; clear e_mm)
        have hvD := hvC.same sD
        refine ⟨p, mm, _, rfl, hvD, hvC.ne nmm, SqL.lst hD, by show 0 < 3; decide, by show 3 ≤ 20000; decide, fun x2 HE hx2 hvE eE => ?_⟩
        obtain ⟨x2, rfl, hx230⟩ : ∃ n : Nat, x2 = V.int (n : Int) ∧ n ≤ 10 ^ 30 := by
          have b1 : 30 ≤ 10 ^ 30 := by decide
          simp only [List.mem_cons, List.not_mem_nil, or_false] at hx2
          rcases hx2 with rfl | rfl | rfl
          · exact ⟨0, rfl, by omega⟩
          · exact ⟨y2, rfl, by omega⟩
          · exact ⟨10 ^ 30, congrArg V.int (by decide), Nat.le_refl _⟩
        refine ⟨_, rfl, Nat.le_of_ble_eq_true rfl, ?_⟩
        (intro na nna; generalize e_na : upd HE na _ = HF; have sF : Same HE HF := fun b x hb => (congrFun e_na b).symm.trans (same_new nna b x hb); have hF := (congrFun e_na na).symm.trans upd_same; clear e_na)
        have eAE : Else p H7 HE := eB.trans (eC.trans ((Same.els sD).trans eE))
        have elE := eAE _ _ nlp el7
        have nal : na ≠ l := fun z => by rw [z, elE] at nna; cases nna
        have elF := sF _ _ elE
        have paF : Paired (fun a (c : CL) => HF a = some (.lst c.vs)) as cs := paired_imp pa7 fun a ha _ q => sF _ _ (eAE _ _ (nas a ha) q)
        have hvF := hvE.same sF
        have e0F : Else p H HF := e07.trans (eAE.trans (Same.els sF))
        have hcN : HF na = some (.lst (CL.mk q x2 (x + 1)).vs) := hF
        have okN : ClOk xs.length (CL.mk q x2 (x + 1)) := ⟨by show q < xs.length; omega, by show 1 ≤ x + 1; omega, by show x + 1 ≤ 10 ^ 30 + 1; omega⟩
        have bdN : x2 + (x + 1) + 1 ≤ (i + 1) * 10 ^ 31 := by
          have b2 : 10 ^ 30 + (10 ^ 30 + 1) + 1 ≤ 10 ^ 31 := by decide
          have b3 : 10 ^ 31 ≤ (i + 1) * 10 ^ 31 := Nat.le_mul_of_pos_left _ (Nat.succ_pos i)
          omega
        refine ⟨l, _, _, rfl, rfl, elF, smallLt (by rw [List.length_map]; omega), ?_⟩
        refine ⟨upd_vase hvF nlp, fun b o nb hb => by rw [upd_ne (ne_of_none hb nl)]; exact e0F _ _ nb hb, as ++ [na], cs ++ [CL.mk q x2 (x + 1)], _, _, rfl, by rw [upd_same, List.map_append]; rfl, fun b hb => ?_, more_pair elF paF hcN nal, by rw [List.length_append, hcl]; rfl, fun d hd => ?_⟩
        · rcases List.mem_append.mp hb with hb | hb
          · exact nas b hb
          · rw [List.mem_singleton.mp hb]; exact hvE.ne nna
        · rcases List.mem_append.mp hd with hd | hd
          · obtain ⟨r1, r2⟩ := hcs d hd
            exact ⟨r1, Nat.le_trans r2 (Nat.mul_le_mul_right _ (Nat.le_succ i))⟩
          · rw [List.mem_singleton.mp hd]
            exact ⟨okN, bdN⟩
      · have eqq : PyData.eqv (.list (cs.map clD)) (.list []) = false := by
          cases cs with
          | nil => exact absurd rfl hne
          | cons c r => rfl
        rw [eqq]
        refine iteT ?_
        refine ⟨_, rfl, p, _, rfl, hv7, by decide, by decide, fun u H8 u0 u1 hv8 e8 => ⟨rfl, _, rfl, ?_⟩⟩
        have el8 := e8 _ _ nlp el7
        have pa8 : Paired (fun a (c : CL) => H8 a = some (.lst c.vs)) as cs := paired_imp pa7 fun a ha _ q => e8 _ _ (nas a ha) q
        have e08 := e07.trans e8
        have hcl1 : 1 ≤ cs.length := by
          cases cs with
          | nil => exact absurd rfl hne
          | cons c r => exact Nat.succ_le_succ (Nat.zero_le _)
        obtain ⟨al, hal⟩ : ∃ al, as[as.length - 1]? = some al := ⟨_, List.getElem?_eq_getElem (by omega)⟩
        obtain ⟨c1, hc1, ec1⟩ := paired_at pa8 hal
        refine ifD (fun _ => ?_) (fun _ => ?_)
        · skip
          have hlast : atI (as.map V.ref) (-1) = some (V.ref al) := atI_end (by rw [List.length_map, List.getElem?_map, hal]; rfl) (by rw [List.length_map]; omega)
          obtain ⟨okc, bdc⟩ := hcs c1 (List.mem_of_getElem? hc1)
          refine ⟨_, rfl, .inl ⟨rfl, _, SqL.lst el8⟩, _, rfl, _, rfl, l, _, _, _, rfl, rfl, SqL.lst el8, hlast, al, _, _, _, rfl, rfl, SqL.lst ec1, rfl, ?_⟩
          refine ⟨_, rfl, _, rfl, l, _, _, _, rfl, rfl, SqL.lst el8, hlast, al, _, _, _, rfl, rfl, SqL.lst ec1, rfl, ?_⟩
          refine ⟨_, rfl, _, rfl, l, _, _, _, rfl, rfl, SqL.lst el8, hlast, al, _, _, _, rfl, rfl, SqL.lst ec1, rfl, _, _, rfl, rfl, ?_⟩
          refine ⟨_, rfl, Nat.le_of_ble_eq_true rfl, ?_⟩
          (intro mm nmm; generalize e_mm : upd H8 mm _ = HD_; have sD : Same H8 HD_ := fun b x hb => (congrFun e_mm b).symm.trans (same_new nmm b x hb); have hD := (congrFun e_mm mm).symm.trans upd_same; clear e_mm)
          have hvD := hv8.same sD
          refine ⟨p, mm, _, rfl, hvD, hv8.ne nmm, SqL.lst hD, by show 0 < 4; decide, by show 4 ≤ 20000; decide, fun x2 HE hx2 hvE eE => ?_⟩
          obtain ⟨x2, rfl, hx230⟩ : ∃ n : Nat, x2 = V.int (n : Int) ∧ n ≤ 1 := by
            simp only [List.mem_cons, List.not_mem_nil, or_false] at hx2
            rcases hx2 with rfl | rfl | rfl | rfl
            · exact ⟨0, rfl, by omega⟩
            · exact ⟨0, rfl, by omega⟩
            · exact ⟨0, rfl, by omega⟩
            · exact ⟨1, rfl, by omega⟩
          refine ⟨_, _, rfl, rfl, _, rfl, Nat.le_of_ble_eq_true rfl, ?_⟩
          (intro na nna; generalize e_na : upd HE na _ = HF; have sF : Same HE HF := fun b x hb => (congrFun e_na b).symm.trans (same_new nna b x hb); have hF := (congrFun e_na na).symm.trans upd_same; clear e_na)
          have eAE : Else p H8 HE := (Same.els sD).trans eE
          have elE := eAE _ _ nlp el8
          have nal : na ≠ l := fun z => by rw [z, elE] at nna; cases nna
          have elF := sF _ _ elE
          have paF : Paired (fun a (c : CL) => HF a = some (.lst c.vs)) as cs := paired_imp pa8 fun a ha _ q => sF _ _ (eAE _ _ (nas a ha) q)
          have hvF := hvE.same sF
          have e0F : Else p H HF := e08.trans (eAE.trans (Same.els sF))
          have hcN : HF na = some (.lst (CL.mk c1.i (c1.lo + c1.ex + x2) (x + 1)).vs) := hF
          have okN : ClOk xs.length (CL.mk c1.i (c1.lo + c1.ex + x2) (x + 1)) := ⟨okc.1, by show 1 ≤ x + 1; omega, by show x + 1 ≤ 10 ^ 30 + 1; omega⟩
          have bdN : (c1.lo + c1.ex + x2) + (x + 1) + 1 ≤ (i + 1) * 10 ^ 31 := by
            have b2 : (10 ^ 30 + 1) + 1 ≤ 10 ^ 31 := by decide
            have b3 : (i + 1) * 10 ^ 31 = i * 10 ^ 31 + 10 ^ 31 := Nat.succ_mul _ _
            omega
          refine ⟨l, _, _, rfl, rfl, elF, smallLt (by rw [List.length_map]; omega), ?_⟩
          refine ⟨upd_vase hvF nlp, fun b o nb hb => by rw [upd_ne (ne_of_none hb nl)]; exact e0F _ _ nb hb, as ++ [na], cs ++ [CL.mk c1.i (c1.lo + c1.ex + x2) (x + 1)], _, _, rfl, by rw [upd_same, List.map_append]; rfl, fun b hb => ?_, more_pair elF paF hcN nal, by rw [List.length_append, hcl]; rfl, fun d hd => ?_⟩
          · rcases List.mem_append.mp hb with hb | hb
            · exact nas b hb
            · rw [List.mem_singleton.mp hb]; exact hvE.ne nna
          · rcases List.mem_append.mp hd with hd | hd
            · obtain ⟨r1, r2⟩ := hcs d hd
              exact ⟨r1, Nat.le_trans r2 (Nat.mul_le_mul_right _ (Nat.le_succ i))⟩
            · rw [List.mem_singleton.mp hd]
              exact ⟨okN, bdN⟩
        · skip
          refine ⟨_, rfl, .inl ⟨rfl, _, SqL.lst el8⟩, _, rfl, _, rfl, a, _, rfl, .inl (SqL.lst (e08 _ _ hX.1 hX.2.1)), p, _, rfl, hv8, by rw [List.length_map]; omega, by rw [List.length_map]; omega, fun q HB q0 q1 hvB eB => ?_⟩
          obtain ⟨q, rfl⟩ := nat_of q0
          rw [List.length_map] at q1
          refine ⟨_, rfl, _, rfl, p, _, rfl, hvB, by decide, by decide, fun y2 HC y20 y21 hvC eC => ?_⟩
          obtain ⟨y2, rfl⟩ := nat_of y20
          refine ⟨_, _, rfl, rfl, ⟨by decide, by decide, by decide⟩, Nat.le_of_ble_eq_true rfl, ?_⟩
          (intro mm nmm; generalize e_mm : upd HC mm _ = HD_; have sD : Same HC HD_ := fun b x hb => (congrFun e_mm b).symm.trans (same_new nmm b x hb); have hD := (congrFun e_mm mm).symm.trans upd_same; clear e_mm)
          have hvD := hvC.same sD
          refine ⟨p, mm, _, rfl, hvD, hvC.ne nmm, SqL.lst hD, by show 0 < 3; decide, by show 3 ≤ 20000; decide, fun x2 HE hx2 hvE eE => ?_⟩
          obtain ⟨x2, rfl, hx230⟩ : ∃ n : Nat, x2 = V.int (n : Int) ∧ n ≤ 10 ^ 30 := by
            have b1 : 30 ≤ 10 ^ 30 := by decide
            simp only [List.mem_cons, List.not_mem_nil, or_false] at hx2
            rcases hx2 with rfl | rfl | rfl
            · exact ⟨0, rfl, by omega⟩
            · exact ⟨y2, rfl, by omega⟩
            · exact ⟨10 ^ 30, congrArg V.int (by decide), Nat.le_refl _⟩
          refine ⟨_, rfl, Nat.le_of_ble_eq_true rfl, ?_⟩
          (intro na nna; generalize e_na : upd HE na _ = HF; have sF : Same HE HF := fun b x hb => (congrFun e_na b).symm.trans (same_new nna b x hb); have hF := (congrFun e_na na).symm.trans upd_same; clear e_na)
          have eAE : Else p H8 HE := eB.trans (eC.trans ((Same.els sD).trans eE))
          have elE := eAE _ _ nlp el8
          have nal : na ≠ l := fun z => by rw [z, elE] at nna; cases nna
          have elF := sF _ _ elE
          have paF : Paired (fun a (c : CL) => HF a = some (.lst c.vs)) as cs := paired_imp pa8 fun a ha _ q => sF _ _ (eAE _ _ (nas a ha) q)
          have hvF := hvE.same sF
          have e0F : Else p H HF := e08.trans (eAE.trans (Same.els sF))
          have hcN : HF na = some (.lst (CL.mk q x2 (x + 1)).vs) := hF
          have okN : ClOk xs.length (CL.mk q x2 (x + 1)) := ⟨by show q < xs.length; omega, by show 1 ≤ x + 1; omega, by show x + 1 ≤ 10 ^ 30 + 1; omega⟩
          have bdN : x2 + (x + 1) + 1 ≤ (i + 1) * 10 ^ 31 := by
            have b2 : 10 ^ 30 + (10 ^ 30 + 1) + 1 ≤ 10 ^ 31 := by decide
            have b3 : 10 ^ 31 ≤ (i + 1) * 10 ^ 31 := Nat.le_mul_of_pos_left _ (Nat.succ_pos i)
            omega
          refine ⟨l, _, _, rfl, rfl, elF, smallLt (by rw [List.length_map]; omega), ?_⟩
          refine ⟨upd_vase hvF nlp, fun b o nb hb => by rw [upd_ne (ne_of_none hb nl)]; exact e0F _ _ nb hb, as ++ [na], cs ++ [CL.mk q x2 (x + 1)], _, _, rfl, by rw [upd_same, List.map_append]; rfl, fun b hb => ?_, more_pair elF paF hcN nal, by rw [List.length_append, hcl]; rfl, fun d hd => ?_⟩
          · rcases List.mem_append.mp hb with hb | hb
            · exact nas b hb
            · rw [List.mem_singleton.mp hb]; exact hvE.ne nna
          · rcases List.mem_append.mp hd with hd | hd
            · obtain ⟨r1, r2⟩ := hcs d hd
              exact ⟨r1, Nat.le_trans r2 (Nat.mul_le_mul_right _ (Nat.le_succ i))⟩
            · rw [List.mem_singleton.mp hd]
              exact ⟨okN, bdN⟩
    · rintro σ H3 ⟨hv3, e3, as, cs, v4, v5, rfl, el, nas, pa, hcl, hcs⟩
      refine ⟨_, rfl, k l cs H3 ⟨nlp, as, el, nas, pa⟩ (by omega) (fun c hc => ?_) hv3 e3⟩
      obtain ⟨q1, q2⟩ := hcs c hc
      refine ⟨q1, Nat.le_trans q2 ?_⟩
      exact Nat.le_trans (Nat.mul_le_mul_right _ (show z ≤ 10 by omega)) (by decide)
theorem ok_filmed {f : Addr} {fd : FuncData} (F : Fun K "_law_filmed" "_law_filmed" s_law_filmed f fd) (N : Names mg) (D_law_built : DefK P w K mg base "_law_built" ["_law_home"] 7 (spBuilt K C)) : FnOk P w K mg base CX0 8 f fd ["_law_clips_here", "_law_homes_here"] (spFilmed K C) := by
  have sc := sc_law_filmed
  refine F.ok sc (fun vs H Q E h => ?_) (fun cdv A outer s H vs Q E hr h => ?_)
  · obtain ⟨p, l, a, xs, cs, rfl, _⟩ := h
    rfl
  · obtain ⟨p, l, a, xs, cs, rfl, hL, hX, hcs, c20, k⟩ := h
    refine ⟨_, (pss_one (ps_ret (pe_callTy (T := "tuple") call_tuple_of (by rfl) N.tuple (by decide +kernel) (pa_cons (pe_lc (own := [("_law_at", 2), ("_law_begin", 3), ("_law_extent", 4)]) (g := gUnl K 3 (gCons (gName 2) (gCons (gName 3) (gCons (gName 4) gNil)))) rfl sc.nd (pi_list (pv 0)) (blkOk_by (own := [("_law_at", 2), ("_law_begin", 3), ("_law_extent", 4)]) (N := ["_law_clips_here", "_law_homes_here", "_law_at", "_law_begin", "_law_extent"]) (sc := defScope (topS 77)) (by decide +kernel)) (fun _ _ _ _ _ => (pg_unl rfl (pgs_cons (pg_name (i := 2) sc.nd rfl (Or.inl rfl) (Or.inr rfl)) (pgs_cons (pg_name (i := 3) sc.nd rfl (Or.inl rfl) (Or.inr rfl)) (pgs_cons (pg_name (i := 4) sc.nd rfl (Or.inl rfl) (Or.inr rfl)) pgs_nil))))) (fun _ _ _ _ _ => pts_nil) (fun _ _ _ _ _ => (pe_tup (pa_cons (pe_d D_law_built (hr.mono (by decide)) rfl (pa_cons (pe_ix (show IxR _ (rIxL K) from ix_list) (pv 1) (pv 2) (fun _ _ => rfl)) pa_nil)) (pa_cons (pv 3) (pa_cons (pv 4) pa_nil)))))) pa_nil)))), ?_⟩
    obtain ⟨nlp, as, el, nas, pa⟩ := id hL
    have hpl := pa.length
    refine ⟨_, rfl, l, rfl, ⟨_, SqL.lst el⟩, ?_⟩
    intro D nD
    refine lc_list (K := K) (xs := as.map V.ref) (fun i H' => Same H H' ∧ ∃ (ts : List Addr) (ks : List PC), H' D = some (.lst (ts.map V.ref)) ∧ Paired (fun a (k : PC) => ClipAt K C H' a k) ts ks ∧ MadeC xs ks (cs.take i)) ⟨same_new nD, [], [], upd_same, .nil, .nil⟩ (fun i H' _ ⟨s, _⟩ => SqL.lst (s _ _ el)) ?_ ?_
    · rintro i x H1 hx ⟨sm, ts, ks, eD, pk, hmo⟩
      rw [List.getElem?_map] at hx
      obtain ⟨ai, hai, rfl⟩ := Option.map_eq_some_iff.mp hx
      obtain ⟨ci, hci, eci⟩ := paired_at pa hai
      have hml := hmo.length
      have hkl := pk.length
      obtain ⟨y, hy⟩ : ∃ y, xs[ci.i]? = some y := ⟨_, List.getElem?_eq_getElem (hcs ci (List.mem_of_getElem? hci)).1⟩
      have hY := (hX.same sm).2.2 y (List.mem_of_getElem? hy)
      have hat : atI (xs.map fun h => V.ref h.d) ((ci.i : Nat) : Int) = some (V.ref y.d) := atI_nat (by rw [List.getElem?_map, hy]; rfl)
      refine ⟨ai, _, rfl, SqL.lst (sm _ _ eci), rfl, _, _, rfl, _, _, rfl, _, _, rfl, rfl, rfl, ?_⟩
      refine ⟨_, rfl, _, rfl, a, _, _, _, rfl, rfl, SqL.lst (sm _ _ hX.2.1), hat, y.d, y.g, y.l, y.gs, y.rows, rfl, hY.dict, SqL.lst hY.hg, hY.ln.in, hY.fair, fun pm b r cs' H2 s2 npm hH => ?_⟩
      refine ⟨_, rfl, _, rfl, small (Nat.le_of_ble_eq_true rfl), ?_⟩
      (intro t nt; generalize e_t : upd H2 t _ = H3; have s3 : Same H2 H3 := fun b x hb => (congrFun e_t b).symm.trans (same_new nt b x hb); have h3 := (congrFun e_t t).symm.trans upd_same; clear e_t)
      have s13 := s2.trans s3
      have eD3 := s13 _ _ eD
      have ntD : t ≠ D := fun z => by rw [z, s2 _ _ eD] at nt; cases nt
      have hc := (HouseAt.text hH).same s3
      refine ⟨_, eD3, smallLt (by rw [List.length_map, hkl, hml, List.length_take]; omega), same_mut (sm.trans s13) nD, ts ++ [t], ks ++ [⟨pm, houseS y.gs y.rows, ci.lo, ci.ex⟩], by rw [upd_same, List.map_append]; rfl, ?_, ?_⟩
      · refine paired_app (paired_imp pk fun _ _ _ q => ?_) ?_
        · exact ⟨tupT_els eD3 els_upd (Same.seqT s13 q.1), (q.2.same s13).els eD3 els_upd⟩
        · exact ⟨tupT_els eD3 els_upd (SqT.tup h3), hc.els eD3 els_upd⟩
      · rw [List.take_add_one, hci]
        exact paired_app hmo ⟨⟨y, hy, rfl⟩, rfl, rfl⟩
    · rintro H1 ⟨s1, ts, ks, eD, pk, hmo⟩
      rw [List.length_map, hpl, List.take_of_length_le (Nat.le_refl _)] at hmo
      refine ⟨D, _, rfl, .inl ⟨SqL.lst eD, ?_⟩⟩
      (intro t nt; generalize e_t : upd H1 t _ = H2; have s2 : Same H1 H2 := fun b x hb => (congrFun e_t b).symm.trans (same_new nt b x hb); have h2 := (congrFun e_t t).symm.trans upd_same; clear e_t)
      exact k t ks H2 (s1.trans s2) ⟨ts, SqT.tup h2, paired_imp pk fun _ _ _ q => q.same s2⟩ hmo
theorem ok_goesL {f : Addr} {fd : FuncData} (F : Fun K "_law_goes_on" "_law_goes_on" s_law_goes_on f fd) (N : Names mg) (D_law_stated : DefK P w K mg base "_law_stated" ["_law_home"] 1 (spStated K)) : FnOk P w K mg base CX0 2 f fd ["_law_homes_here", "_law_early", "_law_late"] (spGoesL K) := by
  have sc := sc_law_goes_on
  refine F.ok sc (fun vs H Q E h => ?_) (fun cdv A outer s H vs Q E hr h => ?_)
  · obtain ⟨p, a, xs, b1, b2, c1, c2, x1, x2, rfl, _⟩ := h
    rfl
  · obtain ⟨p, a, xs, b1, b2, c1, c2, x1, x2, rfl, hX, h1, h2, e1, e2, k⟩ := h
    refine ⟨_, (pss_one (ps_ret (pe_and (pe_cmpR op_eq (pe_d D_law_stated (hr.mono (by decide)) rfl (pa_cons (pe_ix ix_list (pv 0) (pe_ix ix_list (pv 1) pe_int (fun _ _ => rfl)) (fun _ _ => rfl)) pa_nil)) (pe_d D_law_stated (hr.mono (by decide)) rfl (pa_cons (pe_ix ix_list (pv 0) (pe_ix ix_list (pv 2) pe_int (fun _ _ => rfl)) (fun _ _ => rfl)) pa_nil)) (nomark _)) (pe_one (pe_cmpR op_eq (pe_op op_add (pe_ix ix_list (pv 1) pe_int (fun _ _ => rfl)) (pe_ix ix_list (pv 1) pe_int (fun _ _ => rfl))) (pe_ix ix_list (pv 2) pe_int (fun _ _ => rfl)) (nomark _)))))), ?_⟩
    have hat : ∀ {i : Nat} {y : LH}, xs[i]? = some y → atI (xs.map fun h => V.ref h.d) ((i : Nat) : Int) = some (V.ref y.d) := fun {i y} hy => atI_nat (by rw [List.getElem?_map, hy]; rfl)
    have hY1 := hX.2.2 x1 (List.mem_of_getElem? e1)
    refine ⟨_, rfl, _, rfl, b1, _, _, _, rfl, rfl, SqL.lst h1, rfl, a, _, _, _, rfl, rfl, SqL.lst hX.2.1, hat e1, x1.d, x1.g, x1.l, x1.gs, x1.rows, rfl, hY1.dict, SqL.lst hY1.hg, hY1.ln.in, hY1.fair, fun H1 s1 => ?_⟩
    have hX1 := hX.same s1
    have hY2 := hX1.2.2 x2 (List.mem_of_getElem? e2)
    refine ⟨_, rfl, _, rfl, b2, _, _, _, rfl, rfl, SqL.lst (s1 _ _ h2), rfl, a, _, _, _, rfl, rfl, SqL.lst hX1.2.1, hat e2, x2.d, x2.g, x2.l, x2.gs, x2.rows, rfl, hY2.dict, SqL.lst hY2.hg, hY2.ln.in, hY2.fair, fun H2 s2 => ?_⟩
    have s02 := s1.trans s2
    refine ⟨rfl, _, rfl, ?_⟩
    have k2 := k H2 s02
    unfold goC at k2
    generalize houseS x1.gs x1.rows = z1 at k2 ⊢
    generalize houseS x2.gs x2.rows = z2 at k2 ⊢
    by_cases hz : z1 = z2
    · rw [decide_eq_true (congrArg V.str hz)]
      refine iteT ?_
      refine ⟨_, rfl, b1, _, _, _, rfl, rfl, SqL.lst (s02 _ _ h1), rfl, _, rfl, b1, _, _, _, rfl, rfl, SqL.lst (s02 _ _ h1), rfl, _, _, rfl, rfl, _, rfl, b2, _, _, _, rfl, rfl, SqL.lst (s02 _ _ h2), rfl, rfl, ?_⟩
      rw [decide_eq_true hz, Bool.true_and] at k2
      have e : decide (V.int ((c1.lo : Int) + (c1.ex : Int)) = V.int (c2.lo : Int)) = decide ((c1.lo : Int) + (c1.ex : Int) = (c2.lo : Int)) := decide_eq_decide.mpr ⟨V.int.inj, congrArg V.int⟩
      rw [← e] at k2
      exact k2
    · rw [decide_eq_false (fun q => hz (V.str.inj q))]
      refine iteF ?_
      rw [decide_eq_false hz, Bool.false_and] at k2
      exact k2
end
end LM

set_option Elab.async false
set_option linter.all false
set_option maxRecDepth 100000
set_option maxHeartbeats 4000000
set_option pp.maxSteps 600
set_option pp.deepTerms false
/-! whether a list is the drawn one -/
namespace LM
open PySem PySem.Spec PyProof.Rows L2 RZ
local macro_rules | `(tactic| walk_at "hp") => `(tactic| first | assumption | exact upd_same | (rw [upd_ne (by assumption)]; assumption) | (rw [upd_ne (Ne.symm (by assumption))]; assumption) | (rw [upd_ne (by assumption)]; exact upd_same) | (rw [upd_ne (Ne.symm (by assumption))]; exact upd_same))
local macro_rules | `(tactic| walk_at "sq") => `(tactic| first | assumption | exact Or.inl (Or.inl (by assumption)) | exact Or.inl (Or.inl upd_same) | exact Or.inl (Or.inl (by walk_at "hp")))
local macro_rules | `(tactic| walk_at "ixl") => `(tactic| refine ⟨_, _, _, _, rfl, rfl, (by walk_at "sq"), (by rfl), ?_⟩)
local macro_rules | `(tactic| walk_at "setl") => `(tactic| refine ⟨_, _, _, _, rfl, rfl, (by walk_at "hp"), (by rfl), ?_⟩)
local macro_rules | `(tactic| walk_at "side") => `(tactic| refine idP ?_; first | omega | (show (0 : Int) < _; omega) | (show (0 : Int) < _ ∧ _ < _; omega) | (refine Or.inr ?_; show (-(2 ^ 64) : Int) < _ ∧ _ < _; omega) | (refine Or.inl ?_; show (-(2 ^ 64) : Int) < _ ∧ _ < _; omega) | exact divW (by omega) (by omega) _ | (refine ⟨by decide, by decide, ?_⟩; decide))
local macro_rules | `(tactic| walk_at "go1") => `(tactic| first
  | refine ⟨_, rfl, ?_⟩
  | refine ⟨_, _, rfl, rfl, (by walk_at "side"), ?_⟩
  | refine ⟨_, _, rfl, (by walk_at "side"), ?_⟩
  | refine ⟨_, _, rfl, rfl, ?_⟩
  | refine Or.inl ⟨_, rfl, ?_⟩
  | refine ⟨_, _, rfl, Or.inl (by walk_at "sq"), ?_⟩
  | walk_at "ixl"
  | walk_at "setl"
  | refine ⟨_, _, rfl, (by walk_at "sq"), rfl, ?_⟩
  | refine ⟨_, _, rfl, (by walk_at "sq"), ?_⟩
  | refine ⟨_, _, rfl, ?_⟩
  | refine ⟨rfl, ?_⟩
  | refine ⟨small (Nat.le_of_ble_eq_true rfl), ?_⟩)
local macro_rules | `(tactic| walk_at "go") => `(tactic| repeat walk_at "go1")

abbrev s_law_same : Stmt := topS 75
theorem sc_law_same : FnScope ["_law_told", "_law_due"] ["_law_told", "_law_due"] (defScope s_law_same) := ⟨rfl, rfl, rfl, by decide +kernel, rfl, by decide +kernel, by decide +kernel⟩
abbrev s_law_is_list : Stmt := topS 78
theorem sc_law_is_list : FnScope ["_law_made", "_law_home", "_law_begin", "_law_clips_here", "_law_homes_here", "_law_own", "_law_told", "_law_at", "_law_low", "_law_extent", "_law_box"] ["_law_made", "_law_home", "_law_begin", "_law_clips_here", "_law_homes_here"] (defScope s_law_is_list) := ⟨rfl, rfl, rfl, by decide +kernel, rfl, by decide +kernel, by decide +kernel⟩
/-- two values whose data are the same -/
def spSame (K : PySem.W.Frag) : Sp := fun vs H Q _ => ∃ (y z : V) (d : PyData), vs = [y, z] ∧ Dv K H y d ∧ Dv K H z d ∧ d.showable = true ∧ d.depth ≤ 20 ∧ d.shown.length ≤ sizeLine ∧ Q (.bl true) H
theorem join_small (sep : Str) (hs : ∀ d ∈ sg sep, d < 128) : ∀ ws : List Str, (∀ w ∈ ws, ∀ d ∈ sg w, d < 128) → ∀ d ∈ sg (Str.join sep ws), d < 128
  | [], _ => by
    show ∀ d ∈ sg Str.empty, d < 128
    exact fun d z => nomatch z
  | [x], h => h x (List.mem_singleton.mpr rfl)
  | x :: y :: r, h => by
    show ∀ d ∈ sg (x ++ sep ++ Str.join sep (y :: r)), d < 128
    rw [sg_app, sg_app]
    intro d z
    rcases List.mem_append.mp z with z | z
    · rcases List.mem_append.mp z with z | z
      · exact h x List.mem_cons_self d z
      · exact hs d z
    · exact join_small sep hs (y :: r) (fun w hw => h w (List.mem_cons_of_mem _ hw)) d z
theorem app_small {x y : Str} (hx : ∀ d ∈ sg x, d < 128) (hy : ∀ d ∈ sg y, d < 128) : ∀ d ∈ sg (x ++ y), d < 128 := fun d hd => by
  rw [sg_app] at hd
  rcases List.mem_append.mp hd with z | z
  · exact hx d z
  · exact hy d z
theorem num_small {x : Int} (h : 0 ≤ x) : ∀ d ∈ sg (numS x), d < 128 := fun d hd => by
  obtain ⟨m, rfl⟩ := Int.eq_ofNat_of_zero_le h
  have := (figB_iff.mp (num_fig m)).2 d hd
  omega
theorem spaced_small {ns : List Int} (h : ∀ x ∈ ns, 0 ≤ x) : ∀ d ∈ sg (spacedS ns), d < 128 := by
  unfold spacedS
  rw [join_glued]
  refine join_small _ (by decide) _ fun w hw => ?_
  obtain ⟨x, hx, rfl⟩ := List.mem_map.mp hw
  exact num_small (h x hx)
theorem house_small {bs : List Int} {rows : List R3} (h : ∀ x ∈ bs, 0 ≤ x) (hr : ∀ x ∈ rows, 0 ≤ x.1 ∧ 0 ≤ x.2.1 ∧ 0 ≤ x.2.2) : ∀ d ∈ sg (houseS bs rows), d < 128 := by
  unfold houseS
  rw [join_glued]
  refine join_small _ (by decide) _ fun w hw => ?_
  rcases List.mem_cons.mp hw with rfl | hw
  · exact app_small (by decide) (spaced_small h)
  · obtain ⟨x, hx, rfl⟩ := List.mem_map.mp hw
    unfold rowS
    refine app_small (by decide) (spaced_small fun y hy => ?_)
    simp at hy
    have := hr x hx
    rcases hy with rfl | rfl | rfl
    · exact this.1
    · exact this.2.1
    · exact this.2.2
/-- a text that is short and plain -/
def Plain (z : Str) : Prop := z.length ≤ 3000 ∧ ∀ d ∈ sg z, d < 128
theorem fair_plain {gs : List Int} {rows : List R3} (fr : Fair gs rows) : Plain (houseS gs rows) := by
  have ro := row_60 fr
  have bb : ∀ x ∈ gs, 0 ≤ x ∧ x ≤ 60 := fun x hx => ⟨by have := (fr.bb x hx).1; omega, (fr.bb x hx).2⟩
  exact ⟨(house_len fr.b3 bb fr.r6 ro).1, house_small (fun x hx => (bb x hx).1) fun x hx => ⟨(ro x hx).1.1, (ro x hx).2.1.1, (ro x hx).2.2.1⟩⟩
/-- a clip as told: its house's text, the frame, how many -/
def pcD (k : PC) : PyData := .tuple [.str k.z, .int k.lo, .int k.ex]
def pcV (k : PC) : List V := [.str k.z, .int k.lo, .int k.ex]
theorem pc_dp {K : PySem.W.Frag} {H : Hp} : ∀ {as : List Addr} {ks : List PC}, Paired (fun a (k : PC) => SqT K H a (pcV k)) as ks → DpAll K H (as.map V.ref) (ks.map pcD)
  | _, _, .nil => .nil
  | _, _, .cons r t => .cons (.tup r (.cons (.str _) (.cons (.int _) (.cons (.int _) .nil)))) (pc_dp t)
def PcOk (k : PC) : Prop := Plain k.z ∧ k.lo < 10 ^ 40 ∧ k.ex < 10 ^ 40
theorem nat_log {n : Nat} (h : n < 10 ^ 40) : ((n : Nat) : Int).natAbs.log2 < 1920 := big_log (by omega) (by have : ((10 : Int) ^ 60) = ((10 ^ 60 : Nat) : Int) := by decide
                                                                                                             have b : 10 ^ 40 < 10 ^ 60 := by decide
                                                                                                             omega)
theorem pcs_show : ∀ ks : List PC, (∀ k ∈ ks, PcOk k) → PyData.showableAll (ks.map pcD) = true ∧ PyData.hasDictAll (ks.map pcD) = false ∧ PyData.depthAll (ks.map pcD) ≤ 1
  | [], _ => by simp [PyData.showableAll, PyData.hasDictAll, PyData.depthAll]
  | k :: ks, h => by
    obtain ⟨h1, h2, h3⟩ := pcs_show ks fun m hm => h m (List.mem_cons_of_mem _ hm)
    obtain ⟨_, a1, a2⟩ := h k List.mem_cons_self
    have b1 := nat_log a1
    have b2 := nat_log a2
    have hd : PyData.depth (pcD k) = 1 := by simp [pcD, PyData.depth, PyData.depthAll]
    simp only [List.map_cons, PyData.showableAll, PyData.hasDictAll, PyData.depthAll, h1, h2, hd]
    refine ⟨?_, ?_, by omega⟩
    · simp only [pcD, PyData.showable, PyData.showableAll, b1, b2]
      simp
    · simp [pcD, PyData.hasDict, PyData.hasDictAll]
theorem int_shown {m : Int} (hm : m.natAbs.log2 < 1920) : (PyData.int m).shown.length ≤ 2000 := by
  have := int_text_length_le (k := 1920) (by decide) hm
  simp only [PyData.shown]
  rw [PySem.ofString_length]
  omega
theorem str_shown {z : Str} {n : Nat} (h : z.length ≤ n) (hc : ∀ d ∈ sg z, d < 128) : (PyData.str z).shown.length ≤ 20 * n + 10 := by
  have := StrLaws.reprText_len z fun c hcm => Nat.lt_trans (hc c hcm) (by decide)
  simp only [PyData.shown]
  omega
theorem pc_shown {k : PC} (h : PcOk k) : (pcD k).shown.length ≤ 200000 := by
  have := shown_tuple_le (m := 60010) (ds := [PyData.str k.z, .int k.lo, .int k.ex]) fun d hd => by
    simp only [List.mem_cons, List.not_mem_nil, or_false] at hd
    rcases hd with rfl | rfl | rfl
    · exact str_shown h.1.1 h.1.2
    · exact Nat.le_trans (int_shown (nat_log h.2.1)) (by decide)
    · exact Nat.le_trans (int_shown (nat_log h.2.2)) (by decide)
  exact Nat.le_trans this (show 3 * (60010 + 2) + 3 ≤ 200000 by omega)
/-- all that a list tells of its clips -/
def isC (ks : List PC) (st : Nat) : PyData := .list [.list (ks.map pcD), .int st]
theorem isC_facts {ks : List PC} {st : Nat} (h : ∀ k ∈ ks, PcOk k) (h20 : ks.length ≤ 20) (hst : st < 10 ^ 40) : (isC ks st).showable = true ∧ (isC ks st).hasDict = false ∧ (isC ks st).depth ≤ 20 ∧ (isC ks st).shown.length ≤ sizeLine := by
  obtain ⟨a1, a2, a3⟩ := pcs_show ks h
  have b := nat_log hst
  refine ⟨?_, ?_, ?_, ?_⟩
  · simp only [isC, PyData.showable, PyData.showableAll, a1, b]
    simp
  · simp only [isC, PyData.hasDict, PyData.hasDictAll, a2]
    rfl
  · simp only [isC, PyData.depth, PyData.depthAll]
    omega
  · have i1 := shown_list_le (m := 200000) (ds := ks.map pcD) fun d hd => by
      obtain ⟨k, hk, rfl⟩ := List.mem_map.mp hd
      exact pc_shown (h k hk)
    rw [List.length_map] at i1
    have := shown_list_le (m := 5000000) (ds := [PyData.list (ks.map pcD), .int st]) fun d hd => by
      simp only [List.mem_cons, List.not_mem_nil, or_false] at hd
      rcases hd with rfl | rfl
      · omega
      · exact Nat.le_trans (int_shown b) (by decide)
    exact Nat.le_trans this (show 2 * (5000000 + 2) + 2 ≤ sizeLine by decide)
def spIsList (K : PySem.W.Frag) (C cc : Addr) : Sp := fun vs H Q _ => ∃ (old : Addr → Prop) (p m h ct ah l a : Addr) (x : LH) (st : Nat) (ks : List PC) (cs : List CL) (xs : List LH), vs = [.ref m, .ref x.d, .int (st : Int), .ref l, .ref a] ∧ CutAt K C cc old H m h ct ah (houseS x.gs x.rows) st ks ∧ HomeX p H x ∧ ClipsL p H l cs ∧ HomesX p H a xs ∧ MadeC xs ks cs ∧ (∀ k ∈ ks, PcOk k) ∧ st < 10 ^ 40 ∧ ∀ H', Same H H' → Q (.bl true) H'
section
variable {P : Program} {w : World} {K : PySem.W.Frag} {mg : Str → Option Value} {base : Heap} {C cc : Addr}
theorem ok_same {f : Addr} {fd : FuncData} (F : Fun K "_law_same" "_law_same" s_law_same f fd) (N : Names mg) : FnG P w K mg base 2 f fd ["_law_told", "_law_due"] (spSame K) := by
  have sc := sc_law_same
  refine funG_ok F sc (fun vs H Q E h => ?_) (fun cdv A outer s H vs Q E hgd hr h => ?_)
  · obtain ⟨y, z, d, rfl, _⟩ := h
    rfl
  · obtain ⟨y, z, d, rfl, hy, hz, d1, d2, d3, k⟩ := h
    have hu := hu_of hr
    refine ⟨_, (pss_one (ps_ret (pe_cmpR op_eq (pe_callB (show CallR _ (.builtin "repr") (rReprV K) from call_reprV hgd (hu64 hr)) (by rfl) N.repr (by decide +kernel) (pa_cons (pv 0) pa_nil)) (pe_callB (show CallR _ (.builtin "repr") (rReprV K) from call_reprV hgd (hu64 hr)) (by rfl) N.repr (by decide +kernel) (pa_cons (pv 1) pa_nil)) (nomark _)))), ?_⟩
    refine ⟨_, rfl, y, d, rfl, hy, d1, d2, d3, ?_⟩
    refine ⟨_, rfl, z, d, rfl, hz, d1, d2, d3, ?_⟩
    refine ⟨rfl, ?_⟩
    rw [decide_eq_true rfl]
    exact k
theorem ok_islist {f fSt pCl fCl pHo fHo pRf fRf : Addr} {fd fdSt fdCl fdHo fdRf : FuncData} (F : Fun K "_law_is_list" "_law_is_list" s_law_is_list f fd) (TC : CutTxt K mg cc) (T : HouseTxt K mg C) (N : Names mg)
    (D_law_stated : DefK P w K mg base "_law_stated" ["_law_home"] 1 (spStated K)) (D_law_same : DefG P w K mg base "_law_same" ["_law_told", "_law_due"] 2 (spSame K))
    (sSt : PySem.W.findIn K (.ref C) "__str__" = some (some (.ref fSt))) (iSt : PySem.W.isFn K (.ref fSt) = true) (GSt : FnOk P w K mg base CX0 1 fSt fdSt ["self"] (spStr C)) (bSt : Binds K fdSt ["self"] [])
    (qCl : PropOf K cc "clips" pCl fCl) (GCl : FnOk P w K mg base CX0 1 fCl fdCl ["self"] (getSp cc "_clips")) (bCl : Binds K fdCl ["self"] [])
    (qHo : PropOf K cc "house" pHo fHo) (GHo : FnOk P w K mg base CX0 1 fHo fdHo ["self"] (getSp cc "_house")) (bHo : Binds K fdHo ["self"] [])
    (qRf : PropOf K cc "record_frame" pRf fRf) (GRf : FnOk P w K mg base CX0 1 fRf fdRf ["self"] (getSp cc "_start")) (bRf : Binds K fdRf ["self"] []) :
    FnG P w K mg base 4 f fd ["_law_made", "_law_home", "_law_begin", "_law_clips_here", "_law_homes_here"] (spIsList K C cc) := by
  have sc := sc_law_is_list
  refine funG_ok F sc (fun vs H Q E h => ?_) (fun cdv A outer s H vs Q E hgd hr h => ?_)
  · obtain ⟨old, p, m, h, ct, ah, l, a, x, st, ks, cs, xs, rfl, _⟩ := h
    rfl
  · obtain ⟨old, p, m, h, ct, ah, l, a, x, st, ks, cs, xs, rfl, aC, hx, hL, hX, hmo, hok, hst, k⟩ := h
    refine ⟨_, (pss_cons (ps_if (PW.pt (pw_or (pt_not (pt_val (pe_callB call_isi (by rfl) N.isinstance (by decide +kernel) (pa_cons (pe_prop (pv 0) TC.cl qCl GCl (hr.mono (by decide)) bCl .nil pass0 rfl) (pa_cons (pe_ty "tuple" rfl N.tuple (by decide +kernel)) pa_nil))))) (pw_or1 (pt_cmpR op_ne (pe_callTy (T := "str") (call_strO sSt iSt GSt (hr.mono (by decide)) bSt pass0) (by rfl) N.str (by decide +kernel) (pa_cons (pe_prop (pv 0) TC.cl qHo GHo (hr.mono (by decide)) bHo .nil pass0 rfl) pa_nil)) (pe_d D_law_stated (hr.mono (by decide)) rfl (pa_cons (pv 1) pa_nil)) (nomark _))))) (pss_one (ps_ret pe_bl)) pss_nil)
      (pss_cons (ps_setLc (i := 5) (own := [("_law_at", 7), ("_law_low", 8), ("_law_extent", 9)]) (g := gUnl K 3 (gCons (gName 7) (gCons (gName 8) (gCons (gName 9) gNil)))) rfl sc.nd rfl rfl (sw_true rfl rfl rfl (by decide +kernel)) (pi_list (pv 3)) (blkOk_by (own := [("_law_at", 7), ("_law_low", 8), ("_law_extent", 9)]) (N := ["_law_made", "_law_home", "_law_begin", "_law_clips_here", "_law_homes_here", "_law_own", "_law_told", "_law_at", "_law_low", "_law_extent", "_law_box"]) (sc := defScope (topS 78)) (by decide +kernel)) (fun _ _ _ _ _ => (pg_unl rfl (pgs_cons (pg_name (i := 7) sc.nd rfl (Or.inl rfl) (Or.inr rfl)) (pgs_cons (pg_name (i := 8) sc.nd rfl (Or.inl rfl) (Or.inr rfl)) (pgs_cons (pg_name (i := 9) sc.nd rfl (Or.inl rfl) (Or.inr rfl)) pgs_nil))))) (fun _ _ _ _ _ => pts_nil) (fun _ _ _ _ _ => (pe_tup (pa_cons (pe_d D_law_stated (hr.mono (by decide)) rfl (pa_cons (pe_ix (show IxR _ (rIxL K) from ix_list) (pv 4) (pv 7) (fun _ _ => rfl)) pa_nil)) (pa_cons (pv 8) (pa_cons (pv 9) pa_nil))))))
      (pss_cons (ps_setLc (i := 6) (own := [("_law_box", 10), ("_law_low", 8), ("_law_extent", 9)]) (g := gTup K 3 (gCons (gName 10) (gCons (gName 8) (gCons (gName 9) gNil)))) rfl sc.nd rfl rfl (sw_true rfl rfl rfl (by decide +kernel)) (pi_tup (pe_prop (pv 0) TC.cl qCl GCl (hr.mono (by decide)) bCl .nil pass0 rfl)) (blkOk_by (own := [("_law_box", 10), ("_law_low", 8), ("_law_extent", 9)]) (N := ["_law_made", "_law_home", "_law_begin", "_law_clips_here", "_law_homes_here", "_law_own", "_law_told", "_law_at", "_law_low", "_law_extent", "_law_box"]) (sc := defScope (topS 78)) (by decide +kernel)) (fun _ _ _ _ _ => (pg_tup rfl (pgs_cons (pg_name (i := 10) sc.nd rfl (Or.inl rfl) (Or.inr rfl)) (pgs_cons (pg_name (i := 8) sc.nd rfl (Or.inl rfl) (Or.inr rfl)) (pgs_cons (pg_name (i := 9) sc.nd rfl (Or.inl rfl) (Or.inr rfl)) pgs_nil))))) (fun _ _ _ _ _ => pts_nil) (fun _ _ _ _ _ => (pe_tup (pa_cons (pe_callTy (T := "str") (show CallR _ (.type "str") (rStrO C (spStr C) E0) from call_strO sSt iSt GSt (hr.mono (by decide)) bSt pass0) (by rfl) N.str (by decide +kernel) (pa_cons (pv 10) pa_nil)) (pa_cons (pv 8) (pa_cons (pv 9) pa_nil))))))
      (pss_one (ps_ret (pe_dG D_law_same hgd (hr.mono (by decide)) rfl (pa_cons (pe_lst (pa_cons (pv 6) (pa_cons (pe_prop (pv 0) TC.cl qRf GRf (hr.mono (by decide)) bRf .nil pass0 rfl) pa_nil))) (pa_cons (pe_lst (pa_cons (pv 5) (pa_cons (pv 2) pa_nil))) pa_nil)))))))), ?_⟩
    obtain ⟨dx, e1⟩ := aC.ob
    have lC := cf_clips h (st : Int) ct ah (exsP ks).sum
    have lH := cf_house h (st : Int) ct ah (exsP ks).sum
    have lS := cf_start h (st : Int) ct ah (exsP ks).sum
    generalize cf h (st : Int) ct ah (exsP ks).sum = fM at e1 lC lH lS
    obtain ⟨ts, hct, pk⟩ := id aC.cl
    obtain ⟨nlp, as, el, nas, pa⟩ := id hL
    have hpl := pa.length
    have hkl := pk.length
    have hml := hmo.length
    have h20 := aC.k20
    have tH := aC.hs
    obtain ⟨dh, fh, eh, _⟩ := id tH
    refine ⟨_, rfl, m, dx, fM, rfl, e1, m, dx, fM, _, rfl, e1, lC, _, _, _, _, _, rfl, .ty _, tyT hct, kit_ty (r := true) (by decide +kernel), _, rfl, ?_⟩
    refine iteF ?_
    refine ⟨_, rfl, m, dx, fM, rfl, e1, m, dx, fM, _, rfl, e1, lH, h, dh, fh, rfl, eh, h, _, rfl, tH, _, rfl, ?_⟩
    refine ⟨_, rfl, x.d, x.g, x.l, x.gs, x.rows, rfl, hx.dict, SqL.lst hx.hg, hx.ln.in, hx.fair, fun H1 s1 => ⟨rfl, _, rfl, ?_⟩⟩
    rw [decide_eq_true rfl]
    refine iteF ?_
    have el1 := s1 _ _ el
    refine ⟨_, rfl, l, rfl, ⟨_, SqL.lst el1⟩, ?_⟩
    intro D nD
    refine lc_list (K := K) (xs := as.map V.ref) (fun i H' => Same H1 H' ∧ ∃ ts : List Addr, H' D = some (.lst (ts.map V.ref)) ∧ Paired (fun a (k : PC) => SqT K H' a (pcV k)) ts (ks.take i)) ⟨same_new nD, [], upd_same, .nil⟩ (fun i H' _ ⟨s, _⟩ => SqL.lst (s _ _ el1)) ?_ ?_
    · rintro i y H2 hy ⟨sm, us, eD, pu⟩
      rw [List.getElem?_map] at hy
      obtain ⟨ai, hai, rfl⟩ := Option.map_eq_some_iff.mp hy
      obtain ⟨ci, hci, eci⟩ := paired_at pa hai
      have hlt := (List.getElem?_eq_some_iff.mp hci).1
      obtain ⟨ki, hki⟩ : ∃ ki, ks[i]? = some ki := ⟨_, List.getElem?_eq_getElem (by omega)⟩
      obtain ⟨ci', hci', ⟨⟨y, hy, ez⟩, elo, eex⟩⟩ := paired_at hmo hki
      rw [hci] at hci'
      cases hci'
      have s02 := s1.trans sm
      have hY := (hX.same s02).2.2 y (List.mem_of_getElem? hy)
      have hat : atI (xs.map fun h => V.ref h.d) ((ci.i : Nat) : Int) = some (V.ref y.d) := atI_nat (by rw [List.getElem?_map, hy]; rfl)
      have hul := pu.length
      refine ⟨ai, _, rfl, SqL.lst (s02 _ _ eci), rfl, _, _, rfl, _, _, rfl, _, _, rfl, rfl, rfl, ?_⟩
      refine ⟨_, rfl, _, rfl, a, _, _, _, rfl, rfl, SqL.lst (s02 _ _ hX.2.1), hat, y.d, y.g, y.l, y.gs, y.rows, rfl, hY.dict, SqL.lst hY.hg, hY.ln.in, hY.fair, fun H3 s3 => ?_⟩
      refine ⟨_, rfl, _, rfl, small (Nat.le_of_ble_eq_true rfl), ?_⟩
      (intro t nt; generalize e_t : upd H3 t _ = H4; have s4 : Same H3 H4 := fun b x hb => (congrFun e_t b).symm.trans (same_new nt b x hb); have h4 := (congrFun e_t t).symm.trans upd_same; clear e_t)
      have s24 := s3.trans s4
      have eD4 := s24 _ _ eD
      have h4' : H4 t = some (.tup (pcV ki)) := by
        rw [h4]
        unfold pcV
        rw [ez, elo, eex]
      refine ⟨_, eD4, smallLt (by rw [List.length_map, hul, List.length_take]; omega), same_mut (sm.trans s24) nD, us ++ [t], by rw [upd_same, List.map_append]; rfl, ?_⟩
      rw [List.take_add_one, hki]
      exact paired_app (paired_imp pu fun _ _ _ q => tupT_els eD4 els_upd (Same.seqT s24 q)) (tupT_els eD4 els_upd (SqT.tup h4'))
    rintro H2 ⟨s2, us, eD, pu⟩
    rw [List.length_map, List.take_of_length_le (by omega)] at pu
    refine g_nx ?_
    dsimp only
    have s02 := s1.trans s2
    have e2 := s02 _ _ e1
    have hct2 := Same.seqT s02 hct
    refine ⟨_, rfl, m, dx, fM, rfl, e2, m, dx, fM, _, rfl, e2, lC, ct, rfl, ⟨_, hct2⟩, ?_⟩
    intro D2 nD2
    refine lc_tup (K := K) (xs := ts.map V.ref) (fun i H' => Same H2 H' ∧ ∃ us : List Addr, H' D2 = some (.lst (us.map V.ref)) ∧ Paired (fun a (k : PC) => SqT K H' a (pcV k)) us (ks.take i)) ⟨same_new nD2, [], upd_same, .nil⟩ (fun i H' _ ⟨s, _⟩ => Same.seqT s hct2) ?_ ?_
    · rintro i y H3 hy ⟨sm, us2, eD2, pu2⟩
      rw [List.getElem?_map] at hy
      obtain ⟨ti, hti, rfl⟩ := Option.map_eq_some_iff.mp hy
      obtain ⟨ki, hki, ck⟩ := paired_at pk hti
      have hul := pu2.length
      have ck3 := (ck.same s02).same sm
      obtain ⟨dk, fk, ek, _⟩ := id ck3.2
      refine ⟨ti, _, rfl, ck3.1, rfl, _, _, rfl, _, _, rfl, _, _, rfl, rfl, rfl, ?_⟩
      refine ⟨_, rfl, ki.p, dk, fk, rfl, ek, ki.p, _, rfl, ck3.2, _, rfl, _, rfl, _, rfl, small (Nat.le_of_ble_eq_true rfl), ?_⟩
      (intro t nt; generalize e_t : upd H3 t _ = H4; have s4 : Same H3 H4 := fun b x hb => (congrFun e_t b).symm.trans (same_new nt b x hb); have h4 := (congrFun e_t t).symm.trans upd_same; clear e_t)
      have eD4 := s4 _ _ eD2
      refine ⟨_, eD4, smallLt (by rw [List.length_map, hul, List.length_take]; omega), same_mut (sm.trans s4) nD2, us2 ++ [t], by rw [upd_same, List.map_append]; rfl, ?_⟩
      rw [List.take_add_one, hki]
      exact paired_app (paired_imp pu2 fun _ _ _ q => tupT_els eD4 els_upd (Same.seqT s4 q)) (tupT_els eD4 els_upd (SqT.tup h4))
    rintro H3 ⟨s3, us2, eD2, pu2⟩
    rw [List.length_map, List.take_of_length_le (by omega)] at pu2
    refine g_nx ?_
    dsimp only
    have s03 := s02.trans s3
    have e3 := s03 _ _ e1
    refine ⟨_, rfl, _, rfl, m, dx, fM, rfl, e3, m, dx, fM, _, rfl, e3, lS, small (Nat.le_of_ble_eq_true rfl), ?_⟩
    (intro q1 nq1; generalize e_q1 : upd H3 q1 _ = H4; have s4 : Same H3 H4 := fun b x hb => (congrFun e_q1 b).symm.trans (same_new nq1 b x hb); have h4 := (congrFun e_q1 q1).symm.trans upd_same; clear e_q1)
    refine ⟨_, rfl, _, rfl, small (Nat.le_of_ble_eq_true rfl), ?_⟩
    (intro q2 nq2; generalize e_q2 : upd H4 q2 _ = H5; have s5 : Same H4 H5 := fun b x hb => (congrFun e_q2 b).symm.trans (same_new nq2 b x hb); have h5 := (congrFun e_q2 q2).symm.trans upd_same; clear e_q2)
    have s45 := s4.trans s5
    obtain ⟨f1, f2, f3, f4⟩ := isC_facts hok h20 hst
    refine ⟨.ref q1, .ref q2, isC ks st, rfl, .dp (.lst (SqL.lst (s5 _ _ h4)) (.cons (.lst (SqL.lst (s45 _ _ eD2)) (pc_dp (paired_imp pu2 fun _ _ _ q => Same.seqT s45 q))) (.cons (.int _) .nil))) f2, .dp (.lst (SqL.lst h5) (.cons (.lst (SqL.lst ((s3.trans s45) _ _ eD)) (pc_dp (paired_imp pu fun _ _ _ q => Same.seqT (s3.trans s45) q))) (.cons (.int _) .nil))) f2, f1, f3, f4, ?_⟩
    exact k H5 (s03.trans s45)
end
end LM

set_option Elab.async false
set_option linter.all false
set_option maxRecDepth 100000
set_option maxHeartbeats 4000000
set_option pp.maxSteps 600
set_option pp.deepTerms false
/-! whether frames are told -/
namespace LM
open PySem PySem.Spec PyProof.Rows L2 RZ
local macro_rules | `(tactic| walk_at "hp") => `(tactic| first | assumption | exact upd_same | (rw [upd_ne (by assumption)]; assumption) | (rw [upd_ne (Ne.symm (by assumption))]; assumption) | (rw [upd_ne (by assumption)]; exact upd_same) | (rw [upd_ne (Ne.symm (by assumption))]; exact upd_same))
local macro_rules | `(tactic| walk_at "sq") => `(tactic| first | assumption | exact Or.inl (Or.inl (by assumption)) | exact Or.inl (Or.inl upd_same) | exact Or.inl (Or.inl (by walk_at "hp")))
local macro_rules | `(tactic| walk_at "ixl") => `(tactic| refine ⟨_, _, _, _, rfl, rfl, (by walk_at "sq"), (by rfl), ?_⟩)
local macro_rules | `(tactic| walk_at "setl") => `(tactic| refine ⟨_, _, _, _, rfl, rfl, (by walk_at "hp"), (by rfl), ?_⟩)
local macro_rules | `(tactic| walk_at "side") => `(tactic| refine idP ?_; first | omega | (show (0 : Int) < _; omega) | (show (0 : Int) < _ ∧ _ < _; omega) | (refine Or.inr ?_; show (-(2 ^ 64) : Int) < _ ∧ _ < _; omega) | (refine Or.inl ?_; show (-(2 ^ 64) : Int) < _ ∧ _ < _; omega) | exact divW (by omega) (by omega) _ | (refine ⟨by decide, by decide, ?_⟩; decide))
local macro_rules | `(tactic| walk_at "go1") => `(tactic| first
  | refine ⟨_, rfl, ?_⟩
  | refine ⟨_, _, rfl, rfl, (by walk_at "side"), ?_⟩
  | refine ⟨_, _, rfl, (by walk_at "side"), ?_⟩
  | refine ⟨_, _, rfl, rfl, ?_⟩
  | refine Or.inl ⟨_, rfl, ?_⟩
  | refine ⟨_, _, rfl, Or.inl (by walk_at "sq"), ?_⟩
  | walk_at "ixl"
  | walk_at "setl"
  | refine ⟨_, _, rfl, (by walk_at "sq"), rfl, ?_⟩
  | refine ⟨_, _, rfl, (by walk_at "sq"), ?_⟩
  | refine ⟨_, _, rfl, ?_⟩
  | refine ⟨rfl, ?_⟩
  | refine ⟨small (Nat.le_of_ble_eq_true rfl), ?_⟩)
local macro_rules | `(tactic| walk_at "go") => `(tactic| repeat walk_at "go1")

abbrev s_law_looks_right : Stmt := topS 80
theorem sc_law_looks_right : FnScope ["_law_made", "_law_begin", "_law_clips_here", "_law_vase_here", "_law_behind", "_law_index_here", "_law_at", "_law_low", "_law_extent", "_law_inner"] ["_law_made", "_law_begin", "_law_clips_here", "_law_vase_here"] (defScope s_law_looks_right) := ⟨rfl, rfl, rfl, by decide +kernel, rfl, by decide +kernel, by decide +kernel⟩
def d3 (a b c : Int) : PyData := .tuple [.int a, .int b, .int c]
theorem d3_facts {a b c : Int} (ha : a.natAbs.log2 < 1920) (hb : b.natAbs.log2 < 1920) (hc : c.natAbs.log2 < 1920) : (d3 a b c).showable = true ∧ (d3 a b c).hasDict = false ∧ (d3 a b c).depth ≤ 20 ∧ (d3 a b c).shown.length ≤ sizeLine := by
  refine ⟨?_, ?_, ?_, ?_⟩
  · simp only [d3, PyData.showable, PyData.showableAll, ha, hb, hc]
    simp
  · simp [d3, PyData.hasDict, PyData.hasDictAll]
  · simp [d3, PyData.depth, PyData.depthAll]
  · have := shown_tuple_le (m := 2000) (ds := [PyData.int a, .int b, .int c]) fun d hd => by
      simp only [List.mem_cons, List.not_mem_nil, or_false] at hd
      rcases hd with rfl | rfl | rfl
      · exact int_shown ha
      · exact int_shown hb
      · exact int_shown hc
    exact Nat.le_trans this (show 3 * (2000 + 2) + 3 ≤ sizeLine by decide)
theorem sum_small {ks : List PC} {B : Nat} (h : ∀ k ∈ ks, k.ex ≤ B) : ∀ i, sumN ks i ≤ i * B := by
  intro i
  induction i with
  | zero =>
    rw [show sumN ks 0 = 0 from rfl, Nat.zero_mul]
    exact Nat.le_refl 0
  | succ i ih =>
    cases e : ks[i]? with
    | none =>
      have hl : ks.length ≤ i := List.getElem?_eq_none_iff.mp e
      have : sumN ks (i + 1) = sumN ks i := by
        unfold sumN
        rw [List.take_of_length_le hl, List.take_of_length_le (by omega)]
      rw [this, Nat.succ_mul]
      omega
    | some k =>
      have := h k (List.mem_of_getElem? e)
      rw [sumN_succ e, Nat.succ_mul]
      omega
def spLooks (K : PySem.W.Frag) (C cc : Addr) : Sp := fun vs H Q _ => ∃ (p m h ct ah l : Addr) (z : Str) (st : Nat) (ks : List PC) (cs : List CL) (xs : List LH), vs = [.ref m, .int (st : Int), .ref l, .ref p] ∧ VaseAt H p ∧ CutAt K C cc (fun q => q = p) H m h ct ah z st ks ∧ ClipsL p H l cs ∧ MadeC xs ks cs ∧ (∀ k ∈ ks, 1 ≤ k.ex ∧ k.ex ≤ 10 ^ 30 + 1 ∧ k.lo ≤ 10 ^ 33) ∧ st ≤ 10 ^ 33 ∧ ∀ H', Else p H H' → Q (.bl true) H'
section
variable {P : Program} {w : World} {K : PySem.W.Frag} {mg : Str → Option Value} {base : Heap} {C cc : Addr}
theorem ok_looks {f fLo pTo fTo : Addr} {fd fdLo fdTo : FuncData} (F : Fun K "_law_looks_right" "_law_looks_right" s_law_looks_right f fd) (TC : CutTxt K mg cc) (N : Names mg)
    (D_law_pour : DefK P w K mg base "_law_pour" ["_law_vase_here", "_law_top"] 1 spPour) (D_law_same : DefG P w K mg base "_law_same" ["_law_told", "_law_due"] 2 (spSame K))
    (mLo : Meth K cc "look" fLo) (GLo : FnOk P w K mg base CX0 3 fLo fdLo ["self", "number"] (spLook K C cc)) (bLo : Binds K fdLo ["self", "number"] [])
    (qTo : PropOf K cc "total" pTo fTo) (GTo : FnOk P w K mg base CX0 1 fTo fdTo ["self"] (getSp cc "_total")) (bTo : Binds K fdTo ["self"] []) :
    FnG P w K mg base 4 f fd ["_law_made", "_law_begin", "_law_clips_here", "_law_vase_here"] (spLooks K C cc) := by
  have sc := sc_law_looks_right
  refine funG_ok F sc (fun vs H Q E h => ?_) (fun cdv A outer s H vs Q E hgd hr h => ?_)
  · obtain ⟨p, m, h, ct, ah, l, z, st, ks, cs, xs, rfl, _⟩ := h
    rfl
  · obtain ⟨p, m, h, ct, ah, l, z, st, ks, cs, xs, rfl, hv, aC, hL, hmo, hkb, hst, k⟩ := h
    refine ⟨_, (pss_cons (ps_set (i := 4) sc.nd rfl (Or.inl rfl) pe_int)
      (pss_cons (ps_for PassesOwn.never rfl (pi_range1 rfl N.range (pa_cons (pe_callB call_len_seq (by rfl) N.len (by decide +kernel) (pa_cons (pv 2) pa_nil)) pa_nil)) (pg_name (i := 5) sc.nd rfl (Or.inl rfl)) (pss_cons (ps_asg (pe_ix ix_list (pv 2) (pv 5) (fun _ _ => rfl)) (pg_unl rfl (pgs_cons (pg_name (i := 6) sc.nd rfl (Or.inl rfl)) (pgs_cons (pg_name (i := 7) sc.nd rfl (Or.inl rfl)) (pgs_cons (pg_name (i := 8) sc.nd rfl (Or.inl rfl)) pgs_nil)))))
      (pss_cons (ps_for PassesOwn.never rfl (pi_list (pe_lst (pa_cons pe_int (pa_cons (pe_op op_sub (pv 8) pe_int) (pa_cons (pe_d D_law_pour (hr.mono (by decide)) rfl (pa_cons (pv 3) (pa_cons (pv 8) pa_nil))) pa_nil))))) (pg_name (i := 9) sc.nd rfl (Or.inl rfl)) (pss_one (ps_if (pt_not (pt_val (pe_dG D_law_same hgd (hr.mono (by decide)) rfl (pa_cons (pe_meth (pv 0) TC.cl mLo GLo (hr.mono (by decide)) bLo .nil pass0 (pa_cons (pe_op op_add (pv 4) (pv 9)) pa_nil)) (pa_cons (pe_tup (pa_cons (pv 5) (pa_cons (pe_op op_add (pv 7) (pv 9)) (pa_cons (pe_op op_add (pe_op op_add (pv 1) (pv 4)) (pv 9)) pa_nil)))) pa_nil))))) (pss_one (ps_ret pe_bl)) pss_nil)))
      (pss_one (ps_set (i := 4) sc.nd rfl (Or.inl rfl) (pe_op op_add (pv 4) (pv 8)))))))
      (pss_one (ps_ret (pe_cmpR op_eq (pe_prop (pv 0) TC.cl qTo GTo (hr.mono (by decide)) bTo .nil pass0 rfl) (pv 4) (nomark _)))))), ?_⟩
    obtain ⟨dx, e1⟩ := aC.ob
    have lT := cf_total h (st : Int) ct ah (exsP ks).sum
    have lL := cf_look h (st : Int) ct ah (exsP ks).sum
    have h20 := aC.k20
    have hml := hmo.length
    obtain ⟨nlp, as, el, nas, pa⟩ := id hL
    have hpl := pa.length
    have nmp : m ≠ p := fun y => by
      obtain ⟨_, _, _, _, _, _, q⟩ := hv
      rw [y, q] at e1
      cases e1
    obtain ⟨_, _, _, _, _, _, evy⟩ := id hv
    have hsum := sum_small (ks := ks) (B := 10 ^ 31) fun k hk => Nat.le_trans (hkb k hk).2.1 (by decide)
    refine ⟨_, rfl, l, _, rfl, .inl (SqL.lst el), _, rfl, by omega, by rw [List.length_map]; omega, ?_⟩
    rw [List.length_map, hpl]
    refine for_range (n := cs.length) (fun i σ H' => VaseAt H' p ∧ Else p H H' ∧ ∃ v5 v6 v7 v8 v9 : Option V, σ = [some (.ref m), some (.int (st : Int)), some (.ref l), some (.ref p), some (.int ((sumN ks i : Nat) : Int)), v5, v6, v7, v8, v9]) ⟨hv, Else.refl p H, _, _, _, _, _, rfl⟩ ?_ ?_
    · rintro i σ H1 hi ⟨hv1, e01, v5, v6, v7, v8, v9, rfl⟩
      refine g_nx ?_
      dsimp only
      rw [show (0 : Int) + (i : Int) = (i : Int) from Int.zero_add _]
      obtain ⟨ci, hci⟩ : ∃ ci, cs[i]? = some ci := ⟨_, List.getElem?_eq_getElem hi⟩
      obtain ⟨ki, hki⟩ : ∃ ki, ks[i]? = some ki := ⟨_, List.getElem?_eq_getElem (by omega)⟩
      obtain ⟨ai, hai⟩ : ∃ ai, as[i]? = some ai := ⟨_, List.getElem?_eq_getElem (by omega)⟩
      obtain ⟨ci', hci', eci⟩ := paired_at pa hai
      rw [hci] at hci'
      cases hci'
      obtain ⟨ci', hci', ⟨_, elo, eex⟩⟩ := paired_at hmo hki
      rw [hci] at hci'
      cases hci'
      obtain ⟨kx1, kx2, kl⟩ := hkb ki (List.mem_of_getElem? hki)
      have el1 := e01 _ _ nlp el
      have hat : atI (as.map V.ref) ((i : Nat) : Int) = some (V.ref ai) := atI_nat (by rw [List.getElem?_map, hai]; rfl)
      refine ⟨_, rfl, _, rfl, l, _, _, _, rfl, rfl, SqL.lst el1, hat, ai, _, rfl, SqL.lst (e01 _ _ (nas ai (List.mem_of_getElem? hai)) eci), rfl, _, _, rfl, _, _, rfl, _, _, rfl, rfl, ?_⟩
      dsimp only
      rw [← elo, ← eex]
      have p220 : 10 ^ 30 + 1 < 2 ^ 220 := by decide
      refine ⟨_, rfl, _, _, rfl, rfl, _, rfl, _, rfl, p, _, rfl, hv1, by omega, by omega, fun y H2 y0 y1 hv2 e2 => ?_⟩
      obtain ⟨y, rfl⟩ := nat_of y0
      refine ⟨small (Nat.le_of_ble_eq_true rfl), ?_⟩
      (intro lq nlq; generalize e_lq : upd H2 lq _ = H3; have s3 : Same H2 H3 := fun b x hb => (congrFun e_lq b).symm.trans (same_new nlq b x hb); have h3 := (congrFun e_lq lq).symm.trans upd_same; clear e_lq)
      have hv3 := hv2.same s3
      have e03 : Else p H H3 := (e01.trans e2).trans (Same.els s3)
      have hin : ∀ x ∈ [V.int 0, V.int ((ki.ex : Int) - 1), V.int (y : Int)], ∃ n : Nat, x = V.int (n : Int) ∧ n < ki.ex := by
        intro x hx
        simp only [List.mem_cons, List.not_mem_nil, or_false] at hx
        rcases hx with rfl | rfl | rfl
        · exact ⟨0, rfl, by omega⟩
        · exact ⟨ki.ex - 1, congrArg V.int (by omega), by omega⟩
        · exact ⟨y, rfl, by omega⟩
      have h3 : H3 lq = some (.lst [V.int 0, V.int ((ki.ex : Int) - 1), V.int (y : Int)]) := h3
      generalize [V.int 0, V.int ((ki.ex : Int) - 1), V.int (y : Int)] = ws at h3 hin
      have a3 := aC.els evy rfl e03
      refine ⟨lq, rfl, ⟨_, SqL.lst h3⟩, for_list (K := K) (xs := ws) (fun j σ H' => Same H3 H' ∧ ∃ v9 : Option V, σ = [some (.ref m), some (.int (st : Int)), some (.ref l), some (.ref p), some (.int ((sumN ks i : Nat) : Int)), some (.int (i : Int)), some (.int (ci.i : Int)), some (.int (ki.lo : Int)), some (.int (ki.ex : Int)), v9]) ⟨Same.refl H3, _, rfl⟩ (fun j σ H' _ ⟨s, _⟩ => SqL.lst (s _ _ h3)) ?_ ?_⟩
      · rintro j x σ H4 hx ⟨sm, v9, rfl⟩
        obtain ⟨n, rfl, hn⟩ := hin x (List.mem_of_getElem? hx)
        have a4 := a3.same sm
        have e4 := sm _ _ (e03 _ _ nmp e1)
        refine ⟨_, rfl, m, dx, _, rfl, e4, lL, _, rfl, _, rfl, _, _, rfl, rfl, (fun q => q = p), m, h, ct, ah, z, st, ks, sumN ks i + n, i, ki, congrArg (fun y => [V.ref m, V.int y]) (Int.natCast_add _ _).symm, a4, hki, by omega, by omega, fun t H5 s5 h5 => ?_⟩
        refine ⟨_, rfl, _, rfl, _, rfl, _, _, rfl, rfl, _, rfl, _, rfl, _, _, rfl, rfl, _, rfl, _, _, rfl, rfl, small (Nat.le_of_ble_eq_true rfl), ?_⟩
        (intro t2 nt2; generalize e_t2 : upd H5 t2 _ = H6; have s6 : Same H5 H6 := fun b x hb => (congrFun e_t2 b).symm.trans (same_new nt2 b x hb); have h6 := (congrFun e_t2 t2).symm.trans upd_same; clear e_t2)
        have h5' : H6 t = some (.tup [.int (i : Int), .int ((ki.lo : Int) + (n : Int)), .int ((st : Int) + ((sumN ks i : Nat) : Int) + (n : Int))]) := by
          rw [show (ki.lo : Int) + (n : Int) = (ki.lo : Int) + ((sumN ks i + n : Nat) : Int) - ((sumN ks i : Nat) : Int) by omega, show (st : Int) + ((sumN ks i : Nat) : Int) + (n : Int) = (st : Int) + ((sumN ks i + n : Nat) : Int) by omega]
          exact s6 _ _ h5
        have hsi := hsum i
        have hi20 : i * 10 ^ 31 ≤ 20 * 10 ^ 31 := Nat.mul_le_mul_right _ (by omega)
        have big : ∀ {x : Nat}, x ≤ 10 ^ 33 + 10 ^ 33 + 20 * 10 ^ 31 → ((x : Nat) : Int).natAbs.log2 < 1920 := fun {x} hx => nat_log (Nat.lt_of_le_of_lt hx (by decide))
        have hn33 : n ≤ 10 ^ 33 := Nat.le_trans (Nat.le_of_lt (Nat.lt_of_lt_of_le hn kx2)) (by decide)
        have l1 := big (x := i) (by omega)
        have l2 := big (x := ki.lo + n) (by omega)
        have l3 := big (x := st + sumN ks i + n) (by omega)
        rw [Int.natCast_add] at l2 l3
        rw [Int.natCast_add] at l3
        obtain ⟨f1, f2, f3, f4⟩ := d3_facts l1 l2 l3
        refine ⟨.ref t, .ref t2, d3 (i : Int) ((ki.lo : Int) + (n : Int)) ((st : Int) + ((sumN ks i : Nat) : Int) + (n : Int)), rfl, .dp (.tup (SqT.tup h5') (.cons (.int _) (.cons (.int _) (.cons (.int _) .nil)))) f2, .dp (.tup (SqT.tup h6) (.cons (.int _) (.cons (.int _) (.cons (.int _) .nil)))) f2, f1, f3, f4, ⟨_, rfl, ?_⟩⟩
        refine iteF ?_
        exact ⟨sm.trans (s5.trans s6), _, rfl⟩
      · rintro σ H4 ⟨sm, v9, rfl⟩
        refine ⟨_, rfl, _, rfl, _, _, rfl, rfl, ?_⟩
        refine g_nx ?_
        dsimp only
        rw [show ((sumN ks i : Nat) : Int) + (ki.ex : Int) = ((sumN ks (i + 1) : Nat) : Int) by rw [sumN_succ hki]; omega]
        exact ⟨hv3.same sm, e03.trans (Same.els sm), _, _, _, _, _, rfl⟩
    · rintro σ H1 ⟨hv1, e01, v5, v6, v7, v8, v9, rfl⟩
      refine ⟨_, rfl, m, dx, _, rfl, e01 _ _ nmp e1, m, dx, _, _, rfl, e01 _ _ nmp e1, lT, _, rfl, rfl, ?_⟩
      have e : decide (V.int (exsP ks).sum = V.int ((sumN ks cs.length : Nat) : Int)) = true := decide_eq_true (congrArg V.int (by rw [← hml, ← exs_take, List.take_of_length_le (by unfold exsP; rw [List.length_map]; exact Nat.le_refl _)]))
      rw [e]
      exact k H1 e01
end
end LM

set_option Elab.async false
set_option linter.all false
set_option maxRecDepth 100000
set_option maxHeartbeats 4000000
set_option pp.maxSteps 600
set_option pp.deepTerms false
/-! a drawn list -/
namespace LM
open PySem PySem.Spec PyProof.Rows L2 RZ
local macro_rules | `(tactic| walk_at "hp") => `(tactic| first | assumption | exact upd_same | (rw [upd_ne (by assumption)]; assumption) | (rw [upd_ne (Ne.symm (by assumption))]; assumption) | (rw [upd_ne (by assumption)]; exact upd_same) | (rw [upd_ne (Ne.symm (by assumption))]; exact upd_same))
local macro_rules | `(tactic| walk_at "sq") => `(tactic| first | assumption | exact Or.inl (Or.inl (by assumption)) | exact Or.inl (Or.inl upd_same) | exact Or.inl (Or.inl (by walk_at "hp")))
local macro_rules | `(tactic| walk_at "ixl") => `(tactic| refine ⟨_, _, _, _, rfl, rfl, (by walk_at "sq"), (by rfl), ?_⟩)
local macro_rules | `(tactic| walk_at "setl") => `(tactic| refine ⟨_, _, _, _, rfl, rfl, (by walk_at "hp"), (by rfl), ?_⟩)
local macro_rules | `(tactic| walk_at "side") => `(tactic| refine idP ?_; first | omega | (show (0 : Int) < _; omega) | (show (0 : Int) < _ ∧ _ < _; omega) | (refine Or.inr ?_; show (-(2 ^ 64) : Int) < _ ∧ _ < _; omega) | (refine Or.inl ?_; show (-(2 ^ 64) : Int) < _ ∧ _ < _; omega) | exact divW (by omega) (by omega) _ | (refine ⟨by decide, by decide, ?_⟩; decide))
local macro_rules | `(tactic| walk_at "go1") => `(tactic| first
  | refine ⟨_, rfl, ?_⟩
  | refine ⟨_, _, rfl, rfl, (by walk_at "side"), ?_⟩
  | refine ⟨_, _, rfl, (by walk_at "side"), ?_⟩
  | refine ⟨_, _, rfl, rfl, ?_⟩
  | refine Or.inl ⟨_, rfl, ?_⟩
  | refine ⟨_, _, rfl, Or.inl (by walk_at "sq"), ?_⟩
  | walk_at "ixl"
  | walk_at "setl"
  | refine ⟨_, _, rfl, (by walk_at "sq"), rfl, ?_⟩
  | refine ⟨_, _, rfl, (by walk_at "sq"), ?_⟩
  | refine ⟨_, _, rfl, ?_⟩
  | refine ⟨rfl, ?_⟩
  | refine ⟨small (Nat.le_of_ble_eq_true rfl), ?_⟩)
local macro_rules | `(tactic| walk_at "go") => `(tactic| repeat walk_at "go1")

abbrev s_law_right : Stmt := topS 81
theorem sc_law_right : FnScope ["_law_vase_here", "_law_most", "_law_homes_here", "_law_clips_here", "_law_begin", "_law_made", "_law_starts", "_law_joins", "_law_k", "_law_whole", "_law_words", "_law_at", "_law_low", "_law_extent"] ["_law_vase_here", "_law_most"] (defScope s_law_right) := ⟨rfl, rfl, rfl, by decide +kernel, rfl, by decide +kernel, by decide +kernel⟩
theorem make_cut {K : PySem.W.Frag} {C cc : Addr} {H3 : Hp} {x dx h ct : Addr} {z : Str} {st : Nat} {ks : List PC} {R : VK} {E : XK} (nx : H3 x = none) (ndx : H3 dx = none) (ht : TextAt C H3 h z) (hc : ClipsT K C H3 ct ks) (k20 : ks.length ≤ 20) (kx : ∀ k ∈ ks, 1 ≤ k.ex)
    (k : ∀ (ah : Addr) H', CutAt K C cc (fun q => H3 q ≠ none) H' x h ct ah z st ks → Same H3 H' → R .non H') :
    spCutInit K C cc (.ref x :: ([.ref h, .int (st : Int), .ref ct] ++ [])) (upd (upd H3 dx (.own x)) x (.ins cc dx [])) R E := by
  generalize e4 : upd (upd H3 dx (.own x)) x _ = H4
  have s4 : Same H3 H4 := fun c o h => (congrFun e4 c).symm.trans (by rw [upd_ne (ne_of_none h nx), upd_ne (ne_of_none h ndx)]; exact h)
  have hp4 : H4 x = some (.ins cc dx []) := (congrFun e4 x).symm.trans upd_same
  refine ⟨x, dx, h, ct, z, st, ks, rfl, hp4, ht.same s4, hc.same s4, k20, kx, fun ah H' a e => k ah H' (a.weak fun q hq z => ?_) fun c o h => e _ _ (ne_of_none h nx) (s4 _ _ h)⟩
  cases q' : H3 q with
  | none => exact hq q'
  | some o =>
    have := s4 _ _ q'
    rw [z] at this
    cases this
def startsP (ks : List PC) (st n : Nat) : List Int := (List.range n).map fun i => (st : Int) + ((sumN ks i : Nat) : Int)
theorem starts_eq (ks : List PC) (st : Nat) : ((sumsP (exsP ks)).map fun x => (st : Int) + x) = startsP ks st ks.length := by
  unfold startsP sumsP
  have e : (exsP ks).length = ks.length := List.length_map ..
  rw [e, List.map_map]
  refine List.map_congr_left fun i _ => ?_
  show (st : Int) + ((exsP ks).take i).sum = _
  rw [exs_take]
theorem go_eq {xs : List LH} {k l : PC} {c d : CL} {x y : LH} (hx : xs[c.i]? = some x) (hy : xs[d.i]? = some y) (h1 : (∃ x, xs[c.i]? = some x ∧ k.z = houseS x.gs x.rows) ∧ k.lo = c.lo ∧ k.ex = c.ex) (h2 : (∃ x, xs[d.i]? = some x ∧ l.z = houseS x.gs x.rows) ∧ l.lo = d.lo ∧ l.ex = d.ex) : goC x y c d = goB k l := by
  obtain ⟨⟨x', e1, e2⟩, e3, e4⟩ := h1
  obtain ⟨⟨y', f1, f2⟩, f3, f4⟩ := h2
  rw [hx] at e1
  cases e1
  rw [hy] at f1
  cases f1
  unfold goC goB
  rw [e2, f2, e3, e4, f3]
theorem ints_show : ∀ (ns : List Int), (∀ n ∈ ns, n.natAbs.log2 < 1920) → PyData.showableAll (ns.map PyData.int) = true ∧ PyData.hasDictAll (ns.map PyData.int) = false ∧ PyData.depthAll (ns.map PyData.int) = 0
  | [], _ => by simp [PyData.showableAll, PyData.hasDictAll, PyData.depthAll]
  | n :: ns, h => by
    obtain ⟨h1, h2, h3⟩ := ints_show ns fun m hm => h m (List.mem_cons_of_mem _ hm)
    have hn := h n List.mem_cons_self
    simp only [List.map_cons, PyData.showableAll, PyData.hasDictAll, PyData.depthAll, PyData.showable, PyData.hasDict, PyData.depth, h1, h2, h3]
    simp [hn]
def toldD (ss : List Int) (t : Int) (js : List Int) (z : Str) : PyData := .list [.tuple (ss.map PyData.int), .int t, .tuple (js.map PyData.int), .str z]
theorem told_facts {ss js : List Int} {t : Int} {z : Str} (h1 : ∀ m ∈ ss, m.natAbs.log2 < 1920) (l1 : ss.length ≤ 20) (h2 : ∀ m ∈ js, m.natAbs.log2 < 1920) (l2 : js.length ≤ 20) (ht : t.natAbs.log2 < 1920) (hz : z.length ≤ 3000) (hc : ∀ d ∈ sg z, d < 128) :
    (toldD ss t js z).showable = true ∧ (toldD ss t js z).hasDict = false ∧ (toldD ss t js z).depth ≤ 20 ∧ (toldD ss t js z).shown.length ≤ sizeLine := by
  obtain ⟨a1, a2, a3⟩ := ints_show ss h1
  obtain ⟨b1, b2, b3⟩ := ints_show js h2
  refine ⟨?_, ?_, ?_, ?_⟩
  · simp only [toldD, PyData.showable, PyData.showableAll, a1, b1, ht]
    simp
  · simp only [toldD, PyData.hasDict, PyData.hasDictAll, a2, b2]
    rfl
  · simp only [toldD, PyData.depth, PyData.depthAll, a3, b3]
    omega
  · have i2 : ∀ ns : List Int, (∀ m ∈ ns, m.natAbs.log2 < 1920) → ns.length ≤ 20 → (PyData.tuple (ns.map PyData.int)).shown.length ≤ 70000 := fun ns hn hl => by
      have := shown_tuple_le (m := 2000) (ds := ns.map PyData.int) fun d hd => by
        obtain ⟨m, hm, rfl⟩ := List.mem_map.mp hd
        exact int_shown (hn m hm)
      rw [List.length_map] at this
      omega
    have := shown_list_le (m := 70000) (ds := [PyData.tuple (ss.map PyData.int), .int t, .tuple (js.map PyData.int), .str z]) fun d hd => by
      simp only [List.mem_cons, List.not_mem_nil, or_false] at hd
      rcases hd with rfl | rfl | rfl | rfl
      · exact i2 ss h1 l1
      · exact Nat.le_trans (int_shown ht) (by decide)
      · exact i2 js h2 l2
      · exact Nat.le_trans (str_shown hz hc) (by decide)
    exact Nat.le_trans this (show 4 * (70000 + 2) + 2 ≤ sizeLine by decide)
def spRight (K : PySem.W.Frag) : Sp := fun vs H Q _ => ∃ (p : Addr), vs = [.ref p, .int 9] ∧ VaseAt H p ∧ ∀ H', Else p H H' → Q (.bl true) H'
section
variable {P : Program} {w : World} {K : PySem.W.Frag} {mg : Str → Option Value} {base : Heap} {C cc : Addr}
theorem ok_right {f fI fRp pSt fSt pJo fJo pTo fTo : Addr} {fd fdI fdRp fdSt fdJo fdTo : FuncData} (F : Fun K "_law_right" "_law_right" s_law_right f fd) (TC : CutTxt K mg cc) (T : HouseTxt K mg C) (N : Names mg)
    (D_law_pour : DefK P w K mg base "_law_pour" ["_law_vase_here", "_law_top"] 1 spPour) (D_law_pluck : DefK P w K mg base "_law_pluck" ["_law_vase_here", "_law_menu"] 2 (spPluck K)) (D_law_homes : DefK P w K mg base "_law_homes" ["_law_vase_here"] 5 (spHomes K)) (D_law_built : DefK P w K mg base "_law_built" ["_law_home"] 7 (spBuilt K C))
    (D_law_clips : DefK P w K mg base "_law_clips" ["_law_vase_here", "_law_homes_here", "_law_most"] 3 (spClips K)) (D_law_filmed : DefK P w K mg base "_law_filmed" ["_law_clips_here", "_law_homes_here"] 8 (spFilmed K C)) (D_law_is_list : DefG P w K mg base "_law_is_list" ["_law_made", "_law_home", "_law_begin", "_law_clips_here", "_law_homes_here"] 4 (spIsList K C cc)) (D_law_goes_on : DefK P w K mg base "_law_goes_on" ["_law_homes_here", "_law_early", "_law_late"] 2 (spGoesL K))
    (D_law_same : DefG P w K mg base "_law_same" ["_law_told", "_law_due"] 2 (spSame K)) (D_law_looks_right : DefG P w K mg base "_law_looks_right" ["_law_made", "_law_begin", "_law_clips_here", "_law_vase_here"] 4 (spLooks K C cc))
    (MKC : Mk K cc fI) (GIC : FnOk P w K mg base CX0 5 fI fdI ["self", "house", "frame", "clips"] (spCutInit K C cc)) (bIC : Binds K fdI ["self", "house", "frame", "clips"] [])
    (sRp : PySem.W.findIn K (.ref cc) "__repr__" = some (some (.ref fRp))) (iRp : PySem.W.isFn K (.ref fRp) = true) (GRp : FnOk P w K mg base CX0 2 fRp fdRp ["self"] (spReprC K C cc)) (bRp : Binds K fdRp ["self"] [])
    (qSt : PropOf K cc "starts" pSt fSt) (GSt : FnOk P w K mg base CX0 1 fSt fdSt ["self"] (spStarts K C cc)) (bSt : Binds K fdSt ["self"] [])
    (qJo : PropOf K cc "joins" pJo fJo) (GJo : FnOk P w K mg base CX0 3 fJo fdJo ["self"] (spJoins K C cc)) (bJo : Binds K fdJo ["self"] [])
    (qTo : PropOf K cc "total" pTo fTo) (GTo : FnOk P w K mg base CX0 1 fTo fdTo ["self"] (getSp cc "_total")) (bTo : Binds K fdTo ["self"] []) :
    FnG P w K mg base 10 f fd ["_law_vase_here", "_law_most"] (spRight K) := by
  have sc := sc_law_right
  refine funG_ok F sc (fun vs H Q E h => ?_) (fun cdv A outer s H vs Q E hgd hr h => ?_)
  · obtain ⟨p, rfl, _⟩ := h
    rfl
  · obtain ⟨p, rfl, hv, k⟩ := h
    refine ⟨_, (pss_cons (ps_set (i := 2) sc.nd rfl (Or.inl rfl) (pe_d D_law_homes (hr.mono (by decide)) rfl (pa_cons (pv 0) pa_nil)))
      (pss_cons (ps_par (i := 3) (j := 4) rfl sc.nd rfl rfl (by decide) rfl rfl (pa_cons (pe_d D_law_clips (hr.mono (by decide)) rfl (pa_cons (pv 0) (pa_cons (pv 2) (pa_cons (pv 1) pa_nil)))) (pa_cons (pe_d D_law_pluck (hr.mono (by decide)) rfl (pa_cons (pv 0) (pa_cons (pe_lst (pa_cons pe_int (pa_cons pe_int (pa_cons (pe_d D_law_pour (hr.mono (by decide)) rfl (pa_cons (pv 0) (pa_cons pe_int pa_nil))) (pa_cons (pe_op op_add (pe_op op_pow pe_int pe_int) pe_int) pa_nil))))) pa_nil))) pa_nil)) (by rfl))
      (pss_cons (ps_set (i := 5) sc.nd rfl (Or.inl rfl) (pe_make MKC GIC (hr.mono (by decide)) rfl TC.mgC bIC .nil pass0 (pa_cons (pe_d D_law_built (hr.mono (by decide)) rfl (pa_cons (pe_ix ix_list (pv 2) pe_int (fun _ _ => rfl)) pa_nil)) (pa_cons (pv 4) (pa_cons (pe_d D_law_filmed (hr.mono (by decide)) rfl (pa_cons (pv 3) (pa_cons (pv 2) pa_nil))) pa_nil)))))
      (pss_cons (ps_if (pt_not (pt_val (pe_dG D_law_is_list hgd (hr.mono (by decide)) rfl (pa_cons (pv 5) (pa_cons (pe_ix ix_list (pv 2) pe_int (fun _ _ => rfl)) (pa_cons (pv 4) (pa_cons (pv 3) (pa_cons (pv 2) pa_nil)))))))) (pss_one (ps_ret pe_bl)) pss_nil)
      (pss_cons (ps_par (i := 6) (j := 7) rfl sc.nd rfl rfl (by decide) rfl rfl (pa_cons (pe_lst pa_nil) (pa_cons (pe_lst pa_nil) pa_nil)) (by rfl))
      (pss_cons (ps_for PassesOwn.never rfl (pi_range1 rfl N.range (pa_cons (pe_callB call_len_seq (by rfl) N.len (by decide +kernel) (pa_cons (pv 3) pa_nil)) pa_nil)) (pg_name (i := 8) sc.nd rfl (Or.inl rfl)) (pss_cons (ps_expr (pe_bm PySem.F.plainAttrs_list PySem.F.slot_list_append PySem.F.type_list_append mt_append (pv 6) (pa_cons (pe_op op_add (pv 4) (pe_callB (cr_sum rfl) (by rfl) N.sum (by decide +kernel) (pa_cons (pe_lc (own := [("_law_at", 11), ("_law_low", 12), ("_law_extent", 13)]) (g := gUnl K 3 (gCons (gName 11) (gCons (gName 12) (gCons (gName 13) gNil)))) rfl sc.nd (pi_list (pe_slice sl_list (pv 3) po_none (po_some (pv 8)))) (blkOk_by (own := [("_law_at", 11), ("_law_low", 12), ("_law_extent", 13)]) (N := ["_law_vase_here", "_law_most", "_law_homes_here", "_law_clips_here", "_law_begin", "_law_made", "_law_starts", "_law_joins", "_law_k", "_law_whole", "_law_words", "_law_at", "_law_low", "_law_extent"]) (sc := defScope (topS 81)) (by decide +kernel)) (fun _ _ _ _ _ => (pg_unl rfl (pgs_cons (pg_name (i := 11) sc.nd rfl (Or.inl rfl) (Or.inr rfl)) (pgs_cons (pg_name (i := 12) sc.nd rfl (Or.inl rfl) (Or.inr rfl)) (pgs_cons (pg_name (i := 13) sc.nd rfl (Or.inl rfl) (Or.inr rfl)) pgs_nil))))) (fun _ _ _ _ _ => pts_nil) (fun _ _ _ _ _ => (pv 13))) pa_nil))) pa_nil)))
      (pss_one (ps_if (PW.pt (pw_and (pt_cmpR op_gt (pv 8) pe_int (nomark _)) (pw_and1 (pt_val (pe_d D_law_goes_on (hr.mono (by decide)) rfl (pa_cons (pv 2) (pa_cons (pe_ix ix_list (pv 3) (pe_op op_sub (pv 8) pe_int) (fun _ _ => rfl)) (pa_cons (pe_ix ix_list (pv 3) (pv 8) (fun _ _ => rfl)) pa_nil)))))))) (pss_one (ps_expr (pe_bm PySem.F.plainAttrs_list PySem.F.slot_list_append PySem.F.type_list_append mt_append (pv 7) (pa_cons (pv 8) pa_nil)))) pss_nil))))
      (pss_cons (ps_set (i := 9) sc.nd rfl (Or.inl rfl) (pe_callB (cr_sum rfl) (by rfl) N.sum (by decide +kernel) (pa_cons (pe_lc (own := [("_law_at", 11), ("_law_low", 12), ("_law_extent", 13)]) (g := gUnl K 3 (gCons (gName 11) (gCons (gName 12) (gCons (gName 13) gNil)))) rfl sc.nd (pi_list (pv 3)) (blkOk_by (own := [("_law_at", 11), ("_law_low", 12), ("_law_extent", 13)]) (N := ["_law_vase_here", "_law_most", "_law_homes_here", "_law_clips_here", "_law_begin", "_law_made", "_law_starts", "_law_joins", "_law_k", "_law_whole", "_law_words", "_law_at", "_law_low", "_law_extent"]) (sc := defScope (topS 81)) (by decide +kernel)) (fun _ _ _ _ _ => (pg_unl rfl (pgs_cons (pg_name (i := 11) sc.nd rfl (Or.inl rfl) (Or.inr rfl)) (pgs_cons (pg_name (i := 12) sc.nd rfl (Or.inl rfl) (Or.inr rfl)) (pgs_cons (pg_name (i := 13) sc.nd rfl (Or.inl rfl) (Or.inr rfl)) pgs_nil))))) (fun _ _ _ _ _ => pts_nil) (fun _ _ _ _ _ => (pv 13))) pa_nil)))
      (pss_cons (ps_set (i := 10) sc.nd rfl (Or.inl rfl) (pe_op op_add_str (pe_op op_add_str (pe_op op_add_str (pe_op op_add_str pe_str (pe_callTy (T := "str") call_str_int (by rfl) N.str (by decide +kernel) (pa_cons (pe_callB call_len_seq (by rfl) N.len (by decide +kernel) (pa_cons (pv 3) pa_nil)) pa_nil))) pe_str) (pe_callTy (T := "str") call_str_int (by rfl) N.str (by decide +kernel) (pa_cons (pv 9) pa_nil))) pe_str))
      (pss_cons (ps_if (pt_not (pt_val (pe_dG D_law_same hgd (hr.mono (by decide)) rfl (pa_cons (pe_lst (pa_cons (pe_prop (pv 5) TC.cl qSt GSt (hr.mono (by decide)) bSt .nil pass0 rfl) (pa_cons (pe_prop (pv 5) TC.cl qTo GTo (hr.mono (by decide)) bTo .nil pass0 rfl) (pa_cons (pe_prop (pv 5) TC.cl qJo GJo (hr.mono (by decide)) bJo .nil pass0 rfl) (pa_cons (pe_callB (call_reprO sRp iRp GRp (hr.mono (by decide)) bRp pass0) (by rfl) N.repr (by decide +kernel) (pa_cons (pv 5) pa_nil)) pa_nil))))) (pa_cons (pe_lst (pa_cons (pe_callTy (T := "tuple") call_tuple_of (by rfl) N.tuple (by decide +kernel) (pa_cons (pv 6) pa_nil)) (pa_cons (pv 9) (pa_cons (pe_callTy (T := "tuple") call_tuple_of (by rfl) N.tuple (by decide +kernel) (pa_cons (pv 7) pa_nil)) (pa_cons (pv 10) pa_nil))))) pa_nil))))) (pss_one (ps_ret pe_bl)) pss_nil)
      (pss_one (ps_ret (pe_dG D_law_looks_right hgd (hr.mono (by decide)) rfl (pa_cons (pv 5) (pa_cons (pv 4) (pa_cons (pv 3) (pa_cons (pv 0) pa_nil)))))))))))))))), ?_⟩
    refine ⟨_, rfl, p, rfl, hv, fun a xs H1 hX h1 h3 hv1 e1 => ?_⟩
    refine g_nx ?_
    dsimp only
    refine ⟨_, rfl, _, rfl, _, rfl, p, a, xs, 9, rfl, hv1, hX, h1, h3, by decide, fun l cs H2 hL hcl hcs hv2 e2 => ?_⟩
    refine ⟨_, rfl, _, rfl, p, _, rfl, hv2, by decide, by decide, fun y H3 y0 y1 hv3 e3 => ?_⟩
    obtain ⟨y, rfl⟩ := nat_of y0
    refine ⟨_, _, rfl, rfl, ⟨by decide, by decide, by decide⟩, _, _, rfl, rfl, Nat.le_of_ble_eq_true rfl, ?_⟩
    (intro mm nmm; generalize e_mm : upd H3 mm _ = H4; have s4 : Same H3 H4 := fun b x hb => (congrFun e_mm b).symm.trans (same_new nmm b x hb); have h4 := (congrFun e_mm mm).symm.trans upd_same; clear e_mm)
    have hv4 := hv3.same s4
    refine ⟨p, mm, _, rfl, hv4, hv3.ne nmm, SqL.lst h4, by show 0 < 4; decide, by show 4 ≤ 20000; decide, fun x H5 hx hv5 e5 => ?_⟩
    obtain ⟨st, rfl, hst⟩ : ∃ n : Nat, x = V.int (n : Int) ∧ n ≤ 10 ^ 33 := by
      have b1 : 99 ≤ 10 ^ 33 := by decide
      simp only [List.mem_cons, List.not_mem_nil, or_false] at hx
      rcases hx with rfl | rfl | rfl | rfl
      · exact ⟨0, rfl, by omega⟩
      · exact ⟨10, rfl, by omega⟩
      · exact ⟨y, rfl, by omega⟩
      · exact ⟨10 ^ 30 + 1, congrArg V.int (by decide), by decide⟩
    refine ⟨_, _, rfl, ?_⟩
    dsimp only
    have e25 : Else p H2 H5 := e3.trans ((Same.els s4).trans e5)
    have hX5 := (hX.els e2).els e25
    have hL5 := hL.els e25
    have e05 : Else p H H5 := e1.trans (e2.trans e25)
    clear e1 e2 e3 e5 e25 s4 h4 hx hv1 hv2 hv3 hv4 hX hL nmm
    obtain ⟨x0, hx0⟩ : ∃ x0, xs[0]? = some x0 := ⟨_, List.getElem?_eq_getElem (by omega)⟩
    have hat0 : atI (xs.map fun h => V.ref h.d) ((0 : Nat) : Int) = some (V.ref x0.d) := atI_nat (by rw [List.getElem?_map, hx0]; rfl)
    have hY := hX5.2.2 x0 (List.mem_of_getElem? hx0)
    refine ⟨_, rfl, a, _, _, _, rfl, rfl, SqL.lst hX5.2.1, hat0, x0.d, x0.g, x0.l, x0.gs, x0.rows, rfl, hY.dict, SqL.lst hY.hg, hY.ln.in, hY.fair, fun pm b r cs' H6 s6 npm hH => ?_⟩
    have tX := HouseAt.text hH
    refine ⟨_, rfl, _, rfl, _, rfl, p, l, a, xs, cs, rfl, hL5.same s6, hX5.same s6, fun c hc => (hcs c hc).1, by omega, fun ct ks H7 s7 hK hmo => ?_⟩
    have hml := hmo.length
    have s57 := s6.trans s7
    have hkc : ∀ k ∈ ks, (1 ≤ k.ex ∧ k.ex ≤ 10 ^ 30 + 1 ∧ k.lo ≤ 10 ^ 33) ∧ Plain k.z := fun k hk => by
      obtain ⟨i, hi⟩ := List.getElem?_of_mem hk
      obtain ⟨c, hc, ⟨⟨x, ex, ez⟩, elo, eex⟩⟩ := paired_at hmo hi
      obtain ⟨⟨q1, q2, q3⟩, q4⟩ := hcs c (List.mem_of_getElem? hc)
      rw [elo, eex, ez]
      exact ⟨⟨q2, q3, by omega⟩, fair_plain (hX5.2.2 x (List.mem_of_getElem? ex)).fair⟩
    refine fun m dx nm ndx ndx' => make_cut nm ndx (tX.same s7) hK (by omega) (fun k hk => (hkc k hk).1.1) (fun ah H8 aC s8 => ⟨rfl, ?_⟩)
    have hv8 := hv5.same (s57.trans s8)
    have hX8 := hX5.same (s57.trans s8)
    have hL8 := hL5.same (s57.trans s8)
    have a8 : CutAt K C cc (fun q => q = p) H8 m pm ct ah (houseS x0.gs x0.rows) st ks := aC.weak fun q hq => by rw [hq]; exact (hv5.same s57).hereV
    have e08 : Else p H H8 := e05.trans (Same.els (s57.trans s8))
    clear aC hX5 hL5 e05 s57 s6 s7 s8 hK tX hH hv5 npm
    refine g_nx ?_
    dsimp only
    have hok : ∀ k ∈ ks, PcOk k := fun k hk => by
      obtain ⟨⟨q1, q2, q3⟩, q4⟩ := hkc k hk
      exact ⟨q4, Nat.lt_of_le_of_lt q3 (by decide), Nat.lt_of_le_of_lt q2 (by decide)⟩
    refine ⟨_, rfl, _, rfl, a, _, _, _, rfl, rfl, SqL.lst hX8.2.1, hat0, _, rfl, _, rfl, _, rfl, (fun q => q = p), p, m, pm, ct, ah, l, a, x0, st, ks, cs, xs, rfl, a8, hX8.2.2 x0 (List.mem_of_getElem? hx0), hL8, hX8, hmo, hok, Nat.lt_of_le_of_lt hst (by decide), fun H9 s9 => ⟨_, rfl, ?_⟩⟩
    refine iteF ?_
    have hv9 := hv8.same s9
    have hX9 := hX8.same s9
    have hL9 := hL8.same s9
    have a9 := a8.same s9
    have e09 : Else p H H9 := e08.trans (Same.els s9)
    clear hv8 hX8 hL8 a8 e08 s9
    obtain ⟨nlp, as, el9, nas, pa9⟩ := id hL9
    have hpl := pa9.length
    refine ⟨Nat.le_of_ble_eq_true rfl, ?_⟩
    (intro sl nsl; generalize e_sl : upd H9 sl _ = H10; have s10 : Same H9 H10 := fun b x hb => (congrFun e_sl b).symm.trans (same_new nsl b x hb); have h10 := (congrFun e_sl sl).symm.trans upd_same; clear e_sl)
    refine ⟨Nat.le_of_ble_eq_true rfl, ?_⟩
    (intro jl njl; generalize e_jl : upd H10 jl _ = H11; have s11 : Same H10 H11 := fun b x hb => (congrFun e_jl b).symm.trans (same_new njl b x hb); have h11 := (congrFun e_jl jl).symm.trans upd_same; clear e_jl)
    have nsj : jl ≠ sl := fun z => by rw [z, h10] at njl; cases njl
    have njl9 : H9 jl = none := s10.free njl
    refine ⟨_, _, rfl, ?_⟩
    dsimp only
    have s911 := s10.trans s11
    refine ⟨_, rfl, l, _, rfl, .inl (SqL.lst (s911 _ _ el9)), _, rfl, by omega, by rw [List.length_map]; omega, ?_⟩
    rw [List.length_map, hpl]
    have hstarts : startsP ks st 0 = [] := rfl
    refine for_range (n := cs.length) (fun i σ H' => Same H9 H' ∧ H' sl = some (.lst ((startsP ks st i).map V.int)) ∧ H' jl = some (.lst ((joinsP ks (i - 1)).map V.int)) ∧ ∃ v8 v9 v10 v11 v12 v13 : Option V, σ = [some (.ref p), some (.int 9), some (.ref a), some (.ref l), some (.int (st : Int)), some (.ref m), some (.ref sl), some (.ref jl), v8, v9, v10, v11, v12, v13]) ⟨s911, s11 _ _ h10, h11, _, _, _, _, _, _, rfl⟩ ?_ ?_
    · rintro i σ H12 hi ⟨s12, esl, ejl, v8, v9, v10, v11, v12, v13, rfl⟩
      refine g_nx ?_
      dsimp only
      rw [show (0 : Int) + (i : Int) = (i : Int) from Int.zero_add _]
      have el12 := s12 _ _ el9
      have hsl : (startsP ks st i).length = i := by unfold startsP; rw [List.length_map, List.length_range]
      refine ⟨_, rfl, .inl ⟨rfl, _, SqL.lst esl⟩, _, rfl, _, rfl, _, rfl, _, rfl, l, _, rfl, SqL.lst el12, ?_⟩
      (intro cl ncl; generalize e_cl : upd H12 cl _ = H13; have s13 : Same H12 H13 := fun b x hb => (congrFun e_cl b).symm.trans (same_new ncl b x hb); have h13 := (congrFun e_cl cl).symm.trans upd_same; clear e_cl)
      rw [cut_to, ← List.map_take] at h13
      refine ⟨cl, rfl, ⟨_, SqL.lst h13⟩, ?_⟩
      intro D nD
      refine lc_list (K := K) (xs := (as.take i).map V.ref) (fun j H' => Same H13 H' ∧ H' D = some (.lst ((exsP (ks.take j)).map V.int))) ⟨same_new nD, upd_same⟩ (fun j H' _ ⟨s, _⟩ => SqL.lst (s _ _ h13)) ?_ ?_
      · rintro j x H14 hx ⟨sm, eD⟩
        rw [List.getElem?_map] at hx
        obtain ⟨aj, haj', rfl⟩ := Option.map_eq_some_iff.mp hx
        have haj : as[j]? = some aj := by
          rw [List.getElem?_take] at haj'
          split at haj'
          · exact haj'
          · cases haj'
        obtain ⟨cj, hcj, ecj⟩ := paired_at pa9 haj
        obtain ⟨kj, hkj⟩ : ∃ kj, ks[j]? = some kj := ⟨_, List.getElem?_eq_getElem (by have := (List.getElem?_eq_some_iff.mp hcj).1; omega)⟩
        obtain ⟨cj', hcj', ⟨_, _, eex⟩⟩ := paired_at hmo hkj
        rw [hcj] at hcj'
        cases hcj'
        refine ⟨aj, _, rfl, SqL.lst (sm _ _ (s13 _ _ (s12 _ _ ecj))), rfl, _, _, rfl, _, _, rfl, _, _, rfl, rfl, rfl, ?_⟩
        refine ⟨_, rfl, ?_⟩
        refine ⟨_, eD, smallLt (by unfold exsP; rw [List.length_map, List.length_map, List.length_take]; omega), same_mut sm nD, ?_⟩
        rw [upd_same]
        unfold exsP
        rw [List.take_add_one, hkj, List.map_append, List.map_append, ← eex]
        rfl
      rintro H14 ⟨s14, eD⟩
      rw [List.length_map, List.length_take, hpl, Nat.min_eq_left (Nat.le_of_lt hi)] at eD
      have es : (exsP (ks.take i)).sum = ((sumN ks i : Nat) : Int) := by
        rw [← exs_take]
        unfold exsP
        rw [List.map_take]
      refine ⟨D, _, rfl, SqL.lst eD, _, _, rfl, rfl, ?_⟩
      rw [es]
      have s1214 := s13.trans s14
      have s914 := s12.trans s1214
      refine ⟨sl, _, _, rfl, rfl, s1214 _ _ esl, smallLt (by rw [List.length_map, hsl]; omega), ?_⟩
      have ejl14 := s1214 _ _ ejl
      generalize e15 : upd H14 sl _ = H15
      have s915 : Same H9 H15 := e15 ▸ same_mut s914 nsl
      have esl15 : H15 sl = some (.lst ((startsP ks st (i + 1)).map V.int)) := by
        rw [← e15, upd_same]
        unfold startsP
        rw [List.range_succ, List.map_append, List.map_append]
        rfl
      have ejl15 : H15 jl = some (.lst ((joinsP ks (i - 1)).map V.int)) := by
        rw [← e15, upd_ne nsj]
        exact ejl14
      clear e15 ejl14 s914 s1214 eD h13 s13 s14 ejl esl s12 el12
      dsimp only
      refine ⟨_, rfl, _, _, rfl, rfl, _, rfl, ?_⟩
      by_cases h0 : 0 < i
      · refine ifB (fun _ => ?_) (fun hd => absurd (show (0 : Int) < ((i : Nat) : Int) by omega) (of_decide_eq_false hd))
        obtain ⟨j, rfl⟩ : ∃ j, i = j + 1 := ⟨i - 1, by omega⟩
        rw [Nat.add_sub_cancel] at ejl15
        obtain ⟨a1, ha1⟩ : ∃ a1, as[j]? = some a1 := ⟨_, List.getElem?_eq_getElem (by omega)⟩
        obtain ⟨a2, ha2⟩ : ∃ a2, as[j + 1]? = some a2 := ⟨_, List.getElem?_eq_getElem (by omega)⟩
        obtain ⟨c1, hc1, ec1⟩ := paired_at pa9 ha1
        obtain ⟨c2, hc2, ec2⟩ := paired_at pa9 ha2
        obtain ⟨k1, hk1⟩ : ∃ k1, ks[j]? = some k1 := ⟨_, List.getElem?_eq_getElem (by omega)⟩
        obtain ⟨k2, hk2⟩ : ∃ k2, ks[j + 1]? = some k2 := ⟨_, List.getElem?_eq_getElem (by omega)⟩
        obtain ⟨c1', hc1', m1⟩ := paired_at hmo hk1
        rw [hc1] at hc1'
        cases hc1'
        obtain ⟨c2', hc2', m2⟩ := paired_at hmo hk2
        rw [hc2] at hc2'
        cases hc2'
        obtain ⟨y1, hy1, _⟩ := m1.1
        obtain ⟨y2, hy2, _⟩ := m2.1
        have hg : goI ks j = goC y1 y2 c1 c2 := by
          rw [go_eq hy1 hy2 m1 m2]
          unfold goI
          rw [List.getD_eq_getElem?_getD, List.getD_eq_getElem?_getD, hk1, hk2]
          rfl
        have el15 := s915 _ _ el9
        have at1 : atI (as.map V.ref) (((j + 1 : Nat) : Int) - 1) = some (V.ref a1) := by
          rw [show ((j + 1 : Nat) : Int) - 1 = ((j : Nat) : Int) by omega]
          exact atI_nat (by rw [List.getElem?_map, ha1]; rfl)
        have at2 : atI (as.map V.ref) ((j + 1 : Nat) : Int) = some (V.ref a2) := atI_nat (by rw [List.getElem?_map, ha2]; rfl)
        refine ⟨_, rfl, _, rfl, _, rfl, _, _, rfl, rfl, l, _, _, _, rfl, rfl, SqL.lst el15, at1, _, rfl, _, rfl, l, _, _, _, rfl, rfl, SqL.lst el15, at2, p, a, xs, a1, a2, c1, c2, y1, y2, rfl, hX9.same s915, s915 _ _ ec1, s915 _ _ ec2, hy1, hy2, fun H16 s16 => ⟨_, rfl, ?_⟩⟩
        have ejl16 := s16 _ _ ejl15
        have esl16 := s16 _ _ esl15
        have s916 := s915.trans s16
        have hjl := joins_len ks j
        cases hb : goC y1 y2 c1 c2 with
        | true =>
          refine iteT ?_
          refine ⟨_, rfl, .inl ⟨rfl, _, SqL.lst ejl16⟩, _, rfl, jl, _, _, rfl, rfl, ejl16, smallLt (by rw [List.length_map]; omega), ?_⟩
          refine ⟨same_mut s916 njl9, by rw [upd_ne nsj.symm]; exact esl16, ?_, _, _, _, _, _, _, rfl⟩
          rw [upd_same, Nat.add_sub_cancel, joins_succ, hg, hb, if_pos rfl, List.map_append]
          rfl
        | false =>
          refine iteF ?_
          refine ⟨s916, esl16, ?_, _, _, _, _, _, _, rfl⟩
          rw [Nat.add_sub_cancel, joins_succ, hg, hb, if_neg Bool.false_ne_true, List.append_nil]
          exact ejl16
      · refine ifB (fun hd => absurd (of_decide_eq_true hd) (by omega)) (fun _ => ?_)
        have i0 : i = 0 := by omega
        subst i0
        exact ⟨s915, esl15, ejl15, _, _, _, _, _, _, rfl⟩
    · rintro σ H12 ⟨s12, esl, ejl, v8, v9, v10, v11, v12, v13, rfl⟩
      have el12 := s12 _ _ el9
      refine ⟨_, rfl, l, rfl, ⟨_, SqL.lst el12⟩, ?_⟩
      intro D nD
      refine lc_list (K := K) (xs := as.map V.ref) (fun j H' => Same H12 H' ∧ H' D = some (.lst ((exsP (ks.take j)).map V.int))) ⟨same_new nD, upd_same⟩ (fun j H' _ ⟨s, _⟩ => SqL.lst (s _ _ el12)) ?_ ?_
      · rintro j x H14 hx ⟨sm, eD⟩
        rw [List.getElem?_map] at hx
        obtain ⟨aj, haj, rfl⟩ := Option.map_eq_some_iff.mp hx
        obtain ⟨cj, hcj, ecj⟩ := paired_at pa9 haj
        obtain ⟨kj, hkj⟩ : ∃ kj, ks[j]? = some kj := ⟨_, List.getElem?_eq_getElem (by have := (List.getElem?_eq_some_iff.mp hcj).1; omega)⟩
        obtain ⟨cj', hcj', ⟨_, _, eex⟩⟩ := paired_at hmo hkj
        rw [hcj] at hcj'
        cases hcj'
        refine ⟨aj, _, rfl, SqL.lst (sm _ _ (s12 _ _ ecj)), rfl, _, _, rfl, _, _, rfl, _, _, rfl, rfl, rfl, ?_⟩
        refine ⟨_, rfl, ?_⟩
        refine ⟨_, eD, smallLt (by unfold exsP; rw [List.length_map, List.length_map, List.length_take]; omega), same_mut sm nD, ?_⟩
        rw [upd_same]
        unfold exsP
        rw [List.take_add_one, hkj, List.map_append, List.map_append, ← eex]
        rfl
      rintro H13 ⟨s13, eD⟩
      rw [List.length_map, List.take_of_length_le (by omega)] at eD
      refine ⟨D, _, rfl, SqL.lst eD, ?_⟩
      refine g_nx ?_
      dsimp only
      have s913 := s12.trans s13
      have h0t : 0 ≤ (exsP ks).sum := by rw [exs_sum]; omega
      have hsum := sum_small (ks := ks) (B := 10 ^ 31) fun k hk => Nat.le_trans (hkc k hk).1.2.1 (by decide)
      have hsn : sumN ks ks.length = ((ks.map PC.ex)).sum := by unfold sumN; rw [List.take_of_length_le (Nat.le_refl _)]
      have hkl : ks.length ≤ 9 := by omega
      have hst33 : sumN ks ks.length ≤ 10 ^ 33 := Nat.le_trans (hsum ks.length) (Nat.le_trans (Nat.mul_le_mul_right _ hkl) (by decide))
      have htn : (exsP ks).sum = ((sumN ks ks.length : Nat) : Int) := by rw [exs_sum, hsn]
      have h60 : (exsP ks).sum < 10 ^ 60 := by
        rw [htn]
        have : ((10 : Int) ^ 60) = ((10 ^ 60 : Nat) : Int) := by decide
        have b : 10 ^ 33 < 10 ^ 60 := by decide
        omega
      have l0 : ("Cutlist(" : Str).length = 8 := by decide
      have l1 : (" clips, " : Str).length = 8 := by decide
      have l2 : (" frames)" : Str).length = 8 := by decide
      have n1 := numS_len (n := ((ks.length : Nat) : Int)) (by omega) (by omega)
      have n2 := len60 h0t h60
      have na : (((as.map V.ref).length : Nat) : Int) = ((ks.length : Nat) : Int) := by rw [List.length_map, hpl, hml]
      have n1' : (toString (((as.map V.ref).length : Nat) : Int) : Str).length ≤ 62 := by rw [na]; exact n1
      have n2' : (toString (exsP ks).sum : Str).length ≤ 2000 := n2
      refine ⟨_, rfl, l, _, rfl, .inl (SqL.lst (s913 _ _ el9)), _, rfl, by rw [na]; exact small_log (by omega) (by omega), ?_⟩
      refine ⟨_, _, rfl, rfl, small (by rw [l0]; omega), ?_⟩
      refine ⟨_, _, rfl, rfl, small (by rw [Str.length_append, l0, l1]; omega), ?_⟩
      refine ⟨_, rfl, _, rfl, log60 h0t h60, ?_⟩
      refine ⟨_, _, rfl, rfl, small (by rw [Str.length_append, Str.length_append, l0, l1]; omega), ?_⟩
      refine ⟨_, _, rfl, rfl, small (by rw [Str.length_append, Str.length_append, Str.length_append, l0, l1, l2]; omega), ?_⟩
      refine g_nx ?_
      dsimp only
      have a13 := a9.same s913
      obtain ⟨dxm, em⟩ := id a13.ob
      have lT := cf_total pm (st : Int) ct ah (exsP ks).sum
      refine ⟨_, rfl, m, dxm, _, rfl, em, (fun q => q = p), m, pm, ct, ah, _, st, ks, rfl, a13, fun t1 H14 s14 ht1 => ?_⟩
      have s914 := s913.trans s14
      refine ⟨_, rfl, m, dxm, _, rfl, s14 _ _ em, m, dxm, _, _, rfl, s14 _ _ em, lT, ?_⟩
      refine ⟨_, rfl, m, dxm, _, rfl, s14 _ _ em, (fun q => q = p), m, pm, ct, ah, _, st, ks, rfl, a13.same s14, fun t2 H15 s15 ht2 => ?_⟩
      refine ⟨_, rfl, m, dxm, _, rfl, s15 _ _ (s14 _ _ em), ?_⟩
      refine ⟨(fun q => q = p), m, pm, ct, ah, _, st, ks, rfl, (a13.same s14).same s15, h60, fun H16 s16 => ⟨_, rfl, small (Nat.le_of_ble_eq_true rfl), ?_⟩⟩
      (intro q1 nq1; generalize e_q1 : upd H16 q1 _ = H17; have s17 : Same H16 H17 := fun b x hb => (congrFun e_q1 b).symm.trans (same_new nq1 b x hb); have h17 := (congrFun e_q1 q1).symm.trans upd_same; clear e_q1)
      have s1317 := s14.trans (s15.trans (s16.trans s17))
      have s1217 := s13.trans s1317
      refine ⟨_, rfl, sl, _, rfl, .inl ⟨SqL.lst (s1217 _ _ esl), ?_⟩⟩
      (intro t3 nt3; generalize e_t3 : upd H17 t3 _ = H18; have s18 : Same H17 H18 := fun b x hb => (congrFun e_t3 b).symm.trans (same_new nt3 b x hb); have h18 := (congrFun e_t3 t3).symm.trans upd_same; clear e_t3)
      refine ⟨_, rfl, _, rfl, jl, _, rfl, .inl ⟨SqL.lst ((s1217.trans s18) _ _ ejl), ?_⟩⟩
      (intro t4 nt4; generalize e_t4 : upd H18 t4 _ = H19; have s19 : Same H18 H19 := fun b x hb => (congrFun e_t4 b).symm.trans (same_new nt4 b x hb); have h19 := (congrFun e_t4 t4).symm.trans upd_same; clear e_t4)
      refine ⟨_, rfl, small (Nat.le_of_ble_eq_true rfl), ?_⟩
      (intro q2 nq2; generalize e_q2 : upd H19 q2 _ = H20; have s20 : Same H19 H20 := fun b x hb => (congrFun e_q2 b).symm.trans (same_new nq2 b x hb); have h20 := (congrFun e_q2 q2).symm.trans upd_same; clear e_q2)
      have s1720 := s18.trans (s19.trans s20)
      have eline : ("Cutlist(" : Str) ++ (toString (((as.map V.ref).length : Nat) : Int) : Str) ++ " clips, " ++ (toString (exsP ks).sum : Str) ++ " frames)" = reprC ks.length (exsP ks).sum := by
        unfold reprC
        rw [empty_app, na]
        rfl
      have h20' : H20 q2 = some (.lst [.ref t3, .int (exsP ks).sum, .ref t4, .str (reprC ks.length (exsP ks).sum)]) := by
        rw [← eline]
        exact h20
      have rS : ∀ n ∈ startsP ks st ks.length, n.natAbs.log2 < 1920 := fun n hn => by
        unfold startsP at hn
        obtain ⟨i, hi, rfl⟩ := List.mem_map.mp hn
        have h1 := hsum i
        have h2 := Nat.mul_le_mul_right (10 ^ 31) (show i ≤ 20 by have := List.mem_range.mp hi; omega)
        have h3 := nat_log (n := st + sumN ks i) (Nat.lt_of_le_of_lt (show st + sumN ks i ≤ 10 ^ 33 + 20 * 10 ^ 31 by omega) (by decide))
        rw [Int.natCast_add] at h3
        exact h3
      have rJ : ∀ n ∈ joinsP ks (ks.length - 1), n.natAbs.log2 < 1920 := fun n hn => by
        unfold joinsP at hn
        obtain ⟨i, hi, rfl⟩ := List.mem_map.mp hn
        have := List.mem_range.mp (List.mem_filter.mp hi).1
        exact small_log (by omega) (by omega)
      have rl0 : (Str.empty ++ ("Cutlist(" : Str)).length = 8 := by decide
      have hzl : (reprC ks.length (exsP ks).sum).length ≤ 3000 := by
        unfold reprC
        rw [Str.length_append, Str.length_append, Str.length_append, Str.length_append, rl0, l1, l2]
        omega
      have hzc : ∀ d ∈ sg (reprC ks.length (exsP ks).sum), d < 128 := by
        unfold reprC
        exact app_small (app_small (app_small (app_small (by decide) (num_small (by omega))) (by decide +kernel)) (num_small h0t)) (by decide +kernel)
      have sll : (startsP ks st ks.length).length ≤ 20 := by unfold startsP; rw [List.length_map, List.length_range]; omega
      obtain ⟨f1, f2, f3, f4⟩ := told_facts rS sll rJ (Nat.le_trans (joins_len ks (ks.length - 1)) (by omega)) (log60 h0t h60) hzl hzc
      rw [starts_eq] at ht1
      have hml' : cs.length = ks.length := hml.symm
      rw [hml'] at h18 h19
      have s1420 := s15.trans (s16.trans (s17.trans s1720))
      have s1520 := s16.trans (s17.trans s1720)
      refine ⟨.ref q1, .ref q2, toldD (startsP ks st ks.length) (exsP ks).sum (joinsP ks (ks.length - 1)) (reprC ks.length (exsP ks).sum), rfl,
        .dp (.lst (SqL.lst (s1720 _ _ h17)) (.cons (.tup (SqT.tup (s1420 _ _ ht1)) (dpAll_ints _)) (.cons (.int _) (.cons (.tup (SqT.tup (s1520 _ _ ht2)) (dpAll_ints _)) (.cons (.str _) .nil))))) f2,
        .dp (.lst (SqL.lst h20') (.cons (.tup (SqT.tup ((s19.trans s20) _ _ h18)) (dpAll_ints _)) (.cons (.int _) (.cons (.tup (SqT.tup (s20 _ _ h19)) (dpAll_ints _)) (.cons (.str _) .nil))))) f2, f1, f3, f4, ⟨_, rfl, ?_⟩⟩
      refine iteF ?_
      have s920 := s12.trans (s13.trans (s1317.trans s1720))
      exact ⟨_, rfl, _, rfl, _, rfl, _, rfl, p, m, pm, ct, ah, l, _, st, ks, cs, xs, rfl, hv9.same s920, a9.same s920, hL9.same s920, hmo, fun k hk => (hkc k hk).1, hst, fun H21 e21 => k H21 (e09.trans ((Same.els s920).trans e21))⟩
end
end LM

set_option Elab.async false
set_option linter.all false
set_option maxRecDepth 100000
set_option maxHeartbeats 4000000
namespace LM
open PySem PySem.Spec PyProof.Rows L2
theorem vals_rev {vs : List V} {us : List Value} (h : Vals vs us) : Vals vs.reverse us.reverse := by
  induction h with
  | nil => exact .nil
  | cons r t ih =>
    rw [List.reverse_cons, List.reverse_cons]
    exact ih.append (.cons r .nil)
/-- e.m(x = v), e the class at C, m a classmethod -/
def tCMethKw (C : Addr) (sp : Sp) (gV : List V → List V → List V) (E : XK) (ta : TE) (tk : TA) : TE := fun σ H Q => ta σ H fun x H1 => x = .ref C ∧ tk σ H1 fun zs H2 => sp (gV [.ref C] zs) H2 Q E
section
variable {X : Cx} {CX : CXT} {k : Nat} {C p g : Addr} {mc : Value} {fd : FuncData} {ps ks : List Str} {sp : Sp} {E : XK} {o : Expr} {kws : List Keyword} {m : Str} {pos apos : Pos} {ta : TE} {tk : TA} {pl : Sem Bool} {gg : List Value → List Value → List Value} {gV : List V → List V → List V}
theorem run_cmK {pins : List (Addr × Obj)} {σ : L2.St} {H : Hp} {s : Shared} {q : Addr} {Q : VK} {ws : List Value} {zs : List V} (F : FnOk X.prog X.w X.K X.mg X.base CX k g fd ps sp) (hr : Room k X.A) (hb : KBinds X.K fd ps ks gg gV) (hx : Passes CX X E)
    (I : Inv X ((q, PySem.W.methodObj (.ref g) (.ref C)) :: pins) σ H s) (rz : Vals zs ws) (h : sp (gV [.ref C] zs) H Q E) : wpAny (model X.prog X.w) X.A (call (.ref q) [] (ks.zip ws)) (EP X pins σ Q) X.xe s := by
  have r1 : Vals [V.ref C] [Value.ref C] := .cons rfl .nil
  have r2 := hb.rel r1 rz
  have hl : (gg [Value.ref C] ws).length = ps.length := by rw [← r2.length]; exact F.len _ _ _ _ h
  have z : wpAny (model X.prog X.w) X.A (call (.ref q) [] (ks.zip ws)) (EP X ((q, PySem.W.methodObj (.ref g) (.ref C)) :: pins) σ Q) X.xe s := by
    refine wpAny_call (PySem.W.method_call (ClX.pin_at I) (codeAny_mono (F.run X.A X.stack s H ⟨[Value.ref C], ks.zip ws⟩ (gg [Value.ref C] ws) (gV [.ref C] zs) Q E hr I.env0 (hb.to s _ ws I.kIn hl) r2 h) fun r s' hq => ?_))
    cases r with
    | error e => exact hx _ σ H s e s' I hq
    | ok fl =>
      cases fl with
      | ret u => exact I.after hq
      | next => exact False.elim hq
      | brk => exact False.elim hq
      | cont => exact False.elim hq
  exact thn z fun _ _ y => ClX.unpinE y
theorem pe_cmethKw (he : PE X o ta) (r : ClX.CRead X.K C mc) (c : ClX.CMet X.K C mc m p g) (F : FnOk X.prog X.w X.K X.mg X.base CX k g fd ps sp) (hr : Room k X.A) (hb : KBinds X.K fd ps ks gg gV) (hx : Passes CX X E) (hkw : PK X kws tk)
    (hall : (backToKw pos (keywordEach kws X.env)).all (·.1.isSome) = true := by rfl) (hks : (backToKw pos (keywordEach kws X.env)).filterMap (·.1) = ks := by rfl) (hpl : ((backTo pos (starEach [] X.env)).any (·.1) || (backToKw pos (keywordEach kws X.env)).any (·.1.isNone)) = false := by rfl)
    (ht : eval (.Call (.Attribute o m apos) [] kws pos) X.env = (eval o X.env >>= fun ov => standAt apos.atName >>= fun _ => holding [ov] (getMethod ov m pl) >>= fun fx => callWith pos fx.1 fx.2 (backTo pos (starEach [] X.env)) (backToKw pos (keywordEach kws X.env))) := by rfl) :
    PE X (.Call (.Attribute o m apos) [] kws pos) (tCMethKw C sp gV E ta tk) := by
  refine ⟨fun pins s σ H Q I h => ?_⟩
  refine PySem.W.methodCall_KW (pl := pl) (thn (he.run pins s σ H _ I h) fun u s1 ⟨x, H1, I1, rx, ex, q⟩ => ?_) ht
  subst ex
  obtain rfl : u = Value.ref C := rx
  refine ClX.getmethcm_ok I1 r c fun s2 I2 => ?_
  have hq := ClX.pin_at I2
  refine PySem.W.callWith_of hpl (PySem.W.keeps_M (K := X.K) (self := .ref C) c.fi) (evalArgs_kw2_nil hall (thn (hkw.run pos _ s2 σ H1 _ I2 q) fun ws s3 ⟨zs, H2, I3, rz, q2⟩ => ⟨⟨ClX.pin_at I3, I3.kIn⟩, ?_⟩))
  rw [hks]
  exact run_cmK F hr hb hx I3 rz q2
end
end LM

set_option Elab.async false
set_option linter.all false
set_option maxRecDepth 100000
set_option maxHeartbeats 4000000
set_option pp.maxSteps 600
set_option pp.deepTerms false
/-! a list of twenty clips -/
namespace LM
open PySem PySem.Spec PyProof.Rows L2 RZ
local macro_rules | `(tactic| walk_at "hp") => `(tactic| first | assumption | exact upd_same | (rw [upd_ne (by assumption)]; assumption) | (rw [upd_ne (Ne.symm (by assumption))]; assumption) | (rw [upd_ne (by assumption)]; exact upd_same) | (rw [upd_ne (Ne.symm (by assumption))]; exact upd_same))
local macro_rules | `(tactic| walk_at "sq") => `(tactic| first | assumption | exact Or.inl (Or.inl (by assumption)) | exact Or.inl (Or.inl upd_same) | exact Or.inl (Or.inl (by walk_at "hp")))
local macro_rules | `(tactic| walk_at "ixl") => `(tactic| refine ⟨_, _, _, _, rfl, rfl, (by walk_at "sq"), (by rfl), ?_⟩)
local macro_rules | `(tactic| walk_at "setl") => `(tactic| refine ⟨_, _, _, _, rfl, rfl, (by walk_at "hp"), (by rfl), ?_⟩)
local macro_rules | `(tactic| walk_at "side") => `(tactic| refine idP ?_; first | omega | (show (0 : Int) < _; omega) | (show (0 : Int) < _ ∧ _ < _; omega) | (refine Or.inr ?_; show (-(2 ^ 64) : Int) < _ ∧ _ < _; omega) | (refine Or.inl ?_; show (-(2 ^ 64) : Int) < _ ∧ _ < _; omega) | exact divW (by omega) (by omega) _ | (refine ⟨by decide, by decide, ?_⟩; decide))
local macro_rules | `(tactic| walk_at "go1") => `(tactic| first
  | refine ⟨_, rfl, ?_⟩
  | refine ⟨_, _, rfl, rfl, (by walk_at "side"), ?_⟩
  | refine ⟨_, _, rfl, (by walk_at "side"), ?_⟩
  | refine ⟨_, _, rfl, rfl, ?_⟩
  | refine Or.inl ⟨_, rfl, ?_⟩
  | refine ⟨_, _, rfl, Or.inl (by walk_at "sq"), ?_⟩
  | walk_at "ixl"
  | walk_at "setl"
  | refine ⟨_, _, rfl, (by walk_at "sq"), rfl, ?_⟩
  | refine ⟨_, _, rfl, (by walk_at "sq"), ?_⟩
  | refine ⟨_, _, rfl, ?_⟩
  | refine ⟨rfl, ?_⟩
  | refine ⟨small (Nat.le_of_ble_eq_true rfl), ?_⟩)
local macro_rules | `(tactic| walk_at "go") => `(tactic| repeat walk_at "go1")

abbrev s_law_twenty_right : Stmt := topS 82
theorem sc_law_twenty_right : FnScope ["_law_number", "_law_box", "_law_clips_here", "_law_made", "_law_told", "_law_due", "_law_k"] ["_law_number"] (defScope s_law_twenty_right) := ⟨rfl, rfl, rfl, by decide +kernel, rfl, by decide +kernel, by decide +kernel⟩
def kwS {α : Type} (us ws : List α) : List α := us ++ ws
def pcN (pm : Addr) (z : Str) (k : Nat) : PC := ⟨pm, z, 5 * k + k % 2, 5 - k % 2⟩
def ksN (pm : Addr) (z : Str) : List PC := (List.range 20).map (pcN pm z)
theorem ksN_at {pm : Addr} {z : Str} {i : Nat} (h : i < 20) : (ksN pm z)[i]? = some (pcN pm z i) := by
  unfold ksN
  rw [List.getElem?_map, List.getElem?_range h]
  rfl
theorem ksN_go {pm : Addr} {z : Str} {i : Nat} (h : i < 19) : goI (ksN pm z) i = decide ((i + 1) % 2 = 0) := by
  unfold goI
  rw [List.getD_eq_getElem?_getD, List.getD_eq_getElem?_getD, ksN_at (by omega), ksN_at (by omega)]
  show (decide (z = z) && decide (((5 * i + i % 2 : Nat) : Int) + ((5 - i % 2 : Nat) : Int) = ((5 * (i + 1) + (i + 1) % 2 : Nat) : Int))) = _
  rw [decide_eq_true rfl, Bool.true_and]
  exact decide_eq_decide.mpr (by omega)
theorem ksN_sum (pm : Addr) (z : Str) : (exsP (ksN pm z)).sum = 90 := by
  have e : exsP (ksN pm z) = (List.range 20).map (fun k => ((5 - k % 2 : Nat) : Int)) := by
    unfold exsP ksN
    rw [List.map_map]
    rfl
  rw [e]
  decide +kernel
theorem ksN_19 (pm : Addr) (z : Str) : sumN (ksN pm z) 19 = 86 := by
  have e : ((ksN pm z).take 19).map PC.ex = ((List.range 20).take 19).map (fun k => 5 - k % 2) := by
    unfold ksN
    rw [← List.map_take, List.map_map]
    rfl
  unfold sumN
  rw [e]
  decide +kernel
def d20 (st : Nat) (js : List Int) : PyData := .list [.int 90, .int ((st : Int) + 86), .tuple (js.map PyData.int), d3 19 99 ((st : Int) + 89), .int 20]
theorem d20_facts {st : Nat} {js : List Int} (hs : st < 1000) (h2 : ∀ m ∈ js, m.natAbs.log2 < 1920) (l2 : js.length ≤ 20) : (d20 st js).showable = true ∧ (d20 st js).hasDict = false ∧ (d20 st js).depth ≤ 20 ∧ (d20 st js).shown.length ≤ sizeLine := by
  obtain ⟨b1, b2, b3⟩ := ints_show js h2
  have p60 : (10 : Int) ^ 60 = 1000000000000000000000000000000000000000000000000000000000000 := by decide
  have q1 : ((st : Int) + 86).natAbs.log2 < 1920 := log60 (by omega) (by rw [p60]; omega)
  have q2 : ((st : Int) + 89).natAbs.log2 < 1920 := log60 (by omega) (by rw [p60]; omega)
  have q3 : (90 : Int).natAbs.log2 < 1920 := by decide
  have q4 : (20 : Int).natAbs.log2 < 1920 := by decide
  obtain ⟨g1, g2, g3, g4⟩ := d3_facts (a := 19) (b := 99) (by decide) (by decide) q2
  have g5 : (d3 19 99 ((st : Int) + 89)).depth ≤ 1 := by simp [d3, PyData.depth, PyData.depthAll]
  have g6 : (d3 19 99 ((st : Int) + 89)).shown.length ≤ 70000 := by
    have := shown_tuple_le (m := 2000) (ds := [PyData.int 19, .int 99, .int ((st : Int) + 89)]) fun d hd => by
      simp only [List.mem_cons, List.not_mem_nil, or_false] at hd
      rcases hd with rfl | rfl | rfl
      · exact int_shown (by decide)
      · exact int_shown (by decide)
      · exact int_shown q2
    exact Nat.le_trans this (show 3 * (2000 + 2) + 3 ≤ 70000 by decide)
  refine ⟨?_, ?_, ?_, ?_⟩
  · simp only [d20, PyData.showable, PyData.showableAll, b1, g1, q1, q3, q4]
    simp
  · simp only [d20, PyData.hasDict, PyData.hasDictAll, b2, g2]
    rfl
  · simp only [d20, PyData.depth, PyData.depthAll, b3]
    omega
  · have i2 : (PyData.tuple (js.map PyData.int)).shown.length ≤ 70000 := by
      have := shown_tuple_le (m := 2000) (ds := js.map PyData.int) fun d hd => by
        obtain ⟨m, hm, rfl⟩ := List.mem_map.mp hd
        exact int_shown (h2 m hm)
      rw [List.length_map] at this
      omega
    have := shown_list_le (m := 70000) (ds := [PyData.int 90, .int ((st : Int) + 86), .tuple (js.map PyData.int), d3 19 99 ((st : Int) + 89), .int 20]) fun d hd => by
      simp only [List.mem_cons, List.not_mem_nil, or_false] at hd
      rcases hd with rfl | rfl | rfl | rfl | rfl
      · exact Nat.le_trans (int_shown q3) (by decide)
      · exact Nat.le_trans (int_shown q1) (by decide)
      · exact i2
      · exact g6
      · exact Nat.le_trans (int_shown q4) (by decide)
    exact Nat.le_trans this (show 5 * (70000 + 2) + 2 ≤ sizeLine by decide)
def spTwenty (K : PySem.W.Frag) : Sp := fun vs H Q _ => ∃ (st : Nat), vs = [.int (st : Int)] ∧ st < 1000 ∧ ∀ H', Same H H' → Q (.bl true) H'
section
variable {P : Program} {w : World} {K : PySem.W.Frag} {mg : Str → Option Value} {base : Heap} {C cc : Addr}
theorem ok_twenty {f fH fI pSt fSt pJo fJo pTo fTo pCl fCl fLo e0 : Addr} {fd fdH fdI fdSt fdJo fdTo fdCl fdLo : FuncData} {ds2 : List Value} (F : Fun K "_law_twenty_right" "_law_twenty_right" s_law_twenty_right f fd) (TC : CutTxt K mg cc) (T : HouseTxt K mg C) (N : Names mg)
    (D_law_same : DefG P w K mg base "_law_same" ["_law_told", "_law_due"] 2 (spSame K))
    (MK : Mk K C fH) (GI : FnOk P w K mg base CX0 5 fH fdH ["self", "bases", "rows"] (spInit K C)) (bI : Binds K fdH ["self", "bases", "rows"] [])
    (MKC : Mk K cc fI) (GIC : FnOk P w K mg base CX0 5 fI fdI ["self", "house", "frame", "clips"] (spCutInit K C cc)) (bIC : Binds K fdI ["self", "house", "frame", "clips"] []) (bIC2 : Binds K fdI ["self", "house", "frame", "clips"] ds2) (hd2 : Vals [V.ref e0] ds2) (hE : ∀ H, SqT K H e0 []) (kIC : KBn K fdI ["self", "house", "frame", "clips"] 1 ["house", "frame", "clips"] kwS kwS)
    (qSt : PropOf K cc "starts" pSt fSt) (GSt : FnOk P w K mg base CX0 1 fSt fdSt ["self"] (spStarts K C cc)) (bSt : Binds K fdSt ["self"] [])
    (qJo : PropOf K cc "joins" pJo fJo) (GJo : FnOk P w K mg base CX0 3 fJo fdJo ["self"] (spJoins K C cc)) (bJo : Binds K fdJo ["self"] [])
    (qTo : PropOf K cc "total" pTo fTo) (GTo : FnOk P w K mg base CX0 1 fTo fdTo ["self"] (getSp cc "_total")) (bTo : Binds K fdTo ["self"] [])
    (qCl : PropOf K cc "clips" pCl fCl) (GCl : FnOk P w K mg base CX0 1 fCl fdCl ["self"] (getSp cc "_clips")) (bCl : Binds K fdCl ["self"] [])
    (mLo : Meth K cc "look" fLo) (GLo : FnOk P w K mg base CX0 3 fLo fdLo ["self", "number"] (spLook K C cc)) (bLo : Binds K fdLo ["self", "number"] []) :
    FnG P w K mg base 7 f fd ["_law_number"] (spTwenty K) := by
  have sc := sc_law_twenty_right
  refine funG_ok F sc (fun vs H Q E h => ?_) (fun cdv A outer s H vs Q E hgd hr h => ?_)
  · obtain ⟨st, rfl, _⟩ := h
    rfl
  · obtain ⟨st, rfl, hst, k⟩ := h
    refine ⟨_, (pss_cons (ps_set (i := 1) sc.nd rfl (Or.inr rfl) (pe_make MK GI (hr.mono (by decide)) rfl T.mgC bI .nil pass0 (pa_cons (pe_tup (pa_cons pe_int (pa_cons pe_int pa_nil))) (pa_cons (pe_tup (pa_cons (pe_tup (pa_cons pe_int (pa_cons pe_int (pa_cons pe_int pa_nil)))) pa_nil)) pa_nil))))
      (pss_cons (ps_set (i := 2) sc.nd rfl (Or.inl rfl) (pe_callTy (T := "tuple") call_tuple_of (by rfl) N.tuple (by decide +kernel) (pa_cons (pe_lc (own := [("_law_k", 6)]) rfl sc.nd (pi_range1 rfl N.range (pa_cons pe_int pa_nil)) (blkOk_by (own := [("_law_k", 6)]) (N := ["_law_number", "_law_box", "_law_clips_here", "_law_made", "_law_told", "_law_due", "_law_k"]) (sc := defScope (topS 82)) (by decide +kernel)) (fun _ _ _ _ _ => (pg_name (i := 6) sc.nd rfl (Or.inl rfl))) (fun _ _ _ _ _ => pts_nil) (fun _ _ _ _ _ => (pe_tup (pa_cons (pv 1) (pa_cons (pe_op op_add (pe_op op_mul pe_int (pv 6)) (pe_op op_mod (pe_callTy (T := "int") call_int1 (by rfl) N.int (by decide +kernel) (pa_cons (pv 6) pa_nil)) pe_int)) (pa_cons (pe_op op_sub pe_int (pe_op op_mod (pe_callTy (T := "int") call_int1 (by rfl) N.int (by decide +kernel) (pa_cons (pv 6) pa_nil)) pe_int)) pa_nil)))))) pa_nil)))
      (pss_cons (ps_set (i := 3) sc.nd rfl (Or.inl rfl) (pe_make MKC GIC (hr.mono (by decide)) rfl TC.mgC bIC .nil pass0 (pa_cons (pv 1) (pa_cons (pv 0) (pa_cons (pv 2) pa_nil)))))
      (pss_cons (ps_set (i := 4) sc.nd rfl (Or.inl rfl) (pe_lst (pa_cons (pe_prop (pv 3) TC.cl qTo GTo (hr.mono (by decide)) bTo .nil pass0 rfl) (pa_cons (pe_ix ix_tup (pe_prop (pv 3) TC.cl qSt GSt (hr.mono (by decide)) bSt .nil pass0 rfl) pe_int (fun _ _ => rfl)) (pa_cons (pe_prop (pv 3) TC.cl qJo GJo (hr.mono (by decide)) bJo .nil pass0 rfl) (pa_cons (pe_meth (pv 3) TC.cl mLo GLo (hr.mono (by decide)) bLo .nil pass0 (pa_cons pe_int pa_nil)) (pa_cons (pe_callB call_len_seq (by rfl) N.len (by decide +kernel) (pa_cons (pe_prop (pv 3) TC.cl qCl GCl (hr.mono (by decide)) bCl .nil pass0 rfl) pa_nil)) pa_nil)))))))
      (pss_cons (ps_set (i := 5) sc.nd rfl (Or.inl rfl) (pe_lst (pa_cons pe_int (pa_cons (pe_op op_add (pv 0) pe_int) (pa_cons (pe_callTy (T := "tuple") call_tuple_of (by rfl) N.tuple (by decide +kernel) (pa_cons (pe_lc (own := [("_law_k", 6)]) rfl sc.nd (pi_range2 rfl N.range (pa_cons pe_int (pa_cons pe_int pa_nil))) (blkOk_by (own := [("_law_k", 6)]) (N := ["_law_number", "_law_box", "_law_clips_here", "_law_made", "_law_told", "_law_due", "_law_k"]) (sc := defScope (topS 82)) (by decide +kernel)) (fun _ _ _ _ _ => (pg_name (i := 6) sc.nd rfl (Or.inl rfl))) (fun _ _ _ _ _ => (pts_one (pt_cmpR op_eq (pe_op op_mod (pe_callTy (T := "int") call_int1 (by rfl) N.int (by decide +kernel) (pa_cons (pv 6) pa_nil)) pe_int) pe_int (nomark _)))) (fun _ _ _ _ _ => (pv 6))) pa_nil)) (pa_cons (pe_tup (pa_cons pe_int (pa_cons pe_int (pa_cons (pe_op op_add (pv 0) pe_int) pa_nil)))) (pa_cons pe_int pa_nil)))))))
      (pss_one (ps_ret (pe_and (pe_dG D_law_same hgd (hr.mono (by decide)) rfl (pa_cons (pv 4) (pa_cons (pv 5) pa_nil))) (pe_and (pe_cmpR (op_eqD (hu64 hr)) (pe_prop (pe_make MKC GIC (hr.mono (by decide)) rfl TC.mgC bIC2 hd2 pass0 (pa_cons (pv 1) (pa_cons pe_int pa_nil))) TC.cl qCl GCl (hr.mono (by decide)) bCl .nil pass0 rfl) (pe_tup pa_nil) (nomark _)) (pe_one (pe_cmpR op_eq (pe_prop (pe_makeK0 MKC GIC (hr.mono (by decide)) rfl TC.mgC kIC pass0 (pk_cons (pv 1) (pk_cons pe_int (pk_cons (pe_tup pa_nil) pk_nil)))) TC.cl qTo GTo (hr.mono (by decide)) bTo .nil pass0 rfl) pe_int (nomark _)))))))))))), ?_⟩
    refine ⟨Nat.le_of_ble_eq_true rfl, ?_⟩
    (intro ba nba; generalize e_ba : upd H ba _ = H1; have s1 : Same H H1 := fun b x hb => (congrFun e_ba b).symm.trans (same_new nba b x hb); have h1 := (congrFun e_ba ba).symm.trans upd_same; clear e_ba)
    refine ⟨Nat.le_of_ble_eq_true rfl, ?_⟩
    (intro ra nra; generalize e_ra : upd H1 ra _ = H2; have s2 : Same H1 H2 := fun b x hb => (congrFun e_ra b).symm.trans (same_new nra b x hb); have h2 := (congrFun e_ra ra).symm.trans upd_same; clear e_ra)
    refine ⟨Nat.le_of_ble_eq_true rfl, ?_⟩
    (intro rr nrr; generalize e_rr : upd H2 rr _ = H3; have s3 : Same H2 H3 := fun b x hb => (congrFun e_rr b).symm.trans (same_new nrr b x hb); have h3 := (congrFun e_rr rr).symm.trans upd_same; clear e_rr)
    intro pm dt npm ndt ndp
    generalize e4 : upd (upd H3 dt (.own pm)) pm _ = H4
    have s4 : Same H3 H4 := fun c o h => (congrFun e4 c).symm.trans (by rw [upd_ne (ne_of_none h npm), upd_ne (ne_of_none h ndt)]; exact h)
    have hp4 : H4 pm = some (.ins C dt []) := (congrFun e4 pm).symm.trans upd_same
    have fr : Fair [3, 5] [(1, 2, 1)] := ⟨by decide, by decide, by decide, by decide, fun x hx => by rw [List.mem_singleton.mp hx]; exact ⟨by decide, by decide, by decide, by decide, by decide, by decide⟩, by decide⟩
    have hba : SqT K H4 ba (([3, 5] : List Int).map V.int) := SqT.tup (s4 _ _ (s3 _ _ (s2 _ _ h1)))
    have hrr : RowsAt K H4 rr [(1, 2, 1)] := ⟨[ra], SqT.tup (s4 _ _ h3), .cons (SqT.tup (s4 _ _ (s3 _ _ h2))) .nil⟩
    refine ⟨pm, dt, ba, rr, [3, 5], [(1, 2, 1)], rfl, hp4, hba, hrr, fr, fun cs H5 hH e5 => ⟨rfl, ?_⟩⟩
    have s05 : Same H H5 := fun c o h => e5 _ _ (ne_of_none ((s1.trans (s2.trans s3)) _ _ h) npm) (s4 _ _ ((s1.trans (s2.trans s3)) _ _ h))
    have tX := HouseAt.text hH
    clear e4 e5 s4 hp4 hba hrr h1 h2 h3 s1 s2 s3 hH
    generalize houseS [3, 5] [(1, 2, 1)] = z at tX
    refine g_nx ?_
    dsimp only
    refine ⟨_, rfl, by decide, by decide, ?_⟩
    intro D nD
    refine lc_range (n := 20) (fun i H' => Same H5 H' ∧ ∃ ts : List Addr, H' D = some (.lst (ts.map V.ref)) ∧ Paired (fun a (k : PC) => ClipAt K C H' a k) ts ((List.range i).map (pcN pm z))) ⟨same_new nD, [], upd_same, .nil⟩ ?_ ?_
    · rintro i H6 hi ⟨sm, ts, eD, pk⟩
      have htl := pk.length
      rw [List.length_map, List.length_range] at htl
      refine ⟨rfl, ?_⟩
      rw [show (0 : Int) + (i : Int) = (i : Int) from Int.zero_add _]
      refine ⟨_, rfl, _, rfl, _, _, rfl, rfl, .inl ⟨by decide, by decide⟩, _, rfl, .inl ⟨_, rfl, _, _, rfl, rfl, (show (0 : Int) < 2 by decide), _, _, rfl, rfl, ?_⟩⟩
      refine ⟨_, rfl, .inl ⟨_, rfl, _, _, rfl, rfl, (show (0 : Int) < 2 by decide), _, _, rfl, rfl, small (Nat.le_of_ble_eq_true rfl), ?_⟩⟩
      (intro t nt; generalize e_t : upd H6 t _ = H7; have s7 : Same H6 H7 := fun b x hb => (congrFun e_t b).symm.trans (same_new nt b x hb); have h7 := (congrFun e_t t).symm.trans upd_same; clear e_t)
      have eD7 := s7 _ _ eD
      have h7' : H7 t = some (.tup (pcN pm z i).vs) := by
        rw [h7]
        have e1 : (5 : Int) * (i : Int) + (i : Int) % 2 = ((5 * i + i % 2 : Nat) : Int) := by omega
        have e2 : (5 : Int) - (i : Int) % 2 = ((5 - i % 2 : Nat) : Int) := by omega
        show some (HO.tup [V.ref pm, V.int ((5 : Int) * (i : Int) + (i : Int) % 2), V.int ((5 : Int) - (i : Int) % 2)]) = _
        rw [e1, e2]
        rfl
      have ck : ClipAt K C H7 t (pcN pm z i) := ⟨SqT.tup h7', (tX.same sm).same s7⟩
      refine ⟨_, eD7, smallLt (by rw [List.length_map, htl]; omega), same_mut (sm.trans s7) nD, ts ++ [t], by rw [upd_same, List.map_append]; rfl, ?_⟩
      rw [List.range_succ, List.map_append]
      exact paired_app (paired_imp pk fun _ _ _ q => ⟨tupT_els eD7 els_upd (Same.seqT s7 q.1), (q.2.same s7).els eD7 els_upd⟩) ⟨tupT_els eD7 els_upd ck.1, ck.2.els eD7 els_upd⟩
    rintro H6 ⟨s6, ts, eD, pk⟩
    refine ⟨D, _, rfl, .inl ⟨SqL.lst eD, ?_⟩⟩
    (intro ct nct; generalize e_ct : upd H6 ct _ = H7; have s7 : Same H6 H7 := fun b x hb => (congrFun e_ct b).symm.trans (same_new nct b x hb); have h7 := (congrFun e_ct ct).symm.trans upd_same; clear e_ct)
    have hK : ClipsT K C H7 ct (ksN pm z) := ⟨ts, SqT.tup h7, paired_imp pk fun _ _ _ q => q.same s7⟩
    have s57 := s6.trans s7
    have kx : ∀ k ∈ ksN pm z, 1 ≤ k.ex := fun k hk => by
      unfold ksN at hk
      obtain ⟨i, hi, rfl⟩ := List.mem_map.mp hk
      show 1 ≤ 5 - i % 2
      omega
    have kl : (ksN pm z).length = 20 := by unfold ksN; rw [List.length_map, List.length_range]
    refine g_nx ?_
    dsimp only
    refine ⟨_, rfl, _, rfl, _, rfl, ?_⟩
    refine fun m dx nm ndx ndx' => make_cut nm ndx (tX.same s57) hK (by omega) kx (fun ah H8 aC s8 => ⟨rfl, ?_⟩)
    have s58 := s57.trans s8
    have hsum := ksN_sum pm z
    have hs19 := ksN_19 pm z
    obtain ⟨dxm, em⟩ := id aC.ob
    have lT := cf_total pm (st : Int) ct ah (exsP (ksN pm z)).sum
    have lC := cf_clips pm (st : Int) ct ah (exsP (ksN pm z)).sum
    have lL := cf_look pm (st : Int) ct ah (exsP (ksN pm z)).sum
    rw [hsum] at em lT lC lL
    refine g_nx ?_
    dsimp only
    refine ⟨_, rfl, m, dxm, _, rfl, em, m, dxm, _, _, rfl, em, lT, ?_⟩
    refine ⟨_, rfl, m, dxm, _, rfl, em, _, m, pm, ct, ah, z, st, ksN pm z, rfl, aC, fun t1 H9 s9 ht1 => ?_⟩
    rw [starts_eq, kl] at ht1
    have hat19 : atI ((startsP (ksN pm z) st 20).map V.int) ((19 : Nat) : Int) = some (V.int ((st : Int) + 86)) := atI_nat (by
      unfold startsP
      rw [List.getElem?_map, List.getElem?_map, List.getElem?_range (by decide)]
      show some (V.int ((st : Int) + ((sumN (ksN pm z) 19 : Nat) : Int))) = _
      rw [hs19]
      rfl)
    refine ⟨t1, _, _, _, rfl, rfl, SqT.tup ht1, hat19, ?_⟩
    refine ⟨_, rfl, m, dxm, _, rfl, s9 _ _ em, _, m, pm, ct, ah, z, st, ksN pm z, rfl, aC.same s9, fun t2 H10 s10 ht2 => ?_⟩
    rw [kl] at ht2
    have s810 := s9.trans s10
    refine ⟨_, rfl, m, dxm, _, rfl, s810 _ _ em, lL, _, m, pm, ct, ah, z, st, ksN pm z, 89, 19, pcN pm z 19, rfl, aC.same s810, ksN_at (by decide), by rw [hs19]; decide, by rw [hs19]; show 89 < 86 + (5 - 19 % 2); decide, fun t3 H11 s11 ht3 => ?_⟩
    have ht3 : H11 t3 = some (.tup [.int 19, .int 99, .int ((st : Int) + 89)]) := by
      rw [ht3, hs19]
      rfl
    have s811 := s810.trans s11
    obtain ⟨as11, hct11, pk11⟩ := (aC.same s811).cl
    have h20 : as11.length = 20 := by rw [pk11.length, kl]
    refine ⟨_, rfl, m, dxm, _, rfl, s811 _ _ em, m, dxm, _, _, rfl, s811 _ _ em, lC, ct, _, rfl, .inr hct11, small (Nat.le_of_ble_eq_true rfl), ?_⟩
    rw [List.length_map, h20]
    (intro q1 nq1; generalize e_q1 : upd H11 q1 _ = H12; have s12 : Same H11 H12 := fun b x hb => (congrFun e_q1 b).symm.trans (same_new nq1 b x hb); have h12 := (congrFun e_q1 q1).symm.trans upd_same; clear e_q1)
    refine g_nx ?_
    dsimp only
    refine ⟨_, rfl, _, _, rfl, rfl, _, _, rfl, ⟨by decide, by decide, by decide, by decide⟩, ?_⟩
    intro D2 nD2
    rw [show ((20 : Int) - 1).toNat = 19 by decide]
    refine lc_range (n := 19) (fun i H' => Same H12 H' ∧ H' D2 = some (.lst ((joinsP (ksN pm z) i).map V.int))) ⟨same_new nD2, upd_same⟩ ?_ ?_
    · rintro i H13 hi ⟨sm, eD⟩
      have hjl := joins_len (ksN pm z) i
      refine ⟨rfl, ?_⟩
      rw [show (1 : Int) + (i : Int) = ((i + 1 : Nat) : Int) by omega]
      refine ⟨_, rfl, .inl ⟨_, rfl, _, _, rfl, rfl, (show (0 : Int) < 2 by decide), ?_⟩⟩
      refine ⟨rfl, _, rfl, ?_⟩
      have hgo := ksN_go (pm := pm) (z := z) hi
      have ej := joins_succ (ksN pm z) i
      by_cases h0 : (i + 1) % 2 = 0
      · have e : decide (V.int (((i + 1 : Nat) : Int) % 2) = V.int 0) = true := decide_eq_true (congrArg V.int (by omega))
        show if decide (V.int (((i + 1 : Nat) : Int) % 2) = V.int 0) = true then _ else _
        rw [e, if_pos rfl]
        refine ⟨_, rfl, ?_⟩
        refine ⟨_, eD, smallLt (by rw [List.length_map]; omega), same_mut sm nD2, ?_⟩
        rw [upd_same, ej, hgo, decide_eq_true h0, if_pos rfl, List.map_append]
        rfl
      · have e : decide (V.int (((i + 1 : Nat) : Int) % 2) = V.int 0) = false := decide_eq_false (fun h => h0 (by have := V.int.inj h; omega))
        show if decide (V.int (((i + 1 : Nat) : Int) % 2) = V.int 0) = true then _ else _
        rw [e, if_neg Bool.false_ne_true]
        refine ⟨sm, ?_⟩
        rw [ej, hgo, decide_eq_false h0, if_neg Bool.false_ne_true, List.append_nil]
        exact eD
    rintro H13 ⟨s13, eJ⟩
    refine ⟨D2, _, rfl, .inl ⟨SqL.lst eJ, ?_⟩⟩
    (intro t4 nt4; generalize e_t4 : upd H13 t4 _ = H14; have s14 : Same H13 H14 := fun b x hb => (congrFun e_t4 b).symm.trans (same_new nt4 b x hb); have h14 := (congrFun e_t4 t4).symm.trans upd_same; clear e_t4)
    refine ⟨_, rfl, _, _, rfl, rfl, small (Nat.le_of_ble_eq_true rfl), ?_⟩
    (intro t5 nt5; generalize e_t5 : upd H14 t5 _ = H15; have s15 : Same H14 H15 := fun b x hb => (congrFun e_t5 b).symm.trans (same_new nt5 b x hb); have h15 := (congrFun e_t5 t5).symm.trans upd_same; clear e_t5)
    refine ⟨small (Nat.le_of_ble_eq_true rfl), ?_⟩
    (intro q2 nq2; generalize e_q2 : upd H15 q2 _ = H16; have s16 : Same H15 H16 := fun b x hb => (congrFun e_q2 b).symm.trans (same_new nq2 b x hb); have h16 := (congrFun e_q2 q2).symm.trans upd_same; clear e_q2)
    have s1216 := s13.trans (s14.trans (s15.trans s16))
    have hj2 : ∀ n ∈ joinsP (ksN pm z) 19, n.natAbs.log2 < 1920 := fun n hn => by
      unfold joinsP at hn
      obtain ⟨i, hi, rfl⟩ := List.mem_map.mp hn
      have := List.mem_range.mp (List.mem_filter.mp hi).1
      exact small_log (by omega) (by omega)
    obtain ⟨f1, f2, f3, f4⟩ := d20_facts hst hj2 (Nat.le_trans (joins_len (ksN pm z) 19) (by decide))
    have s1016 := s11.trans (s12.trans s1216)
    refine g_nx ?_
    dsimp only
    refine ⟨_, rfl, _, rfl, .ref q1, .ref q2, d20 st (joinsP (ksN pm z) 19), rfl,
      .dp (.lst (SqL.lst (s1216 _ _ h12)) (.cons (.int _) (.cons (.int _) (.cons (.tup (SqT.tup (s1016 _ _ ht2)) (dpAll_ints _)) (.cons (.tup (SqT.tup ((s12.trans s1216) _ _ ht3)) (.cons (.int _) (.cons (.int _) (.cons (.int _) .nil)))) (.cons (.int _) .nil)))))) f2,
      .dp (.lst (SqL.lst h16) (.cons (.int _) (.cons (.int _) (.cons (.tup (SqT.tup ((s15.trans s16) _ _ h14)) (dpAll_ints _)) (.cons (.tup (SqT.tup (s16 _ _ h15)) (.cons (.int _) (.cons (.int _) (.cons (.int _) .nil)))) (.cons (.int _) .nil)))))) f2, f1, f3, f4, ?_⟩
    refine ⟨_, rfl, ?_⟩
    refine iteT ?_
    have s516 := (s58.trans s810).trans s1016
    refine ⟨_, rfl, ?_⟩
    intro m2 dx2 nm2 ndx2 _
    have hE0 : ClipsT K C H16 e0 [] := ⟨[], hE H16, .nil⟩
    have noex : ∀ k ∈ ([] : List PC), 1 ≤ k.ex := fun k hk => nomatch hk
    refine make_cut (st := 3) (ks := []) nm2 ndx2 (tX.same s516) hE0 (by decide) noex (fun ah2 H17 aC2 s17 => ⟨rfl, ?_⟩)
    obtain ⟨dxm2, em2⟩ := id aC2.ob
    have lC2 := cf_clips pm ((3 : Nat) : Int) e0 ah2 (exsP []).sum
    refine ⟨m2, dxm2, _, rfl, em2, m2, dxm2, _, _, rfl, em2, lC2, Nat.le_of_ble_eq_true rfl, ?_⟩
    (intro t6 nt6; generalize e_t6 : upd H17 t6 _ = H18; have s18 : Same H17 H18 := fun b x hb => (congrFun e_t6 b).symm.trans (same_new nt6 b x hb); have h18 := (congrFun e_t6 t6).symm.trans upd_same; clear e_t6)
    refine ⟨_, _, .tup (hE H18) (dpAll_ints []), .tup (SqT.tup h18) (dpAll_ints []), shaped_intsT [], shaped_intsT [], _, rfl, ?_⟩
    refine iteT ?_
    refine ⟨_, rfl, Nat.le_of_ble_eq_true rfl, ?_⟩
    (intro t7 nt7; generalize e_t7 : upd H18 t7 _ = H19; have s19 : Same H18 H19 := fun b x hb => (congrFun e_t7 b).symm.trans (same_new nt7 b x hb); have h19 := (congrFun e_t7 t7).symm.trans upd_same; clear e_t7)
    refine ⟨rfl, rfl, fun m3 dx3 nm3 ndx3 _ => ?_⟩
    have s519 := s516.trans (s17.trans (s18.trans s19))
    have hE7 : ClipsT K C H19 t7 [] := ⟨[], SqT.tup h19, .nil⟩
    refine make_cut (st := 3) (ks := []) nm3 ndx3 (tX.same s519) hE7 (by decide) noex (fun ah3 H20 aC3 s20 => ⟨rfl, ?_⟩)
    obtain ⟨dxm3, em3⟩ := id aC3.ob
    have lT3 := cf_total pm ((3 : Nat) : Int) t7 ah3 (exsP []).sum
    refine ⟨m3, dxm3, _, rfl, em3, m3, dxm3, _, _, rfl, em3, lT3, rfl, ?_⟩
    have e : decide (V.int (exsP []).sum = V.int 0) = true := by decide
    rw [e]
    exact k H20 (s05.trans (s519.trans s20))
end
end LM

set_option Elab.async false
set_option linter.all false
set_option maxRecDepth 100000
set_option maxHeartbeats 4000000
set_option pp.maxSteps 600
set_option pp.deepTerms false
namespace LM
open PySem PySem.Spec PyProof.Rows L2
local macro_rules | `(tactic| walk_at "hp") => `(tactic| first | assumption | exact upd_same | (rw [upd_ne (by assumption)]; assumption) | (rw [upd_ne (Ne.symm (by assumption))]; assumption) | (rw [upd_ne (by assumption)]; exact upd_same) | (rw [upd_ne (Ne.symm (by assumption))]; exact upd_same))
local macro_rules | `(tactic| walk_at "sq") => `(tactic| first | assumption | exact Or.inl (Or.inl (by assumption)) | exact Or.inl (Or.inl upd_same) | exact Or.inl (Or.inl (by walk_at "hp")))
local macro_rules | `(tactic| walk_at "ixl") => `(tactic| refine ⟨_, _, _, _, rfl, rfl, (by walk_at "sq"), (by rfl), ?_⟩)
local macro_rules | `(tactic| walk_at "setl") => `(tactic| refine ⟨_, _, _, _, rfl, rfl, (by walk_at "hp"), (by rfl), ?_⟩)
local macro_rules | `(tactic| walk_at "side") => `(tactic| refine idP ?_; first | omega | (show (0 : Int) < _; omega) | (show (0 : Int) < _ ∧ _ < _; omega) | (refine Or.inr ?_; show (-(2 ^ 64) : Int) < _ ∧ _ < _; omega) | (refine Or.inl ?_; show (-(2 ^ 64) : Int) < _ ∧ _ < _; omega) | exact divW (by omega) (by omega) _ | (refine ⟨by decide, by decide, ?_⟩; decide))
local macro_rules | `(tactic| walk_at "go1") => `(tactic| first
  | refine ⟨_, rfl, ?_⟩
  | refine ⟨_, _, rfl, rfl, (by walk_at "side"), ?_⟩
  | refine ⟨_, _, rfl, (by walk_at "side"), ?_⟩
  | refine ⟨_, _, rfl, rfl, ?_⟩
  | refine Or.inl ⟨_, rfl, ?_⟩
  | refine ⟨_, _, rfl, Or.inl (by walk_at "sq"), ?_⟩
  | walk_at "ixl"
  | walk_at "setl"
  | refine ⟨_, _, rfl, (by walk_at "sq"), rfl, ?_⟩
  | refine ⟨_, _, rfl, (by walk_at "sq"), ?_⟩
  | refine ⟨_, _, rfl, ?_⟩
  | refine ⟨rfl, ?_⟩
  | refine ⟨small (Nat.le_of_ble_eq_true rfl), ?_⟩)
local macro_rules | `(tactic| walk_at "go") => `(tactic| repeat walk_at "go1")

abbrev slaw : Stmt := topS 83
theorem sclaw : FnScope ["_law_cells", "_law_turn"] ["_law_cells"] (defScope slaw) := ⟨rfl, rfl, rfl, by decide +kernel, rfl, by decide +kernel, by decide +kernel⟩
theorem clamp {x : Int} (h : 0 ≤ x) : 2 ≤ (if (if (4 : Int) < x then 4 else x) > 2 then (if (4 : Int) < x then 4 else x) else 2) ∧ (if (if (4 : Int) < x then 4 else x) > 2 then (if (4 : Int) < x then 4 else x) else 2) ≤ 4 := by
  by_cases h1 : (4 : Int) < x
  · rw [if_pos h1]
    decide
  · rw [if_neg h1]
    by_cases h2 : x > 2
    · rw [if_pos h2]
      omega
    · rw [if_neg h2]
      decide
def spLaw (K : PySem.W.Frag) : Sp := fun vs H Q _ => ∃ (a : Addr) (ns : List Int), vs = [.ref a] ∧ SqL K H a (ns.map V.int) ∧ ns.length ≤ 63 ∧ ∀ H', Q (.bl true) H'
section
variable {P : Program} {w : World} {K : PySem.W.Frag} {mg : Str → Option Value} {base : Heap}
theorem ok_law {f : Addr} {fd : FuncData} (F : Fun K "law" "law" slaw f fd) (N : Names mg) (D_law_vase : DefK P w K mg base "_law_vase" ["_law_cells", "_law_turn"] 1 (spVase K)) (D2 : DefG P w K mg base "_law_twenty_right" ["_law_number"] 7 (spTwenty K) ∧ DefG P w K mg base "_law_right" ["_law_vase_here", "_law_most"] 10 (spRight K)) : FnG P w K mg base 11 f fd ["_law_cells"] (spLaw K) := by
  have sc := sclaw
  obtain ⟨D_law_twenty_right, D_law_right⟩ := D2
  refine funG_ok F sc (fun vs H Q E h => ?_) (fun cdv A outer s H vs Q E hgd hr h => ?_)
  · obtain ⟨a, ns, rfl, _⟩ := h
    rfl
  · obtain ⟨a, ns, rfl, ha, hl, k⟩ := h
    refine ⟨_, (pss_cons (ps_if (pt_not (pt_val (pe_dG D_law_twenty_right hgd (hr.mono (by decide)) rfl (pa_cons (pe_op op_mod (pe_callTy (T := "int") call_int1 (by rfl) N.int (by decide +kernel) (pa_cons (pe_ix ix_list (pe_d D_law_vase (hr.mono (by decide)) rfl (pa_cons (pv 0) (pa_cons pe_int pa_nil))) pe_int (fun _ _ => rfl)) pa_nil)) pe_int) pa_nil)))) (pss_one (ps_ret pe_bl)) pss_nil)
      (pss_one (ps_ret (pe_callB (cr_all rfl) (by rfl) N.all (by decide +kernel) (pa_cons (pe_lc (own := [("_law_turn", 1)]) rfl sc.nd (pi_range1 rfl N.range (pa_cons (pe_callB (call_max2 rfl) (by rfl) N.max (by decide +kernel) (pa_cons pe_int (pa_cons (pe_callB (call_min2 rfl) (by rfl) N.min (by decide +kernel) (pa_cons (pe_callB call_len_seq (by rfl) N.len (by decide +kernel) (pa_cons (pv 0) pa_nil)) (pa_cons pe_int pa_nil))) pa_nil))) pa_nil)) (blkOk_by (own := [("_law_turn", 1)]) (N := ["_law_cells", "_law_turn"]) (sc := defScope (topS 83)) (by decide +kernel)) (fun _ _ _ _ _ => (pg_name (i := 1) sc.nd rfl (Or.inl rfl))) (fun _ _ _ _ _ => pts_nil) (fun _ _ _ _ _ => (pe_dG D_law_right hgd (hr.mono (by decide)) rfl (pa_cons (pe_d D_law_vase (hr.mono (by decide)) rfl (pa_cons (pv 0) (pa_cons (pv 1) pa_nil))) (pa_cons pe_int pa_nil))))) pa_nil))))), ?_⟩
    refine ⟨_, rfl, a, ns, 0, rfl, ha, hl, fun H0 p0 s0 np0 hv0 => ?_⟩
    obtain ⟨x0, x1, x2, _, hx1, _, eV⟩ := id hv0
    obtain ⟨n1, rfl⟩ := nat_of hx1
    refine ⟨p0, _, _, _, rfl, rfl, SqL.lst eV, rfl, .inl ⟨_, rfl, _, _, rfl, rfl, (show (0 : Int) < 1000 by decide), n1 % 1000, rfl, Nat.mod_lt _ (by decide), fun H3 s3 => ?_⟩⟩
    have ha3 := (s0.trans s3).seq ha
    have s03 := s0.trans s3
    clear hv0 eV s0 s3
    refine ⟨_, rfl, ?_⟩
    refine iteF ?_
    refine ⟨_, rfl, a, _, rfl, .inl ha3, _, _, rfl, _, _, rfl, ?_⟩
    obtain ⟨b1, b2⟩ := clamp (x := (((ns.map V.int).length : Nat) : Int)) (by omega)
    generalize (if (if (4 : Int) < (((ns.map V.int).length : Nat) : Int) then 4 else (((ns.map V.int).length : Nat) : Int)) > 2 then (if (4 : Int) < (((ns.map V.int).length : Nat) : Int) then 4 else (((ns.map V.int).length : Nat) : Int)) else 2) = M at b1 b2 ⊢
    obtain ⟨n, rfl⟩ := nat_of (show 0 ≤ M by omega)
    refine ⟨_, rfl, by omega, by omega, ?_⟩
    intro D nD
    refine lc_range (n := n) (fun i H' => Same H3 H' ∧ H' D = some (.lst ((List.replicate i true).map V.bl))) ⟨same_new nD, upd_same⟩ ?_ ?_
    · rintro i H' hi ⟨sm, eD⟩
      refine ⟨rfl, ?_⟩
      refine ⟨_, rfl, _, rfl, a, ns, i, (by rw [Int.zero_add]; rfl), sm.seq ha3, hl, fun H1 p s1 np hv => ?_⟩
      refine ⟨p, rfl, hv, fun H2 e2 => ?_⟩
      have s02 : Same H' H2 := fun b o e => e2 b o (ne_of_none e np) (s1 _ _ e)
      refine ⟨_, s02 _ _ eD, smallLt (by rw [List.length_map, List.length_replicate]; omega), same_mut (sm.trans s02) nD, ?_⟩
      rw [upd_same, List.replicate_succ', List.map_append]
      rfl
    · rintro H' ⟨sm, eD⟩
      refine ⟨D, List.replicate n true, rfl, SqL.lst eD, ?_⟩
      have e : (List.replicate n true).all id = true := by simp
      rw [e]
      exact k H'
end
end LM

set_option Elab.async false
set_option linter.all false
set_option maxRecDepth 100000
set_option maxHeartbeats 4000000
namespace LM
open PySem PySem.Spec PyProof.Rows L2
/-- a def of the top -/
def TopD (K : PySem.W.Frag) (mg : Str → Option Value) (x : Str) (st : Stmt) (ps : List Str) : Prop := ∃ (f : Addr) (fd : FuncData), Fun K x x st f fd ∧ mg x = some (.ref f) ∧ PySem.W.keepIn K (.ref f) = true ∧ Binds K fd ps []
theorem TopD.mk {K : PySem.W.Frag} {h : Heap} {mg : Str → Option Value} (X : K.In h) (G : h.Ns mainGlobals mg) {x : Str} {st : Stmt} {ps : List Str} {f : Addr} {oc : Value} {od an : Option Addr} {osl : Array (Option Value)} {kV doc pm cdv ct : Value}
    (a : PySem.W.nsIn K mainGlobals x = some (some (.ref f))) (l : K.lookup f = some ⟨oc, od, .func (PySem.W.fnOf x x (defArgs st) (defBody st) (defScope st) .none kV doc pm an cdv ct), osl⟩) (c : PySem.W.codeIn K cdv x = true) (k : PySem.W.keepIn K (.ref f) = true)
    (b : ∀ (kV doc pm : Value) (an : Option Addr) (cdv ct : Value) (us : List Value), us.length = ps.length → bindArgs (PySem.W.fnOf x x (defArgs st) (defBody st) (defScope st) .none kV doc pm an cdv ct) ⟨us, []⟩ = pure (ps.zip us)) : TopD K mg x st ps := by
  have F := fun_mk (st := st) l c k
  exact ⟨f, _, F, PySem.W.mg_of X G a, k, F.binds b⟩
theorem TopD.defK {P : Program} {w : World} {K : PySem.W.Frag} {mg : Str → Option Value} {base : Heap} {x : Str} {st : Stmt} {ps : List Str} {k : Nat} {sp : Sp} (t : TopD K mg x st ps) (ok : ∀ {f : Addr} {fd : FuncData}, Fun K x x st f fd → FnOk P w K mg base CX0 k f fd ps sp) : DefK P w K mg base x ps k sp := by
  obtain ⟨f, fd, F, m, kp, b⟩ := t
  exact ⟨f, fd, ok F, m, kp, b⟩
theorem TopD.defG {P : Program} {w : World} {K : PySem.W.Frag} {mg : Str → Option Value} {base : Heap} {x : Str} {st : Stmt} {ps : List Str} {k : Nat} {sp : Sp} (t : TopD K mg x st ps) (ok : ∀ {f : Addr} {fd : FuncData}, Fun K x x st f fd → FnG P w K mg base k f fd ps sp) : DefG P w K mg base x ps k sp := by
  obtain ⟨f, fd, F, m, kp, b⟩ := t
  exact ⟨f, fd, ok F, m, kp, b⟩
/-- a method of the class -/
def MethD (K : PySem.W.Frag) (C : Addr) (m qual : Str) (st : Stmt) (ps : List Str) : Prop := ∃ (f : Addr) (fd : FuncData), Meth K C m f ∧ Fun K m qual st f fd ∧ Binds K fd ps []
theorem MethD.mk {K : PySem.W.Frag} {C : Addr} {m qual : Str} {st : Stmt} {ps : List Str} {f : Addr} {oc : Value} {od an : Option Addr} {osl : Array (Option Value)} {kV doc pm cdv ct : Value}
    (a : PySem.W.findIn K (.ref C) m = some (some (.ref f))) (i : PySem.W.isFn K (.ref f) = true) (l : K.lookup f = some ⟨oc, od, .func (PySem.W.fnOf m qual (defArgs st) (defBody st) (defScope st) .none kV doc pm an cdv ct), osl⟩) (c : PySem.W.codeIn K cdv qual = true) (k : PySem.W.keepIn K (.ref f) = true)
    (b : ∀ (kV doc pm : Value) (an : Option Addr) (cdv ct : Value) (us : List Value), us.length = ps.length → bindArgs (PySem.W.fnOf m qual (defArgs st) (defBody st) (defScope st) .none kV doc pm an cdv ct) ⟨us, []⟩ = pure (ps.zip us)) : MethD K C m qual st ps := by
  have F := fun_mk (st := st) l c k
  exact ⟨f, _, ⟨a, i, k⟩, F, F.binds b⟩
/-- __init__ with its default -/
def InitD (K : PySem.W.Frag) (C : Addr) : Prop := ∃ (f : Addr) (fd : FuncData) (dv : List V), Mk K C f ∧ FunD K "__init__" "House.__init__" (defArgs sHouse__init_) (defBody sHouse__init_) (defScope sHouse__init_) dv [] f fd ∧ Binds K fd ["self", "bases", "rows"] []
theorem InitD.mk {K : PySem.W.Frag} {C f T e : Addr} {oc ocT : Value} {od an odT : Option Addr} {osl oslT : Array (Option Value)} {kV doc pm cdv ct : Value} {n : Nat}
    (mk : PySem.W.makesIn K C = true) (a : PySem.W.findIn K (.ref C) "__init__" = some (some (.ref f))) (i : PySem.W.isFn K (.ref f) = true) (kc : PySem.W.keepIn K (.ref C) = true)
    (l : K.lookup f = some ⟨oc, od, .func (PySem.W.fnOf "__init__" "House.__init__" (defArgs sHouse__init_) (defBody sHouse__init_) (defScope sHouse__init_) (.ref T) kV doc pm an cdv ct), osl⟩) (lT : K.lookup T = some ⟨ocT, odT, .seq #[.ref e] n, oslT⟩) (c : PySem.W.codeIn K cdv "House.__init__" = true) (k : PySem.W.keepIn K (.ref f) = true) : InitD K C := by
  have F : FunD K "__init__" "House.__init__" (defArgs sHouse__init_) (defBody sHouse__init_) (defScope sHouse__init_) [V.ref e] [] f _ := ⟨⟨oc, od, _, kV, doc, pm, an, cdv, ct, osl, rfl, l, c, .inr ⟨(fun z => nomatch z), T, _, [.ref e], n, rfl, lT, rfl, .cons rfl .nil⟩, .inl rfl⟩, k⟩
  obtain ⟨ds, hv, b⟩ := FunD.binds1 (ps := ["self", "bases", "rows"]) F 3 1 (fun z => nomatch z) rfl fun T kV doc pm an cdv ct us its hu hi => match us, its, hu, hi with | [_, _, _], [_], _, _ => ⟨_, rfl, rfl⟩
  cases hv
  exact ⟨f, _, _, ⟨mk, a, i, kc⟩, F, b⟩

/-- more of the class -/
structure MoreD (K : PySem.W.Frag) (C : Addr) : Prop where
  ot : Other K C
  ow : OwnT K C
  ne : PySem.W.findIn K (.ref C) "__ne__" = some (some (.builtin "object.__ne__"))
  bo : PySem.W.findIn K (.ref C) "__bool__" = some none
  le : PySem.W.findIn K (.ref C) "__len__" = some none
theorem MoreD.of {K : PySem.W.Frag} {C : Addr} (own1 : PySem.W.notFirst K C (.ref C) = true) (str1 : PySem.W.notFirst K C (.type "str") = true) (str2 : PySem.W.kitOne K (.type "str") (.ref C) = some false) (int1 : PySem.W.notFirst K C (.type "int") = true) (int2 : PySem.W.kitOne K (.type "int") (.ref C) = some false) (non1 : PySem.W.notFirst K C (.type "NoneType") = true) (non2 : PySem.W.kitOne K (.type "NoneType") (.ref C) = some false) (lst1 : PySem.W.notFirst K C (.type "list") = true) (lst2 : PySem.W.kitOne K (.type "list") (.ref C) = some false) (tup1 : PySem.W.notFirst K C (.type "tuple") = true) (tup2 : PySem.W.kitOne K (.type "tuple") (.ref C) = some false) (dic1 : PySem.W.notFirst K C (.type "dict") = true) (dic2 : PySem.W.kitOne K (.type "dict") (.ref C) = some false) (ha : PySem.W.findIn K (.ref C) "__class__" = some (some (.builtin "object.__class__"))) (hn : PySem.W.specialIn K (.builtin "object.__class__") "__get__" = some (some (.builtin "getset_descriptor.__get__"))) (htk : PySem.W.takesIn K (.builtin "object.__class__") = some true) (hm : PySem.W.mroIn K C (.type "object") = some true)
  (ne : PySem.W.findIn K (.ref C) "__ne__" = some (some (.builtin "object.__ne__"))) (bo : PySem.W.findIn K (.ref C) "__bool__" = some none) (le : PySem.W.findIn K (.ref C) "__len__" = some none) : MoreD K C := ⟨⟨own1, if_pos (beq_self_eq_true _), str1, str2, int1, int2, non1, non2, lst1, lst2, tup1, tup2, dic1, dic2⟩, ⟨ha, hn, htk, hm⟩, ne, bo, le⟩

/-- Cutlist.__init__ with its default, by position and by name -/
def InitC (K : PySem.W.Frag) (C : Addr) : Prop := ∃ (f : Addr) (fd : FuncData) (dv : List V) (e0 : Addr) (ds2 : List Value), Mk K C f ∧ FunD K "__init__" "Cutlist.__init__" (defArgs sCutlist__init_) (defBody sCutlist__init_) (defScope sCutlist__init_) dv [] f fd ∧ Binds K fd ["self", "house", "frame", "clips"] [] ∧ Binds K fd ["self", "house", "frame", "clips"] ds2 ∧ Vals [V.ref e0] ds2 ∧ (∀ H, SqT K H e0 []) ∧ KBn K fd ["self", "house", "frame", "clips"] 1 ["house", "frame", "clips"] kwS kwS
theorem InitC.mk {K : PySem.W.Frag} {C f T e : Addr} {oc ocT : Value} {od an odT odE : Option Addr} {osl oslT oslE : Array (Option Value)} {kV doc pm cdv ct : Value} {n m : Nat}
    (mk : PySem.W.makesIn K C = true) (a : PySem.W.findIn K (.ref C) "__init__" = some (some (.ref f))) (i : PySem.W.isFn K (.ref f) = true) (kc : PySem.W.keepIn K (.ref C) = true)
    (l : K.lookup f = some ⟨oc, od, .func (PySem.W.fnOf "__init__" "Cutlist.__init__" (defArgs sCutlist__init_) (defBody sCutlist__init_) (defScope sCutlist__init_) (.ref T) kV doc pm an cdv ct), osl⟩) (lT : K.lookup T = some ⟨ocT, odT, .seq #[.ref e] n, oslT⟩) (c : PySem.W.codeIn K cdv "Cutlist.__init__" = true) (k : PySem.W.keepIn K (.ref f) = true)
    (lE : K.lookup e = some ⟨.type "tuple", odE, .seq #[] m, oslE⟩) : InitC K C := by
  have F : FunD K "__init__" "Cutlist.__init__" (defArgs sCutlist__init_) (defBody sCutlist__init_) (defScope sCutlist__init_) [V.ref e] [] f _ := ⟨⟨oc, od, _, kV, doc, pm, an, cdv, ct, osl, rfl, l, c, .inr ⟨(fun z => nomatch z), T, _, [.ref e], n, rfl, lT, rfl, .cons rfl .nil⟩, .inl rfl⟩, k⟩
  obtain ⟨ds, hv, b⟩ := FunD.binds1 (ps := ["self", "house", "frame", "clips"]) F 4 1 (fun z => nomatch z) rfl fun T kV doc pm an cdv ct us its hu hi => match us, its, hu, hi with | [_, _, _, _], [_], _, _ => ⟨_, rfl, rfl⟩
  cases hv
  obtain ⟨ds2, hv2, b2⟩ := FunD.binds1 (ps := ["self", "house", "frame", "clips"]) F 3 0 (fun z => nomatch z) rfl fun T kV doc pm an cdv ct us its hu hi => match us, its, hu, hi with | [_, _, _], [_], _, _ => ⟨_, rfl, rfl⟩
  obtain ⟨its, kb⟩ := FunD.kbindsD (ps := ["self", "house", "frame", "clips"]) F 1 ["house", "frame", "clips"] (fun us _ ws => us ++ ws) (fun z => nomatch z) (fun r1 _ r3 => r1.append r3) fun T kV doc pm an cdv ct us its ws hu hi hw => match us, its, ws, hu, hi, hw with | [_], [_], [_, _, _], _, _, _ => ⟨_, rfl, rfl⟩
  exact ⟨f, _, _, e, ds2, ⟨mk, a, i, kc⟩, F, b, b2, hv2, fun H => .inr ⟨_, #[], m, lE, rfl, rfl, Nat.zero_le _, .nil⟩, kb⟩
theorem CutTxt.of {K : PySem.W.Frag} {mg : Str → Option Value} {cc : Addr} (cl : Cls K cc) (n1 : NoAttr K cc "_house") (n2 : NoAttr K cc "_start") (n3 : NoAttr K cc "_clips") (n4 : NoAttr K cc "_shown_ahead") (n5 : NoAttr K cc "_total") (g : mg "Cutlist" = some (.ref cc)) : CutTxt K mg cc := ⟨cl, n1, n2, n3, n4, n5, g⟩

abbrev sCutlist_house : Stmt := inClass (topS 59) 1
theorem scCutlist_house : FnScope ["self"] ["self"] (defScope sCutlist_house) := ⟨rfl, rfl, rfl, by decide +kernel, rfl, by decide +kernel, by decide +kernel⟩
/-- a property -/
def PropChouse (K : PySem.W.Frag) (C : Addr) : Prop := ∃ (p f : Addr) (fd : FuncData), PropOf K C "house" p f ∧ Binds K fd ["self"] [] ∧ (Cls K C → NoAttr K C "_house" → ∀ (P : Program) (w : World) (mg : Str → Option Value) (base : Heap), FnOk P w K mg base CX0 1 f fd ["self"] (getSp C "_house"))
theorem PropChouse.mk {K : PySem.W.Frag} {C p f : Addr} {oc : Value} {od an : Option Addr} {osl : Array (Option Value)} {kV doc pm cdv ct : Value} {rest : List Value}
    (a : PySem.W.findIn K (.ref C) "house" = some (some (.ref p))) (g : PySem.W.specialIn K (.ref p) "__get__" = some (some (.builtin "property.__get__"))) (t : PySem.W.takesIn K (.ref p) = some true) (r : PySem.W.recIn K p "property" = some (.ref f :: rest))
    (l : K.lookup f = some ⟨oc, od, .func (PySem.W.fnOf "house" "Cutlist.house" (defArgs sCutlist_house) (defBody sCutlist_house) (defScope sCutlist_house) .none kV doc pm an cdv ct), osl⟩) (c : PySem.W.codeIn K cdv "Cutlist.house" = true) : PropChouse K C :=
  ⟨p, f, _, ⟨a, g, t, rest, r⟩, .all fun us hl => match us, hl with | [_], _ => rfl, fun cl nA P w mg base => fn_getter (N := ["self"]) l c scCutlist_house rfl rfl cl nA⟩

abbrev sCutlist_clips : Stmt := inClass (topS 59) 2
theorem scCutlist_clips : FnScope ["self"] ["self"] (defScope sCutlist_clips) := ⟨rfl, rfl, rfl, by decide +kernel, rfl, by decide +kernel, by decide +kernel⟩
/-- a property -/
def PropCclips (K : PySem.W.Frag) (C : Addr) : Prop := ∃ (p f : Addr) (fd : FuncData), PropOf K C "clips" p f ∧ Binds K fd ["self"] [] ∧ (Cls K C → NoAttr K C "_clips" → ∀ (P : Program) (w : World) (mg : Str → Option Value) (base : Heap), FnOk P w K mg base CX0 1 f fd ["self"] (getSp C "_clips"))
theorem PropCclips.mk {K : PySem.W.Frag} {C p f : Addr} {oc : Value} {od an : Option Addr} {osl : Array (Option Value)} {kV doc pm cdv ct : Value} {rest : List Value}
    (a : PySem.W.findIn K (.ref C) "clips" = some (some (.ref p))) (g : PySem.W.specialIn K (.ref p) "__get__" = some (some (.builtin "property.__get__"))) (t : PySem.W.takesIn K (.ref p) = some true) (r : PySem.W.recIn K p "property" = some (.ref f :: rest))
    (l : K.lookup f = some ⟨oc, od, .func (PySem.W.fnOf "clips" "Cutlist.clips" (defArgs sCutlist_clips) (defBody sCutlist_clips) (defScope sCutlist_clips) .none kV doc pm an cdv ct), osl⟩) (c : PySem.W.codeIn K cdv "Cutlist.clips" = true) : PropCclips K C :=
  ⟨p, f, _, ⟨a, g, t, rest, r⟩, .all fun us hl => match us, hl with | [_], _ => rfl, fun cl nA P w mg base => fn_getter (N := ["self"]) l c scCutlist_clips rfl rfl cl nA⟩

abbrev sCutlist_record_frame : Stmt := inClass (topS 59) 3
theorem scCutlist_record_frame : FnScope ["self"] ["self"] (defScope sCutlist_record_frame) := ⟨rfl, rfl, rfl, by decide +kernel, rfl, by decide +kernel, by decide +kernel⟩
/-- a property -/
def PropCrecord_frame (K : PySem.W.Frag) (C : Addr) : Prop := ∃ (p f : Addr) (fd : FuncData), PropOf K C "record_frame" p f ∧ Binds K fd ["self"] [] ∧ (Cls K C → NoAttr K C "_start" → ∀ (P : Program) (w : World) (mg : Str → Option Value) (base : Heap), FnOk P w K mg base CX0 1 f fd ["self"] (getSp C "_start"))
theorem PropCrecord_frame.mk {K : PySem.W.Frag} {C p f : Addr} {oc : Value} {od an : Option Addr} {osl : Array (Option Value)} {kV doc pm cdv ct : Value} {rest : List Value}
    (a : PySem.W.findIn K (.ref C) "record_frame" = some (some (.ref p))) (g : PySem.W.specialIn K (.ref p) "__get__" = some (some (.builtin "property.__get__"))) (t : PySem.W.takesIn K (.ref p) = some true) (r : PySem.W.recIn K p "property" = some (.ref f :: rest))
    (l : K.lookup f = some ⟨oc, od, .func (PySem.W.fnOf "record_frame" "Cutlist.record_frame" (defArgs sCutlist_record_frame) (defBody sCutlist_record_frame) (defScope sCutlist_record_frame) .none kV doc pm an cdv ct), osl⟩) (c : PySem.W.codeIn K cdv "Cutlist.record_frame" = true) : PropCrecord_frame K C :=
  ⟨p, f, _, ⟨a, g, t, rest, r⟩, .all fun us hl => match us, hl with | [_], _ => rfl, fun cl nA P w mg base => fn_getter (N := ["self"]) l c scCutlist_record_frame rfl rfl cl nA⟩

abbrev sCutlist_total : Stmt := inClass (topS 59) 5
theorem scCutlist_total : FnScope ["self"] ["self"] (defScope sCutlist_total) := ⟨rfl, rfl, rfl, by decide +kernel, rfl, by decide +kernel, by decide +kernel⟩
/-- a property -/
def PropCtotal (K : PySem.W.Frag) (C : Addr) : Prop := ∃ (p f : Addr) (fd : FuncData), PropOf K C "total" p f ∧ Binds K fd ["self"] [] ∧ (Cls K C → NoAttr K C "_total" → ∀ (P : Program) (w : World) (mg : Str → Option Value) (base : Heap), FnOk P w K mg base CX0 1 f fd ["self"] (getSp C "_total"))
theorem PropCtotal.mk {K : PySem.W.Frag} {C p f : Addr} {oc : Value} {od an : Option Addr} {osl : Array (Option Value)} {kV doc pm cdv ct : Value} {rest : List Value}
    (a : PySem.W.findIn K (.ref C) "total" = some (some (.ref p))) (g : PySem.W.specialIn K (.ref p) "__get__" = some (some (.builtin "property.__get__"))) (t : PySem.W.takesIn K (.ref p) = some true) (r : PySem.W.recIn K p "property" = some (.ref f :: rest))
    (l : K.lookup f = some ⟨oc, od, .func (PySem.W.fnOf "total" "Cutlist.total" (defArgs sCutlist_total) (defBody sCutlist_total) (defScope sCutlist_total) .none kV doc pm an cdv ct), osl⟩) (c : PySem.W.codeIn K cdv "Cutlist.total" = true) : PropCtotal K C :=
  ⟨p, f, _, ⟨a, g, t, rest, r⟩, .all fun us hl => match us, hl with | [_], _ => rfl, fun cl nA P w mg base => fn_getter (N := ["self"]) l c scCutlist_total rfl rfl cl nA⟩

/-- a property with a body -/
def PropCstarts (K : PySem.W.Frag) (C : Addr) : Prop := ∃ (p f : Addr) (fd : FuncData), PropOf K C "starts" p f ∧ Fun K "starts" "Cutlist.starts" sCutlist_starts f fd ∧ Binds K fd ["self"] []
theorem PropCstarts.mk {K : PySem.W.Frag} {C p f : Addr} {oc : Value} {od an : Option Addr} {osl : Array (Option Value)} {kV doc pm cdv ct : Value} {rest : List Value}
    (a : PySem.W.findIn K (.ref C) "starts" = some (some (.ref p))) (g : PySem.W.specialIn K (.ref p) "__get__" = some (some (.builtin "property.__get__"))) (t : PySem.W.takesIn K (.ref p) = some true) (r : PySem.W.recIn K p "property" = some (.ref f :: rest))
    (l : K.lookup f = some ⟨oc, od, .func (PySem.W.fnOf "starts" "Cutlist.starts" (defArgs sCutlist_starts) (defBody sCutlist_starts) (defScope sCutlist_starts) .none kV doc pm an cdv ct), osl⟩) (c : PySem.W.codeIn K cdv "Cutlist.starts" = true) (k : PySem.W.keepIn K (.ref f) = true) : PropCstarts K C := by
  have F := fun_mk (st := sCutlist_starts) l c k
  exact ⟨p, f, _, ⟨a, g, t, rest, r⟩, F, F.binds fun _ _ _ _ _ _ us hl => match us, hl with | [_], _ => rfl⟩

/-- a property with a body -/
def PropCjoins (K : PySem.W.Frag) (C : Addr) : Prop := ∃ (p f : Addr) (fd : FuncData), PropOf K C "joins" p f ∧ Fun K "joins" "Cutlist.joins" sCutlist_joins f fd ∧ Binds K fd ["self"] []
theorem PropCjoins.mk {K : PySem.W.Frag} {C p f : Addr} {oc : Value} {od an : Option Addr} {osl : Array (Option Value)} {kV doc pm cdv ct : Value} {rest : List Value}
    (a : PySem.W.findIn K (.ref C) "joins" = some (some (.ref p))) (g : PySem.W.specialIn K (.ref p) "__get__" = some (some (.builtin "property.__get__"))) (t : PySem.W.takesIn K (.ref p) = some true) (r : PySem.W.recIn K p "property" = some (.ref f :: rest))
    (l : K.lookup f = some ⟨oc, od, .func (PySem.W.fnOf "joins" "Cutlist.joins" (defArgs sCutlist_joins) (defBody sCutlist_joins) (defScope sCutlist_joins) .none kV doc pm an cdv ct), osl⟩) (c : PySem.W.codeIn K cdv "Cutlist.joins" = true) (k : PySem.W.keepIn K (.ref f) = true) : PropCjoins K C := by
  have F := fun_mk (st := sCutlist_joins) l c k
  exact ⟨p, f, _, ⟨a, g, t, rest, r⟩, F, F.binds fun _ _ _ _ _ _ us hl => match us, hl with | [_], _ => rfl⟩

/-- the class of lists -/
def CutD (K : PySem.W.Frag) (mg : Str → Option Value) : Prop := ∃ (cc : Addr), CutTxt K mg cc ∧ InitC K cc ∧ PropChouse K cc ∧ PropCclips K cc ∧ PropCrecord_frame K cc ∧ PropCtotal K cc ∧ PropCstarts K cc ∧ PropCjoins K cc ∧ MethD K cc "look" "Cutlist.look" sCutlist_look ["self", "number"] ∧ MethD K cc "__repr__" "Cutlist.__repr__" sCutlist__repr_ ["self"]

/-- the class -/
def HouseD (K : PySem.W.Frag) (mg : Str → Option Value) : Prop := ∃ C : Addr, HouseTxt K mg C ∧ InitD K C ∧ MethD K C "__str__" "House.__str__" sHouse__str_ ["self"] ∧ MethD K C "__eq__" "House.__eq__" sHouse__eq_ ["self", "other"] ∧ MoreD K C

theorem all_mk {P : Program} {w : World} {K : PySem.W.Frag} {h : Heap} {mg : Str → Option Value} {fa : Addr} (X : K.In h) (G : h.Ns mainGlobals mg) (hfa : mg "law" = some (.ref fa)) (N : Names mg) (M : Consts mg) (hD : HouseD K mg)
    (hCut : CutD K mg) (hMC20 : ∃ t, mg "MOST_CLIPS" = some (.int 20 t)) (t__law_vase : TopD K mg "_law_vase" s_law_vase ["_law_cells", "_law_turn"]) (t__law_pour : TopD K mg "_law_pour" s_law_pour ["_law_vase_here", "_law_top"]) (t__law_pluck : TopD K mg "_law_pluck" s_law_pluck ["_law_vase_here", "_law_menu"]) (t__law_ground : TopD K mg "_law_ground" s_law_ground ["_law_vase_here", "_law_most"]) (t__law_lanes : TopD K mg "_law_lanes" s_law_lanes ["_law_vase_here", "_law_ground_here"]) (t__law_gap : TopD K mg "_law_gap" s_law_gap ["_law_ground_here", "_law_lanes_here", "_law_group"]) (t__law_divisor : TopD K mg "_law_divisor" s_law_divisor ["_law_high", "_law_low"]) (t__law_multiple : TopD K mg "_law_multiple" s_law_multiple ["_law_high", "_law_low"]) (t__law_again : TopD K mg "_law_again" s_law_again ["_law_gaps", "_law_size"]) (t__law_place_house : TopD K mg "_law_place_house" s_law_place_house ["_law_ground_here", "_law_lanes_here"]) (t__law_house : TopD K mg "_law_house" s_law_house ["_law_vase_here", "_law_ground_here"]) (t__law_homes : TopD K mg "_law_homes" s_law_homes ["_law_vase_here"]) (t_is_integer : TopD K mg "is_integer" sis_integer ["value"]) (t_is_integer_within : TopD K mg "is_integer_within" sis_integer_within ["value", "low", "high"]) (t_is_number : TopD K mg "is_number" sis_number ["value"]) (t_check_number : TopD K mg "check_number" scheck_number ["given"]) (t_check_bases : TopD K mg "check_bases" scheck_bases ["bases"]) (t_is_row : TopD K mg "is_row" sis_row ["bases", "value"]) (t_check_rows : TopD K mg "check_rows" scheck_rows ["bases", "rows"]) (t_spaced : TopD K mg "spaced" sspaced ["parts"]) (t_house_text : TopD K mg "house_text" shouse_text ["bases", "rows"]) (t_groups_in_unit : TopD K mg "groups_in_unit" sgroups_in_unit ["bases", "field"]) (t_groups_to_repeat : TopD K mg "groups_to_repeat" sgroups_to_repeat ["bases", "rows"]) (t_fitted_groups : TopD K mg "fitted_groups" sfitted_groups ["bases", "row", "groups"]) (t_skipped_counts : TopD K mg "skipped_counts" sskipped_counts ["bases", "rows", "groups"]) (t_least_repeat : TopD K mg "least_repeat" sleast_repeat ["counts"]) (t_sums_ahead : TopD K mg "sums_ahead" ssums_ahead ["numbers"]) (t_last_not_above : TopD K mg "last_not_above" slast_not_above ["ascending", "number"]) (t_written_number : TopD K mg "written_number" swritten_number ["number"]) (t__law_stated : TopD K mg "_law_stated" s_law_stated ["_law_home"]) (t__law_clips : TopD K mg "_law_clips" s_law_clips ["_law_vase_here", "_law_homes_here", "_law_most"]) (t_check_house : TopD K mg "check_house" scheck_house ["given"]) (t_is_clip : TopD K mg "is_clip" sis_clip ["value"]) (t_check_clips : TopD K mg "check_clips" scheck_clips ["clips"]) (t_goes_on : TopD K mg "goes_on" sgoes_on ["clip", "following"]) (t__law_built : TopD K mg "_law_built" s_law_built ["_law_home"]) (t__law_same : TopD K mg "_law_same" s_law_same ["_law_told", "_law_due"]) (t__law_filmed : TopD K mg "_law_filmed" s_law_filmed ["_law_clips_here", "_law_homes_here"]) (t__law_goes_on : TopD K mg "_law_goes_on" s_law_goes_on ["_law_homes_here", "_law_early", "_law_late"]) (t__law_is_list : TopD K mg "_law_is_list" s_law_is_list ["_law_made", "_law_home", "_law_begin", "_law_clips_here", "_law_homes_here"]) (t__law_looks_right : TopD K mg "_law_looks_right" s_law_looks_right ["_law_made", "_law_begin", "_law_clips_here", "_law_vase_here"]) (t__law_twenty_right : TopD K mg "_law_twenty_right" s_law_twenty_right ["_law_number"]) (t__law_right : TopD K mg "_law_right" s_law_right ["_law_vase_here", "_law_most"])
    {f : Addr} {oc : Value} {od an : Option Addr} {osl : Array (Option Value)} {kV doc pm cdv ct : Value} (a : PySem.W.nsIn K mainGlobals "law" = some (some (.ref f))) (l : K.lookup f = some ⟨oc, od, .func (PySem.W.fnOf "law" "law" (defArgs slaw) (defBody slaw) (defScope slaw) .none kV doc pm an cdv ct), osl⟩) (c : PySem.W.codeIn K cdv "law" = true) (k : PySem.W.keepIn K (.ref f) = true) :
    ∃ fd : FuncData, (∀ (s : Shared) (v : Value), BindsTo s fd ⟨[v], []⟩ [("_law_cells", v)]) ∧ ∀ base : Heap, K.In base → base.Ns mainGlobals mg → FnG P w K mg base 11 fa fd ["_law_cells"] (spLaw K) := by
  have e := hfa.symm.trans (PySem.W.mg_of X G a)
  cases e
  have FL := fun_mk (st := slaw) l c k
  refine ⟨_, fun s v => .of_eq rfl, fun base _ _ => ok_law FL N ?_ ?_⟩
  · exact t__law_vase.defK fun F => ok_vase F N
  have D_law_vase : DefK P w K mg base "_law_vase" ["_law_cells", "_law_turn"] 1 (spVase K) := t__law_vase.defK fun F => ok_vase F N
  have D_law_pour : DefK P w K mg base "_law_pour" ["_law_vase_here", "_law_top"] 1 (spPour) := t__law_pour.defK fun F => ok_pour F N
  have D_law_pluck : DefK P w K mg base "_law_pluck" ["_law_vase_here", "_law_menu"] 2 (spPluck K) := t__law_pluck.defK fun F => ok_pluck F N D_law_pour
  have D_law_ground : DefK P w K mg base "_law_ground" ["_law_vase_here", "_law_most"] 3 (spGround K) := t__law_ground.defK fun F => ok_ground F N D_law_pour D_law_pluck
  have D_law_lanes : DefK P w K mg base "_law_lanes" ["_law_vase_here", "_law_ground_here"] 3 (spLanes K) := t__law_lanes.defK fun F => ok_lanes F N D_law_pour D_law_pluck
  have D_law_gap : DefK P w K mg base "_law_gap" ["_law_ground_here", "_law_lanes_here", "_law_group"] 1 (spGap K) := t__law_gap.defK fun F => ok_gap F N
  have D_law_divisor : DefK P w K mg base "_law_divisor" ["_law_high", "_law_low"] 1 (spGcd) := t__law_divisor.defK fun F => ok_divisor F N
  have D_law_multiple : DefK P w K mg base "_law_multiple" ["_law_high", "_law_low"] 2 (spLcm) := t__law_multiple.defK fun F => ok_multiple F D_law_divisor
  have D_law_again : DefK P w K mg base "_law_again" ["_law_gaps", "_law_size"] 1 (spAgain K) := t__law_again.defK fun F => ok_again F N
  have D_law_place_house : DefK P w K mg base "_law_place_house" ["_law_ground_here", "_law_lanes_here"] 3 (spPlace K) := t__law_place_house.defK fun F => ok_place F N D_law_gap D_law_multiple D_law_again
  have D_law_house : DefK P w K mg base "_law_house" ["_law_vase_here", "_law_ground_here"] 4 (spHouseX K) := t__law_house.defK fun F => ok_houseX F D_law_ground D_law_lanes D_law_place_house
  have D_law_homes : DefK P w K mg base "_law_homes" ["_law_vase_here"] 5 (spHomes K) := t__law_homes.defK fun F => ok_homes F N D_law_pour D_law_ground D_law_house
  have Dis_integer : DefK P w K mg base "is_integer" ["value"] 1 (spIsInt) := t_is_integer.defK fun F => ok_isint F N
  have Dis_integer_within : DefK P w K mg base "is_integer_within" ["value", "low", "high"] 2 (spWithin) := t_is_integer_within.defK fun F => ok_within F Dis_integer
  have Dis_number : DefK P w K mg base "is_number" ["value"] 2 (spIsNum) := t_is_number.defK fun F => ok_isnum F Dis_integer
  have Dcheck_number : DefK P w K mg base "check_number" ["given"] 3 (spChkNum) := t_check_number.defK fun F => ok_chknum F Dis_number
  have Dcheck_bases : DefK P w K mg base "check_bases" ["bases"] 3 (spChkBases K) := t_check_bases.defK fun F => ok_chkbases F N M Dis_integer_within
  have Dis_row : DefK P w K mg base "is_row" ["bases", "value"] 3 (spIsRow K) := t_is_row.defK fun F => ok_isrow F N M Dis_integer_within
  have Dcheck_rows : DefK P w K mg base "check_rows" ["bases", "rows"] 4 (spChkRows K) := t_check_rows.defK fun F => ok_chkrows F N M Dis_row
  have Dspaced : DefK P w K mg base "spaced" ["parts"] 1 (spSpaced K) := t_spaced.defK fun F => ok_spaced F N
  have Dhouse_text : DefK P w K mg base "house_text" ["bases", "rows"] 2 (spHouseText K) := t_house_text.defK fun F => ok_housetext F Dspaced
  have Dgroups_in_unit : DefK P w K mg base "groups_in_unit" ["bases", "field"] 1 (spUnit K) := t_groups_in_unit.defK fun F => ok_unit F
  have Dgroups_to_repeat : DefK P w K mg base "groups_to_repeat" ["bases", "rows"] 2 (spRepeat K) := t_groups_to_repeat.defK fun F => ok_repeat F N Dgroups_in_unit
  have Dfitted_groups : DefK P w K mg base "fitted_groups" ["bases", "row", "groups"] 2 (spFitted K) := t_fitted_groups.defK fun F => ok_fitted F N Dgroups_in_unit
  have Dskipped_counts : DefK P w K mg base "skipped_counts" ["bases", "rows", "groups"] 3 (spSkipped K) := t_skipped_counts.defK fun F => ok_skipped F Dfitted_groups
  have Dleast_repeat : DefK P w K mg base "least_repeat" ["counts"] 1 (spLeast K) := t_least_repeat.defK fun F => ok_least F N
  have Dsums_ahead : DefK P w K mg base "sums_ahead" ["numbers"] 1 (spSums K) := t_sums_ahead.defK fun F => ok_sums F
  have Dlast_not_above : DefK P w K mg base "last_not_above" ["ascending", "number"] 1 (spLna K) := t_last_not_above.defK fun F => ok_lna F N
  have Dwritten_number : DefK P w K mg base "written_number" ["number"] 1 (spNumText) := t_written_number.defK fun F => ok_numtext F N
  have D_law_stated : DefK P w K mg base "_law_stated" ["_law_home"] 1 (spStated K) := t__law_stated.defK fun F => ok_stated F N
  have D_law_clips : DefK P w K mg base "_law_clips" ["_law_vase_here", "_law_homes_here", "_law_most"] 3 (spClips K) := t__law_clips.defK fun F => ok_clips F N D_law_pour D_law_pluck
  obtain ⟨C, T, ⟨fI, fdI, dv, MK, FI, bI⟩, ⟨fSt, fdSt, mSt, FSt, bSt⟩, ⟨fEq, fdEq, mEq, FEq, bEq⟩, XD⟩ := hD
  have XO := XD.ot
  have XW := XD.ow
  have GI := ok_init (P := P) (w := w) (base := base) FI T N M Dcheck_bases Dcheck_rows Dgroups_to_repeat Dskipped_counts Dhouse_text Dleast_repeat Dsums_ahead
  have GSt := ok_str (P := P) (w := w) (base := base) FSt T N
  have GEq := ok_eq (P := P) (w := w) (base := base) FEq T N XO XW
  obtain ⟨cc, TC, ⟨fIC, fdIC, dvIC, e0C, ds2C, MKC, FIC, bIC, bIC2, hd2C, hEC, kIC⟩, ⟨pC_house, fC_house, fdC_house, qC_house, bC_house, gC_house⟩, ⟨pC_clips, fC_clips, fdC_clips, qC_clips, bC_clips, gC_clips⟩, ⟨pC_record_frame, fC_record_frame, fdC_record_frame, qC_record_frame, bC_record_frame, gC_record_frame⟩, ⟨pC_total, fC_total, fdC_total, qC_total, bC_total, gC_total⟩, ⟨pC_starts, fC_starts, fdC_starts, qC_starts, FC_starts, bC_starts⟩, ⟨pC_joins, fC_joins, fdC_joins, qC_joins, FC_joins, bC_joins⟩, ⟨fC_look, fdC_look, mC_look, FC_look, bC_look⟩, ⟨fC_repr, fdC_repr, mC_repr, FC_repr, bC_repr⟩⟩ := hCut
  have Dcheck_house : DefK P w K mg base "check_house" ["given"] 1 (spChkHouse C) := t_check_house.defK fun F => ok_chkhouse F T N XO XW
  have Dis_clip : DefK P w K mg base "is_clip" ["value"] 3 (spIsClip K C) := t_is_clip.defK fun F => ok_isclip F T N XO XW Dis_number
  have Dcheck_clips : DefK P w K mg base "check_clips" ["clips"] 4 (spChkClips K C) := t_check_clips.defK fun F => ok_chkclips F T N hMC20 Dis_clip
  have Dgoes_on : DefK P w K mg base "goes_on" ["clip", "following"] 2 (spGoesOn K C) := t_goes_on.defK fun F => ok_goeson F T N XO XW ⟨mEq.1, mEq.2, XD.ne, XW.hm⟩ GEq bEq
  have GIC := ok_cutinit (P := P) (w := w) (base := base) (C := C) FIC TC N Dcheck_house Dcheck_number Dcheck_clips Dsums_ahead
  have GC_house := gC_house TC.cl TC.nH P w mg base
  have GC_clips := gC_clips TC.cl TC.nC P w mg base
  have GC_record_frame := gC_record_frame TC.cl TC.nS P w mg base
  have GC_total := gC_total TC.cl TC.nT P w mg base
  have GC_starts : FnOk P w K mg base CX0 1 fC_starts fdC_starts ["self"] (spStarts K C cc) := ok_starts FC_starts TC N
  have GC_joins : FnOk P w K mg base CX0 3 fC_joins fdC_joins ["self"] (spJoins K C cc) := ok_joins FC_joins TC N Dgoes_on
  have GC_look : FnOk P w K mg base CX0 3 fC_look fdC_look ["self", "number"] (spLook K C cc) := ok_look FC_look TC N Dis_integer_within Dlast_not_above
  have GC_repr : FnOk P w K mg base CX0 2 fC_repr fdC_repr ["self"] (spReprC K C cc) := ok_reprC FC_repr TC N Dwritten_number
  have D_law_built : DefK P w K mg base "_law_built" ["_law_home"] 7 (spBuilt K C) := t__law_built.defK fun F => ok_built F T N MK GI bI
  have D_law_same : DefG P w K mg base "_law_same" ["_law_told", "_law_due"] 2 (spSame K) := t__law_same.defG fun F => ok_same F N
  have D_law_filmed : DefK P w K mg base "_law_filmed" ["_law_clips_here", "_law_homes_here"] 8 (spFilmed K C) := t__law_filmed.defK fun F => ok_filmed F N D_law_built
  have D_law_goes_on : DefK P w K mg base "_law_goes_on" ["_law_homes_here", "_law_early", "_law_late"] 2 (spGoesL K) := t__law_goes_on.defK fun F => ok_goesL F N D_law_stated
  have D_law_is_list : DefG P w K mg base "_law_is_list" ["_law_made", "_law_home", "_law_begin", "_law_clips_here", "_law_homes_here"] 4 (spIsList K C cc) := t__law_is_list.defG fun F => ok_islist F TC T N D_law_stated D_law_same mSt.1 mSt.2 GSt bSt qC_clips GC_clips bC_clips qC_house GC_house bC_house qC_record_frame GC_record_frame bC_record_frame
  have D_law_looks_right : DefG P w K mg base "_law_looks_right" ["_law_made", "_law_begin", "_law_clips_here", "_law_vase_here"] 4 (spLooks K C cc) := t__law_looks_right.defG fun F => ok_looks F TC N D_law_pour D_law_same mC_look GC_look bC_look qC_total GC_total bC_total
  have D_law_twenty_right : DefG P w K mg base "_law_twenty_right" ["_law_number"] 7 (spTwenty K) := t__law_twenty_right.defG fun F => ok_twenty F TC T N D_law_same MK GI bI MKC GIC bIC bIC2 hd2C hEC kIC qC_starts GC_starts bC_starts qC_joins GC_joins bC_joins qC_total GC_total bC_total qC_clips GC_clips bC_clips mC_look GC_look bC_look
  exact ⟨D_law_twenty_right, t__law_right.defG fun F => ok_right F TC T N D_law_pour D_law_pluck D_law_homes D_law_built D_law_clips D_law_filmed D_law_is_list D_law_goes_on D_law_same D_law_looks_right MKC GIC bIC mC_repr.1 mC_repr.2 GC_repr bC_repr qC_starts GC_starts bC_starts qC_joins GC_joins bC_joins qC_total GC_total bC_total⟩
theorem walk {l : PySem.W.OpenLaw} {q : Program} {loose : List Str} {XP : (Str → Option Value) → Heap → Prop} {YP : World → Heap → Prop} {d : DefRec} {K : Params → PySem.W.Frag} (hn : l.most = some 63) (hdf : d.params.defaults = [])
    (hY : ∀ (w : World) (h : Heap), YP w h → (K w.params).In h)
    (F : ∀ (w : World) (mg : Str → Option Value) (fa : Addr) (h : Heap), (K w.params).In h → h.Ns mainGlobals mg → mg d.name = some (.ref fa) →
      ∃ fd : FuncData, (∀ (s : Shared) (u : Value), BindsTo s fd ⟨[u], []⟩ [("_law_cells", u)]) ∧ ∀ base : Heap, (K w.params).In base → base.Ns mainGlobals mg → FnG l.prog w (K w.params) mg base 11 fa fd ["_law_cells"] (spLaw (K w.params))) :
    PySem.W.WalkO q loose XP YP l.row.toRowW d [] (fun f vs => PySem.call f vs) :=
  walk_ofG (n := 63) (k := 11) (x := "_law_cells") (sp := spLaw) hn (by decide) hdf ⟨rfl, by decide, by decide⟩ rfl hY F fun _ _ a ns hl _ hS => ⟨a, ns, rfl, hS, hl, fun _ => rfl⟩
end LM

set_option Elab.async false
set_option linter.all false
set_option maxRecDepth 100000
open PySem PySem.W PyProof.Rows
set_option maxHeartbeats 0 in
theorem PySem.Challenge.cw_labelmoves_k43_lists_and_their_frames_holds : PySem.Challenge.rw_labelmoves_k43_lists_and_their_frames.Holds := by
  w_on; o_law; (refine LM.head_top3 (r := LM.HX.R) (q := LM.HX.q) (H := LM.HX.H) (M := 20000) (loose := LM.HX.loose) (d := LM.HX.dR) LM.HX.said ?run (by assumption) ?hw ?hc); (case run => (intro w; exact ⟨LM.HX.looks w, LM.HX.seen w, LM.HX.ob w⟩)); (case hw => w_witness2)
  show PySem.W.WalkO _ _ _ (PySem.W.kHook LM.HX.HP.heap_1 _ (fun _ => by kernel_rfl)).says _ _ _ _
  k_fill
  refine LM.walk (l := PySem.Challenge.rw_labelmoves_k43_lists_and_their_frames) rfl LM.HX.said.noDf (fun w h Y => PySem.W.kIn_of Y) ?F
  case F =>
    intro w mg fa h KX G hmg
    refine' LM.all_mk KX G hmg ?zN ?zM ?zH ?zCut ?zMC20 ?t__law_vase ?t__law_pour ?t__law_pluck ?t__law_ground ?t__law_lanes ?t__law_gap ?t__law_divisor ?t__law_multiple ?t__law_again ?t__law_place_house ?t__law_house ?t__law_homes ?t_is_integer ?t_is_integer_within ?t_is_number ?t_check_number ?t_check_bases ?t_is_row ?t_check_rows ?t_spaced ?t_house_text ?t_groups_in_unit ?t_groups_to_repeat ?t_fitted_groups ?t_skipped_counts ?t_least_repeat ?t_sums_ahead ?t_last_not_above ?t_written_number ?t__law_stated ?t__law_clips ?t_check_house ?t_is_clip ?t_check_clips ?t_goes_on ?t__law_built ?t__law_same ?t__law_filmed ?t__law_goes_on ?t__law_is_list ?t__law_looks_right ?t__law_twenty_right ?t__law_right ?za ?zl ?zc ?zk
    case zN => exact ⟨PySem.W.mg_none_of KX G (by k_is), PySem.W.mg_none_of KX G (by k_is), PySem.W.mg_none_of KX G (by k_is), PySem.W.mg_none_of KX G (by k_is), PySem.W.mg_none_of KX G (by k_is), PySem.W.mg_none_of KX G (by k_is), PySem.W.mg_none_of KX G (by k_is), PySem.W.mg_none_of KX G (by k_is), PySem.W.mg_none_of KX G (by k_is), PySem.W.mg_none_of KX G (by k_is), PySem.W.mg_none_of KX G (by k_is), PySem.W.mg_none_of KX G (by k_is), PySem.W.mg_none_of KX G (by k_is), PySem.W.mg_none_of KX G (by k_is), PySem.W.mg_none_of KX G (by k_is), PySem.W.mg_none_of KX G (by k_is), PySem.W.mg_none_of KX G (by k_is), PySem.W.mg_none_of KX G (by k_is), PySem.W.mg_none_of KX G (by k_is), PySem.W.mg_none_of KX G (by k_is), PySem.W.mg_none_of KX G (by k_is), PySem.W.mg_of KX G (by k_is)⟩
    case zM => exact ⟨⟨_, PySem.W.mg_of KX G (by k_is)⟩, ⟨_, PySem.W.mg_of KX G (by k_is)⟩, ⟨_, PySem.W.mg_of KX G (by k_is)⟩, ⟨_, PySem.W.mg_of KX G (by k_is)⟩, ⟨_, PySem.W.mg_of KX G (by k_is)⟩, ⟨_, PySem.W.mg_of KX G (by k_is)⟩⟩
    (case t__law_vase => (refine' LM.TopD.mk KX G ?a_1 ?l_1 ?c_1 ?k_1 ?b_1; (case a_1 => k_is); (case l_1 => k_is); (case c_1 => k_is); (case k_1 => k_is); (case b_1 => exact fun _ _ _ _ _ _ us hl => match us, hl with | [_, _], _ => rfl)))
    (case t__law_pour => (refine' LM.TopD.mk KX G ?a_2 ?l_2 ?c_2 ?k_2 ?b_2; (case a_2 => k_is); (case l_2 => k_is); (case c_2 => k_is); (case k_2 => k_is); (case b_2 => exact fun _ _ _ _ _ _ us hl => match us, hl with | [_, _], _ => rfl)))
    (case t__law_pluck => (refine' LM.TopD.mk KX G ?a_3 ?l_3 ?c_3 ?k_3 ?b_3; (case a_3 => k_is); (case l_3 => k_is); (case c_3 => k_is); (case k_3 => k_is); (case b_3 => exact fun _ _ _ _ _ _ us hl => match us, hl with | [_, _], _ => rfl)))
    (case t__law_ground => (refine' LM.TopD.mk KX G ?a_4 ?l_4 ?c_4 ?k_4 ?b_4; (case a_4 => k_is); (case l_4 => k_is); (case c_4 => k_is); (case k_4 => k_is); (case b_4 => exact fun _ _ _ _ _ _ us hl => match us, hl with | [_, _], _ => rfl)))
    (case t__law_lanes => (refine' LM.TopD.mk KX G ?a_5 ?l_5 ?c_5 ?k_5 ?b_5; (case a_5 => k_is); (case l_5 => k_is); (case c_5 => k_is); (case k_5 => k_is); (case b_5 => exact fun _ _ _ _ _ _ us hl => match us, hl with | [_, _], _ => rfl)))
    (case t__law_gap => (refine' LM.TopD.mk KX G ?a_6 ?l_6 ?c_6 ?k_6 ?b_6; (case a_6 => k_is); (case l_6 => k_is); (case c_6 => k_is); (case k_6 => k_is); (case b_6 => exact fun _ _ _ _ _ _ us hl => match us, hl with | [_, _, _], _ => rfl)))
    (case t__law_divisor => (refine' LM.TopD.mk KX G ?a_7 ?l_7 ?c_7 ?k_7 ?b_7; (case a_7 => k_is); (case l_7 => k_is); (case c_7 => k_is); (case k_7 => k_is); (case b_7 => exact fun _ _ _ _ _ _ us hl => match us, hl with | [_, _], _ => rfl)))
    (case t__law_multiple => (refine' LM.TopD.mk KX G ?a_8 ?l_8 ?c_8 ?k_8 ?b_8; (case a_8 => k_is); (case l_8 => k_is); (case c_8 => k_is); (case k_8 => k_is); (case b_8 => exact fun _ _ _ _ _ _ us hl => match us, hl with | [_, _], _ => rfl)))
    (case t__law_again => (refine' LM.TopD.mk KX G ?a_9 ?l_9 ?c_9 ?k_9 ?b_9; (case a_9 => k_is); (case l_9 => k_is); (case c_9 => k_is); (case k_9 => k_is); (case b_9 => exact fun _ _ _ _ _ _ us hl => match us, hl with | [_, _], _ => rfl)))
    (case t__law_place_house => (refine' LM.TopD.mk KX G ?a_10 ?l_10 ?c_10 ?k_10 ?b_10; (case a_10 => k_is); (case l_10 => k_is); (case c_10 => k_is); (case k_10 => k_is); (case b_10 => exact fun _ _ _ _ _ _ us hl => match us, hl with | [_, _], _ => rfl)))
    (case t__law_house => (refine' LM.TopD.mk KX G ?a_11 ?l_11 ?c_11 ?k_11 ?b_11; (case a_11 => k_is); (case l_11 => k_is); (case c_11 => k_is); (case k_11 => k_is); (case b_11 => exact fun _ _ _ _ _ _ us hl => match us, hl with | [_, _], _ => rfl)))
    (case t__law_homes => (refine' LM.TopD.mk KX G ?a_12 ?l_12 ?c_12 ?k_12 ?b_12; (case a_12 => k_is); (case l_12 => k_is); (case c_12 => k_is); (case k_12 => k_is); (case b_12 => exact fun _ _ _ _ _ _ us hl => match us, hl with | [_], _ => rfl)))
    (case t_is_integer => (refine' LM.TopD.mk KX G ?a_13 ?l_13 ?c_13 ?k_13 ?b_13; (case a_13 => k_is); (case l_13 => k_is); (case c_13 => k_is); (case k_13 => k_is); (case b_13 => exact fun _ _ _ _ _ _ us hl => match us, hl with | [_], _ => rfl)))
    (case t_is_integer_within => (refine' LM.TopD.mk KX G ?a_14 ?l_14 ?c_14 ?k_14 ?b_14; (case a_14 => k_is); (case l_14 => k_is); (case c_14 => k_is); (case k_14 => k_is); (case b_14 => exact fun _ _ _ _ _ _ us hl => match us, hl with | [_, _, _], _ => rfl)))
    (case t_is_number => (refine' LM.TopD.mk KX G ?a_15 ?l_15 ?c_15 ?k_15 ?b_15; (case a_15 => k_is); (case l_15 => k_is); (case c_15 => k_is); (case k_15 => k_is); (case b_15 => exact fun _ _ _ _ _ _ us hl => match us, hl with | [_], _ => rfl)))
    (case t_check_number => (refine' LM.TopD.mk KX G ?a_16 ?l_16 ?c_16 ?k_16 ?b_16; (case a_16 => k_is); (case l_16 => k_is); (case c_16 => k_is); (case k_16 => k_is); (case b_16 => exact fun _ _ _ _ _ _ us hl => match us, hl with | [_], _ => rfl)))
    (case t_check_bases => (refine' LM.TopD.mk KX G ?a_17 ?l_17 ?c_17 ?k_17 ?b_17; (case a_17 => k_is); (case l_17 => k_is); (case c_17 => k_is); (case k_17 => k_is); (case b_17 => exact fun _ _ _ _ _ _ us hl => match us, hl with | [_], _ => rfl)))
    (case t_is_row => (refine' LM.TopD.mk KX G ?a_18 ?l_18 ?c_18 ?k_18 ?b_18; (case a_18 => k_is); (case l_18 => k_is); (case c_18 => k_is); (case k_18 => k_is); (case b_18 => exact fun _ _ _ _ _ _ us hl => match us, hl with | [_, _], _ => rfl)))
    (case t_check_rows => (refine' LM.TopD.mk KX G ?a_19 ?l_19 ?c_19 ?k_19 ?b_19; (case a_19 => k_is); (case l_19 => k_is); (case c_19 => k_is); (case k_19 => k_is); (case b_19 => exact fun _ _ _ _ _ _ us hl => match us, hl with | [_, _], _ => rfl)))
    (case t_spaced => (refine' LM.TopD.mk KX G ?a_20 ?l_20 ?c_20 ?k_20 ?b_20; (case a_20 => k_is); (case l_20 => k_is); (case c_20 => k_is); (case k_20 => k_is); (case b_20 => exact fun _ _ _ _ _ _ us hl => match us, hl with | [_], _ => rfl)))
    (case t_house_text => (refine' LM.TopD.mk KX G ?a_21 ?l_21 ?c_21 ?k_21 ?b_21; (case a_21 => k_is); (case l_21 => k_is); (case c_21 => k_is); (case k_21 => k_is); (case b_21 => exact fun _ _ _ _ _ _ us hl => match us, hl with | [_, _], _ => rfl)))
    (case t_groups_in_unit => (refine' LM.TopD.mk KX G ?a_22 ?l_22 ?c_22 ?k_22 ?b_22; (case a_22 => k_is); (case l_22 => k_is); (case c_22 => k_is); (case k_22 => k_is); (case b_22 => exact fun _ _ _ _ _ _ us hl => match us, hl with | [_, _], _ => rfl)))
    (case t_groups_to_repeat => (refine' LM.TopD.mk KX G ?a_23 ?l_23 ?c_23 ?k_23 ?b_23; (case a_23 => k_is); (case l_23 => k_is); (case c_23 => k_is); (case k_23 => k_is); (case b_23 => exact fun _ _ _ _ _ _ us hl => match us, hl with | [_, _], _ => rfl)))
    (case t_fitted_groups => (refine' LM.TopD.mk KX G ?a_24 ?l_24 ?c_24 ?k_24 ?b_24; (case a_24 => k_is); (case l_24 => k_is); (case c_24 => k_is); (case k_24 => k_is); (case b_24 => exact fun _ _ _ _ _ _ us hl => match us, hl with | [_, _, _], _ => rfl)))
    (case t_skipped_counts => (refine' LM.TopD.mk KX G ?a_25 ?l_25 ?c_25 ?k_25 ?b_25; (case a_25 => k_is); (case l_25 => k_is); (case c_25 => k_is); (case k_25 => k_is); (case b_25 => exact fun _ _ _ _ _ _ us hl => match us, hl with | [_, _, _], _ => rfl)))
    (case t_least_repeat => (refine' LM.TopD.mk KX G ?a_26 ?l_26 ?c_26 ?k_26 ?b_26; (case a_26 => k_is); (case l_26 => k_is); (case c_26 => k_is); (case k_26 => k_is); (case b_26 => exact fun _ _ _ _ _ _ us hl => match us, hl with | [_], _ => rfl)))
    (case t_sums_ahead => (refine' LM.TopD.mk KX G ?a_27 ?l_27 ?c_27 ?k_27 ?b_27; (case a_27 => k_is); (case l_27 => k_is); (case c_27 => k_is); (case k_27 => k_is); (case b_27 => exact fun _ _ _ _ _ _ us hl => match us, hl with | [_], _ => rfl)))
    (case t_last_not_above => (refine' LM.TopD.mk KX G ?a_28 ?l_28 ?c_28 ?k_28 ?b_28; (case a_28 => k_is); (case l_28 => k_is); (case c_28 => k_is); (case k_28 => k_is); (case b_28 => exact fun _ _ _ _ _ _ us hl => match us, hl with | [_, _], _ => rfl)))
    (case t_written_number => (refine' LM.TopD.mk KX G ?a_29 ?l_29 ?c_29 ?k_29 ?b_29; (case a_29 => k_is); (case l_29 => k_is); (case c_29 => k_is); (case k_29 => k_is); (case b_29 => exact fun _ _ _ _ _ _ us hl => match us, hl with | [_], _ => rfl)))
    (case t__law_stated => (refine' LM.TopD.mk KX G ?a_30 ?l_30 ?c_30 ?k_30 ?b_30; (case a_30 => k_is); (case l_30 => k_is); (case c_30 => k_is); (case k_30 => k_is); (case b_30 => exact fun _ _ _ _ _ _ us hl => match us, hl with | [_], _ => rfl)))
    (case t__law_clips => (refine' LM.TopD.mk KX G ?a_31 ?l_31 ?c_31 ?k_31 ?b_31; (case a_31 => k_is); (case l_31 => k_is); (case c_31 => k_is); (case k_31 => k_is); (case b_31 => exact fun _ _ _ _ _ _ us hl => match us, hl with | [_, _, _], _ => rfl)))
    (case t_check_house => (refine' LM.TopD.mk KX G ?a_32 ?l_32 ?c_32 ?k_32 ?b_32; (case a_32 => k_is); (case l_32 => k_is); (case c_32 => k_is); (case k_32 => k_is); (case b_32 => exact fun _ _ _ _ _ _ us hl => match us, hl with | [_], _ => rfl)))
    (case t_is_clip => (refine' LM.TopD.mk KX G ?a_33 ?l_33 ?c_33 ?k_33 ?b_33; (case a_33 => k_is); (case l_33 => k_is); (case c_33 => k_is); (case k_33 => k_is); (case b_33 => exact fun _ _ _ _ _ _ us hl => match us, hl with | [_], _ => rfl)))
    (case t_check_clips => (refine' LM.TopD.mk KX G ?a_34 ?l_34 ?c_34 ?k_34 ?b_34; (case a_34 => k_is); (case l_34 => k_is); (case c_34 => k_is); (case k_34 => k_is); (case b_34 => exact fun _ _ _ _ _ _ us hl => match us, hl with | [_], _ => rfl)))
    (case t_goes_on => (refine' LM.TopD.mk KX G ?a_35 ?l_35 ?c_35 ?k_35 ?b_35; (case a_35 => k_is); (case l_35 => k_is); (case c_35 => k_is); (case k_35 => k_is); (case b_35 => exact fun _ _ _ _ _ _ us hl => match us, hl with | [_, _], _ => rfl)))
    (case t__law_built => (refine' LM.TopD.mk KX G ?a_36 ?l_36 ?c_36 ?k_36 ?b_36; (case a_36 => k_is); (case l_36 => k_is); (case c_36 => k_is); (case k_36 => k_is); (case b_36 => exact fun _ _ _ _ _ _ us hl => match us, hl with | [_], _ => rfl)))
    (case t__law_same => (refine' LM.TopD.mk KX G ?a_37 ?l_37 ?c_37 ?k_37 ?b_37; (case a_37 => k_is); (case l_37 => k_is); (case c_37 => k_is); (case k_37 => k_is); (case b_37 => exact fun _ _ _ _ _ _ us hl => match us, hl with | [_, _], _ => rfl)))
    (case t__law_filmed => (refine' LM.TopD.mk KX G ?a_38 ?l_38 ?c_38 ?k_38 ?b_38; (case a_38 => k_is); (case l_38 => k_is); (case c_38 => k_is); (case k_38 => k_is); (case b_38 => exact fun _ _ _ _ _ _ us hl => match us, hl with | [_, _], _ => rfl)))
    (case t__law_goes_on => (refine' LM.TopD.mk KX G ?a_39 ?l_39 ?c_39 ?k_39 ?b_39; (case a_39 => k_is); (case l_39 => k_is); (case c_39 => k_is); (case k_39 => k_is); (case b_39 => exact fun _ _ _ _ _ _ us hl => match us, hl with | [_, _, _], _ => rfl)))
    (case t__law_is_list => (refine' LM.TopD.mk KX G ?a_40 ?l_40 ?c_40 ?k_40 ?b_40; (case a_40 => k_is); (case l_40 => k_is); (case c_40 => k_is); (case k_40 => k_is); (case b_40 => exact fun _ _ _ _ _ _ us hl => match us, hl with | [_, _, _, _, _], _ => rfl)))
    (case t__law_looks_right => (refine' LM.TopD.mk KX G ?a_41 ?l_41 ?c_41 ?k_41 ?b_41; (case a_41 => k_is); (case l_41 => k_is); (case c_41 => k_is); (case k_41 => k_is); (case b_41 => exact fun _ _ _ _ _ _ us hl => match us, hl with | [_, _, _, _], _ => rfl)))
    (case t__law_twenty_right => (refine' LM.TopD.mk KX G ?a_42 ?l_42 ?c_42 ?k_42 ?b_42; (case a_42 => k_is); (case l_42 => k_is); (case c_42 => k_is); (case k_42 => k_is); (case b_42 => exact fun _ _ _ _ _ _ us hl => match us, hl with | [_], _ => rfl)))
    (case t__law_right => (refine' LM.TopD.mk KX G ?a_43 ?l_43 ?c_43 ?k_43 ?b_43; (case a_43 => k_is); (case l_43 => k_is); (case c_43 => k_is); (case k_43 => k_is); (case b_43 => exact fun _ _ _ _ _ _ us hl => match us, hl with | [_, _], _ => rfl)))
    case zH =>
      refine' ⟨_, ⟨⟨?y_pg, ?y_hd, ?y_po, ?y_sa⟩, ?y_nB, ?y_nR, ?y_nT, ?y_nS, ?y_nA, ?y_nD, PySem.W.mg_of KX G ?y_aC⟩, ?y_I, ?y_mSt, ?y_mEq, ?y_xmore⟩
      (case y_aC => k_is); (case y_pg => k_is); (case y_hd => k_is); (case y_po => k_is); (case y_sa => k_is)
      (case y_nB => (unfold L2.NoAttr; k_is)); (case y_nR => (unfold L2.NoAttr; k_is)); (case y_nT => (unfold L2.NoAttr; k_is)); (case y_nS => (unfold L2.NoAttr; k_is)); (case y_nA => (unfold L2.NoAttr; k_is)); (case y_nD => (unfold L2.NoAttr; k_is))
      (case y_I => (refine' LM.InitD.mk ?mk_44 ?a_44 ?i_44 ?kc_44 ?l_44 ?lT_44 ?c_44 ?k_44; (case mk_44 => k_is); (case a_44 => k_is); (case i_44 => k_is); (case kc_44 => k_is); (case l_44 => k_is); (case lT_44 => k_is); (case c_44 => k_is); (case k_44 => k_is)))
      (case y_mSt => (refine' LM.MethD.mk ?a_45 ?i_45 ?l_45 ?c_45 ?k_45 ?b_45; (case a_45 => k_is); (case i_45 => k_is); (case l_45 => k_is); (case c_45 => k_is); (case k_45 => k_is); (case b_45 => exact fun _ _ _ _ _ _ us hl => match us, hl with | [_], _ => rfl)))
      (case y_mEq => (refine' LM.MethD.mk ?a_46 ?i_46 ?l_46 ?c_46 ?k_46 ?b_46; (case a_46 => k_is); (case i_46 => k_is); (case l_46 => k_is); (case c_46 => k_is); (case k_46 => k_is); (case b_46 => exact fun _ _ _ _ _ _ us hl => match us, hl with | [_, _], _ => rfl)))
      (case y_xmore => (refine' LM.MoreD.of ?own1_47 ?str1_47 ?str2_47 ?int1_47 ?int2_47 ?non1_47 ?non2_47 ?lst1_47 ?lst2_47 ?tup1_47 ?tup2_47 ?dic1_47 ?dic2_47 ?ha_47 ?hn_47 ?htk_47 ?hm_47 ?ne_47 ?bo_47 ?le_47; (case own1_47 => k_is); (case str1_47 => k_is); (case str2_47 => kit_is); (case int1_47 => k_is); (case int2_47 => kit_is); (case non1_47 => k_is); (case non2_47 => kit_is); (case lst1_47 => k_is); (case lst2_47 => kit_is); (case tup1_47 => k_is); (case tup2_47 => kit_is); (case dic1_47 => k_is); (case dic2_47 => kit_is); (case ha_47 => k_is); (case hn_47 => k_is); (case htk_47 => k_is); (case hm_47 => k_is); (case ne_47 => k_is); (case bo_47 => k_is); (case le_47 => k_is)))
    case zCut =>
      refine' ⟨_, LM.CutTxt.of ⟨?c_pg, ?c_hd, ?c_po, ?c_sa⟩ ?c_n0 ?c_n1 ?c_n2 ?c_n3 ?c_n4 (PySem.W.mg_of KX G ?c_g), ?c_I, ?c_pChouse, ?c_pCclips, ?c_pCrecord_frame, ?c_pCtotal, ?c_pCstarts, ?c_pCjoins, ?c_mClook, ?c_mCrepr⟩
      (case c_g => k_is); (case c_pg => k_is); (case c_hd => k_is); (case c_po => k_is); (case c_sa => k_is)
      (case c_n0 => (unfold L2.NoAttr; k_is)); (case c_n1 => (unfold L2.NoAttr; k_is)); (case c_n2 => (unfold L2.NoAttr; k_is)); (case c_n3 => (unfold L2.NoAttr; k_is)); (case c_n4 => (unfold L2.NoAttr; k_is))
      (case c_I => (refine' LM.InitC.mk ?mk_48 ?a_48 ?i_48 ?kc_48 ?l_48 ?lT_48 ?c_48 ?k_48 ?lE_48; (case mk_48 => k_is); (case a_48 => k_is); (case i_48 => k_is); (case kc_48 => k_is); (case l_48 => k_is); (case lT_48 => k_is); (case c_48 => k_is); (case k_48 => k_is); (case lE_48 => k_is)))
      (case c_pChouse => (refine' LM.PropChouse.mk ?a_49 ?g_49 ?t_49 ?r_49 ?l_49 ?c_49; (case a_49 => k_is); (case g_49 => k_is); (case t_49 => k_is); (case r_49 => k_is); (case l_49 => k_is); (case c_49 => k_is)))
      (case c_pCclips => (refine' LM.PropCclips.mk ?a_50 ?g_50 ?t_50 ?r_50 ?l_50 ?c_50; (case a_50 => k_is); (case g_50 => k_is); (case t_50 => k_is); (case r_50 => k_is); (case l_50 => k_is); (case c_50 => k_is)))
      (case c_pCrecord_frame => (refine' LM.PropCrecord_frame.mk ?a_51 ?g_51 ?t_51 ?r_51 ?l_51 ?c_51; (case a_51 => k_is); (case g_51 => k_is); (case t_51 => k_is); (case r_51 => k_is); (case l_51 => k_is); (case c_51 => k_is)))
      (case c_pCtotal => (refine' LM.PropCtotal.mk ?a_52 ?g_52 ?t_52 ?r_52 ?l_52 ?c_52; (case a_52 => k_is); (case g_52 => k_is); (case t_52 => k_is); (case r_52 => k_is); (case l_52 => k_is); (case c_52 => k_is)))
      (case c_pCstarts => (refine' LM.PropCstarts.mk ?a_53 ?g_53 ?t_53 ?r_53 ?l_53 ?c_53 ?k_53; (case a_53 => k_is); (case g_53 => k_is); (case t_53 => k_is); (case r_53 => k_is); (case l_53 => k_is); (case c_53 => k_is); (case k_53 => k_is)))
      (case c_pCjoins => (refine' LM.PropCjoins.mk ?a_54 ?g_54 ?t_54 ?r_54 ?l_54 ?c_54 ?k_54; (case a_54 => k_is); (case g_54 => k_is); (case t_54 => k_is); (case r_54 => k_is); (case l_54 => k_is); (case c_54 => k_is); (case k_54 => k_is)))
      (case c_mClook => (refine' LM.MethD.mk ?a_55 ?i_55 ?l_55 ?c_55 ?k_55 ?b_55; (case a_55 => k_is); (case i_55 => k_is); (case l_55 => k_is); (case c_55 => k_is); (case k_55 => k_is); (case b_55 => exact fun _ _ _ _ _ _ us hl => match us, hl with | [_, _], _ => rfl)))
      (case c_mCrepr => (refine' LM.MethD.mk ?a_56 ?i_56 ?l_56 ?c_56 ?k_56 ?b_56; (case a_56 => k_is); (case i_56 => k_is); (case l_56 => k_is); (case c_56 => k_is); (case k_56 => k_is); (case b_56 => exact fun _ _ _ _ _ _ us hl => match us, hl with | [_], _ => rfl)))
    case zMC20 => exact ⟨_, PySem.W.mg_of KX G (by k_is)⟩
    (case za => k_is); (case zl => k_is); (case zc => k_is); (case zk => k_is)
