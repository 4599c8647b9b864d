import PyProof.Rows.All
import Wide.All
import OpenK.AllK
import Wide.FinOn
import KE.KStateDown
import HandS.Head0
import HandS.Head1
import HandS.Head2
import HandS.Head3
import PySem.Challenge.RW_labelmoves_k42_known_clocks_and_refusals
import KE.RegKIsAll
import KE.KNestM
import KE.KLam
import HandS.ForMost
import HandS.ForExc
import HandS.ExcInit
import HandS.Wide
import HandS.WideMore
import HandS.WideBits
import HandS.IsInst
import HandS.Defaults
import HandS.FStr
import HandS.Property
import HandS.ClsMeth
import HandS.OwnEq
import HandS.Flow
import HandS.Style
import HandS.Conv
import HandS.Evl
import HandS.Codes
import HandS.StrMore
import HandS.DeepEq
import HandS.TryMany
import HandS.CallLocal
import HandS.EndBits
import HandS.MakeKw
import HandS.NoneIn
import HandS.RaiseMore
import KE.GoesEnum
import KE.KEqDeep
import KE.KMathG
import HandS.Gcd
import HandS.Rev
import PyProof.ReprRoads
import PyProof.ReprText
import HandS.FStrTup
import PyProof.JoinWalk
import PyProof.Rows.StrJoin2
import HandS.RevTup
import HandS.MapJoin
import HandS.Zip
import HandS.Walk
import PyProof.StrBlock2
import KE.GoesNew
import KE.GoesMore
import OpenK.KOps
import KE.KCallOwn
import KE.KUnpackStar
import PyProof.InstNe
import HandS.TryOnly
import KE.KIntText
import KE.IntTextText
import PyProof.StrLawsTight
import PyProof.StrLawsChain
import PyProof.Rows.StrItems
import HandS.ExcField
import HandS.ExcOwn
import HandS.WordsExc
import HandS.Lambda
import HandS.HotCalls
import HandS.SetFor
import HandS.ExcIs
import KE.KExcIs
import KE.KTryMore
import PyProof.LongRange
import PyProof.ListRange
import KE.DataMinMax
import KE.LtData
import KE.DatumOrd
import HandS.SortKw
import HandS.TupAny
import HandS.EndTab
set_option Elab.async false
set_option linter.all false
set_option maxRecDepth 100000
/-! an end's top, run by the kernel in three equations of their own -/
namespace LM
open PySem PySem.W PySem.Calls PyProof.Rows HandSHeadRun
/-- the whole run at a world -/
noncomputable def topW (p : Program) (M : Nat) (w : World) : Option (Shared × SharedT) := wholeF (fun p => stepQ (denQ tabQ) p w) fenceQ M p
theorem top3 {α β γ δ : Type} {o : Option α} {f : α → β} {g : α → γ} {h : α → δ} {b : β} {c : γ} {d : δ} (e1 : o.map f = some b) (e2 : o.map g = some c) (e3 : o.map h = some d) : o.map (fun x => (f x, g x, h x)) = some (b, c, d) := by
  cases o with
  | none => cases e1
  | some x =>
    have e1' : f x = b := Option.some.inj e1
    have e2' : g x = c := Option.some.inj e2
    have e3' : h x = d := Option.some.inj e3
    show some (f x, g x, h x) = _
    rw [e1', e2', e3']
/-- the three ends of a run -/
structure Top3 (r : OpenRow) (q : Program) (H : Hook) (M : Nat) (loose : List PySem.Str) (w : World) : Prop where
  looks : (topW r.prog M w).map (fun x => looksF r.prog x.1.heap x.2.abs) = some true
  seen : (topW r.prog M w).map (fun x => seenQ q loose (importedModules r.prog.main.body) (fun s => xlAt q [] s && recOk r.toRowW.records s) x.2.abs) = some (openGood q loose)
  obs : (topW r.prog M w).map (fun x => H.obs x.2.abs) = some (H.val w)
theorem obsK {K : Params → PySem.W.Frag} {as : List Addr} {e : ∀ P, as = (K P).map (·.1)} {w : World} {o : Option (Shared × SharedT)} (h : o.map (fun x => as.map (getT x.2)) = some ((K w.params).map fun p => some p.2)) :
    o.map (fun x => (PySem.W.kHook K as e).obs x.2.abs) = some ((PySem.W.kHook K as e).val w) := by
  have z : (fun x : Shared × SharedT => (PySem.W.kHook K as e).obs x.2.abs) = fun x => as.map (getT x.2) := funext fun x => by
    show as.map x.2.abs.heap.get? = _
    exact congrArg (fun f => as.map f) (funext fun a => (getT_eq x.2 a).symm)
  rw [z]
  exact h
theorem Top3.run {r : OpenRow} {q : Program} {H : Hook} {M : Nat} {loose : List PySem.Str} {w : World} (t : Top3 r q H M loose w) : RunEqI r q H (fun s => H.obs s.abs) M loose w := top3 t.looks t.seen t.obs
/-- what a row asks of its text, the law's def as d -/
structure RowSaid (r : OpenRow) (q : Program) (d : DefRec) : Prop where
  inView : defOf q r.name = some (d, [])
  inText : r.prog.theDef r.name = some (d.params, d.body, d.scope)
  noKw : kwWritten? d.params.kwonlyargs d.params.kw_defaults = some []
  noDf : d.params.defaults = []
  tame : (!r.writes || r.records.isEmpty) = true
  opens : (chainsOk q && opensWell r.prog && (frees r.toRowW && r.within.isEmpty)) = true
  bare : r.prog.bare
theorem head_top3 {r : OpenRow} {q : Program} {H : Hook} {M : Nat} {loose : List PySem.Str} {d : DefRec} (sd : RowSaid r q d) (run : ∀ w, Top3 r q H M loose w) (said : r.wellSaid = true) (wit : r.toRowW.promised)
    (walk : WalkO q loose (XL q []) H.says r.toRowW d [] fun f vs => PySem.call f vs) : r.Holds :=
  head_imp (ob := fun s => H.obs s.abs) (fun _ => rfl) (fun w => (run w).run) sd.inView sd.inText sd.noKw sd.tame said sd.opens sd.bare wit walk
/-- a world's row, both ways -/
theorem byRow {P : World → Prop} (row : String) (t : ∀ w : World, P (w.withFollow row true)) (f : ∀ w : World, P (w.withFollow row false)) (w : World) : P w := by
  have e := World.withFollow_self w row
  cases hb : w.params.followText row <;> rw [hb] at e
  · rw [← e]; exact f w
  · rw [← e]; exact t w
end LM

set_option Elab.async false
set_option linter.all false
set_option maxRecDepth 100000
set_option maxHeartbeats 0
/-! the run of the top -/
namespace LM.HX
open PySem PySem.Spec PySem.W PyProof.Rows HandSHeadRun
abbrev R : PySem.W.OpenRow := PySem.W.OpenLaw.row PySem.Challenge.rw_labelmoves_k42_known_clocks_and_refusals
def q : Program := PySem.W.view R.prog [0, 82]
def loose : List PySem.Str := (["_wall", "__name__", "WrongValue", "NotAHouse", "NotAMove", "InvalidLabel", "InvalidText", "InvalidNumber", "InvalidWay", "InvalidPace", "InvalidBound", "InvalidBases", "InvalidRows", "InvalidClips", "WrongState", "Lost", "NoAnswer", "TooLong", "is_integer", "is_integer_within", "is_number", "check_number", "is_way", "check_way", "written_number", "has_figures_alone", "worth", "read_number", "is_label", "place_of"] : List PySem.Str) ++ (["label_at", "written_label", "MOST_BASES", "MOST_ROWS", "MOST_GROUPS", "groups_in_unit", "groups_to_repeat", "fitted_groups", "skipped_counts", "least_repeat", "sums_ahead", "last_not_above", "LEAST_BASE", "GREATEST_BASE", "GREATEST_EVERY", "check_bases", "is_row", "check_rows", "spaced", "house_text", "numbers_behind", "House", "check_house", "rounds_until_above", "GREATEST_IN_PACE", "check_pace", "check_bound", "gap_at", "gap_of_round", "drift_of_gap"] : List PySem.Str) ++ (["ends_of_groups", "drift", "swing", "first_above", "first_beyond", "_law_vase", "_law_pour", "_law_pluck", "_law_same", "_law_fault", "_law_tried", "_law_known_right", "_law_right"] : List PySem.Str)
theorem looks_true (w : World) : (LM.topW R.prog 20000 (w.withFollow "special-get-raises" true)).map (fun x => looksF R.prog x.1.heap x.2.abs) = some true := by
  unfold LM.topW
  kernel_rfl
theorem looks_false (w : World) : (LM.topW R.prog 20000 (w.withFollow "special-get-raises" false)).map (fun x => looksF R.prog x.1.heap x.2.abs) = some true := by
  unfold LM.topW
  kernel_rfl
theorem looks (w : World) : (LM.topW R.prog 20000 w).map (fun x => looksF R.prog x.1.heap x.2.abs) = some true := LM.byRow (P := fun w => (LM.topW R.prog 20000 w).map (fun x => looksF R.prog x.1.heap x.2.abs) = some true) "special-get-raises" looks_true looks_false w
theorem seen_true (w : World) : (LM.topW R.prog 20000 (w.withFollow "special-get-raises" true)).map (fun x => seenQ q loose (importedModules R.prog.main.body) (fun s => xlAt q [] s && recOk R.toRowW.records s) x.2.abs) = some (openGood q loose) := by
  unfold LM.topW
  kernel_rfl
theorem seen_false (w : World) : (LM.topW R.prog 20000 (w.withFollow "special-get-raises" false)).map (fun x => seenQ q loose (importedModules R.prog.main.body) (fun s => xlAt q [] s && recOk R.toRowW.records s) x.2.abs) = some (openGood q loose) := by
  unfold LM.topW
  kernel_rfl
theorem seen (w : World) : (LM.topW R.prog 20000 w).map (fun x => seenQ q loose (importedModules R.prog.main.body) (fun s => xlAt q [] s && recOk R.toRowW.records s) x.2.abs) = some (openGood q loose) := LM.byRow (P := fun w => (LM.topW R.prog 20000 w).map (fun x => seenQ q loose (importedModules R.prog.main.body) (fun s => xlAt q [] s && recOk R.toRowW.records s) x.2.abs) = some (openGood q loose)) "special-get-raises" seen_true seen_false w
def dL : DefRec := topDef R.prog 82
abbrev dR : DefRec := ⟨("law" : PySem.Str), dL.params, dL.body, dL.scope, dL.pos⟩
theorem said : LM.RowSaid R q dR := ⟨by kernel_rfl, by kernel_rfl, by kernel_rfl, by kernel_rfl, by kernel_rfl, by kernel_rfl, ⟨by kernel_rfl, by kernel_rfl, by kernel_rfl, by kernel_rfl, by kernel_rfl, by decide +kernel⟩⟩
end LM.HX

set_option Elab.async false
set_option linter.all false
set_option maxRecDepth 100000
/-! a run's end where tables of code are told too -/
namespace LM
open PySem PySem.W PySem.Calls PyProof.Rows HandSHeadRun
theorem obsKM {K : Params → PySem.W.Frag} {as ts : List Addr} {e : ∀ P, as = (K P).map (·.1)} {w : World} {o : Option (Shared × SharedT)} (h : o.map (fun x => (as.map (getT x.2), ts.map (getT x.2))) = some ((K w.params).map (fun p => some p.2), ts.map fun _ => some (tabObj #[]))) :
    o.map (fun x => (PySem.W.kmHook K as e ts).obs x.2.abs) = some ((PySem.W.kmHook K as e ts).val w) := by
  have z : (fun x : Shared × SharedT => (PySem.W.kmHook K as e ts).obs x.2.abs) = fun x => (as.map (getT x.2), ts.map (getT x.2)) := funext fun x => by
    show (as.map x.2.abs.heap.get?, ts.map x.2.abs.heap.get?) = _
    have g : x.2.abs.heap.get? = getT x.2 := funext fun a => (getT_eq x.2 a).symm
    rw [g]
  rw [z]
  exact h
end LM

set_option Elab.async false
set_option linter.all false
set_option maxRecDepth 100000
set_option maxHeartbeats 0
open PySem PySem.W PyProof.Rows
namespace LM.HX
noncomputable section
@[reducible] def HW (_ : Hook) : Prop := LM.HX.R.Holds
theorem HW.mk (H : Hook) (h : LM.HX.R.Holds) : HW H := h
section
set_option hygiene false in
local macro_rules | `(tactic| o_head $H) => `(tactic| exact HW.mk $H h)
def HP : {H : Hook // LM.HX.R.Holds → HW H} := by
  refine ⟨?a, fun h => ?b⟩
  case b => k_head
end
abbrev H : Hook := HP.1
theorem ob_true (w : World) : (LM.topW R.prog 20000 (w.withFollow "special-get-raises" true)).map (fun x => H.obs x.2.abs) = some (H.val (w.withFollow "special-get-raises" true)) := by
  refine LM.obsKM (e := fun _ => by kernel_rfl) ?_
  unfold LM.topW
  kernel_rfl
theorem ob_false (w : World) : (LM.topW R.prog 20000 (w.withFollow "special-get-raises" false)).map (fun x => H.obs x.2.abs) = some (H.val (w.withFollow "special-get-raises" false)) := by
  refine LM.obsKM (e := fun _ => by kernel_rfl) ?_
  unfold LM.topW
  kernel_rfl
theorem ob (w : World) : (LM.topW R.prog 20000 w).map (fun x => H.obs x.2.abs) = some (H.val w) := LM.byRow (P := fun w => (LM.topW R.prog 20000 w).map (fun x => H.obs x.2.abs) = some (H.val w)) "special-get-raises" ob_true ob_false w
end
end LM.HX

set_option Elab.async false
set_option linter.all false
set_option maxRecDepth 100000
set_option maxHeartbeats 4000000
namespace LM
open PySem PySem.Spec PyProof.Rows L2

/-- a def of the text that stands at its name and keeps its promise, nothing leaving it -/
structure DefK (P : Program) (w : World) (K : PySem.W.Frag) (mg : Str → Option Value) (base : Heap) (x : Str) (ps : List Str) (k : Nat) (sp : Sp) : Prop where
  all : ∃ (f : Addr) (fd : FuncData), FnOk P w K mg base CX0 k f fd ps sp ∧ mg x = some (.ref f) ∧ PySem.W.keepIn K (.ref f) = true ∧ Binds K fd ps []
theorem pe_d {X : Cx} {x : Str} {p pos : Pos} {e : Expr} {es : List Expr} {t : TA} {ps : List Str} {k : Nat} {sp : Sp} (D : DefK X.prog X.w X.K X.mg X.base x ps k sp) (hr : Room k X.A) (hg : Gl X x) (ha : PA X (e :: es) t)
    (hdb : (x == ("__debug__" : Str)) = false := by decide) (he : starEach (e :: es) X.env = (false, eval e X.env) :: starEach es X.env := by rfl) (hpl : (backTo pos (starEach es X.env)).any (·.1) = false := by rfl) :
    PE X (.Call (.Name x p) (e :: es) [] pos) (tCall sp [] E0 t) := by
  obtain ⟨f, fd, F, m, kp, b⟩ := D.all
  exact pe_call F hr hg m kp b .nil pass0 ha hdb he hpl
/-- a new thing leaves the rest as it was -/
theorem same_new {H : Hp} {p : Addr} {o : HO} (h : H p = none) : Same H (upd H p o) := fun b x e => by
  rw [upd_ne (ne_of_none e h)]
  exact e
theorem same_mut {H H' : Hp} {p : Addr} {o : HO} (s : Same H H') (h : H p = none) : Same H (upd H' p o) := fun b x e => by
  rw [upd_ne (ne_of_none e h)]
  exact s b x e
end LM
namespace LM
open PySem PySem.Spec PyProof.Rows L2
theorem ifD {p A B : Prop} [Decidable p] (h1 : p → A) (h2 : ¬ p → B) : if decide p = true then A else B := by
  by_cases h : p
  · rw [decide_eq_true h]
    exact iteT (h1 h)
  · rw [decide_eq_false h]
    exact iteF (h2 h)
theorem ifN {p A B : Prop} [Decidable p] (h1 : ¬ p → A) (h2 : p → B) : if (!decide p) = true then A else B := by
  by_cases h : p
  · rw [decide_eq_true h]
    exact iteF (h2 h)
  · rw [decide_eq_false h]
    exact iteT (h1 h)
theorem ifB {b : Bool} {A B : Prop} (h1 : b = true → A) (h2 : b = false → B) : if b = true then A else B := by
  cases b with
  | true => exact iteT (h1 rfl)
  | false => exact iteF (h2 rfl)
end LM
namespace LM
open PySem PySem.Spec PyProof.Rows L2
/-- both ways of a conditional expression hand on a value with P, the heap as it was -/
theorem if_join {p : Prop} [Decidable p] {ta tb : TE} {σ : L2.St} {H : Hp} {Q : VK} (P : V → Prop) (h1 : p → ∀ Q' : VK, (∀ v, P v → Q' v H) → ta σ H Q') (h2 : ¬ p → ∀ Q' : VK, (∀ v, P v → Q' v H) → tb σ H Q') (k : ∀ v, P v → Q v H) :
    if decide p = true then ta σ H Q else tb σ H Q := ifD (fun h => h1 h Q k) (fun h => h2 h Q k)
theorem Same.of_new {H H' : Hp} {p : Addr} {o : HO} (s : Same H H') (h : H' p = none) : Same H (upd H' p o) := s.trans (same_new h)
theorem nat_of {i : Int} (h : 0 ≤ i) : ∃ j : Nat, i = (j : Int) := ⟨i.toNat, by omega⟩
theorem map_get {ns : List Int} {j : Nat} (h : j < ns.length) : (ns.map V.int)[j]? = some (V.int ns[j]) := by
  rw [List.getElem?_map, List.getElem?_eq_getElem h]
  rfl
/-- the vase stands at p, the rest is as it was -/
def Else (p : Addr) (H H' : Hp) : Prop := ∀ b o, b ≠ p → H b = some o → H' b = some o
theorem Else.refl (p : Addr) (H : Hp) : Else p H H := fun _ _ _ h => h
theorem Else.trans {p : Addr} {H H1 H2 : Hp} (a : Else p H H1) (b : Else p H1 H2) : Else p H H2 := fun c o n h => b c o n (a c o n h)
theorem Same.els {p : Addr} {H H' : Hp} (s : Same H H') : Else p H H' := fun c o _ h => s c o h
theorem Else.seq {K : PySem.W.Frag} {p : Addr} {H H' : Hp} {a : Addr} {xs : List V} (e : Else p H H') (n : a ≠ p) (h : SqL K H a xs) : SqL K H' a xs := by
  rcases h with (h | ⟨o, h⟩) | h
  · exact .inl (.inl (e _ _ n h))
  · exact .inl (.inr ⟨o, e _ _ n h⟩)
  · exact .inr h
theorem Same.seqT {K : PySem.W.Frag} {H H' : Hp} {a : Addr} {xs : List V} (e : Same H H') (h : SqT K H a xs) : SqT K H' a xs := by
  rcases h with (h | ⟨o, h⟩) | h
  · exact .inl (.inl (e _ _ h))
  · exact .inl (.inr ⟨o, e _ _ h⟩)
  · exact .inr h
theorem divW {n : Int} (h0 : 0 < n) (h1 : n < 2 ^ 220) (i : Int) : CDivP i n := by
  refine ⟨h0, ?_⟩
  have hl : n.natAbs.log2 < 220 := (Nat.log2_lt (by omega)).mpr (by
    have : ((2 : Int) ^ 220) = ((2 ^ 220 : Nat) : Int) := by decide
    omega)
  unfold Builtin.divisionGoesByPylong
  simp only [Bool.and_eq_false_imp, decide_eq_true_eq]
  intro h
  exfalso
  split at h <;> omega
end LM
namespace LM
open PySem PySem.Spec PyProof.Rows L2
theorem cut_to (xs : List V) (n : Nat) : cutV xs none (some (n : Int)) = xs.take n := by
  unfold cutV
  rw [HT.sIx_none, HT.sIx_nat, List.drop_zero, Nat.sub_zero]
  by_cases h : n ≤ xs.length
  · rw [Nat.min_eq_left h]
  · rw [Nat.min_eq_right (by omega), List.take_of_length_le (Nat.le_refl _), List.take_of_length_le (by omega)]
theorem cut_from (xs : List V) (n : Nat) : cutV xs (some (n : Int)) none = xs.drop n := by
  unfold cutV
  rw [HT.sIx_none, HT.sIx_nat]
  by_cases h : n ≤ xs.length
  · rw [Nat.min_eq_left h, List.take_of_length_le (by rw [List.length_drop]; exact Nat.le_refl _)]
  · rw [Nat.min_eq_right (by omega), List.drop_eq_nil_of_le (Nat.le_refl _), List.drop_eq_nil_of_le (by omega), List.take_nil]
theorem sIx_last (n d : Nat) : HT.sIx n d (some (-1)) = n - 1 := by
  show (if (-1 : Int) < 0 then (-1 + (n : Int)).toNat else min (-1 : Int).toNat n) = n - 1
  rw [if_pos (by decide)]
  omega
theorem cut_but (xs : List V) : cutV xs none (some (-1)) = xs.dropLast := by
  unfold cutV
  rw [HT.sIx_none, sIx_last, List.drop_zero, Nat.sub_zero, List.dropLast_eq_take]
theorem cut_fb (xs : List V) (n : Nat) (h : n + 1 ≤ xs.length) : cutV xs (some (n : Int)) (some (-1)) = xs.dropLast.drop n := by
  unfold cutV
  rw [HT.sIx_nat, sIx_last, Nat.min_eq_left (by omega), List.dropLast_eq_take, List.drop_take]
theorem cut_ft (xs : List V) (a b : Nat) (hb : b ≤ xs.length) (hab : a ≤ b) : cutV xs (some (a : Int)) (some (b : Int)) = (xs.drop a).take (b - a) := by
  unfold cutV
  rw [HT.sIx_nat, HT.sIx_nat, Nat.min_eq_left hb, Nat.min_eq_left (by omega)]
/-- a new list, what is known of it -/
theorem lst_new {H : Hp} {xs : List V} {Q : V → Hp → Prop} (h : ∀ p H', H p = none → Same H H' → H' p = some (.lst xs) → Q (.ref p) H') : ∀ p, H p = none → Q (.ref p) (upd H p (.lst xs)) := fun p n => h p _ n (same_new n) upd_same
theorem tup_new {H : Hp} {xs : List V} {Q : V → Hp → Prop} (h : ∀ p H', H p = none → Same H H' → H' p = some (.tup xs) → Q (.ref p) H') : ∀ p, H p = none → Q (.ref p) (upd H p (.tup xs)) := fun p n => h p _ n (same_new n) upd_same
theorem small {n : Nat} (h : n ≤ 1000000) : n ≤ sizeLine := Nat.le_trans h (by decide)
theorem smallLt {n : Nat} (h : n ≤ 1000000) : n < sizeLine := Nat.lt_of_le_of_lt h (by decide)
theorem SqL.lst {K : PySem.W.Frag} {H : Hp} {a : Addr} {xs : List V} (h : H a = some (.lst xs)) : SqL K H a xs := .inl (.inl h)
theorem SqT.tup {K : PySem.W.Frag} {H : Hp} {a : Addr} {xs : List V} (h : H a = some (.tup xs)) : SqT K H a xs := .inl (.inl h)
end LM
namespace LM
theorem idP {p : Prop} (h : p) : p := h
end LM
namespace LM
open PySem PySem.Spec PyProof.Rows L2
theorem pe_const {X : Cx} {x : Str} {pos : Pos} {i : Int} (hg : Gl X x) (h : ∃ t, X.mg x = some (.int i t)) (hdb : (x == ("__debug__" : Str)) = false := by decide) : PE X (.Name x pos) (tC (.int i)) := by
  obtain ⟨t, e⟩ := h
  exact pe_glob hg e ⟨t, rfl⟩ hdb
theorem pe_ty {X : Cx} {x : Str} {pos : Pos} (T : String) (hg : Gl X x) (hm : X.mg x = none) (hv : bootBuiltins x = some (.type T)) (hn : x ≠ "__name__" := by decide) (hdb : (x == ("__debug__" : Str)) = false := by decide) : PE X (.Name x pos) (tC (.ty T)) :=
  pe_bltn hg hm hv rfl hn hdb
end LM

set_option Elab.async false
set_option linter.all false
set_option maxRecDepth 100000
set_option maxHeartbeats 4000000
namespace LM
open PySem PySem.Spec PyProof.Rows L2

/-! ### any(xs) of a list of ints -/
theorem nz_range : ∀ ks : List Int, (List.range ks.length).any (fun j => decide (ks.getD j 0 ≠ 0)) = ks.any (fun k => decide (k ≠ 0))
  | [] => rfl
  | k :: ks => by
    rw [List.length_cons, List.range_succ_eq_map, List.any_cons, List.any_map, List.any_cons, ← nz_range ks]
    all_goals rfl
theorem truth_nums {prog : Program} {w : World} {A : Around} {ks : List Int} {vs : List Value} (e : Vals (ks.map V.int) vs) :
    TruthOf prog w A (fun j v => vs.toArray[j]? = some v) (fun j => decide (ks.getD j 0 ≠ 0)) := fun j v s Q E hv hq => by
  have hv' : vs[j]? = some v := by simpa using hv
  have hl : (ks.map V.int).length = vs.length := e.length
  have hj : j < ks.length := by
    have := (List.getElem?_eq_some_iff.mp hv').1
    rw [← hl, List.length_map] at this
    exact this
  have hk : (ks.map V.int)[j]? = some (V.int ks[j]) := by rw [List.getElem?_map, List.getElem?_eq_getElem hj]; rfl
  obtain ⟨u, hu, ru⟩ := e.get hk
  rw [hv'] at hu
  cases hu
  obtain ⟨t, rfl⟩ := ru
  have hg : ks.getD j 0 = ks[j] := by rw [List.getD_eq_getElem?_getD, List.getElem?_eq_getElem hj]; rfl
  have hq' : Q (decide (ks.getD j 0 ≠ 0)) s := hq
  rw [hg] at hq'
  have eb : decide (ks[j] ≠ 0) = (ks[j] != 0) := by
    by_cases z : ks[j] = 0
    · rw [z]; rfl
    · rw [decide_eq_true z]; exact (bne_iff_ne.mpr z).symm
  rw [eb] at hq'
  first | exact PyProof.Rows.truthy_int hq' | exact PySem.P.truthy_int hq'
def rAnyI (K : PySem.W.Frag) : List V → Hp → VK → Prop := fun vs H Q => ∃ (a : Addr) (ks : List Int), vs = [V.ref a] ∧ SqL K H a (ks.map V.int) ∧ Q (.bl (ks.any fun k => decide (k ≠ 0))) H
theorem cr_anyI {X : Cx} (hc : X.calm = true) : CallR X (.builtin "any") (rAnyI X.K) := by
  intro pins s σ H vs us Q I r h
  obtain ⟨a, ks, rfl, hs, q⟩ := h
  obtain ⟨its, rv, hl, _⟩ := I.list hs
  rw [Vals.ref1 r]
  have hlen : (ks.map V.int).length = its.length := rv.length
  refine call_any_walk (iter_any hl.isList fun s2 e2 st hne => ?_)
  subst e2
  refine ⟨_, _, _, _, _, _, _, rfl, Walks.list (A := X.A.in1) (I.ok.hd hc) _ a hne its.toArray, st, truth_nums rv, fun h' tk hk => ?_⟩
  refine ⟨.bl _, H, I.kept fun b o eo => hk b o (fun hm => ?_) (Heap.get?_push_of_some _ eo), ?_, q⟩
  · rcases List.mem_cons.mp hm with z | hm
    · exact absurd (z ▸ Heap.lt_size eo) (Nat.lt_irrefl _)
    · cases hm
  · show Value.bool _ = Value.bool _
    rw [← nz_range, List.size_toArray, ← hlen, List.length_map]

/-! ### math.lcm -/
def rLcm : List V → Hp → VK → Prop := fun vs H Q => ∃ a b : Int, vs = [.int a, .int b] ∧ a.natAbs < 2 ^ 30 ∧ b.natAbs < 2 ^ 30 ∧ Q (.int ((Nat.lcm a.natAbs b.natAbs : Nat) : Int)) H
theorem lcm_small {a b : Nat} (ha : a < 2 ^ 30) (hb : b < 2 ^ 30) : (Nat.lcm a b).log2 < 60 := by
  have h1 : Nat.lcm a b ≤ a * b := by
    rcases Nat.eq_zero_or_pos (a * b) with z | z
    · have e : Nat.lcm a b = 0 := by
        unfold Nat.lcm
        rw [z, Nat.zero_div]
      omega
    · exact Nat.le_of_dvd z (Nat.lcm_dvd (Nat.dvd_mul_right a b) (Nat.dvd_mul_left b a))
  have h2 : a * b < 2 ^ 30 * 2 ^ 30 := Nat.lt_of_le_of_lt (Nat.mul_le_mul_right b (Nat.le_of_lt ha)) (Nat.mul_lt_mul_of_pos_left hb (by decide))
  have h3 : Nat.lcm a b < 2 ^ 60 := by
    have : (2 : Nat) ^ 30 * 2 ^ 30 = 2 ^ 60 := by decide
    omega
  rcases Nat.eq_zero_or_pos (Nat.lcm a b) with z | z
  · rw [z]; decide
  · exact (Nat.log2_lt (by omega)).mpr h3
theorem cr_lcm {X : Cx} : CallR X (.builtin "math.lcm") rLcm := by
  intro pins s σ H vs us Q I r h
  obtain ⟨a, b, rfl, ha, hb, q⟩ := h
  obtain ⟨t, u, rfl⟩ := Vals.int2 r
  have e1 : (Nat.lcm 1 a.natAbs) = a.natAbs := Nat.lcm_one_left _
  have hs : (((((Nat.lcm 1 a.natAbs).lcm b.natAbs : Nat) : Int)).natAbs).log2 < bitsLine := by
    rw [e1, Int.natAbs_natCast]
    exact Nat.lt_trans (lcm_small ha hb) (by decide)
  refine PySem.W.mg_lcm (Nat.lt_trans ha (by decide)) (Nat.lt_trans hb (by decide)) hs ?_
  rw [e1]
  exact ⟨.int _, H, I.tok _, ⟨_, rfl⟩, q⟩

/-! ### a *= b -/
theorem ip_mul {X : Cx} : PIp X .Mult (rI CMul fun i j => .int (i * j)) := fun pins s σ H x y v u Q I rx ry h => iop_mul pins s σ H x y v u Q I rx ry h

/-! ### enumerate(t), t a tuple -/
theorem enumT_new {v : Value} {o : Obj} {J : Heap → Prop} (B : Begins v o J) :
    Meets (Builtin.«enumerate.__new__» ⟨[.type "enumerate", v], []⟩) (fun _ R s => J s.heap ∧
      R (.ok (.ret (.ref (s.heap.push o).objs.size))) { s with heap := (s.heap.push o).push { cls := .type "enumerate", data := .fields #[.none, .bool false, .ref s.heap.objs.size, rawInt 0, .none, .none] } }) :=
  .of_wp fun prog w A R s h => by
    obtain ⟨hp, gs, dr, tk, os⟩ := s
    obtain ⟨hj, hr⟩ := h
    have hsub := sub_enumerate
    have go : ∀ {A' : Around} {E Q : Value → Shared → Prop}, Q (.ref hp.objs.size) ⟨hp.push o, gs, dr, tk, os⟩ → wpAny (model prog w) A' (pyIter v) Q E ⟨hp, gs, dr, tk, os⟩ :=
      fun q => B.iter prog w _ _ ⟨hp, gs, dr, tk, os⟩ _ hj q
    wp_walk using go
    refine wpAny_stack_any fun st => wpAny_pure ?_
    split
    · rename_i c _ _ _ _ _
      cases (c == Value.type "enumerate") <;> (wp_walk using go; exact ⟨_, rfl, hr⟩)
    · wp_walk using go
      exact ⟨_, rfl, hr⟩
theorem enumT_call {prog : Program} {w : World} {A : Around} {E : Value → Shared → Prop} {s : Shared} {v : Value} {o : Obj} {J : Heap → Prop} {Q : Value → Shared → Prop} (B : Begins v o J) (hj : J s.heap)
    (h : ∀ h', IsEnum h' (s.heap.objs.size + 1) s.heap.objs.size 0 .none → h'.get? s.heap.objs.size = some o → (∀ b u, s.heap.get? b = some u → h'.get? b = some u) → Q (.ref (s.heap.objs.size + 1)) { s with heap := h' }) :
    wpAny (model prog w) A (call (.type "enumerate") [v]) Q E s := by
  refine callType_new F.called_enumerate (by decide) (F.typeCall_enumerate_1 _) (F.newCall_enumerate_1 _) (fun obj => F.args_object_init_2 obj _) F.entry_enumerate_new (enumT_new B) ⟨hj, ?_⟩
  have z : (s.heap.push o).objs.size = s.heap.objs.size + 1 := Heap.size_push ..
  show _ ∧ _
  rw [z]
  have he : IsEnum ((s.heap.push o).push { cls := .type "enumerate", data := .fields #[.none, .bool false, .ref s.heap.objs.size, rawInt 0, .none, .none] }) (s.heap.objs.size + 1) s.heap.objs.size 0 .none := by
    have y := Heap.get?_push_size (s.heap.push o) (o := { cls := .type "enumerate", data := .fields #[.none, .bool false, .ref s.heap.objs.size, rawInt 0, .none, .none] }) rfl
    rw [z] at y
    exact y
  exact ⟨⟨_, he, rfl⟩, h _ he (Heap.get?_push_of_some _ (Heap.get?_push_size _ B.free)) fun b u x => Heap.get?_push_of_some _ (Heap.get?_push_of_some _ x)⟩
/-- the tuple at a, each item in a new pair with its index -/
def IteT (K : PySem.W.Frag) (a : Addr) : It :=
  ⟨fun i H => ∃ (xs : List V) (x : V), SqT K H a xs ∧ xs[i]? = some x,
   fun i H v H' => ∃ T x, v = .ref T ∧ H T = none ∧ H' = upd H T (.tup [.int (i : Nat), x]) ∧ ∀ xs, SqT K H a xs → xs[i]? = some x,
   fun i H => ∃ xs : List V, SqT K H a xs ∧ xs.length ≤ i⟩
theorem turn_enumT {P : Program} {w : World} {K : PySem.W.Frag} {elts : List Expr} {kk : Nat} {tpos : Pos} (a e it : Addr) (hai : a ≠ it) (hae : a ≠ e) :
    Turn P w K (.Tuple elts kk tpos) (IteT K a) [e, it] e (fun i h => (∃ old, IsEnum h e it ((i : Nat) : Int) old) ∧ h.IsTupleIter it a i ∧ e ≠ it) where
  mem := by simp
  obj := fun i h st b hb => by
    obtain ⟨⟨old, he⟩, ⟨o, ho, hc, hd⟩, _⟩ := st
    rcases (show b = e ∨ b = it by simpa using hb) with z | z
    · rw [z]
      exact ⟨_, he, fun v q => nomatch q⟩
    · rw [z]
      exact ⟨o, ho, fun v q => by rw [hd] at q; cases q⟩
  keep := fun i h h' st k => by
    obtain ⟨⟨old, he⟩, hi, hne⟩ := st
    exact ⟨⟨old, k e (by simp) _ he⟩, hi.at fun o q => k it (by simp) o q, hne⟩
  item := by
    intro X hP hw hK hc i pins s σ H E I hf st hg
    subst hP hw hK
    obtain ⟨⟨old, he⟩, hit, hne⟩ := st
    obtain ⟨xs, x, hq, hx⟩ := hg
    obtain ⟨its, rv, p, hz⟩ := I.tuple hq
    obtain ⟨u, hu, ru⟩ := rv.get hx
    have hel : e < s.heap.objs.size := Heap.lt_size he
    have hil : it < s.heap.objs.size := by obtain ⟨_, q, _⟩ := hit; exact Heap.lt_size q
    have D := Draws.tuple (prog := X.prog) (w := X.w) (A := X.A.in1) (I.ok.hd hc) it a hai its.toArray
    have hlt : i < its.toArray.size := by
      have := (List.getElem?_eq_some_iff.mp hu).1
      simpa using this
    refine wpAny_pyNext_enum_itemD D he ⟨hit, show s.heap.IsTuple a its.toArray from p⟩ hlt hne (fun hm => ?_) fun y h' tk hy ho hst hT hsz hk => ?_
    · rcases (show e = it ∨ e = a by simpa using hm) with z | z
      · exact hne z
      · exact hae z.symm
    have ey : y = u := by
      have h1 : its.toArray[i]? = some y := hy
      have h2 : its[i]? = some y := by simpa using h1
      exact Option.some.inj (h2.symm.trans hu)
    subst ey
    refine ⟨_, rfl, wpAny_letOwnedTupleGo_enum (s := { s with heap := h', toks := tk + 1 }) ho fun h2 he2 sb => ?_⟩
    have hT2 : h2.get? s.heap.objs.size = some { cls := .type "tuple", data := .seq #[.int i tk, y] } := (sb.2 _ (Nat.ne_of_gt hel)).trans hT
    have new : ObjOk X.prog X.w (upd H s.heap.objs.size (.tup [.int (i : Nat), x])) h2 s.heap.objs.size (.tup [.int (i : Nat), x]) :=
      ⟨by show 2 ≤ sizeLine; decide, [.int i tk, y], .cons ⟨_, rfl⟩ (.cons ru .nil), ⟨_, hT2, rfl, _, rfl⟩⟩
    have J : Inv X pins σ (upd H s.heap.objs.size (.tup [.int (i : Nat), x])) { s with heap := h2, toks := tk + 1 } :=
      I.turnedNew (ch := [e, it]) (fun b ob hb q => (sb.2 b (fun z => hb (by simp [z]))).trans (hk b ob (fun z => hb (by simp [z])) (fun z => hb (by simp [z])) q)) hf (Nat.le_refl _) new
    refine ⟨.ref s.heap.objs.size, _, J, rfl, ⟨_, x, rfl, I.hok.fresh (Nat.le_refl _), rfl, fun ys hys => by rw [I.tuple_inj hys hq]; exact hx⟩, ⟨⟨y, ?_⟩, hst.1.at fun o q => (sb.2 it (Ne.symm hne)).trans q, hne⟩, fun b hb => ?_⟩
    · have e1 : ((i + 1 : Nat) : Int) = (i : Int) + 1 := by omega
      rw [e1]
      exact he2
    · have hb' : b < s.heap.objs.size := by
        rcases (show b = e ∨ b = it by simpa using hb) with z | z
        · rw [z]; exact hel
        · rw [z]; exact hil
      rw [upd_ne (Nat.ne_of_lt hb')]
      exact (hf b hb).1
  done := by
    intro X hP hw hK hc i pins s σ H E I hf st hg
    subst hP hw hK
    obtain ⟨⟨old, he⟩, hit, hne⟩ := st
    obtain ⟨xs, hq, hx⟩ := hg
    obtain ⟨its, rv, p, hz⟩ := I.tuple hq
    obtain ⟨f0, f1, f2, f3, f4, f5⟩ := hf it (by simp)
    have hl := rv.length
    have D := Draws.tuple (prog := X.prog) (w := X.w) (A := X.A.in1) (I.ok.hd hc) it a hai its.toArray
    have hT : s.TypeIs (.ref e) "enumerate" := ⟨_, he, rfl⟩
    unfold pyNext
    refine wpAny_bind (wpAny_attempt (wpAny_callSpecial?_slot (name := Str.ofString "__next__") hT F.slot_enumerate_next
      (wpAny_call_entry F.slot_enumerate_next hT F.entry_enumerate_next ?_ (F.args_enumerate_next_1 _))))
    show wpAny _ _ (field (.ref e) 2 >>= _) _ _ _
    refine wpAny_bind (wpAny_field he rfl (x := .ref it) rfl ?_)
    refine wpAny_bind (wpAny_nextOf_tuple_end (I.ok.hd hc) hit (show s.heap.IsTuple a its.toArray from p) (by simp; omega) fun h' y hy hy' => ?_)
    obtain ⟨o, ho, hcl⟩ := hy'
    refine wpAny_bind (wpAny_isInstance (T := "StopIteration") (b := true) ⟨o, ho, hcl⟩ isSubtype_stop ?_)
    exact wpAny_pure ⟨rfl, I.turned (t' := s.toks) (fun b o hb q => hy b o hb q) f0 f1 f3 f4 f5⟩
  self := fun A i s Q E st h => by
    obtain ⟨⟨_, he⟩, _⟩ := st
    exact wpAny_pyIter_enum he h
def iEnumT (K : PySem.W.Frag) (ta : TA) : TI := fun σ H R => ta σ H fun vs H1 => ∃ a xs, vs = [.ref a] ∧ SqT K H1 a xs ∧ R (IteT K a) H1
theorem pi_enumT {X : Cx} {e : Expr} {ta : TA} {p pos tpos : Pos} {elts : List Expr} {kk : Nat} (hg : Gl X "enumerate") (hm : X.mg "enumerate" = none) (ha : PA X [e] ta) (hs : starEach [e] X.env = [(false, eval e X.env)] := by rfl) :
    PI X (.Tuple elts kk tpos) (.Call (.Name "enumerate" p) [e] [] pos) (iEnumT X.K ta) := by
  refine ⟨fun pins s σ H R I h => ?_⟩
  refine Call_ (ld_blt I hg hm boot_enumerate (PyProof.Rows.callWith_type1 (thn (ha.run pos pins s σ H _ I h) fun us s1 ⟨vs, H1, I1, r1, q1⟩ => ?_) hs rfl))
  obtain ⟨a, xs, ex, hq, q⟩ := q1
  subst ex
  rw [Vals.ref1 r1]
  obtain ⟨its, rv, tp, hz⟩ := I1.tuple hq
  have hla : a < s1.heap.objs.size := by obtain ⟨o, ho, _⟩ := tp; exact Heap.lt_size ho
  refine enumT_call (begins_tuple a its.toArray) (show s1.heap.IsTuple a its.toArray from tp) fun h' he hit hk => wpAny_pyIter_enum he ?_
  have I2 : Inv X pins σ H1 { s1 with heap := h' } := I1.kept (t' := s1.toks) hk
  refine ⟨s1.heap.objs.size + 1, [s1.heap.objs.size + 1, s1.heap.objs.size], _, _, H1, rfl, I2, turn_enumT a (s1.heap.objs.size + 1) s1.heap.objs.size (Nat.ne_of_lt hla) (Nat.ne_of_lt (Nat.lt_succ_of_lt hla)), ⟨⟨.none, he⟩, ⟨_, hit, rfl, rfl⟩, Nat.succ_ne_self _⟩, fun b hb => ?_, q⟩
  have hle : s1.heap.objs.size ≤ b := by
    rcases (show b = s1.heap.objs.size + 1 ∨ b = s1.heap.objs.size by simpa using hb) with z | z
    · rw [z]; exact Nat.le_add_right _ _
    · rw [z]; exact Nat.le_refl _
  exact I1.fpOk hle (I1.hok.fresh hle)
theorem for_enumT {K : PySem.W.Frag} {a : Addr} {xs : List V} {g : TG} {tb : TS} {D : Ends} {σ : L2.St} {H : Hp} (Pv : Nat → L2.St → Hp → Prop) (h0 : Pv 0 σ H) (hl : ∀ i σ H, i ≤ xs.length → Pv i σ H → SqT K H a xs)
    (hs : ∀ i x T σ H, xs[i]? = some x → H T = none → Pv i σ H → g (.ref T) σ (upd H T (.tup [.int (i : Nat), x])) fun σ2 H2 => tb { D with nx := Pv (i + 1), ct := Pv (i + 1), bk := D.nx } σ2 H2) (hd : ∀ σ H, Pv xs.length σ H → D.nx σ H) :
    ∃ W : Nat → Nat → L2.St → Hp → Prop, (∃ m, W 0 m σ H) ∧ ∀ i m σ H, W i m σ H →
      ((IteT K a).stop i H ∧ D.nx σ H) ∨ ((IteT K a).go i H ∧ ∃ N : L2.St → Hp → Prop, (∀ σ' H', N σ' H' → ∃ m', m' < m ∧ W (i + 1) m' σ' H') ∧ ∀ x H', (IteT K a).yld i H x H' → g x σ H' fun σ2 H2 => tb { D with nx := N, ct := N, bk := D.nx } σ2 H2) := by
  refine ⟨fun i m σ H => m = xs.length - i ∧ i ≤ xs.length ∧ Pv i σ H, ⟨xs.length, by simp, Nat.zero_le _, h0⟩, ?_⟩
  rintro i m σ H ⟨rfl, hi, p⟩
  have q := hl i σ H hi p
  by_cases hlt : i < xs.length
  · refine .inr ⟨⟨xs, xs[i], q, by simp [hlt]⟩, Pv (i + 1), fun σ' H' p' => ⟨xs.length - (i + 1), by omega, rfl, hlt, p'⟩, fun v H' y => ?_⟩
    obtain ⟨T, x, rfl, nT, rfl, f⟩ := y
    exact hs i x T σ H (f xs q) nT p
  · have e : i = xs.length := by omega
    subst e
    exact .inl ⟨⟨xs, q, Nat.le_refl _⟩, hd σ H p⟩
end LM
namespace LM
open PySem PySem.Spec PyProof.Rows L2
theorem hu64 {k : Nat} {A : Around} (hr : Room k A) : A.units + 64 < cLine := by
  have := hr.units
  omega
theorem dp_ints {K : PySem.W.Frag} {H : Hp} : ∀ ns : List Int, DpAll K H (ns.map V.int) (ns.map PyData.int)
  | [] => .nil
  | n :: ns => .cons (.int n) (dp_ints ns)
theorem lay_ints : ∀ ns : List Int, PyData.canLayAll0 (ns.map PyData.int) = true
  | [] => by simp [PyData.canLayAll0]
  | n :: ns => by simp [PyData.canLayAll0, PyData.canLay0, lay_ints ns]
theorem dep_ints : ∀ ns : List Int, PyData.depthAll (ns.map PyData.int) = 0
  | [] => by simp [PyData.depthAll]
  | n :: ns => by simp [PyData.depthAll, PyData.depth, dep_ints ns]
theorem shaped_ints (ns : List Int) : SeqAt.shaped (.list (ns.map PyData.int)) = true := by
  unfold SeqAt.shaped
  rw [PyData.canLay0, lay_ints, PyData.depth, dep_ints]
  rfl
theorem shaped_intsT (ns : List Int) : SeqAt.shaped (.tuple (ns.map PyData.int)) = true := by
  unfold SeqAt.shaped
  rw [PyData.canLay0, lay_ints, PyData.depth, dep_ints]
  rfl
/-- two lists of ints, two tuples of ints compared -/
def rEqIs (K : PySem.W.Frag) : R2 := fun x y H Q => ∃ (a b : Addr) (ns ms : List Int), x = .ref a ∧ y = .ref b ∧ ((SqL K H a (ns.map V.int) ∧ SqL K H b (ms.map V.int)) ∨ (SqT K H a (ns.map V.int) ∧ SqT K H b (ms.map V.int))) ∧ Q (.bl (decide (ns = ms))) H
theorem op_eqIs {X : Cx} (hu : X.A.units + 64 < cLine) : OpR X (compareOp .Eq) (rEqIs X.K) := by
  intro pins s σ H x y v u Q I rx ry h
  obtain ⟨a, b, ns, ms, rfl, rfl, h1, q⟩ := h
  rcases h1 with ⟨h1, h2⟩ | ⟨h1, h2⟩
  · refine op_eqD hu pins s σ H _ _ v u Q I rx ry ⟨.list (ns.map .int), .list (ms.map .int), .lst h1 (dp_ints ns), .lst h2 (dp_ints ms), shaped_ints ns, shaped_ints ms, ?_⟩
    rw [PyData.eqv, PySem.W.ked_eqvAll]
    exact q
  · refine op_eqD hu pins s σ H _ _ v u Q I rx ry ⟨.tuple (ns.map .int), .tuple (ms.map .int), .tup h1 (dp_ints ns), .tup h2 (dp_ints ms), shaped_intsT ns, shaped_intsT ms, ?_⟩
    rw [PyData.eqv, PySem.W.ked_eqvAll]
    exact q
def rNeIs (K : PySem.W.Frag) : R2 := fun x y H Q => ∃ (a b : Addr) (ns ms : List Int), x = .ref a ∧ y = .ref b ∧ ((SqL K H a (ns.map V.int) ∧ SqL K H b (ms.map V.int)) ∨ (SqT K H a (ns.map V.int) ∧ SqT K H b (ms.map V.int))) ∧ Q (.bl (!decide (ns = ms))) H
theorem op_neIs {X : Cx} (hu : X.A.units + 64 < cLine) : OpR X (compareOp .NotEq) (rNeIs X.K) := by
  intro pins s σ H x y v u Q I rx ry h
  obtain ⟨a, b, ns, ms, rfl, rfl, h1, q⟩ := h
  rcases h1 with ⟨h1, h2⟩ | ⟨h1, h2⟩
  · refine op_neD hu pins s σ H _ _ v u Q I rx ry ⟨.list (ns.map .int), .list (ms.map .int), .lst h1 (dp_ints ns), .lst h2 (dp_ints ms), shaped_ints ns, shaped_ints ms, ?_⟩
    rw [PyData.eqv, PySem.W.ked_eqvAll]
    exact q
  · refine op_neD hu pins s σ H _ _ v u Q I rx ry ⟨.tuple (ns.map .int), .tuple (ms.map .int), .tup h1 (dp_ints ns), .tup h2 (dp_ints ms), shaped_intsT ns, shaped_intsT ms, ?_⟩
    rw [PyData.eqv, PySem.W.ked_eqvAll]
    exact q
end LM

set_option Elab.async false
set_option linter.all false
set_option maxRecDepth 100000
set_option maxHeartbeats 4000000
namespace LM
open PySem PySem.Spec PyProof.Rows L2
local macro_rules | `(tactic| walk_at "hp") => `(tactic| first | assumption | exact upd_same | (rw [upd_ne (by assumption)]; assumption) | (rw [upd_ne (Ne.symm (by assumption))]; assumption) | (rw [upd_ne (by assumption)]; exact upd_same) | (rw [upd_ne (Ne.symm (by assumption))]; exact upd_same))
local macro_rules | `(tactic| walk_at "sq") => `(tactic| first | assumption | exact Or.inl (Or.inl (by assumption)) | exact Or.inl (Or.inl upd_same) | exact Or.inl (Or.inl (by walk_at "hp")))
local macro_rules | `(tactic| walk_at "ixl") => `(tactic| refine ⟨_, _, _, _, rfl, rfl, (by walk_at "sq"), (by rfl), ?_⟩)
local macro_rules | `(tactic| walk_at "setl") => `(tactic| refine ⟨_, _, _, _, rfl, rfl, (by walk_at "hp"), (by rfl), ?_⟩)
local macro_rules | `(tactic| walk_at "side") => `(tactic| refine idP ?_; first | omega | (show (0 : Int) < _; omega) | (show (0 : Int) < _ ∧ _ < _; omega) | (refine Or.inr ?_; show (-(2 ^ 64) : Int) < _ ∧ _ < _; omega) | (refine Or.inl ?_; show (-(2 ^ 64) : Int) < _ ∧ _ < _; omega) | exact divW (by omega) (by omega) _ | (refine ⟨by decide, by decide, ?_⟩; decide))
local macro_rules | `(tactic| walk_at "go1") => `(tactic| first
  | refine ⟨_, rfl, ?_⟩
  | refine ⟨_, _, rfl, rfl, (by walk_at "side"), ?_⟩
  | refine ⟨_, _, rfl, (by walk_at "side"), ?_⟩
  | refine ⟨_, _, rfl, rfl, ?_⟩
  | refine Or.inl ⟨_, rfl, ?_⟩
  | refine ⟨_, _, rfl, Or.inl (by walk_at "sq"), ?_⟩
  | walk_at "ixl"
  | walk_at "setl"
  | refine ⟨_, _, rfl, (by walk_at "sq"), rfl, ?_⟩
  | refine ⟨_, _, rfl, (by walk_at "sq"), ?_⟩
  | refine ⟨_, _, rfl, ?_⟩
  | refine ⟨rfl, ?_⟩
  | refine ⟨small (Nat.le_of_ble_eq_true rfl), ?_⟩)
local macro_rules | `(tactic| walk_at "go") => `(tactic| repeat walk_at "go1")

def topS (i : Nat) : Stmt := PySem.Challenge.pw_labelmoves_k42_known_clocks_and_refusals.main.body.getD i (.Pass ⟨0, 0, 0, 0⟩)
/-- the names of the built-ins that no def of the text takes -/
structure Names (mg : Str → Option Value) : Prop where
  len : mg "len" = none
  int : mg "int" = none
  str : mg "str" = none
  abs : mg "abs" = none
  divmod : mg "divmod" = none
  range : mg "range" = none
  any : mg "any" = none
  all : mg "all" = none
  sum : mg "sum" = none
  min : mg "min" = none
  max : mg "max" = none
  list : mg "list" = none
  tuple : mg "tuple" = none
  enumerate : mg "enumerate" = none
  reversed : mg "reversed" = none
  isinstance : mg "isinstance" = none
  bool : mg "bool" = none
  repr : mg "repr" = none
  zip : mg "zip" = none
  sorted : mg "sorted" = none
  set : mg "set" = none
  lcm : mg "lcm" = some (.builtin "math.lcm")
abbrev s_law_vase : Stmt := topS 74
theorem sc_law_vase : FnScope ["_law_cells", "_law_turn", "_law_cell", "_law_blend", "_law_each"] ["_law_cells", "_law_turn"] (defScope s_law_vase) := ⟨rfl, rfl, rfl, by decide +kernel, rfl, by decide +kernel, by decide +kernel⟩
abbrev s_law_pour : Stmt := topS 75
theorem sc_law_pour : FnScope ["_law_vase_here", "_law_top", "_law_digit"] ["_law_vase_here", "_law_top"] (defScope s_law_pour) := ⟨rfl, rfl, rfl, by decide +kernel, rfl, by decide +kernel, by decide +kernel⟩
abbrev s_law_pluck : Stmt := topS 76
theorem sc_law_pluck : FnScope ["_law_vase_here", "_law_menu"] ["_law_vase_here", "_law_menu"] (defScope s_law_pluck) := ⟨rfl, rfl, rfl, by decide +kernel, rfl, by decide +kernel, by decide +kernel⟩
/-- a vase at p: two numbers from 0 on, and a count -/
def VaseAt (H : Hp) (p : Addr) : Prop := ∃ a b c : Int, 0 ≤ a ∧ 0 ≤ b ∧ 0 ≤ c ∧ H p = some (.lst [.int a, .int b, .int c])
def spVase (K : PySem.W.Frag) : Sp := fun vs H Q _ => ∃ (a : Addr) (ns : List Int) (t : Nat), vs = [.ref a, .int t] ∧ SqL K H a (ns.map V.int) ∧ ns.length ≤ 63 ∧
  ∀ H' p, Same H H' → H p = none → VaseAt H' p → Q (.ref p) H'
def spPour : Sp := fun vs H Q _ => ∃ (p : Addr) (n : Int), vs = [.ref p, .int n] ∧ VaseAt H p ∧ 0 < n ∧ n < 2 ^ 220 ∧ ∀ (d : Int) H', 0 ≤ d → d < n → VaseAt H' p → Else p H H' → Q (.int d) H'
def spPluck (K : PySem.W.Frag) : Sp := fun vs H Q _ => ∃ (p m : Addr) (ys : List V), vs = [.ref p, .ref m] ∧ VaseAt H p ∧ m ≠ p ∧ SqL K H m ys ∧ 0 < ys.length ∧ ys.length ≤ 20000 ∧
  ∀ v H', v ∈ ys → VaseAt H' p → Else p H H' → Q v H'
section
variable {P : Program} {w : World} {K : PySem.W.Frag} {mg : Str → Option Value} {base : Heap}
theorem ok_vase {f : Addr} {fd : FuncData} (F : Fun K "_law_vase" "_law_vase" s_law_vase f fd) (N : Names mg) : FnOk P w K mg base CX0 1 f fd ["_law_cells", "_law_turn"] (spVase K) := by
  have sc := sc_law_vase
  refine F.ok sc (fun vs H Q E h => ?_) (fun cdv A outer s H vs Q E hr h => ?_)
  · obtain ⟨a, ns, t, rfl, _⟩ := h
    rfl
  · obtain ⟨a, ns, t, rfl, hS, hl, k⟩ := h
    have hu := hu_of hr
    refine ⟨_, (pss_cons (ps_set (i := 2) sc.nd rfl (Or.inl rfl) (pe_ifExp (pt_cmpR op_lt (pv 1) (pe_callB call_len_seq (by rfl) N.len (by decide +kernel) (pa_cons (pv 0) pa_nil)) (nomark _)) (pe_ix ix_list (pv 0) (pv 1) (fun _ _ => rfl)) (pe_op op_add (pe_op op_mul pe_int (pv 1)) pe_int)))
      (pss_cons (ps_set (i := 3) sc.nd rfl (Or.inl rfl) (pe_op op_add pe_int (pe_op op_mul pe_int (pv 1))))
      (pss_cons (ps_for PassesOwn.never rfl (pi_list (pe_op op_cat (pe_slice sl_list (pv 0) po_none (po_some pe_int)) (pe_lst (pa_cons (pv 2) pa_nil)))) (pg_name (i := 4) sc.nd rfl (Or.inl rfl)) (pss_one (ps_set (i := 3) sc.nd rfl (Or.inl rfl) (pe_op op_mod (pe_callTy (T := "int") call_int1 (by rfl) N.int (by decide +kernel) (pa_cons (pe_op op_add (pe_op op_mul (pv 3) pe_int) (pv 4)) pa_nil)) pe_int))))
      (pss_one (ps_ret (pe_lst (pa_cons (pe_ifExp (PW.pt (pw_or (pt_cmpR op_lt (pv 2) pe_int (nomark _)) (pw_or1 (pt_cmpR op_ge (pv 2) (pe_op op_pow pe_int pe_int) (nomark _))))) (pe_callB call_abs (by rfl) N.abs (by decide +kernel) (pa_cons (pv 2) pa_nil)) pe_int) (pa_cons (pv 3) (pa_cons pe_int pa_nil))))))))), ?_⟩
    walk_at "go"
    refine if_join (fun v => ∃ c : Int, v = .int c) (fun hd Q' k' => ?_) (fun hd Q' k' => ?_) ?_
    · have ht : t < ns.length := by
        rw [List.length_map] at hd
        omega
      exact ⟨_, rfl, _, rfl, _, _, _, _, rfl, rfl, hS, atI_nat (map_get ht), k' _ ⟨_, rfl⟩⟩
    · walk_at "go"
      exact k' _ ⟨_, rfl⟩
    rintro v ⟨c, rfl⟩
    walk_at "go"
    (intro p1 n1; generalize e_p1 : upd H p1 _ = H1; have s1 : Same H H1 := fun b x hb => (congrFun e_p1 b).symm.trans (same_new n1 b x hb); have h1 := (congrFun e_p1 p1).symm.trans upd_same; clear e_p1)
    walk_at "go"
    (intro p2 n2; generalize e_p2 : upd H1 p2 _ = H2; have s2 : Same H1 H2 := fun b x hb => (congrFun e_p2 b).symm.trans (same_new n2 b x hb); have h2 := (congrFun e_p2 p2).symm.trans upd_same; clear e_p2)
    have h12 : H2 p1 = some (.lst ((ns.take 6).map V.int)) := by
      rw [s2 _ _ h1]
      exact congrArg (fun l => some (HO.lst l)) ((cut_to _ 6).trans List.map_take.symm)
    refine ⟨p1, p2, _, _, rfl, rfl, h12, h2, ?_, ?_⟩
    · exact small (by simp; omega)
    (intro p3 n3; generalize e_p3 : upd H2 p3 _ = H3; have s3 : Same H2 H3 := fun b x hb => (congrFun e_p3 b).symm.trans (same_new n3 b x hb); have h3 := (congrFun e_p3 p3).symm.trans upd_same; clear e_p3)
    have h3' : H3 p3 = some (.lst ((ns.take 6 ++ [c]).map V.int)) := by
      rw [h3, List.map_append]
      rfl
    have sa : Same H H3 := (s1.trans s2).trans s3
    refine ⟨p3, rfl, ⟨_, SqL.lst h3'⟩, for_list (K := K) (xs := (ns.take 6 ++ [c]).map V.int) (fun i σ H' => ∃ (b : Int) (v : Option V), 0 ≤ b ∧ σ = [some (.ref a), some (.int t), some (.int c), some (.int b), v] ∧ Same H H' ∧ H' p3 = some (.lst ((ns.take 6 ++ [c]).map V.int)))
      ⟨70003 + 7919 * (t : Int), none, by omega, rfl, sa, h3'⟩ (fun i σ H' _ ⟨b, v, _, _, _, e⟩ => SqL.lst e) ?_ ?_⟩
    · rintro i x σ H' hx ⟨b, v, hb, rfl, sm, e⟩
      obtain ⟨z, hz, rfl⟩ : ∃ z, (ns.take 6 ++ [c])[i]? = some z ∧ x = V.int z := by
        rw [List.getElem?_map] at hx
        obtain ⟨z, hz, e⟩ := Option.map_eq_some_iff.mp hx
        exact ⟨z, hz, e.symm⟩
      walk_at "go"
      exact ⟨_, _, Int.emod_nonneg _ (by decide), rfl, sm, e⟩
    · rintro σ H' ⟨b, v, hb, rfl, sm, e⟩
      have fin : ∀ x : Int, 0 ≤ x → ∀ p, H' p = none → Q (.ref p) (upd H' p (.lst [.int x, .int b, .int 0])) := fun x hx p n => k _ p (Same.of_new sm n) (sm.free n) ⟨x, b, 0, hx, hb, by omega, upd_same⟩
      walk_at "go"
      refine ifD (fun h1 => iteT ?_) (fun h1 => ?_)
      · walk_at "go"
        exact fin _ (by split <;> omega)
      · walk_at "go"
        refine ifD (fun h2 => ?_) (fun h2 => ?_)
        · walk_at "go"
          refine fin _ (by split <;> omega)
        · walk_at "go"
          refine fin _ (by omega)
theorem ok_pour {f : Addr} {fd : FuncData} (F : Fun K "_law_pour" "_law_pour" s_law_pour f fd) (N : Names mg) : FnOk P w K mg base CX0 1 f fd ["_law_vase_here", "_law_top"] spPour := by
  have sc := sc_law_pour
  refine F.ok sc (fun vs H Q E h => ?_) (fun cdv A outer s H vs Q E hr h => ?_)
  · obtain ⟨p, n, rfl, _⟩ := h
    rfl
  · obtain ⟨p, n, rfl, ⟨a, b, c, ha, hb, hc, hp⟩, h0, h1, k⟩ := h
    have hu := hu_of hr
    refine ⟨_, (pss_cons (ps_asg (pe_op op_add (pe_ix ix_list (pv 0) pe_int (fun _ _ => rfl)) pe_int) (pg_sub (pv 0) pe_int set_list))
      (pss_cons (ps_if (pt_cmpR op_gt (pe_ix ix_list (pv 0) pe_int (fun _ _ => rfl)) pe_int (nomark _)) (pss_cons (ps_asg (pe_callB call_divmodW (by rfl) N.divmod (by decide +kernel) (pa_cons (pe_ix ix_list (pv 0) pe_int (fun _ _ => rfl)) (pa_cons (pv 1) pa_nil))) (pg_tup rfl (pgs_cons (pg_sub (pv 0) pe_int set_list) (pgs_cons (pg_name (i := 2) sc.nd rfl (Or.inl rfl)) pgs_nil))))
      (pss_one (ps_ret (pv 2)))) pss_nil)
      (pss_cons (ps_asg (pe_op op_mod (pe_callTy (T := "int") call_int1 (by rfl) N.int (by decide +kernel) (pa_cons (pe_op op_add (pe_op op_mul (pe_ix ix_list (pv 0) pe_int (fun _ _ => rfl)) pe_int) (pe_op op_mul pe_int (pe_ix ix_list (pv 0) pe_int (fun _ _ => rfl)))) pa_nil)) pe_int) (pg_sub (pv 0) pe_int set_list))
      (pss_one (ps_ret (pe_op op_mod (pe_callTy (T := "int") call_int1 (by rfl) N.int (by decide +kernel) (pa_cons (pe_op op_fdiv (pe_ix ix_list (pv 0) pe_int (fun _ _ => rfl)) pe_int) pa_nil)) (pv 1))))))), ?_⟩
    walk_at "go"
    refine ifD (fun hd => ?_) (fun hd => ?_)
    · walk_at "go"
      intro t ht
      have htp : t ≠ p := fun e => by rw [e, upd_same] at ht; cases ht
      have hbp : ∀ {x : Addr} {o : HO}, x ≠ p → H x = some o → x ≠ t := fun hx e => ne_of_none (by rw [upd_ne hx]; exact e) ht
      walk_at "go"
      refine k (a % n) _ (Int.emod_nonneg _ (by omega)) (Int.emod_lt_of_pos _ h0) ⟨a / n, b, c + 1, Int.ediv_nonneg ha (by omega), hb, by omega, upd_same⟩ (fun x o hx e => ?_)
      rw [upd_ne hx, upd_ne (hbp hx e), upd_ne hx]
      exact e
    · walk_at "go"
      refine k _ _ (Int.emod_nonneg _ (by omega)) (Int.emod_lt_of_pos _ h0) ⟨a, _, c + 1, ha, Int.emod_nonneg _ (by omega), by omega, upd_same⟩ (fun x o hx e => ?_)
      rw [upd_ne hx, upd_ne hx]
      exact e
theorem ok_pluck {f : Addr} {fd : FuncData} (F : Fun K "_law_pluck" "_law_pluck" s_law_pluck f fd) (N : Names mg) (D_law_pour : DefK P w K mg base "_law_pour" ["_law_vase_here", "_law_top"] 1 spPour) : FnOk P w K mg base CX0 2 f fd ["_law_vase_here", "_law_menu"] (spPluck K) := by
  have sc := sc_law_pluck
  refine F.ok sc (fun vs H Q E h => ?_) (fun cdv A outer s H vs Q E hr h => ?_)
  · obtain ⟨p, m, ys, rfl, _⟩ := h
    rfl
  · obtain ⟨p, m, ys, rfl, hv, hmp, hm, h0, h1, k⟩ := h
    refine ⟨_, (pss_one (ps_ret (pe_ix ix_list (pv 1) (pe_d D_law_pour (hr.mono (by decide)) rfl (pa_cons (pv 0) (pa_cons (pe_callB call_len_seq (by rfl) N.len (by decide +kernel) (pa_cons (pv 1) pa_nil)) pa_nil))) (fun _ _ => rfl)))), ?_⟩
    refine ⟨_, rfl, _, rfl, _, rfl, _, _, rfl, .inl hm, _, _, rfl, hv, by omega, by omega, fun d H' hd0 hd1 hv' he => ?_⟩
    obtain ⟨j, rfl⟩ := nat_of hd0
    have hj : j < ys.length := by omega
    exact ⟨_, _, _, _, rfl, rfl, he.seq hmp hm, atI_nat (List.getElem?_eq_getElem hj), k _ _ (List.getElem_mem hj) hv' he⟩
end
end LM

set_option Elab.async false
set_option linter.all false
set_option maxRecDepth 100000
set_option maxHeartbeats 4000000
namespace LM
open PySem PySem.Spec PyProof.Rows L2
local macro_rules | `(tactic| walk_at "hp") => `(tactic| first | assumption | exact upd_same | (rw [upd_ne (by assumption)]; assumption) | (rw [upd_ne (Ne.symm (by assumption))]; assumption) | (rw [upd_ne (by assumption)]; exact upd_same) | (rw [upd_ne (Ne.symm (by assumption))]; exact upd_same))
local macro_rules | `(tactic| walk_at "sq") => `(tactic| first | assumption | exact Or.inl (Or.inl (by assumption)) | exact Or.inl (Or.inl upd_same) | exact Or.inl (Or.inl (by walk_at "hp")))
local macro_rules | `(tactic| walk_at "ixl") => `(tactic| refine ⟨_, _, _, _, rfl, rfl, (by walk_at "sq"), (by rfl), ?_⟩)
local macro_rules | `(tactic| walk_at "setl") => `(tactic| refine ⟨_, _, _, _, rfl, rfl, (by walk_at "hp"), (by rfl), ?_⟩)
local macro_rules | `(tactic| walk_at "side") => `(tactic| refine idP ?_; first | omega | (show (0 : Int) < _; omega) | (show (0 : Int) < _ ∧ _ < _; omega) | (refine Or.inr ?_; show (-(2 ^ 64) : Int) < _ ∧ _ < _; omega) | (refine Or.inl ?_; show (-(2 ^ 64) : Int) < _ ∧ _ < _; omega) | exact divW (by omega) (by omega) _ | (refine ⟨by decide, by decide, ?_⟩; decide))
local macro_rules | `(tactic| walk_at "go1") => `(tactic| first
  | refine ⟨_, rfl, ?_⟩
  | refine ⟨_, _, rfl, rfl, (by walk_at "side"), ?_⟩
  | refine ⟨_, _, rfl, (by walk_at "side"), ?_⟩
  | refine ⟨_, _, rfl, rfl, ?_⟩
  | refine Or.inl ⟨_, rfl, ?_⟩
  | refine ⟨_, _, rfl, Or.inl (by walk_at "sq"), ?_⟩
  | walk_at "ixl"
  | walk_at "setl"
  | refine ⟨_, _, rfl, (by walk_at "sq"), rfl, ?_⟩
  | refine ⟨_, _, rfl, (by walk_at "sq"), ?_⟩
  | refine ⟨_, _, rfl, ?_⟩
  | refine ⟨rfl, ?_⟩
  | refine ⟨small (Nat.le_of_ble_eq_true rfl), ?_⟩)
local macro_rules | `(tactic| walk_at "go") => `(tactic| repeat walk_at "go1")

abbrev R3 := Int × Int × Int
/-- at l a list of rows, each a list of three ints, none of it at p -/
def LanesAt (p : Addr) (H : Hp) (l : Addr) (rows : List R3) : Prop :=
  ∃ as : List Addr, l ≠ p ∧ (∀ a ∈ as, a ≠ p) ∧ H l = some (.lst (as.map V.ref)) ∧ Paired (fun a (r : R3) => H a = some (.lst [.int r.1, .int r.2.1, .int r.2.2])) as rows
theorem paired_imp {α β : Type} {F G : α → β → Prop} : ∀ {as : List α} {bs : List β}, Paired F as bs → (∀ a ∈ as, ∀ b, F a b → G a b) → Paired G as bs
  | _, _, .nil, _ => .nil
  | _, _, .cons r t, f => .cons (f _ List.mem_cons_self _ r) (paired_imp t fun a h => f a (List.mem_cons_of_mem _ h))
theorem paired_app {α β : Type} {F : α → β → Prop} : ∀ {as : List α} {bs : List β} {a : α} {b : β}, Paired F as bs → F a b → Paired F (as ++ [a]) (bs ++ [b])
  | _, _, _, _, .nil, h => .cons h .nil
  | _, _, _, _, .cons r t, h => .cons r (paired_app t h)
theorem paired_left {α β : Type} {F : α → β → Prop} : ∀ {as : List α} {bs : List β} {a : α}, Paired F as bs → a ∈ as → ∃ b, b ∈ bs ∧ F a b
  | _, _, _, .cons r t, h => by
    rcases List.mem_cons.mp h with e | h
    · exact ⟨_, List.mem_cons_self, e ▸ r⟩
    · obtain ⟨b, hb, f⟩ := paired_left t h
      exact ⟨b, List.mem_cons_of_mem _ hb, f⟩
theorem paired_at {α β : Type} {F : α → β → Prop} : ∀ {as : List α} {bs : List β} {i : Nat} {a : α}, Paired F as bs → as[i]? = some a → ∃ b, bs[i]? = some b ∧ F a b
  | _, _, 0, _, .cons r _, h => by
    simp at h
    exact ⟨_, rfl, h ▸ r⟩
  | _, _, i + 1, _, .cons _ t, h => by
    obtain ⟨b, hb, f⟩ := paired_at (i := i) t (by simpa using h)
    exact ⟨b, by simpa using hb, f⟩
theorem LanesAt.els {p l : Addr} {H H' : Hp} {rows : List R3} (h : LanesAt p H l rows) (e : Else p H H') : LanesAt p H' l rows := by
  obtain ⟨as, hl, ha, e1, e2⟩ := h
  exact ⟨as, hl, ha, e _ _ hl e1, paired_imp e2 fun a m r q => e _ _ (ha a m) q⟩
theorem LanesAt.same {p l : Addr} {H H' : Hp} {rows : List R3} (h : LanesAt p H l rows) (e : Same H H') : LanesAt p H' l rows := h.els (Same.els e)
/-- a row of a house with these bases, its every at most m -/
def RowOk (m : Int) (gs : List Int) (r : R3) : Prop := 0 ≤ r.1 ∧ r.1 < gs.length ∧ 1 ≤ r.2.1 ∧ r.2.1 ≤ m ∧ 0 ≤ r.2.2 ∧ r.2.2 < gs.getLastD 1
def spGround (K : PySem.W.Frag) : Sp := fun vs H Q _ => ∃ (p : Addr) (most : Int), vs = [.ref p, .int most] ∧ VaseAt H p ∧ 3 ≤ most ∧ most ≤ 100 ∧
  ∀ (g : Addr) (gs : List Int) (H' : Hp), H g = none → H' g = some (.lst (gs.map V.int)) → 1 ≤ gs.length → gs.length ≤ 3 → (∀ x ∈ gs, 2 ≤ x ∧ x ≤ most) → VaseAt H' p → Else p H H' → Q (.ref g) H'
section
variable {P : Program} {w : World} {K : PySem.W.Frag} {mg : Str → Option Value} {base : Heap}
theorem VaseAt.same {H H' : Hp} {p : Addr} (h : VaseAt H p) (s : Same H H') : VaseAt H' p := by
  obtain ⟨a, b, c, h1, h2, h3, e⟩ := h
  exact ⟨a, b, c, h1, h2, h3, s _ _ e⟩
theorem VaseAt.ne {H : Hp} {p q : Addr} (h : VaseAt H p) (n : H q = none) : q ≠ p := by
  obtain ⟨a, b, c, h1, h2, h3, e⟩ := h
  exact fun z => by rw [z, e] at n; cases n
def spLanes (K : PySem.W.Frag) : Sp := fun vs H Q _ => ∃ (p g : Addr) (gs : List Int), vs = [.ref p, .ref g] ∧ VaseAt H p ∧ g ≠ p ∧ SqL K H g (gs.map V.int) ∧ 1 ≤ gs.length ∧ gs.length ≤ 3 ∧ (∀ x ∈ gs, 2 ≤ x ∧ x ≤ 60) ∧
  ∀ (l : Addr) (rows : List R3) (H' : Hp), H l = none → LanesAt p H' l rows → rows.length ≤ 3 → (∀ r ∈ rows, RowOk 4 gs r) → VaseAt H' p → Else p H H' → Q (.ref l) H'
theorem getLastD_map (gs : List Int) (h : 1 ≤ gs.length) : atI (gs.map V.int) (-1) = some (V.int (gs.getLastD 1)) := by
  have hne : gs ≠ [] := fun e => by rw [e] at h; exact absurd h (by decide)
  have e : gs = gs.dropLast ++ [gs.getLastD 1] := by
    rw [List.getLastD_eq_getLast?, List.getLast?_eq_some_getLast hne]
    exact (List.dropLast_concat_getLast hne).symm
  have e2 : gs.map V.int = (gs.dropLast.map V.int) ++ [V.int (gs.getLastD 1)] := by
    conv => lhs; rw [e]
    rw [List.map_append]
    rfl
  rw [e2]
  exact atI_last _ _
theorem lastD_mem {gs : List Int} (h : 1 ≤ gs.length) : gs.getLastD 1 ∈ gs := by
  have hne : gs ≠ [] := fun e => by rw [e] at h; exact absurd h (by decide)
  rw [List.getLastD_eq_getLast?, List.getLast?_eq_some_getLast hne]
  exact List.getLast_mem hne
end
end LM

set_option Elab.async false
set_option linter.all false
set_option maxRecDepth 100000
set_option maxHeartbeats 4000000
namespace LM
open PySem PySem.Spec PyProof.Rows L2
local macro_rules | `(tactic| walk_at "hp") => `(tactic| first | assumption | exact upd_same | (rw [upd_ne (by assumption)]; assumption) | (rw [upd_ne (Ne.symm (by assumption))]; assumption) | (rw [upd_ne (by assumption)]; exact upd_same) | (rw [upd_ne (Ne.symm (by assumption))]; exact upd_same))
local macro_rules | `(tactic| walk_at "sq") => `(tactic| first | assumption | exact Or.inl (Or.inl (by assumption)) | exact Or.inl (Or.inl upd_same) | exact Or.inl (Or.inl (by walk_at "hp")))
local macro_rules | `(tactic| walk_at "ixl") => `(tactic| refine ⟨_, _, _, _, rfl, rfl, (by walk_at "sq"), (by rfl), ?_⟩)
local macro_rules | `(tactic| walk_at "setl") => `(tactic| refine ⟨_, _, _, _, rfl, rfl, (by walk_at "hp"), (by rfl), ?_⟩)
local macro_rules | `(tactic| walk_at "side") => `(tactic| refine idP ?_; first | omega | (show (0 : Int) < _; omega) | (show (0 : Int) < _ ∧ _ < _; omega) | (refine Or.inr ?_; show (-(2 ^ 64) : Int) < _ ∧ _ < _; omega) | (refine Or.inl ?_; show (-(2 ^ 64) : Int) < _ ∧ _ < _; omega) | exact divW (by omega) (by omega) _ | (refine ⟨by decide, by decide, ?_⟩; decide))
local macro_rules | `(tactic| walk_at "go1") => `(tactic| first
  | refine ⟨_, rfl, ?_⟩
  | refine ⟨_, _, rfl, rfl, (by walk_at "side"), ?_⟩
  | refine ⟨_, _, rfl, (by walk_at "side"), ?_⟩
  | refine ⟨_, _, rfl, rfl, ?_⟩
  | refine Or.inl ⟨_, rfl, ?_⟩
  | refine ⟨_, _, rfl, Or.inl (by walk_at "sq"), ?_⟩
  | walk_at "ixl"
  | walk_at "setl"
  | refine ⟨_, _, rfl, (by walk_at "sq"), rfl, ?_⟩
  | refine ⟨_, _, rfl, (by walk_at "sq"), ?_⟩
  | refine ⟨_, _, rfl, ?_⟩
  | refine ⟨rfl, ?_⟩
  | refine ⟨small (Nat.le_of_ble_eq_true rfl), ?_⟩)
local macro_rules | `(tactic| walk_at "go") => `(tactic| repeat walk_at "go1")

/-- at l a list of rows, to be read -/
def LanesIn (K : PySem.W.Frag) (H : Hp) (l : Addr) (rows : List R3) : Prop :=
  ∃ as : List Addr, SqL K H l (as.map V.ref) ∧ Paired (fun a (r : R3) => H a = some (.lst [.int r.1, .int r.2.1, .int r.2.2])) as rows
theorem LanesAt.in {K : PySem.W.Frag} {p l : Addr} {H : Hp} {rows : List R3} (h : LanesAt p H l rows) : LanesIn K H l rows := by
  obtain ⟨as, _, _, e, r⟩ := h
  exact ⟨as, SqL.lst e, r⟩
theorem LanesIn.same {K : PySem.W.Frag} {l : Addr} {H H' : Hp} {rows : List R3} (h : LanesIn K H l rows) (s : Same H H') : LanesIn K H' l rows := by
  obtain ⟨as, e, r⟩ := h
  exact ⟨as, s.seq e, paired_imp r fun a _ x q => s _ _ q⟩
def digStep (s : Int × List Int) (b : Int) : Int × List Int := (s.1 / b, s.1 % b :: s.2)
/-- the numbers of a group, number 0 first -/
def digs (gs : List Int) (g : Int) : List Int := (gs.dropLast.reverse.foldl digStep (g, [])).1 :: (gs.dropLast.reverse.foldl digStep (g, [])).2
def fitL (ds : List Int) (r : R3) : Bool := decide (ds.getD r.1.toNat 0 % r.2.1 = 0) && !((ds.drop (r.1.toNat + 1)).any fun k => decide (k ≠ 0))
def gapStep (ds : List Int) (acc : Int) (r : R3) : Int := if fitL ds r = true then r.2.2 else acc
/-- how many labels this group skips, by the law's own numbers -/
def gapL (gs : List Int) (rows : List R3) (g : Int) : Int := rows.foldl (gapStep (digs gs g)) 0
theorem digStep_len : ∀ (l : List Int) (s : Int × List Int), (l.foldl digStep s).2.length = s.2.length + l.length
  | [], s => rfl
  | b :: l, s => by
    rw [List.foldl_cons, digStep_len l, List.length_cons]
    show (s.1 % b :: s.2).length + l.length = _
    rw [List.length_cons]
    omega
theorem digs_len (gs : List Int) (g : Int) (h : 1 ≤ gs.length) : (digs gs g).length = gs.length := by
  unfold digs
  rw [List.length_cons, digStep_len, List.length_reverse, List.length_dropLast]
  simp
  omega
theorem take_fold {α β : Type} (f : β → α → β) (s : β) (l : List α) (i : Nat) (x : α) (h : l[i]? = some x) : (l.take (i + 1)).foldl f s = f ((l.take i).foldl f s) x := by
  rw [List.take_add_one, h, List.foldl_append]
  rfl
theorem atI_getD {ns : List Int} {i : Int} (h0 : 0 ≤ i) (h1 : i < ns.length) : atI (ns.map V.int) i = some (V.int (ns.getD i.toNat 0)) := by
  obtain ⟨j, rfl⟩ := nat_of h0
  have hj : j < ns.length := by omega
  rw [atI_nat (map_get hj), Int.toNat_natCast, List.getD_eq_getElem?_getD, List.getElem?_eq_getElem hj]
  rfl
def spGap (K : PySem.W.Frag) : Sp := fun vs H Q _ => ∃ (g l : Addr) (gs : List Int) (rows : List R3) (n : Int) (m : Int), vs = [.ref g, .ref l, .int n] ∧ SqL K H g (gs.map V.int) ∧ LanesIn K H l rows ∧ 1 ≤ gs.length ∧ gs.length ≤ 3 ∧ (∀ x ∈ gs, 2 ≤ x ∧ x ≤ 60) ∧ rows.length ≤ 20 ∧ (∀ r ∈ rows, RowOk m gs r) ∧
  ∀ H', Same H H' → Q (.int (gapL gs rows n)) H'
section
variable {P : Program} {w : World} {K : PySem.W.Frag} {mg : Str → Option Value} {base : Heap}
/-! ### the greatest common divisor, the least common multiple -/
def spGcd : Sp := fun vs H Q _ => ∃ (a b : Nat), vs = [.int (a : Int), .int (b : Int)] ∧ Q (.int ((Nat.gcd a b : Nat) : Int)) H
def spLcm : Sp := fun vs H Q _ => ∃ (a b : Nat), vs = [.int (a : Int), .int (b : Int)] ∧ 0 < a ∧ a < 2 ^ 29 ∧ 0 < b ∧ b < 2 ^ 29 ∧ Q (.int ((Nat.lcm a b : Nat) : Int)) H
/-! ### whether a list goes on the same behind so many items -/
def againL (cs : List Int) (k : Nat) : Bool := decide (cs.length / k * k = cs.length) && decide (cs.drop k = cs.take (cs.length - k))
def spAgain (K : PySem.W.Frag) : Sp := fun vs H Q _ => ∃ (a : Addr) (cs : List Int) (k : Nat), vs = [.ref a, .int (k : Int)] ∧ SqL K H a (cs.map V.int) ∧ cs.length ≤ 100000 ∧ 0 < k ∧ k ≤ cs.length ∧ ∀ H', Same H H' → Q (.bl (againL cs k)) H'
end
end LM

set_option Elab.async false
set_option linter.all false
set_option maxRecDepth 100000
set_option maxHeartbeats 4000000
set_option pp.maxSteps 600
set_option pp.deepTerms false
namespace LM
open PySem PySem.Spec PyProof.Rows L2
local macro_rules | `(tactic| walk_at "hp") => `(tactic| first | assumption | exact upd_same | (rw [upd_ne (by assumption)]; assumption) | (rw [upd_ne (Ne.symm (by assumption))]; assumption) | (rw [upd_ne (by assumption)]; exact upd_same) | (rw [upd_ne (Ne.symm (by assumption))]; exact upd_same))
local macro_rules | `(tactic| walk_at "sq") => `(tactic| first | assumption | exact Or.inl (Or.inl (by assumption)) | exact Or.inl (Or.inl upd_same) | exact Or.inl (Or.inl (by walk_at "hp")))
local macro_rules | `(tactic| walk_at "ixl") => `(tactic| refine ⟨_, _, _, _, rfl, rfl, (by walk_at "sq"), (by rfl), ?_⟩)
local macro_rules | `(tactic| walk_at "setl") => `(tactic| refine ⟨_, _, _, _, rfl, rfl, (by walk_at "hp"), (by rfl), ?_⟩)
local macro_rules | `(tactic| walk_at "side") => `(tactic| refine idP ?_; first | omega | (show (0 : Int) < _; omega) | (show (0 : Int) < _ ∧ _ < _; omega) | (refine Or.inr ?_; show (-(2 ^ 64) : Int) < _ ∧ _ < _; omega) | (refine Or.inl ?_; show (-(2 ^ 64) : Int) < _ ∧ _ < _; omega) | exact divW (by omega) (by omega) _ | (refine ⟨by decide, by decide, ?_⟩; decide))
local macro_rules | `(tactic| walk_at "go1") => `(tactic| first
  | refine ⟨_, rfl, ?_⟩
  | refine ⟨_, _, rfl, rfl, (by walk_at "side"), ?_⟩
  | refine ⟨_, _, rfl, (by walk_at "side"), ?_⟩
  | refine ⟨_, _, rfl, rfl, ?_⟩
  | refine Or.inl ⟨_, rfl, ?_⟩
  | refine ⟨_, _, rfl, Or.inl (by walk_at "sq"), ?_⟩
  | walk_at "ixl"
  | walk_at "setl"
  | refine ⟨_, _, rfl, (by walk_at "sq"), rfl, ?_⟩
  | refine ⟨_, _, rfl, (by walk_at "sq"), ?_⟩
  | refine ⟨_, _, rfl, ?_⟩
  | refine ⟨rfl, ?_⟩
  | refine ⟨small (Nat.le_of_ble_eq_true rfl), ?_⟩)
local macro_rules | `(tactic| walk_at "go") => `(tactic| repeat walk_at "go1")

/-- how many groups there are in a unit of field 0; the least common multiple of the everys of field 0 -/
def unitL (gs : List Int) : Nat := gs.dropLast.foldl (fun a b => a * b.toNat) 1
def everyStep (e : Nat) (r : R3) : Nat := if r.1 = 0 then Nat.lcm e r.2.1.toNat else e
def everyL (rows : List R3) : Nat := rows.foldl everyStep 1
def gapsL (gs : List Int) (rows : List R3) (n : Nat) : List Int := (List.range n).map fun i => gapL gs rows ((i : Nat) : Int)
def sizesL (cs : List Int) (n : Nat) : List Nat := ((List.range n).filter fun j => againL cs (j + 1)).map (· + 1)
def sizeL (cs : List Int) : Nat := (sizesL cs cs.length).headD 0
def spotOk (cs : List Int) (b : Nat) (s : Nat) : Bool := decide (cs.getD (s / b) 0 ≤ ((s % b : Nat) : Int))
def spotsL (cs : List Int) (b n : Nat) : List Nat := (List.range n).filter (spotOk cs b)
def belowL (cs : List Int) (b n : Nat) : List Nat := (List.range n).map fun i => (spotsL cs b i).length
/-- the law's own house at d -/
def HomeAt (old : Addr → Prop) (H : Hp) (d g l : Addr) (gs : List Int) (rows : List R3) : Prop :=
  ∃ (s b : Addr) (cs : List Int) (n : Nat), H d = some (.dK [(Sum.inr "ground", .ref g), (Sum.inr "lanes", .ref l), (Sum.inr "groups", .int ((sizeL cs : Nat) : Int)), (Sum.inr "spots", .ref s), (Sum.inr "below", .ref b)]) ∧
    n = unitL gs * everyL rows ∧ cs = gapsL gs rows n ∧
    H s = some (.lst ((spotsL cs (gs.getLastD 1).toNat (sizeL cs * (gs.getLastD 1).toNat)).map fun k => V.int ((k : Nat) : Int))) ∧
    H b = some (.lst ((belowL cs (gs.getLastD 1).toNat (sizeL cs * (gs.getLastD 1).toNat)).map fun k => V.int ((k : Nat) : Int))) ∧ ¬ old s ∧ ¬ old b
theorem HomeAt.weak {o1 o2 : Addr → Prop} {H : Hp} {d g l : Addr} {gs : List Int} {rows : List R3} (h : HomeAt o1 H d g l gs rows) (i : ∀ q, o2 q → o1 q) : HomeAt o2 H d g l gs rows := by
  obtain ⟨s, b, cs, n, e1, e2, e3, e4, e5, e6, e7⟩ := h
  exact ⟨s, b, cs, n, e1, e2, e3, e4, e5, fun z => e6 (i _ z), fun z => e7 (i _ z)⟩
def spPlace (K : PySem.W.Frag) : Sp := fun vs H Q _ => ∃ (g l : Addr) (gs : List Int) (rows : List R3) (m : Int), vs = [.ref g, .ref l] ∧ SqL K H g (gs.map V.int) ∧ LanesIn K H l rows ∧ 1 ≤ gs.length ∧ gs.length ≤ 3 ∧ (∀ x ∈ gs, 2 ≤ x ∧ x ≤ 60) ∧ rows.length ≤ 20 ∧ m ≤ 60 ∧ (∀ r ∈ rows, RowOk m gs r) ∧ unitL gs * everyL rows ≤ 7200 ∧
  ∀ (d : Addr) (H' : Hp), Same H H' → H d = none → HomeAt (fun q => H q ≠ none) H' d g l gs rows → Q (.ref d) H'
theorem foldl_mul_pos : ∀ (bs : List Int) (a : Nat), 0 < a → (∀ x ∈ bs, 2 ≤ x) → a ≤ bs.foldl (fun a b => a * b.toNat) a
  | [], a, _, _ => Nat.le_refl _
  | b :: bs, a, ha, h => by
    have hb := h b List.mem_cons_self
    have h1 : a ≤ a * b.toNat := Nat.le_mul_of_pos_right a (by omega)
    exact Nat.le_trans h1 (foldl_mul_pos bs _ (by omega) fun x hx => h x (List.mem_cons_of_mem _ hx))
theorem everyStep_pos {e : Nat} {r : R3} (he : 0 < e) (hr : 1 ≤ r.2.1) : 0 < everyStep e r := by
  unfold everyStep
  split
  · exact Nat.lcm_pos he (by omega)
  · exact he
theorem every_mono : ∀ (rows : List R3) (e : Nat), 0 < e → (∀ r ∈ rows, 1 ≤ r.2.1) → e ≤ rows.foldl everyStep e
  | [], e, _, _ => Nat.le_refl _
  | r :: rows, e, he, h => by
    have hr := h r List.mem_cons_self
    have h1 : e ≤ everyStep e r := by
      unfold everyStep
      split
      · exact Nat.le_of_dvd (Nat.lcm_pos he (by omega)) (Nat.dvd_lcm_left _ _)
      · exact Nat.le_refl _
    exact Nat.le_trans h1 (every_mono rows _ (everyStep_pos he hr) fun x hx => h x (List.mem_cons_of_mem _ hx))
section
variable {P : Program} {w : World} {K : PySem.W.Frag} {mg : Str → Option Value} {base : Heap}
def spHouse (K : PySem.W.Frag) : Sp := fun vs H Q _ => ∃ (p : Addr), vs = [.ref p, .non] ∧ VaseAt H p ∧
  ∀ (d g l : Addr) (gs : List Int) (rows : List R3) (H' : Hp), H d = none → H g = none → H l = none → H' g = some (.lst (gs.map V.int)) → LanesAt p H' l rows → HomeAt (fun q => H q ≠ none) H' d g l gs rows → 1 ≤ gs.length → gs.length ≤ 3 → (∀ x ∈ gs, 2 ≤ x ∧ x ≤ 4) →
    rows.length ≤ 3 → (∀ r ∈ rows, RowOk 4 gs r) → VaseAt H' p → Else p H H' → Q (.ref d) H'
theorem lcm_12 : ∀ a ∈ [1, 2, 3, 4, 6, 12], ∀ b ∈ [1, 2, 3, 4], Nat.lcm a b ∈ [1, 2, 3, 4, 6, 12] := by decide
theorem every_12 : ∀ (rows : List R3) (e : Nat), e ∈ [1, 2, 3, 4, 6, 12] → (∀ r ∈ rows, 1 ≤ r.2.1 ∧ r.2.1 ≤ 4) → rows.foldl everyStep e ∈ [1, 2, 3, 4, 6, 12]
  | [], e, he, _ => he
  | r :: rows, e, he, h => by
    rw [List.foldl_cons]
    refine every_12 rows _ ?_ fun x hx => h x (List.mem_cons_of_mem _ hx)
    unfold everyStep
    split
    · refine lcm_12 e he _ ?_
      have := h r List.mem_cons_self
      have h4 : r.2.1.toNat = 1 ∨ r.2.1.toNat = 2 ∨ r.2.1.toNat = 3 ∨ r.2.1.toNat = 4 := by omega
      simp
      omega
    · exact he
theorem every_12' {rows : List R3} (h : ∀ r ∈ rows, 1 ≤ r.2.1 ∧ r.2.1 ≤ 4) : everyL rows ≤ 12 := by
  have := every_12 rows 1 (by decide) h
  simp at this
  unfold everyL
  omega
theorem unit_16 {gs : List Int} (h1 : gs.length ≤ 3) (h : ∀ x ∈ gs, 2 ≤ x ∧ x ≤ 4) : unitL gs ≤ 16 := by
  unfold unitL
  match gs, h1, h with
  | [], _, _ => decide
  | [a], _, _ => exact (by decide : 1 ≤ 16)
  | [a, b], _, h =>
    have := h a (by simp)
    show 1 * a.toNat ≤ 16
    omega
  | [a, b, c], _, h =>
    have h1 := h a (by simp)
    have h2 := h b (by simp)
    show 1 * a.toNat * b.toNat ≤ 16
    have : 1 * a.toNat * b.toNat ≤ 4 * 4 := Nat.mul_le_mul (by omega) (by omega)
    omega
  | _ :: _ :: _ :: _ :: _, h1, _ => exact absurd h1 (by simp)
end
end LM

set_option Elab.async false
set_option linter.all false
set_option maxRecDepth 100000
set_option maxHeartbeats 4000000
set_option pp.maxSteps 600
set_option pp.deepTerms false
namespace LM
open PySem PySem.Spec PyProof.Rows L2
local macro_rules | `(tactic| walk_at "hp") => `(tactic| first | assumption | exact upd_same | (rw [upd_ne (by assumption)]; assumption) | (rw [upd_ne (Ne.symm (by assumption))]; assumption) | (rw [upd_ne (by assumption)]; exact upd_same) | (rw [upd_ne (Ne.symm (by assumption))]; exact upd_same))
local macro_rules | `(tactic| walk_at "sq") => `(tactic| first | assumption | exact Or.inl (Or.inl (by assumption)) | exact Or.inl (Or.inl upd_same) | exact Or.inl (Or.inl (by walk_at "hp")))
local macro_rules | `(tactic| walk_at "ixl") => `(tactic| refine ⟨_, _, _, _, rfl, rfl, (by walk_at "sq"), (by rfl), ?_⟩)
local macro_rules | `(tactic| walk_at "setl") => `(tactic| refine ⟨_, _, _, _, rfl, rfl, (by walk_at "hp"), (by rfl), ?_⟩)
local macro_rules | `(tactic| walk_at "side") => `(tactic| refine idP ?_; first | omega | (show (0 : Int) < _; omega) | (show (0 : Int) < _ ∧ _ < _; omega) | (refine Or.inr ?_; show (-(2 ^ 64) : Int) < _ ∧ _ < _; omega) | (refine Or.inl ?_; show (-(2 ^ 64) : Int) < _ ∧ _ < _; omega) | exact divW (by omega) (by omega) _ | (refine ⟨by decide, by decide, ?_⟩; decide))
local macro_rules | `(tactic| walk_at "go1") => `(tactic| first
  | refine ⟨_, rfl, ?_⟩
  | refine ⟨_, _, rfl, rfl, (by walk_at "side"), ?_⟩
  | refine ⟨_, _, rfl, (by walk_at "side"), ?_⟩
  | refine ⟨_, _, rfl, rfl, ?_⟩
  | refine Or.inl ⟨_, rfl, ?_⟩
  | refine ⟨_, _, rfl, Or.inl (by walk_at "sq"), ?_⟩
  | walk_at "ixl"
  | walk_at "setl"
  | refine ⟨_, _, rfl, (by walk_at "sq"), rfl, ?_⟩
  | refine ⟨_, _, rfl, (by walk_at "sq"), ?_⟩
  | refine ⟨_, _, rfl, ?_⟩
  | refine ⟨rfl, ?_⟩
  | refine ⟨small (Nat.le_of_ble_eq_true rfl), ?_⟩)
local macro_rules | `(tactic| walk_at "go") => `(tactic| repeat walk_at "go1")

abbrev sis_integer : Stmt := topS 20
theorem scis_integer : FnScope ["value"] ["value"] (defScope sis_integer) := ⟨rfl, rfl, rfl, by decide +kernel, rfl, by decide +kernel, by decide +kernel⟩
abbrev sis_integer_within : Stmt := topS 21
theorem scis_integer_within : FnScope ["value", "low", "high"] ["value", "low", "high"] (defScope sis_integer_within) := ⟨rfl, rfl, rfl, by decide +kernel, rfl, by decide +kernel, by decide +kernel⟩
abbrev sis_number : Stmt := topS 22
theorem scis_number : FnScope ["value"] ["value"] (defScope sis_number) := ⟨rfl, rfl, rfl, by decide +kernel, rfl, by decide +kernel, by decide +kernel⟩
abbrev scheck_number : Stmt := topS 23
theorem sccheck_number : FnScope ["given"] ["given"] (defScope scheck_number) := ⟨rfl, rfl, rfl, by decide +kernel, rfl, by decide +kernel, by decide +kernel⟩
abbrev scheck_bases : Stmt := topS 51
theorem sccheck_bases : FnScope ["bases", "index", "base"] ["bases"] (defScope scheck_bases) := ⟨rfl, rfl, rfl, by decide +kernel, rfl, by decide +kernel, by decide +kernel⟩
abbrev sis_row : Stmt := topS 52
theorem scis_row : FnScope ["bases", "value", "field", "every", "count"] ["bases", "value"] (defScope sis_row) := ⟨rfl, rfl, rfl, by decide +kernel, rfl, by decide +kernel, by decide +kernel⟩
abbrev scheck_rows : Stmt := topS 53
theorem sccheck_rows : FnScope ["bases", "rows", "index", "row"] ["bases", "rows"] (defScope scheck_rows) := ⟨rfl, rfl, rfl, by decide +kernel, rfl, by decide +kernel, by decide +kernel⟩
/-- the constants of the program's modules -/
structure Consts (mg : Str → Option Value) : Prop where
  MOST_BASES : ∃ t, mg "MOST_BASES" = some (.int 3 t)
  MOST_ROWS : ∃ t, mg "MOST_ROWS" = some (.int 6 t)
  MOST_GROUPS : ∃ t, mg "MOST_GROUPS" = some (.int 7200 t)
  LEAST_BASE : ∃ t, mg "LEAST_BASE" = some (.int 2 t)
  GREATEST_BASE : ∃ t, mg "GREATEST_BASE" = some (.int 60 t)
  GREATEST_EVERY : ∃ t, mg "GREATEST_EVERY" = some (.int 60 t)
theorem within_true {a b c : Int} (h1 : a ≤ b) (h2 : b ≤ c) : (decide (a ≤ b) && decide (b ≤ c)) = true := by
  rw [decide_eq_true h1, decide_eq_true h2]
  rfl
def spIsInt : Sp := fun vs H Q _ => ∃ n : Int, vs = [.int n] ∧ Q (.bl true) H
def spWithin : Sp := fun vs H Q _ => ∃ n lo hi : Int, vs = [.int n, .int lo, .int hi] ∧ Q (.bl (decide (lo ≤ n) && decide (n ≤ hi))) H
def spIsNum : Sp := fun vs H Q _ => ∃ n : Int, vs = [.int n] ∧ Q (.bl (decide (0 ≤ n))) H
def spChkNum : Sp := fun vs H Q _ => ∃ n : Int, vs = [.int n] ∧ 0 ≤ n ∧ Q .non H
def spChkBases (K : PySem.W.Frag) : Sp := fun vs H Q _ => ∃ (a : Addr) (bs : List Int), vs = [.ref a] ∧ SqT K H a (bs.map V.int) ∧ 1 ≤ bs.length ∧ bs.length ≤ 3 ∧ (∀ x ∈ bs, 2 ≤ x ∧ x ≤ 60) ∧ ∀ H', Same H H' → Q .non H'
def spIsRow (K : PySem.W.Frag) : Sp := fun vs H Q _ => ∃ (a r : Addr) (bs : List Int) (x : R3), vs = [.ref a, .ref r] ∧ SqT K H a (bs.map V.int) ∧ 1 ≤ bs.length ∧ SqT K H r [.int x.1, .int x.2.1, .int x.2.2] ∧ RowOk 60 bs x ∧ ∀ H', Same H H' → Q (.bl true) H'
/-- at r a tuple of rows, each a tuple of three ints -/
def RowsAt (K : PySem.W.Frag) (H : Hp) (r : Addr) (rows : List R3) : Prop := ∃ as : List Addr, SqT K H r (as.map V.ref) ∧ Paired (fun a (x : R3) => SqT K H a [.int x.1, .int x.2.1, .int x.2.2]) as rows
theorem RowsAt.same {K : PySem.W.Frag} {H H' : Hp} {r : Addr} {rows : List R3} (h : RowsAt K H r rows) (s : Same H H') : RowsAt K H' r rows := by
  obtain ⟨as, e, p⟩ := h
  exact ⟨as, Same.seqT s e, paired_imp p fun a _ x q => Same.seqT s q⟩
def spChkRows (K : PySem.W.Frag) : Sp := fun vs H Q _ => ∃ (a r : Addr) (bs : List Int) (rows : List R3), vs = [.ref a, .ref r] ∧ SqT K H a (bs.map V.int) ∧ 1 ≤ bs.length ∧ RowsAt K H r rows ∧ rows.length ≤ 6 ∧ (∀ x ∈ rows, RowOk 60 bs x) ∧ ∀ H', Same H H' → Q .non H'
theorem tyT {K : PySem.W.Frag} {H : Hp} {a : Addr} {xs : List V} (h : SqT K H a xs) : TyX K H (.ref a) (.type "tuple") := by
  rcases h with (h | ⟨o, h⟩) | h
  · exact .base (.tup h)
  · exact .fTuple h
  · obtain ⟨o, its, n, e, c, _⟩ := h
    exact .kTuple e c
section
variable {P : Program} {w : World} {K : PySem.W.Frag} {mg : Str → Option Value} {base : Heap}
theorem ok_isint {f : Addr} {fd : FuncData} (F : Fun K "is_integer" "is_integer" sis_integer f fd) (N : Names mg) : FnOk P w K mg base CX0 1 f fd ["value"] spIsInt := by
  have sc := scis_integer
  refine F.ok sc (fun vs H Q E h => ?_) (fun cdv A outer s H vs Q E hr h => ?_)
  · obtain ⟨n, rfl, _⟩ := h
    rfl
  · obtain ⟨n, rfl, k⟩ := h
    refine ⟨_, (pss_one (ps_ret (pe_and (pe_callB call_isi (by rfl) N.isinstance (by decide +kernel) (pa_cons (pv 0) (pa_cons (pe_ty "int" rfl N.int (by decide +kernel)) pa_nil))) (pe_one (pe_not (pe_callB call_isi (by rfl) N.isinstance (by decide +kernel) (pa_cons (pv 0) (pa_cons (pe_ty "bool" rfl N.bool (by decide +kernel)) pa_nil)))))))), ?_⟩
    refine ⟨_, rfl, _, _, _, _, _, rfl, .ty _, .base (.int n), kit_ty (r := true) (by decide +kernel), _, rfl, ?_⟩
    exact ⟨_, rfl, _, _, _, _, _, rfl, .ty _, .base (.int n), kit_ty (r := false) (by decide +kernel), _, rfl, k⟩
theorem ok_within {f : Addr} {fd : FuncData} (F : Fun K "is_integer_within" "is_integer_within" sis_integer_within f fd) (Dis_integer : DefK P w K mg base "is_integer" ["value"] 1 spIsInt) : FnOk P w K mg base CX0 2 f fd ["value", "low", "high"] spWithin := by
  have sc := scis_integer_within
  refine F.ok sc (fun vs H Q E h => ?_) (fun cdv A outer s H vs Q E hr h => ?_)
  · obtain ⟨n, lo, hi, rfl, _⟩ := h
    rfl
  · obtain ⟨n, lo, hi, rfl, k⟩ := h
    refine ⟨_, (pss_one (ps_ret (pe_and (pe_d Dis_integer (hr.mono (by decide)) rfl (pa_cons (pv 0) pa_nil)) (pe_one (pe_chain op_le op_le (pv 1) (pv 0) (pv 2)))))), ?_⟩
    refine ⟨_, rfl, n, rfl, _, rfl, ?_⟩
    refine ⟨_, rfl, _, rfl, _, _, rfl, rfl, _, rfl, ?_⟩
    refine ifD (fun hd => ?_) (fun hd => ?_)
    · refine ⟨_, rfl, _, _, rfl, rfl, ?_⟩
      rw [decide_eq_true hd, Bool.true_and] at k
      exact k
    · rw [decide_eq_false hd, Bool.false_and] at k
      exact k
theorem ok_isnum {f : Addr} {fd : FuncData} (F : Fun K "is_number" "is_number" sis_number f fd) (Dis_integer : DefK P w K mg base "is_integer" ["value"] 1 spIsInt) : FnOk P w K mg base CX0 2 f fd ["value"] spIsNum := by
  have sc := scis_number
  refine F.ok sc (fun vs H Q E h => ?_) (fun cdv A outer s H vs Q E hr h => ?_)
  · obtain ⟨n, rfl, _⟩ := h
    rfl
  · obtain ⟨n, rfl, k⟩ := h
    refine ⟨_, (pss_one (ps_ret (pe_and (pe_d Dis_integer (hr.mono (by decide)) rfl (pa_cons (pv 0) pa_nil)) (pe_one (pe_cmpR op_ge (pv 0) pe_int (nomark _)))))), ?_⟩
    refine ⟨_, rfl, n, rfl, _, rfl, ?_⟩
    exact ⟨_, rfl, _, _, rfl, rfl, k⟩
theorem ok_chknum {f : Addr} {fd : FuncData} (F : Fun K "check_number" "check_number" scheck_number f fd) (Dis_number : DefK P w K mg base "is_number" ["value"] 2 spIsNum) : FnOk P w K mg base CX0 3 f fd ["given"] spChkNum := by
  have sc := sccheck_number
  refine F.ok sc (fun vs H Q E h => ?_) (fun cdv A outer s H vs Q E hr h => ?_)
  · obtain ⟨n, rfl, _⟩ := h
    rfl
  · obtain ⟨n, rfl, h0, k⟩ := h
    refine ⟨_, (pss_one (ps_if (pt_not (pt_val (pe_d Dis_number (hr.mono (by decide)) rfl (pa_cons (pv 0) pa_nil)))) (pss_one ps_never) pss_nil)), ?_⟩
    refine ⟨_, rfl, n, rfl, _, rfl, ?_⟩
    rw [decide_eq_true h0]
    exact iteF k
theorem ok_chkbases {f : Addr} {fd : FuncData} (F : Fun K "check_bases" "check_bases" scheck_bases f fd) (N : Names mg) (M : Consts mg) (Dis_integer_within : DefK P w K mg base "is_integer_within" ["value", "low", "high"] 2 spWithin) : FnOk P w K mg base CX0 3 f fd ["bases"] (spChkBases K) := by
  have sc := sccheck_bases
  refine F.ok sc (fun vs H Q E h => ?_) (fun cdv A outer s H vs Q E hr h => ?_)
  · obtain ⟨a, bs, rfl, _⟩ := h
    rfl
  · obtain ⟨a, bs, rfl, hb, b0, b1, bb, k⟩ := h
    refine ⟨_, (pss_cons (ps_if (PW.pt (pw_or (pt_not (pt_val (pe_callB call_isi (by rfl) N.isinstance (by decide +kernel) (pa_cons (pv 0) (pa_cons (pe_ty "tuple" rfl N.tuple (by decide +kernel)) pa_nil))))) (pw_or1 (pt_not (pt_chain op_le op_le pe_int (pe_callB call_len_seq (by rfl) N.len (by decide +kernel) (pa_cons (pv 0) pa_nil)) (pe_const rfl M.MOST_BASES)))))) (pss_one ps_never) pss_nil)
      (pss_one (ps_for PassesOwn.never rfl (pi_enumT rfl N.enumerate (pa_cons (pv 0) pa_nil)) (pg_tup rfl (pgs_cons (pg_name (i := 1) sc.nd rfl (Or.inl rfl)) (pgs_cons (pg_name (i := 2) sc.nd rfl (Or.inl rfl)) pgs_nil))) (pss_one (ps_if (pt_not (pt_val (pe_d Dis_integer_within (hr.mono (by decide)) rfl (pa_cons (pv 2) (pa_cons (pe_const rfl M.LEAST_BASE) (pa_cons (pe_const rfl M.GREATEST_BASE) pa_nil)))))) (pss_one ps_never) pss_nil))))), ?_⟩
    refine ⟨_, rfl, _, _, _, _, _, rfl, .ty _, tyT hb, kit_ty (r := true) (by decide +kernel), _, rfl, ?_⟩
    refine iteF ?_
    refine ⟨_, rfl, a, _, rfl, .inr hb, _, _, rfl, rfl, _, rfl, ?_⟩
    rw [List.length_map]
    refine ifD (fun hd => ?_) (fun hd => absurd (by omega) hd)
    refine ⟨_, _, rfl, rfl, _, rfl, ?_⟩
    refine ifN (fun hd => absurd (by show ((bs.length : Nat) : Int) ≤ 3; omega) hd) (fun hd => ?_)
    refine ⟨_, rfl, a, _, rfl, hb, for_enumT (K := K) (xs := bs.map V.int) (fun i σ H' => ∃ v1 v2 : Option V, σ = [some (.ref a), v1, v2] ∧ Same H H') ⟨_, _, rfl, Same.refl H⟩ (fun i σ H' _ ⟨_, _, _, s⟩ => Same.seqT s hb) ?_ ?_⟩
    · rintro i x T σ H' hx nT ⟨v1, v2, rfl, sm⟩
      obtain ⟨b, hb', rfl⟩ : ∃ b, bs[i]? = some b ∧ x = V.int b := by
        rw [List.getElem?_map] at hx
        obtain ⟨z, hz, e⟩ := Option.map_eq_some_iff.mp hx
        exact ⟨z, hz, e.symm⟩
      have hbb := bb b (List.mem_of_getElem? hb')
      refine ⟨T, _, rfl, SqT.tup upd_same, rfl, _, _, rfl, _, _, rfl, rfl, ?_⟩
      refine ⟨_, rfl, b, 2, 60, rfl, _, rfl, ?_⟩
      rw [decide_eq_true hbb.1, decide_eq_true hbb.2]
      refine iteF ?_
      exact ⟨_, _, rfl, Same.of_new sm nT⟩
    · rintro σ H' ⟨v1, v2, rfl, sm⟩
      exact k H' sm
theorem ok_isrow {f : Addr} {fd : FuncData} (F : Fun K "is_row" "is_row" sis_row f fd) (N : Names mg) (M : Consts mg) (Dis_integer_within : DefK P w K mg base "is_integer_within" ["value", "low", "high"] 2 spWithin) : FnOk P w K mg base CX0 3 f fd ["bases", "value"] (spIsRow K) := by
  have sc := scis_row
  refine F.ok sc (fun vs H Q E h => ?_) (fun cdv A outer s H vs Q E hr h => ?_)
  · obtain ⟨a, r, bs, x, rfl, _⟩ := h
    rfl
  · obtain ⟨a, r, bs, x, rfl, hb, b0, hx, ⟨o1, o2, o3, o4, o5, o6⟩, k⟩ := h
    refine ⟨_, (pss_cons (ps_if (PW.pt (pw_or (pt_not (pt_val (pe_callB call_isi (by rfl) N.isinstance (by decide +kernel) (pa_cons (pv 1) (pa_cons (pe_ty "tuple" rfl N.tuple (by decide +kernel)) pa_nil))))) (pw_or1 (pt_cmpR op_ne (pe_callB call_len_seq (by rfl) N.len (by decide +kernel) (pa_cons (pv 1) pa_nil)) pe_int (nomark _))))) (pss_one (ps_ret pe_bl)) pss_nil)
      (pss_cons (ps_asg (pv 1) (pg_tup rfl (pgs_cons (pg_name (i := 2) sc.nd rfl (Or.inl rfl)) (pgs_cons (pg_name (i := 3) sc.nd rfl (Or.inl rfl)) (pgs_cons (pg_name (i := 4) sc.nd rfl (Or.inl rfl)) pgs_nil)))))
      (pss_one (ps_ret (pe_and (pe_d Dis_integer_within (hr.mono (by decide)) rfl (pa_cons (pv 2) (pa_cons pe_int (pa_cons (pe_op op_sub (pe_callB call_len_seq (by rfl) N.len (by decide +kernel) (pa_cons (pv 0) pa_nil)) pe_int) pa_nil)))) (pe_and (pe_d Dis_integer_within (hr.mono (by decide)) rfl (pa_cons (pv 3) (pa_cons pe_int (pa_cons (pe_const rfl M.GREATEST_EVERY) pa_nil)))) (pe_one (pe_d Dis_integer_within (hr.mono (by decide)) rfl (pa_cons (pv 4) (pa_cons pe_int (pa_cons (pe_op op_sub (pe_ix ix_tup (pv 0) (pe_un un_neg pe_int) (fun _ _ => rfl)) pe_int) pa_nil))))))))))), ?_⟩
    refine ⟨_, rfl, _, _, _, _, _, rfl, .ty _, tyT hx, kit_ty (r := true) (by decide +kernel), _, rfl, ?_⟩
    refine iteF ?_
    refine ⟨_, rfl, r, _, rfl, .inr hx, rfl, _, rfl, ?_⟩
    refine iteF ?_
    refine ⟨_, rfl, r, _, rfl, hx, rfl, _, _, rfl, _, _, rfl, _, _, rfl, rfl, ?_⟩
    refine ⟨_, rfl, _, rfl, a, _, rfl, .inr hb, _, _, rfl, rfl, x.1, 0, _, rfl, _, rfl, ?_⟩
    rw [within_true o1 (by rw [List.length_map]; omega)]
    refine iteT ?_
    refine ⟨_, rfl, x.2.1, 1, 60, rfl, _, rfl, ?_⟩
    rw [within_true o3 o4]
    refine iteT ?_
    refine ⟨_, rfl, _, rfl, _, rfl, a, _, _, _, rfl, rfl, hb, getLastD_map bs b0, _, _, rfl, rfl, x.2.2, 0, _, rfl, ?_⟩
    rw [within_true o5 (by omega)]
    exact k H (Same.refl H)
theorem ok_chkrows {f : Addr} {fd : FuncData} (F : Fun K "check_rows" "check_rows" scheck_rows f fd) (N : Names mg) (M : Consts mg) (Dis_row : DefK P w K mg base "is_row" ["bases", "value"] 3 (spIsRow K)) : FnOk P w K mg base CX0 4 f fd ["bases", "rows"] (spChkRows K) := by
  have sc := sccheck_rows
  refine F.ok sc (fun vs H Q E h => ?_) (fun cdv A outer s H vs Q E hr h => ?_)
  · obtain ⟨a, r, bs, rows, rfl, _⟩ := h
    rfl
  · obtain ⟨a, r, bs, rows, rfl, hb, b0, hR, r6, ro, k⟩ := h
    obtain ⟨as, hrt, pr⟩ := id hR
    have hpl := pr.length
    refine ⟨_, (pss_cons (ps_if (PW.pt (pw_or (pt_not (pt_val (pe_callB call_isi (by rfl) N.isinstance (by decide +kernel) (pa_cons (pv 1) (pa_cons (pe_ty "tuple" rfl N.tuple (by decide +kernel)) pa_nil))))) (pw_or1 (pt_cmpR op_gt (pe_callB call_len_seq (by rfl) N.len (by decide +kernel) (pa_cons (pv 1) pa_nil)) (pe_const rfl M.MOST_ROWS) (nomark _))))) (pss_one ps_never) pss_nil)
      (pss_one (ps_for PassesOwn.never rfl (pi_enumT rfl N.enumerate (pa_cons (pv 1) pa_nil)) (pg_tup rfl (pgs_cons (pg_name (i := 2) sc.nd rfl (Or.inl rfl)) (pgs_cons (pg_name (i := 3) sc.nd rfl (Or.inl rfl)) pgs_nil))) (pss_one (ps_if (pt_not (pt_val (pe_d Dis_row (hr.mono (by decide)) rfl (pa_cons (pv 0) (pa_cons (pv 3) pa_nil))))) (pss_one ps_never) pss_nil))))), ?_⟩
    refine ⟨_, rfl, _, _, _, _, _, rfl, .ty _, tyT hrt, kit_ty (r := true) (by decide +kernel), _, rfl, ?_⟩
    refine iteF ?_
    refine ⟨_, rfl, r, _, rfl, .inr hrt, _, _, rfl, rfl, _, rfl, ?_⟩
    refine ifD (fun hd => absurd hd (by rw [List.length_map]; omega)) (fun hd => ?_)
    refine ⟨_, rfl, r, _, rfl, hrt, for_enumT (K := K) (xs := as.map V.ref) (fun i σ H' => ∃ v1 v2 : Option V, σ = [some (.ref a), some (.ref r), v1, v2] ∧ Same H H') ⟨_, _, rfl, Same.refl H⟩ (fun i σ H' _ ⟨_, _, _, s⟩ => Same.seqT s hrt) ?_ ?_⟩
    · rintro i x T σ H' hx nT ⟨v1, v2, rfl, sm⟩
      obtain ⟨ra, ha, rfl⟩ : ∃ b, as[i]? = some b ∧ x = V.ref b := by
        rw [List.getElem?_map] at hx
        obtain ⟨z, hz, e⟩ := Option.map_eq_some_iff.mp hx
        exact ⟨z, hz, e.symm⟩
      obtain ⟨y, hy, hya⟩ := paired_at pr ha
      have sT : Same H (upd H' T (.tup [.int ((i : Nat) : Int), .ref ra])) := Same.of_new sm nT
      refine ⟨T, _, rfl, SqT.tup upd_same, rfl, _, _, rfl, _, _, rfl, rfl, ?_⟩
      refine ⟨_, rfl, _, rfl, a, ra, bs, y, rfl, Same.seqT sT hb, b0, Same.seqT sT hya, ro y (List.mem_of_getElem? hy), fun H5 s5 => ?_⟩
      refine ⟨_, rfl, iteF ?_⟩
      exact ⟨_, _, rfl, sT.trans s5⟩
    · rintro σ H' ⟨v1, v2, rfl, sm⟩
      exact k H' sm
end
end LM

set_option Elab.async false
set_option linter.all false
set_option maxRecDepth 100000
set_option maxHeartbeats 4000000
namespace LM
open PySem PySem.Spec PyProof.Rows L2
def rgN (i j c : Int) : Nat := if i < j then ((j - i - 1) / c + 1).toNat else 0
theorem rgN_le {i j c : Int} (hi : i ≤ j) (hc : 1 ≤ c) : (rgN i j c : Int) ≤ j - i := by
  unfold rgN
  split
  · have h1 : (j - i - 1) / c ≤ j - i - 1 := Int.ediv_le_self _ (by omega)
    omega
  · omega
theorem RgC.pos {i j c : Int} (h0 : 0 ≤ i) (h1 : i ≤ j) (h2 : j ≤ 10000000) (h3 : 1 ≤ c) (h4 : c ≤ 10000000) : RgC i j c (rgN i j c) := by
  have hs : Builtin.Range.rangeSize i j c = ((rgN i j c : Nat) : Int) := by
    unfold Builtin.Range.rangeSize rgN
    rw [if_pos (by omega)]
    by_cases h : i < j
    · rw [if_pos h, if_pos h]
      have : 0 ≤ (j - i - 1) / c := Int.ediv_nonneg (by omega) (by omega)
      omega
    · rw [if_neg h, if_neg h]
      rfl
  have hl := rgN_le h1 h3
  refine ⟨by omega, by omega, ?_, hs⟩
  unfold Builtin.Range.small
  rw [hs]
  simp only [Builtin.Range.rangeFitsLong, Bool.and_eq_true, Bool.or_eq_true, decide_eq_true_eq, beq_iff_eq]
  refine ⟨by omega, .inr ?_⟩
  rw [if_pos (by omega)]
  simp only [Bool.and_eq_true, decide_eq_true_eq]
  omega
/-- list(range(a, b, c)) -/
def rg3V (i c : Int) (n : Nat) : List V := (List.range n).map fun k => V.int (i + (k : Nat) * c)
def tLstRg3 (ta : TA) : TE := fun σ H Q => ta σ H fun vs H1 => ∃ (i j c : Int) (n : Nat), vs = [.int i, .int j, .int c] ∧ RgC i j c n ∧ n ≤ 2 ^ 24 ∧ ∀ q, H1 q = none → Q (.ref q) (upd H1 q (.lst (rg3V i c n)))
theorem vals_rg3 {i c : Int} {n : Nat} {acc : Array Value} (h : ItemsOf (fun k v => ∃ t, v = .int (i + k * c) t) acc n) : Vals (rg3V i c n) acc.toList := by
  have e : acc.toList.length = n := by rw [Array.length_toList]; exact h.1
  unfold rg3V
  rw [← e]
  refine vals_of_get acc.toList _ fun j u hj => ?_
  exact h.2 j u (by rw [← hj, Array.getElem?_toList])
theorem pe_listRg3 {X : Cx} {a b c : Expr} {ta : TA} {p pos p2 pos2 : Pos} (hc : X.calm = true) (hg : Gl X "list") (hm : X.mg "list" = none) (hg2 : Gl X "range") (hm2 : X.mg "range" = none) (ha : PA X [a, b, c] ta)
    (hs : starEach [a, b, c] X.env = (false, eval a X.env) :: starEach [b, c] X.env := by rfl) (hpl : (backTo pos2 (starEach [b, c] X.env)).any (·.1) = false := by rfl)
    (na : starEach [.Call (.Name "range" p2) [a, b, c] [] pos2] X.env = (false, eval (.Call (.Name "range" p2) [a, b, c] [] pos2) X.env) :: starEach [] X.env := by rfl) :
    PE X (.Call (.Name "list" p) [.Call (.Name "range" p2) [a, b, c] [] pos2] [] pos) (tLstRg3 ta) := by
  refine ⟨fun pins s σ H Q I h => ?_⟩
  refine Call_ (ld_blt I hg hm boot_list (PyProof.Rows.callWith_type1 (args_cons (Call_ (ld_blt I hg2 hm2 boot_range (PyProof.Rows.callWith_type1 (thn (ha.run pos2 pins s σ H _ I h) fun us s1 ⟨vs, H1, I1, r1, q1⟩ => ?_) hs hpl))) na) na))
  obtain ⟨i, j, k, n, e, ⟨c0, c1, c2, c3⟩, hn, q⟩ := q1
  subst e
  cases r1 with
  | cons r rr =>
    cases rr with
    | cons r' rr =>
      cases rr with
      | cons r'' rr =>
        cases rr
        obtain ⟨t, rfl⟩ := r
        obtain ⟨t', rfl⟩ := r'
        obtain ⟨t'', rfl⟩ := r''
        refine call_range_3 c0 ?_ (.inl (PyProof.noPylong_small c1))
        refine args_nil ?_
        have I2 : Inv X pins σ H1 { s1 with heap := s1.heap.push { cls := .type "range", data := .fields #[.int i t, .int j t', .int k t''] } } := I1.kept (t' := s1.toks) fun b o e => Heap.get?_push_of_some _ e
        refine call_list_range (n := n) (I2.ok.hd hc) (IsRange.new ..) c2 c3 hn fun h' tk acc c' hk e' hi => ?_
        have hsz : (rg3V i k n).length ≤ sizeLine := by
          unfold rg3V
          rw [List.length_map, List.length_range, sizeLine_eq]
          omega
        exact ⟨.ref _, upd H1 _ (.lst (rg3V i k n)), I2.laid hk (Nat.le_refl _) (show ObjOk X.prog X.w _ _ _ (.lst (rg3V i k n)) from ⟨hsz, acc.toList, c', vals_rg3 hi, by rw [Array.toArray_toList]; exact e'⟩), rfl, q _ (I2.hok.fresh (Nat.le_refl _))⟩
end LM
namespace LM
open PySem PySem.Spec PyProof.Rows L2
theorem if_joinH {p : Prop} [Decidable p] {ta tb : TE} {σ : L2.St} {H : Hp} {Q : VK} (P : V → Hp → Prop) (h1 : p → ∀ Q' : VK, (∀ v H', P v H' → Q' v H') → ta σ H Q') (h2 : ¬ p → ∀ Q' : VK, (∀ v H', P v H' → Q' v H') → tb σ H Q') (k : ∀ v H', P v H' → Q v H') :
    if decide p = true then ta σ H Q else tb σ H Q := ifD (fun h => h1 h Q k) (fun h => h2 h Q k)
end LM

set_option Elab.async false
set_option linter.all false
set_option maxRecDepth 100000
set_option maxHeartbeats 4000000
set_option pp.maxSteps 600
set_option pp.deepTerms false
namespace LM
open PySem PySem.Spec PyProof.Rows L2
local macro_rules | `(tactic| walk_at "hp") => `(tactic| first | assumption | exact upd_same | (rw [upd_ne (by assumption)]; assumption) | (rw [upd_ne (Ne.symm (by assumption))]; assumption) | (rw [upd_ne (by assumption)]; exact upd_same) | (rw [upd_ne (Ne.symm (by assumption))]; exact upd_same))
local macro_rules | `(tactic| walk_at "sq") => `(tactic| first | assumption | exact Or.inl (Or.inl (by assumption)) | exact Or.inl (Or.inl upd_same) | exact Or.inl (Or.inl (by walk_at "hp")))
local macro_rules | `(tactic| walk_at "ixl") => `(tactic| refine ⟨_, _, _, _, rfl, rfl, (by walk_at "sq"), (by rfl), ?_⟩)
local macro_rules | `(tactic| walk_at "setl") => `(tactic| refine ⟨_, _, _, _, rfl, rfl, (by walk_at "hp"), (by rfl), ?_⟩)
local macro_rules | `(tactic| walk_at "side") => `(tactic| refine idP ?_; first | omega | (show (0 : Int) < _; omega) | (show (0 : Int) < _ ∧ _ < _; omega) | (refine Or.inr ?_; show (-(2 ^ 64) : Int) < _ ∧ _ < _; omega) | (refine Or.inl ?_; show (-(2 ^ 64) : Int) < _ ∧ _ < _; omega) | exact divW (by omega) (by omega) _ | (refine ⟨by decide, by decide, ?_⟩; decide))
local macro_rules | `(tactic| walk_at "go1") => `(tactic| first
  | refine ⟨_, rfl, ?_⟩
  | refine ⟨_, _, rfl, rfl, (by walk_at "side"), ?_⟩
  | refine ⟨_, _, rfl, (by walk_at "side"), ?_⟩
  | refine ⟨_, _, rfl, rfl, ?_⟩
  | refine Or.inl ⟨_, rfl, ?_⟩
  | refine ⟨_, _, rfl, Or.inl (by walk_at "sq"), ?_⟩
  | walk_at "ixl"
  | walk_at "setl"
  | refine ⟨_, _, rfl, (by walk_at "sq"), rfl, ?_⟩
  | refine ⟨_, _, rfl, (by walk_at "sq"), ?_⟩
  | refine ⟨_, _, rfl, ?_⟩
  | refine ⟨rfl, ?_⟩
  | refine ⟨small (Nat.le_of_ble_eq_true rfl), ?_⟩)
local macro_rules | `(tactic| walk_at "go") => `(tactic| repeat walk_at "go1")

abbrev sspaced : Stmt := topS 54
theorem scspaced : FnScope ["parts", "part"] ["parts"] (defScope sspaced) := ⟨rfl, rfl, rfl, by decide +kernel, rfl, by decide +kernel, by decide +kernel⟩
abbrev shouse_text : Stmt := topS 55
theorem schouse_text : FnScope ["bases", "rows", "lines", "row"] ["bases", "rows"] (defScope shouse_text) := ⟨rfl, rfl, rfl, by decide +kernel, rfl, by decide +kernel, by decide +kernel⟩
abbrev sgroups_in_unit : Stmt := topS 40
theorem scgroups_in_unit : FnScope ["bases", "field", "groups", "base"] ["bases", "field"] (defScope sgroups_in_unit) := ⟨rfl, rfl, rfl, by decide +kernel, rfl, by decide +kernel, by decide +kernel⟩
abbrev sgroups_to_repeat : Stmt := topS 41
theorem scgroups_to_repeat : FnScope ["bases", "rows", "cycle", "field", "every", "_"] ["bases", "rows"] (defScope sgroups_to_repeat) := ⟨rfl, rfl, rfl, by decide +kernel, rfl, by decide +kernel, by decide +kernel⟩
abbrev sfitted_groups : Stmt := topS 42
theorem scfitted_groups : FnScope ["bases", "row", "groups", "field", "every", "_", "step", "span", "fitted", "start"] ["bases", "row", "groups"] (defScope sfitted_groups) := ⟨rfl, rfl, rfl, by decide +kernel, rfl, by decide +kernel, by decide +kernel⟩
abbrev sskipped_counts : Stmt := topS 43
theorem scskipped_counts : FnScope ["bases", "rows", "groups", "counts", "row", "group"] ["bases", "rows", "groups"] (defScope sskipped_counts) := ⟨rfl, rfl, rfl, by decide +kernel, rfl, by decide +kernel, by decide +kernel⟩
abbrev sleast_repeat : Stmt := topS 44
theorem scleast_repeat : FnScope ["counts", "many", "step"] ["counts"] (defScope sleast_repeat) := ⟨rfl, rfl, rfl, by decide +kernel, rfl, by decide +kernel, by decide +kernel⟩
abbrev ssums_ahead : Stmt := topS 45
theorem scsums_ahead : FnScope ["numbers", "total", "sums", "number"] ["numbers"] (defScope ssums_ahead) := ⟨rfl, rfl, rfl, by decide +kernel, rfl, by decide +kernel, by decide +kernel⟩
def numS (n : Int) : Str := toString n
def spacedS (ns : List Int) : Str := Txt.join " " (ns.map numS)
theorem numS_len {n : Int} (h0 : 0 ≤ n) (h1 : n ≤ 60) : (numS n).length ≤ 62 := by
  have := len_str_of_int n
  unfold numS
  omega
theorem join_le (a : Str) (ys : List Str) (m : Nat) (h : ∀ y ∈ ys, y.length ≤ m) : (ys.map (·.length)).sum + ys.length * a.length ≤ ys.length * (m + a.length) := by
  induction ys with
  | nil => simp
  | cons y ys ih =>
    have h1 := h y List.mem_cons_self
    have h2 := ih fun z hz => h z (List.mem_cons_of_mem _ hz)
    simp only [List.map_cons, List.sum_cons, List.length_cons, Nat.succ_mul]
    omega
theorem join_len (a : Str) (ys : List Str) (m : Nat) (h : ∀ y ∈ ys, y.length ≤ m) : (Txt.join a ys).length ≤ ys.length * (m + a.length) := by
  have h1 : (Txt.join a ys).length = (Str.join a ys).length := by
    show (Builtin.Str.glued a ys).length = _
    rw [StrLaws.glued_eq_join]
  rw [h1]
  exact Nat.le_trans (StrLaws.join_length_le a ys) (join_le a ys m h)
theorem spaced_len {ns : List Int} (h3 : ns.length ≤ 3) (h : ∀ x ∈ ns, 0 ≤ x ∧ x ≤ 60) : (spacedS ns).length ≤ 200 := by
  have := join_len " " (ns.map numS) 62 (fun y hy => by
    obtain ⟨x, hx, rfl⟩ := List.mem_map.mp hy
    exact numS_len (h x hx).1 (h x hx).2)
  rw [List.length_map] at this
  have e : ((" " : Str)).length = 1 := by decide
  rw [e] at this
  unfold spacedS
  omega
def spSpaced (K : PySem.W.Frag) : Sp := fun vs H Q _ => ∃ (a : Addr) (ns : List Int), vs = [.ref a] ∧ SqT K H a (ns.map V.int) ∧ ns.length ≤ 3 ∧ (∀ x ∈ ns, 0 ≤ x ∧ x ≤ 60) ∧ ∀ H', Same H H' → Q (.str (spacedS ns)) H'
section
variable {P : Program} {w : World} {K : PySem.W.Frag} {mg : Str → Option Value} {base : Heap}
theorem ok_spaced {f : Addr} {fd : FuncData} (F : Fun K "spaced" "spaced" sspaced f fd) (N : Names mg) : FnOk P w K mg base CX0 1 f fd ["parts"] (spSpaced K) := by
  have sc := scspaced
  refine F.ok sc (fun vs H Q E h => ?_) (fun cdv A outer s H vs Q E hr h => ?_)
  · obtain ⟨a, ns, rfl, _⟩ := h
    rfl
  · obtain ⟨a, ns, rfl, ha, h3, hb, k⟩ := h
    refine ⟨_, (pss_one (ps_ret (pe_join pe_str (pe_lc (own := [("part", 1)]) rfl sc.nd (pi_tup (pv 0)) (blkOk_by (own := [("part", 1)]) (N := ["parts", "part"]) (sc := defScope (topS 54)) (by decide +kernel)) (fun _ _ _ _ _ => (pg_name (i := 1) sc.nd rfl (Or.inl rfl))) (fun _ _ _ _ _ => pts_nil) (fun _ _ _ _ _ => (pe_callTy (T := "str") call_str_int (by rfl) N.str (by decide +kernel) (pa_cons (pv 1) pa_nil))))))), ?_⟩
    refine ⟨⟨_, rfl⟩, _, rfl, a, rfl, ⟨_, ha⟩, ?_⟩
    intro D nD
    refine lc_tup (K := K) (xs := ns.map V.int) (fun i H' => Same H H' ∧ H' D = some (.lst (((ns.take i).map numS).map V.str))) ⟨same_new nD, upd_same⟩ (fun i H' _ ⟨s, _⟩ => Same.seqT s ha) ?_ ?_
    · rintro i x H' hx ⟨sm, eD⟩
      obtain ⟨n, hn, rfl⟩ : ∃ b, ns[i]? = some b ∧ x = V.int b := by
        rw [List.getElem?_map] at hx
        obtain ⟨z, hz, e⟩ := Option.map_eq_some_iff.mp hx
        exact ⟨z, hz, e.symm⟩
      obtain ⟨b0, b1⟩ := hb n (List.mem_of_getElem? hn)
      have hl : n.natAbs.log2 < 1920 := by
        rcases Nat.eq_zero_or_pos n.natAbs with z | z
        · rw [z]; decide
        · exact Nat.lt_trans ((Nat.log2_lt (by omega)).mpr (show n.natAbs < 2 ^ 6 by omega)) (by decide)
      refine ⟨rfl, ?_⟩
      refine ⟨_, rfl, n, rfl, hl, _, eD, smallLt (by rw [List.length_map, List.length_map, List.length_take]; omega), same_mut sm nD, ?_⟩
      rw [upd_same, List.take_add_one, hn, List.map_append, List.map_append]
      rfl
    · rintro H' ⟨sm, eD⟩
      rw [List.take_of_length_le (by rw [List.length_map]; exact Nat.le_refl _)] at eD
      refine ⟨_, D, _, rfl, rfl, .inl (SqL.lst eD), ?_, k H' sm⟩
      refine Nat.le_trans (join_le _ _ 62 fun y hy => ?_) ?_
      · obtain ⟨x, hx, rfl⟩ := List.mem_map.mp hy
        exact numS_len (hb x hx).1 (hb x hx).2
      · rw [List.length_map]
        have e : ((" " : Str)).length = 1 := by decide
        rw [e]
        omega
def rowS (x : R3) : Str := Str.empty ++ "skip " ++ spacedS [x.1, x.2.1, x.2.2]
def houseS (bs : List Int) (rows : List R3) : Str := Txt.join "\n" ((Str.empty ++ "house " ++ spacedS bs) :: rows.map rowS)
def spHouseText (K : PySem.W.Frag) : Sp := fun vs H Q _ => ∃ (a r : Addr) (bs : List Int) (rows : List R3), vs = [.ref a, .ref r] ∧ SqT K H a (bs.map V.int) ∧ bs.length ≤ 3 ∧ (∀ x ∈ bs, 0 ≤ x ∧ x ≤ 60) ∧ RowsAt K H r rows ∧ rows.length ≤ 6 ∧ (∀ x ∈ rows, RowOk 60 bs x) ∧
  (∀ x ∈ rows, x.2.2 ≤ 60) ∧ ∀ H', Same H H' → Q (.str (houseS bs rows)) H'
theorem ok_housetext {f : Addr} {fd : FuncData} (F : Fun K "house_text" "house_text" shouse_text f fd) (Dspaced : DefK P w K mg base "spaced" ["parts"] 1 (spSpaced K)) : FnOk P w K mg base CX0 2 f fd ["bases", "rows"] (spHouseText K) := by
  have sc := schouse_text
  refine F.ok sc (fun vs H Q E h => ?_) (fun cdv A outer s H vs Q E hr h => ?_)
  · obtain ⟨a, r, bs, rows, rfl, _⟩ := h
    rfl
  · obtain ⟨a, r, bs, rows, rfl, ha, h3, hb, hR, r6, ro, rc, k⟩ := h
    refine ⟨_, (pss_cons (ps_set (i := 2) sc.nd rfl (Or.inl rfl) (pe_lst (pa_cons (pe_joined (.cons pe_str (.cons (pe_fmt (pe_d Dspaced (hr.mono (by decide)) rfl (pa_cons (pv 0) pa_nil))) .nil))) pa_nil)))
      (pss_cons (ps_for PassesOwn.never rfl (pi_tup (pv 1)) (pg_name (i := 3) sc.nd rfl (Or.inl rfl)) (pss_one (ps_expr (pe_bm PySem.F.plainAttrs_list PySem.F.slot_list_append PySem.F.type_list_append mt_append (pv 2) (pa_cons (pe_joined (.cons pe_str (.cons (pe_fmt (pe_d Dspaced (hr.mono (by decide)) rfl (pa_cons (pv 3) pa_nil))) .nil))) pa_nil)))))
      (pss_one (ps_ret (pe_join pe_str (pv 2)))))), ?_⟩
    have hls := spaced_len h3 hb
    have l0 : (Str.empty ++ ("house " : Str)).length = 6 := by decide
    have l1 : (Str.empty ++ ("skip " : Str)).length = 5 := by decide
    refine ⟨_, rfl, small (by rw [l0]; omega), _, rfl, a, bs, rfl, ha, h3, hb, fun H1 s1 => ?_⟩
    refine .inl ⟨_, rfl, small (by omega), _, rfl, small (by rw [Str.length_append, l0]; omega), ?_⟩
    refine ⟨Nat.le_of_ble_eq_true rfl, ?_⟩
    (intro l nl; generalize e_l : upd H1 l _ = H2; have s2 : Same H1 H2 := fun b x hb => (congrFun e_l b).symm.trans (same_new nl b x hb); have h2 := (congrFun e_l l).symm.trans upd_same; clear e_l)
    have s02 := s1.trans s2
    have nl0 : H l = none := s1.free nl
    obtain ⟨as, hrt, pr⟩ := id hR
    have hpl := pr.length
    refine ⟨_, rfl, r, rfl, ⟨_, Same.seqT s02 hrt⟩, for_tup (K := K) (xs := as.map V.ref) (fun i σ H' => ∃ v3 : Option V, σ = [some (.ref a), some (.ref r), some (.ref l), v3] ∧ Same H H' ∧ H' l = some (.lst (((Str.empty ++ "house " ++ spacedS bs) :: (rows.take i).map rowS).map V.str)))
      ⟨_, rfl, s02, h2⟩ (fun i σ H' _ ⟨_, _, s, _⟩ => Same.seqT s hrt) ?_ ?_⟩
    · rintro i x σ H' hx ⟨v3, rfl, sm, el⟩
      obtain ⟨ra, hra, rfl⟩ : ∃ b, as[i]? = some b ∧ x = V.ref b := by
        rw [List.getElem?_map] at hx
        obtain ⟨z, hz, e⟩ := Option.map_eq_some_iff.mp hx
        exact ⟨z, hz, e.symm⟩
      obtain ⟨y, hy, hya⟩ := paired_at pr hra
      have hym := List.mem_of_getElem? hy
      obtain ⟨o1, o2, o3, o4, o5, o6⟩ := ro y hym
      have o7 := rc y hym
      have hb3 : ∀ x ∈ [y.1, y.2.1, y.2.2], 0 ≤ x ∧ x ≤ 60 := fun x hx => by
        simp at hx
        rcases hx with rfl | rfl | rfl <;> omega
      have hl3 := spaced_len (ns := [y.1, y.2.1, y.2.2]) (Nat.le_refl 3) hb3
      refine ⟨_, rfl, .inl ⟨rfl, _, SqL.lst el⟩, _, rfl, small (by rw [l1]; omega), _, rfl, ra, [y.1, y.2.1, y.2.2], rfl, Same.seqT sm hya, Nat.le_refl 3, hb3, fun H5 s5 => ?_⟩
      refine .inl ⟨_, rfl, small (by omega), _, rfl, small (by rw [Str.length_append, l1]; omega), ?_⟩
      refine ⟨l, _, _, rfl, rfl, s5 _ _ el, smallLt (by simp only [List.length_map, List.length_cons, List.length_take]; omega), ?_⟩
      refine ⟨_, rfl, same_mut (sm.trans s5) nl0, ?_⟩
      rw [upd_same, List.take_add_one, hy]
      simp only [List.map_cons, List.map_append, List.cons_append]
      rfl
    · rintro σ H' ⟨v3, rfl, sm, el⟩
      rw [List.take_of_length_le (by rw [List.length_map, hpl]; exact Nat.le_refl _)] at el
      refine ⟨⟨_, rfl⟩, _, rfl, _, l, _, rfl, rfl, .inl (SqL.lst el), ?_, k H' sm⟩
      refine Nat.le_trans (join_le _ _ 300 fun y hy => ?_) ?_
      · rcases List.mem_cons.mp hy with rfl | hy
        · rw [Str.length_append, l0]
          omega
        · obtain ⟨x, hx, rfl⟩ := List.mem_map.mp hy
          obtain ⟨o1, o2, o3, o4, o5, o6⟩ := ro x hx
          have o7 := rc x hx
          have hb3 : ∀ z ∈ [x.1, x.2.1, x.2.2], 0 ≤ z ∧ z ≤ 60 := fun z hz => by
            simp at hz
            rcases hz with rfl | rfl | rfl <;> omega
          have hl3 := spaced_len (ns := [x.1, x.2.1, x.2.2]) (Nat.le_refl 3) hb3
          unfold rowS
          rw [Str.length_append, l1]
          omega
      · have e : (("\n" : Str)).length = 1 := by decide
        rw [List.length_cons, List.length_map, e]
        omega
def unitP (bs : List Int) (f : Nat) : Nat := (bs.dropLast.drop f).foldl (fun a b => a * b.toNat) 1
def spUnit (K : PySem.W.Frag) : Sp := fun vs H Q _ => ∃ (a : Addr) (bs : List Int) (f : Nat), vs = [.ref a, .int (f : Int)] ∧ SqT K H a (bs.map V.int) ∧ f < bs.length ∧ bs.length ≤ 3 ∧ (∀ x ∈ bs, 2 ≤ x ∧ x ≤ 60) ∧ ∀ H', Same H H' → Q (.int ((unitP bs f : Nat) : Int)) H'
theorem ok_unit {f : Addr} {fd : FuncData} (F : Fun K "groups_in_unit" "groups_in_unit" sgroups_in_unit f fd) : FnOk P w K mg base CX0 1 f fd ["bases", "field"] (spUnit K) := by
  have sc := scgroups_in_unit
  refine F.ok sc (fun vs H Q E h => ?_) (fun cdv A outer s H vs Q E hr h => ?_)
  · obtain ⟨a, bs, f, rfl, _⟩ := h
    rfl
  · obtain ⟨a, bs, f, rfl, ha, hf, h3, hb, k⟩ := h
    refine ⟨_, (pss_cons (ps_set (i := 2) sc.nd rfl (Or.inl rfl) pe_int)
      (pss_cons (ps_for PassesOwn.never rfl (pi_tup (pe_slice sl_tup (pv 0) (po_some (pv 1)) (po_some (pe_un un_neg pe_int)))) (pg_name (i := 3) sc.nd rfl (Or.inl rfl)) (pss_one (ps_aug (i := 2) sc.nd rfl (Or.inl rfl) (pv 3) ip_mul)))
      (pss_one (ps_ret (pv 2))))), ?_⟩
    walk_at "go"
    have el : (bs.map V.int).length = bs.length := List.length_map ..
    refine ⟨fun z => ?_, ?_⟩
    · have := z.2
      rw [sIx_last, el] at this
      omega
    (intro d nd; generalize e_d : upd H d _ = H1; have s1 : Same H H1 := fun b x hb => (congrFun e_d b).symm.trans (same_new nd b x hb); have h1 := (congrFun e_d d).symm.trans upd_same; clear e_d)
    have h1' : H1 d = some (.tup ((bs.dropLast.drop f).map V.int)) := by
      rw [h1, cut_fb _ _ (by rw [el]; omega), List.map_drop, List.map_dropLast]
    refine ⟨d, rfl, ⟨_, SqT.tup h1'⟩, for_tup (K := K) (xs := (bs.dropLast.drop f).map V.int) (fun i σ H' => ∃ v3 : Option V, σ = [some (.ref a), some (.int ((f : Nat) : Int)), some (.int ((((bs.dropLast.drop f).take i).foldl (fun a b => a * b.toNat) 1 : Nat) : Int)), v3] ∧ H1 = H')
      ⟨_, rfl, rfl⟩ (fun i σ H' _ ⟨_, _, e⟩ => by rw [← e]; exact SqT.tup h1') ?_ ?_⟩
    · rintro i x σ H' hx ⟨v3, rfl, rfl⟩
      obtain ⟨b, hb', rfl⟩ : ∃ b, (bs.dropLast.drop f)[i]? = some b ∧ x = V.int b := by
        rw [List.getElem?_map] at hx
        obtain ⟨z, hz, e⟩ := Option.map_eq_some_iff.mp hx
        exact ⟨z, hz, e.symm⟩
      have hbb := hb b ((List.dropLast_sublist bs).subset (List.mem_of_mem_drop (List.mem_of_getElem? hb')))
      have st := take_fold (fun (a : Nat) (b : Int) => a * b.toNat) 1 _ i b hb'
      have e6 : (((((bs.dropLast.drop f).take i).foldl (fun a b => a * b.toNat) 1 : Nat) : Int)) * b = ((((bs.dropLast.drop f).take (i + 1)).foldl (fun a b => a * b.toNat) 1 : Nat) : Int) := by
        rw [st, Int.natCast_mul, Int.toNat_of_nonneg (by omega)]
      refine ⟨_, rfl, _, rfl, _, _, rfl, rfl, .inr ⟨by omega, by omega⟩, ?_⟩
      exact ⟨_, (by rw [← e6]; rfl), rfl⟩
    · rintro σ H' ⟨v3, rfl, rfl⟩
      rw [List.take_of_length_le (by rw [List.length_map]; exact Nat.le_refl _)]
      exact ⟨_, rfl, k _ s1⟩
def spRepeat (K : PySem.W.Frag) : Sp := fun vs H Q _ => ∃ (a r : Addr) (bs : List Int) (rows : List R3), vs = [.ref a, .ref r] ∧ SqT K H a (bs.map V.int) ∧ 1 ≤ bs.length ∧ bs.length ≤ 3 ∧ (∀ x ∈ bs, 2 ≤ x ∧ x ≤ 60) ∧ RowsAt K H r rows ∧ (∀ x ∈ rows, RowOk 60 bs x) ∧ everyL rows ≤ 100000000 ∧
  ∀ H', Same H H' → Q (.int ((unitP bs 0 * everyL rows : Nat) : Int)) H'
theorem ok_repeat {f : Addr} {fd : FuncData} (F : Fun K "groups_to_repeat" "groups_to_repeat" sgroups_to_repeat f fd) (N : Names mg) (Dgroups_in_unit : DefK P w K mg base "groups_in_unit" ["bases", "field"] 1 (spUnit K)) : FnOk P w K mg base CX0 2 f fd ["bases", "rows"] (spRepeat K) := by
  have sc := scgroups_to_repeat
  refine F.ok sc (fun vs H Q E h => ?_) (fun cdv A outer s H vs Q E hr h => ?_)
  · obtain ⟨a, r, bs, rows, rfl, _⟩ := h
    rfl
  · obtain ⟨a, r, bs, rows, rfl, ha, b0, b3, hb, hR, ro, hE, k⟩ := h
    refine ⟨_, (pss_cons (ps_set (i := 2) sc.nd rfl (Or.inl rfl) pe_int)
      (pss_cons (ps_for PassesOwn.never rfl (pi_tup (pv 1)) (pg_tup rfl (pgs_cons (pg_name (i := 3) sc.nd rfl (Or.inl rfl)) (pgs_cons (pg_name (i := 4) sc.nd rfl (Or.inl rfl)) (pgs_cons (pg_name (i := 5) sc.nd rfl (Or.inl rfl)) pgs_nil)))) (pss_one (ps_if (pt_cmpR op_eq (pv 3) pe_int (nomark _)) (pss_one (ps_set (i := 2) sc.nd rfl (Or.inl rfl) (pe_callBfun cr_lcm (by rfl) N.lcm (pa_cons (pv 2) (pa_cons (pv 4) pa_nil))))) pss_nil)))
      (pss_one (ps_ret (pe_op op_mul (pe_d Dgroups_in_unit (hr.mono (by decide)) rfl (pa_cons (pv 0) (pa_cons pe_int pa_nil))) (pv 2)))))), ?_⟩
    obtain ⟨as, hrt, pr⟩ := id hR
    have hpl := pr.length
    have hr1 : ∀ r ∈ rows, 1 ≤ r.2.1 := fun r hm => (ro r hm).2.2.1
    refine ⟨_, rfl, r, rfl, ⟨_, hrt⟩, for_tup (K := K) (xs := as.map V.ref) (fun i σ H' => ∃ v3 v4 v5 : Option V, σ = [some (.ref a), some (.ref r), some (.int (((rows.take i).foldl everyStep 1 : Nat) : Int)), v3, v4, v5] ∧ H = H')
      ⟨_, _, _, rfl, rfl⟩ (fun i σ H' _ ⟨_, _, _, _, e⟩ => by rw [← e]; exact hrt) ?_ ?_⟩
    · rintro i x σ H' hx ⟨v3, v4, v5, rfl, rfl⟩
      obtain ⟨ra, hra, rfl⟩ : ∃ b, as[i]? = some b ∧ x = V.ref b := by
        rw [List.getElem?_map] at hx
        obtain ⟨z, hz, e⟩ := Option.map_eq_some_iff.mp hx
        exact ⟨z, hz, e.symm⟩
      obtain ⟨y, hy, hya⟩ := paired_at pr hra
      obtain ⟨o1, o2, o3, o4, o5, o6⟩ := ro y (List.mem_of_getElem? hy)
      have st := take_fold everyStep 1 rows i y hy
      have hei1 : 1 ≤ (rows.take i).foldl everyStep 1 := every_mono _ 1 (by decide) fun r hm => hr1 r (List.mem_of_mem_take hm)
      have hei2 : (rows.take i).foldl everyStep 1 ≤ 100000000 := by
        refine Nat.le_trans ?_ hE
        have e : everyL rows = (rows.drop i).foldl everyStep ((rows.take i).foldl everyStep 1) := by
          unfold everyL
          rw [← List.foldl_append, List.take_append_drop]
        rw [e]
        exact every_mono _ _ (by omega) fun r hm => hr1 r (List.mem_of_mem_drop hm)
      refine ⟨ra, _, rfl, hya, rfl, _, _, rfl, _, _, rfl, _, _, rfl, rfl, ?_⟩
      refine ⟨_, rfl, rfl, _, rfl, ?_⟩
      refine ifD (fun hd => ?_) (fun hd => ?_)
      · have hz : y.1 = 0 := V.int.inj hd
        have e6 : everyStep ((rows.take i).foldl everyStep 1) y = Nat.lcm ((rows.take i).foldl everyStep 1) y.2.1.toNat := by
          unfold everyStep
          rw [if_pos hz]
        have e7 : y.2.1.natAbs = y.2.1.toNat := by omega
        refine ⟨_, rfl, _, rfl, _, _, rfl, by omega, by omega, ?_⟩
        exact ⟨_, _, _, (by rw [st, e6, Int.natAbs_natCast, e7]; rfl), rfl⟩
      · have hz : y.1 ≠ 0 := fun z => hd (congrArg V.int z)
        have e6 : everyStep ((rows.take i).foldl everyStep 1) y = (rows.take i).foldl everyStep 1 := by
          unfold everyStep
          rw [if_neg hz]
        exact ⟨_, _, _, (by rw [st, e6]; rfl), rfl⟩
    · rintro σ H' ⟨v3, v4, v5, rfl, rfl⟩
      rw [List.take_of_length_le (by rw [List.length_map, hpl]; exact Nat.le_refl _)]
      refine ⟨_, rfl, a, bs, 0, rfl, ha, by omega, b3, hb, fun H1 s1 => ?_⟩
      refine ⟨_, rfl, _, _, rfl, rfl, .inr ⟨?_, ?_⟩, ?_⟩
      · omega
      · show ((everyL rows : Nat) : Int) < 2 ^ 64
        omega
      · have := k H1 s1
        rw [Int.natCast_mul] at this
        exact this
end
end LM

set_option Elab.async false
set_option linter.all false
set_option maxRecDepth 100000
set_option maxHeartbeats 4000000
set_option pp.maxSteps 600
set_option pp.deepTerms false
namespace LM
open PySem PySem.Spec PyProof.Rows L2
local macro_rules | `(tactic| walk_at "hp") => `(tactic| first | assumption | exact upd_same | (rw [upd_ne (by assumption)]; assumption) | (rw [upd_ne (Ne.symm (by assumption))]; assumption) | (rw [upd_ne (by assumption)]; exact upd_same) | (rw [upd_ne (Ne.symm (by assumption))]; exact upd_same))
local macro_rules | `(tactic| walk_at "sq") => `(tactic| first | assumption | exact Or.inl (Or.inl (by assumption)) | exact Or.inl (Or.inl upd_same) | exact Or.inl (Or.inl (by walk_at "hp")))
local macro_rules | `(tactic| walk_at "ixl") => `(tactic| refine ⟨_, _, _, _, rfl, rfl, (by walk_at "sq"), (by rfl), ?_⟩)
local macro_rules | `(tactic| walk_at "setl") => `(tactic| refine ⟨_, _, _, _, rfl, rfl, (by walk_at "hp"), (by rfl), ?_⟩)
local macro_rules | `(tactic| walk_at "side") => `(tactic| refine idP ?_; first | omega | (show (0 : Int) < _; omega) | (show (0 : Int) < _ ∧ _ < _; omega) | (refine Or.inr ?_; show (-(2 ^ 64) : Int) < _ ∧ _ < _; omega) | (refine Or.inl ?_; show (-(2 ^ 64) : Int) < _ ∧ _ < _; omega) | exact divW (by omega) (by omega) _ | (refine ⟨by decide, by decide, ?_⟩; decide))
local macro_rules | `(tactic| walk_at "go1") => `(tactic| first
  | refine ⟨_, rfl, ?_⟩
  | refine ⟨_, _, rfl, rfl, (by walk_at "side"), ?_⟩
  | refine ⟨_, _, rfl, (by walk_at "side"), ?_⟩
  | refine ⟨_, _, rfl, rfl, ?_⟩
  | refine Or.inl ⟨_, rfl, ?_⟩
  | refine ⟨_, _, rfl, Or.inl (by walk_at "sq"), ?_⟩
  | walk_at "ixl"
  | walk_at "setl"
  | refine ⟨_, _, rfl, (by walk_at "sq"), rfl, ?_⟩
  | refine ⟨_, _, rfl, (by walk_at "sq"), ?_⟩
  | refine ⟨_, _, rfl, ?_⟩
  | refine ⟨rfl, ?_⟩
  | refine ⟨small (Nat.le_of_ble_eq_true rfl), ?_⟩)
local macro_rules | `(tactic| walk_at "go") => `(tactic| repeat walk_at "go1")

/-- the groups from start on by step below start + span -/
def segN (span step start : Nat) : List Nat := (List.range (rgN (start : Int) ((start : Int) + (span : Int)) (step : Int))).map fun j => start + j * step
def fitsP (span step n : Nat) : List Nat := ((List.range (rgN 0 (n : Int) (span : Int))).map fun k => segN span step (k * span)).flatten
def stepP (bs : List Int) (r : R3) : Nat := unitP bs r.1.toNat * r.2.1.toNat
def spanP (bs : List Int) (r : R3) (n : Nat) : Nat := if r.1 = 0 then n else unitP bs (r.1.toNat - 1)
def castL (ns : List Nat) : List Int := ns.map fun k => ((k : Nat) : Int)
theorem castL_app (a b : List Nat) : castL (a ++ b) = castL a ++ castL b := List.map_append ..
def spFitted (K : PySem.W.Frag) : Sp := fun vs H Q _ => ∃ (a r : Addr) (bs : List Int) (x : R3) (n : Nat), vs = [.ref a, .ref r, .int (n : Int)] ∧ SqT K H a (bs.map V.int) ∧ 1 ≤ bs.length ∧ bs.length ≤ 3 ∧ (∀ x ∈ bs, 2 ≤ x ∧ x ≤ 60) ∧ SqT K H r [.int x.1, .int x.2.1, .int x.2.2] ∧ RowOk 60 bs x ∧
  1 ≤ n ∧ n ≤ 7200 ∧ spanP bs x n ∣ n ∧ ∀ (l : Addr) H', Same H H' → H l = none → H' l = some (.lst ((castL (fitsP (spanP bs x n) (stepP bs x) n)).map V.int)) → Q (.ref l) H'
theorem rgN_nat (a b c : Nat) : rgN (a : Int) (b : Int) (c : Int) = if a < b then (b - a - 1) / c + 1 else 0 := by
  unfold rgN
  by_cases h : a < b
  · rw [if_pos h, if_pos (by omega), show ((b : Int) - (a : Int) - 1) = ((b - a - 1 : Nat) : Int) by omega, ← Int.natCast_ediv]
    generalize (b - a - 1) / c = z
    omega
  · rw [if_neg h, if_neg (by omega)]
theorem segN_len (span step start : Nat) (hs : 1 ≤ step) : (segN span step start).length ≤ span := by
  unfold segN
  rw [List.length_map, List.length_range, show ((start : Int) + (span : Int)) = ((start + span : Nat) : Int) by omega, rgN_nat]
  split
  · have := Nat.div_le_self (start + span - start - 1) step
    omega
  · omega
theorem flat_len (f : Nat → List Nat) (m : Nat) (h : ∀ k, (f k).length ≤ m) : ∀ i, (((List.range i).map f).flatten).length ≤ i * m
  | 0 => by simp
  | i + 1 => by
    have h1 := flat_len f m h i
    have h2 := h i
    rw [List.range_succ, List.map_append, List.flatten_append, List.length_append, Nat.add_mul, Nat.one_mul]
    simp only [List.map_cons, List.map_nil, List.flatten_cons, List.flatten_nil, List.append_nil]
    omega
theorem rg_count {n span : Nat} (h1 : 1 ≤ n) (hd : span ∣ n) : rgN 0 (n : Int) (span : Int) * span = n := by
  have e : rgN 0 (n : Int) (span : Int) = rgN ((0 : Nat) : Int) (n : Int) (span : Int) := rfl
  rw [e, rgN_nat, if_pos (by omega)]
  obtain ⟨q, rfl⟩ := hd
  have hs : 0 < span := Nat.pos_of_mul_pos_right (by omega : 0 < span * q)
  have hq : 0 < q := Nat.pos_of_mul_pos_left (by omega : 0 < span * q)
  have e2 : (span * q - 0 - 1) / span = q - 1 := by
    refine Nat.div_eq_of_lt_le ?_ ?_
    · rw [Nat.mul_comm, Nat.mul_sub_one]
      omega
    · rw [Nat.sub_add_cancel hq, Nat.mul_comm q span]
      omega
  rw [e2, Nat.sub_add_cancel hq, Nat.mul_comm]
theorem foldl_mul_le : ∀ (bs : List Int) (a : Nat), (∀ x ∈ bs, 2 ≤ x ∧ x ≤ 60) → bs.foldl (fun a b => a * b.toNat) a ≤ a * 60 ^ bs.length
  | [], a, _ => by simp
  | b :: bs, a, h => by
    have hb := h b List.mem_cons_self
    refine Nat.le_trans (foldl_mul_le bs _ fun x hx => h x (List.mem_cons_of_mem _ hx)) ?_
    rw [List.length_cons, Nat.pow_succ, Nat.mul_comm (60 ^ bs.length) 60, ← Nat.mul_assoc]
    exact Nat.mul_le_mul_right _ (Nat.mul_le_mul_left _ (by omega))
theorem unitP_le {bs : List Int} (h3 : bs.length ≤ 3) (h : ∀ x ∈ bs, 2 ≤ x ∧ x ≤ 60) (f : Nat) : unitP bs f ≤ 3600 := by
  unfold unitP
  refine Nat.le_trans (foldl_mul_le _ 1 fun x hx => h x ((List.dropLast_sublist bs).subset (List.mem_of_mem_drop hx))) ?_
  have hl : (bs.dropLast.drop f).length ≤ 2 := by rw [List.length_drop, List.length_dropLast]; omega
  have : 60 ^ (bs.dropLast.drop f).length ≤ 60 ^ 2 := Nat.pow_le_pow_right (by decide) hl
  omega
theorem unitP_pos {bs : List Int} (h : ∀ x ∈ bs, 2 ≤ x ∧ x ≤ 60) (f : Nat) : 1 ≤ unitP bs f :=
  foldl_mul_pos _ 1 (by decide) fun x hx => (h x ((List.dropLast_sublist bs).subset (List.mem_of_mem_drop hx))).1
section
variable {P : Program} {w : World} {K : PySem.W.Frag} {mg : Str → Option Value} {base : Heap}
theorem ok_fitted {f : Addr} {fd : FuncData} (F : Fun K "fitted_groups" "fitted_groups" sfitted_groups f fd) (N : Names mg) (Dgroups_in_unit : DefK P w K mg base "groups_in_unit" ["bases", "field"] 1 (spUnit K)) : FnOk P w K mg base CX0 2 f fd ["bases", "row", "groups"] (spFitted K) := by
  have sc := scfitted_groups
  refine F.ok sc (fun vs H Q E h => ?_) (fun cdv A outer s H vs Q E hr h => ?_)
  · obtain ⟨a, r, bs, x, n, rfl, _⟩ := h
    rfl
  · obtain ⟨a, r, bs, x, n, rfl, ha, b0, b3, hb, hx, ⟨o1, o2, o3, o4, o5, o6⟩, n1, n2, hdv, k⟩ := h
    refine ⟨_, (pss_cons (ps_asg (pv 1) (pg_tup rfl (pgs_cons (pg_name (i := 3) sc.nd rfl (Or.inl rfl)) (pgs_cons (pg_name (i := 4) sc.nd rfl (Or.inl rfl)) (pgs_cons (pg_name (i := 5) sc.nd rfl (Or.inl rfl)) pgs_nil)))))
      (pss_cons (ps_set (i := 6) sc.nd rfl (Or.inl rfl) (pe_op op_mul (pe_d Dgroups_in_unit (hr.mono (by decide)) rfl (pa_cons (pv 0) (pa_cons (pv 3) pa_nil))) (pv 4)))
      (pss_cons (ps_set (i := 7) sc.nd rfl (Or.inl rfl) (pe_ifExp (pt_cmpR op_eq (pv 3) pe_int (nomark _)) (pv 2) (pe_d Dgroups_in_unit (hr.mono (by decide)) rfl (pa_cons (pv 0) (pa_cons (pe_op op_sub (pv 3) pe_int) pa_nil)))))
      (pss_cons (ps_set (i := 8) sc.nd rfl (Or.inl rfl) (pe_lst pa_nil))
      (pss_cons (ps_for PassesOwn.never rfl (pi_range3 rfl N.range (pa_cons pe_int (pa_cons (pv 2) (pa_cons (pv 7) pa_nil)))) (pg_name (i := 9) sc.nd rfl (Or.inl rfl)) (pss_one (ps_expr (pe_bm PySem.F.plainAttrs_list PySem.F.slot_list_extend PySem.F.type_list_extend mt_extend (pv 8) (pa_cons (pe_listRg3 rfl (by rfl) N.list (by rfl) N.range (pa_cons (pv 9) (pa_cons (pe_op op_add (pv 9) (pv 7)) (pa_cons (pv 6) pa_nil)))) pa_nil)))))
      (pss_one (ps_ret (pv 8)))))))), ?_⟩
    obtain ⟨fi, hfi⟩ := nat_of o1
    have ef : x.1.toNat = fi := by omega
    refine ⟨_, rfl, r, _, rfl, hx, rfl, _, _, rfl, _, _, rfl, _, _, rfl, rfl, ?_⟩
    refine ⟨_, rfl, _, rfl, a, bs, fi, (by rw [← hfi]; rfl), ha, by omega, b3, hb, fun H1 s1 => ?_⟩
    have hU1 := unitP_pos hb fi
    have hU2 := unitP_le b3 hb fi
    refine ⟨_, rfl, _, _, rfl, rfl, .inr ⟨by omega, by omega⟩, ?_⟩
    have hst : ((unitP bs fi : Nat) : Int) * x.2.1 = ((stepP bs x : Nat) : Int) := by
      unfold stepP
      rw [ef, Int.natCast_mul, Int.toNat_of_nonneg (by omega)]
    have hst1 : 1 ≤ stepP bs x := by
      unfold stepP
      rw [ef]
      exact Nat.mul_pos hU1 (by omega)
    have hst2 : stepP bs x ≤ 3600 * 60 := by
      unfold stepP
      rw [ef]
      exact Nat.mul_le_mul hU2 (by omega)
    -- span
    refine ⟨_, rfl, rfl, _, rfl, ?_⟩
    refine if_joinH (fun v H' => v = .int ((spanP bs x n : Nat) : Int) ∧ Same H H') (fun hd Q' k' => ?_) (fun hd Q' k' => ?_) ?_
    · have hz : x.1 = 0 := V.int.inj hd
      refine ⟨_, rfl, k' _ _ ⟨?_, s1⟩⟩
      unfold spanP
      rw [if_pos hz]
    · have hz : x.1 ≠ 0 := fun z => hd (congrArg V.int z)
      refine ⟨_, rfl, _, rfl, _, _, rfl, rfl, a, bs, fi - 1, (by show [V.ref a, V.int (x.1 - 1)] = _; rw [hfi, show ((fi : Int) - 1) = ((fi - 1 : Nat) : Int) by omega]), Same.seqT s1 ha, by omega, b3, hb, fun H2 s2 => k' _ _ ⟨?_, s1.trans s2⟩⟩
      unfold spanP
      rw [if_neg hz, ef]
    rintro v H2 ⟨rfl, s2⟩
    generalize hsp : spanP bs x n = span at *
    generalize hstp : stepP bs x = step at *
    have hspan1 : 1 ≤ span := by
      rcases Nat.eq_zero_or_pos span with z | z
      · rw [z] at hdv
        have := Nat.eq_zero_of_zero_dvd hdv
        omega
      · exact z
    have hspan2 : span ≤ n := Nat.le_of_dvd (by omega) hdv
    have hcnt := rg_count n1 hdv
    refine ⟨Nat.le_of_ble_eq_true rfl, ?_⟩
    (intro l nl; generalize e_l : upd H2 l _ = H3; have s3 : Same H2 H3 := fun b x hb => (congrFun e_l b).symm.trans (same_new nl b x hb); have h3 := (congrFun e_l l).symm.trans upd_same; clear e_l)
    have s03 := s2.trans s3
    have nl0 : H l = none := s2.free nl
    have hgcd : RgC 0 (n : Int) (span : Int) (rgN 0 (n : Int) (span : Int)) := RgC.pos (by omega) (by omega) (by omega) (by omega) (by omega)
    refine ⟨_, rfl, _, rfl, 0, (n : Int), (span : Int), _, rfl, hgcd, for_rangeC (n := rgN 0 (n : Int) (span : Int)) (fun i σ H' => ∃ v9 : Option V, σ = [some (.ref a), some (.ref r), some (.int ((n : Nat) : Int)), some (.int x.1), some (.int x.2.1), some (.int x.2.2), some (.int ((step : Nat) : Int)), some (.int ((span : Nat) : Int)), some (.ref l), v9] ∧ Same H H' ∧
        H' l = some (.lst ((castL (((List.range i).map fun k => segN span step (k * span)).flatten)).map V.int)))
      ⟨_, (by rw [← hst]; rfl), s03, h3⟩ ?_ ?_⟩
    · rintro i σ H' hi ⟨v9, rfl, sm, el⟩
      have hip : i * span + span ≤ n := by
        have : (i + 1) * span ≤ rgN 0 (n : Int) (span : Int) * span := Nat.mul_le_mul_right _ hi
        rw [hcnt, Nat.add_mul, Nat.one_mul] at this
        exact this
      have hstart : (0 : Int) + ((i : Nat) : Int) * ((span : Nat) : Int) = ((i * span : Nat) : Int) := by rw [Int.zero_add, Int.natCast_mul]
      rw [hstart]
      have hrg : RgC ((i * span : Nat) : Int) (((i * span : Nat) : Int) + (span : Int)) (step : Int) (rgN ((i * span : Nat) : Int) (((i * span : Nat) : Int) + (span : Int)) (step : Int)) := RgC.pos (by omega) (by omega) (by omega) (by omega) (by omega)
      have hsl := segN_len span step (i * span) hst1
      have hsl2 : rgN ((i * span : Nat) : Int) (((i * span : Nat) : Int) + (span : Int)) (step : Int) = (segN span step (i * span)).length := by
        unfold segN
        rw [List.length_map, List.length_range]
      refine ⟨_, rfl, .inl ⟨rfl, _, SqL.lst el⟩, _, rfl, _, rfl, _, rfl, _, _, rfl, rfl, _, rfl, _, _, _, _, rfl, hrg, by omega, ?_⟩
      (intro q nq; generalize e_q : upd H' q _ = H5; have s5 : Same H' H5 := fun b x hb => (congrFun e_q b).symm.trans (same_new nq b x hb); have h5 := (congrFun e_q q).symm.trans upd_same; clear e_q)
      have hfl := flat_len (fun k => segN span step (k * span)) span (fun k => segN_len span step _ hst1) i
      refine ⟨l, q, _, _, rfl, rfl, s5 _ _ el, h5, small ?_, ?_⟩
      · unfold castL rg3V
        rw [List.length_map, List.length_map, List.length_map, List.length_range, hsl2]
        omega
      refine ⟨_, rfl, same_mut (sm.trans s5) nl0, ?_⟩
      rw [upd_same, List.range_succ, List.map_append, List.flatten_append, castL_app, List.map_append]
      have e : (rg3V ((i * span : Nat) : Int) ((step : Nat) : Int) (rgN ((i * span : Nat) : Int) (((i * span : Nat) : Int) + (span : Int)) (step : Int))) = (castL (segN span step (i * span))).map V.int := by
        unfold rg3V castL segN
        rw [List.map_map, List.map_map]
        refine List.map_congr_left fun j _ => ?_
        show V.int (((i * span : Nat) : Int) + ((j : Nat) : Int) * ((step : Nat) : Int)) = V.int (((i * span + j * step : Nat)) : Int)
        rw [Int.natCast_add, Int.natCast_mul j step]
      rw [e]
      simp
    · rintro σ H' ⟨v9, rfl, sm, el⟩
      exact ⟨_, rfl, k l H' sm nl0 el⟩
end
end LM

set_option Elab.async false
set_option linter.all false
set_option maxRecDepth 100000
set_option maxHeartbeats 4000000
set_option pp.maxSteps 600
set_option pp.deepTerms false
namespace LM
open PySem PySem.Spec PyProof.Rows L2
local macro_rules | `(tactic| walk_at "hp") => `(tactic| first | assumption | exact upd_same | (rw [upd_ne (by assumption)]; assumption) | (rw [upd_ne (Ne.symm (by assumption))]; assumption) | (rw [upd_ne (by assumption)]; exact upd_same) | (rw [upd_ne (Ne.symm (by assumption))]; exact upd_same))
local macro_rules | `(tactic| walk_at "sq") => `(tactic| first | assumption | exact Or.inl (Or.inl (by assumption)) | exact Or.inl (Or.inl upd_same) | exact Or.inl (Or.inl (by walk_at "hp")))
local macro_rules | `(tactic| walk_at "ixl") => `(tactic| refine ⟨_, _, _, _, rfl, rfl, (by walk_at "sq"), (by rfl), ?_⟩)
local macro_rules | `(tactic| walk_at "setl") => `(tactic| refine ⟨_, _, _, _, rfl, rfl, (by walk_at "hp"), (by rfl), ?_⟩)
local macro_rules | `(tactic| walk_at "side") => `(tactic| refine idP ?_; first | omega | (show (0 : Int) < _; omega) | (show (0 : Int) < _ ∧ _ < _; omega) | (refine Or.inr ?_; show (-(2 ^ 64) : Int) < _ ∧ _ < _; omega) | (refine Or.inl ?_; show (-(2 ^ 64) : Int) < _ ∧ _ < _; omega) | exact divW (by omega) (by omega) _ | (refine ⟨by decide, by decide, ?_⟩; decide))
local macro_rules | `(tactic| walk_at "go1") => `(tactic| first
  | refine ⟨_, rfl, ?_⟩
  | refine ⟨_, _, rfl, rfl, (by walk_at "side"), ?_⟩
  | refine ⟨_, _, rfl, (by walk_at "side"), ?_⟩
  | refine ⟨_, _, rfl, rfl, ?_⟩
  | refine Or.inl ⟨_, rfl, ?_⟩
  | refine ⟨_, _, rfl, Or.inl (by walk_at "sq"), ?_⟩
  | walk_at "ixl"
  | walk_at "setl"
  | refine ⟨_, _, rfl, (by walk_at "sq"), rfl, ?_⟩
  | refine ⟨_, _, rfl, (by walk_at "sq"), ?_⟩
  | refine ⟨_, _, rfl, ?_⟩
  | refine ⟨rfl, ?_⟩
  | refine ⟨small (Nat.le_of_ble_eq_true rfl), ?_⟩)
local macro_rules | `(tactic| walk_at "go") => `(tactic| repeat walk_at "go1")

def fitG (bs : List Int) (n : Nat) (r : R3) (g : Nat) : Prop := g ∈ fitsP (spanP bs r n) (stepP bs r) n
instance (bs : List Int) (n : Nat) (r : R3) (g : Nat) : Decidable (fitG bs n r g) := inferInstanceAs (Decidable (g ∈ _))
def cntStep (bs : List Int) (n g : Nat) (acc : Int) (r : R3) : Int := if fitG bs n r g then r.2.2 else acc
def cntP (bs : List Int) (rows : List R3) (n g : Nat) : Int := rows.foldl (cntStep bs n g) 0
def countsP (bs : List Int) (rows : List R3) (n : Nat) : List Int := (List.range n).map (cntP bs rows n)
theorem seg_bound {span step start g : Nat} (hs : 1 ≤ step) (h : g ∈ segN span step start) : start ≤ g ∧ g < start + span := by
  unfold segN at h
  obtain ⟨j, hj, rfl⟩ := List.mem_map.mp h
  have hj' := List.mem_range.mp hj
  rw [show ((start : Int) + (span : Int)) = ((start + span : Nat) : Int) by omega, rgN_nat] at hj'
  split at hj'
  · have h1 : j ≤ (start + span - start - 1) / step := by omega
    have h2 : j * step ≤ start + span - start - 1 := Nat.le_trans (Nat.mul_le_mul_right _ h1) (Nat.div_mul_le_self _ _)
    omega
  · omega
theorem fits_lt {span step n g : Nat} (h1 : 1 ≤ n) (hd : span ∣ n) (hs : 1 ≤ step) (h : g ∈ fitsP span step n) : g < n := by
  unfold fitsP at h
  obtain ⟨l, hl, hg⟩ := List.mem_flatten.mp h
  obtain ⟨k, hk, rfl⟩ := List.mem_map.mp hl
  have hk' := List.mem_range.mp hk
  have h2 := seg_bound hs hg
  have h3 : (k + 1) * span ≤ rgN 0 (n : Int) (span : Int) * span := Nat.mul_le_mul_right _ hk'
  rw [rg_count h1 hd, Nat.add_mul, Nat.one_mul] at h3
  omega
theorem set_range {α : Type} (f : Nat → α) (n g : Nat) (v : α) (hg : g < n) : ((List.range n).map f).set g v = (List.range n).map fun x => if x = g then v else f x := by
  apply List.ext_getElem?
  intro i
  rw [List.getElem?_set, List.getElem?_map, List.getElem?_map, List.length_map, List.length_range]
  by_cases h : g = i
  · subst h
    rw [if_pos rfl, if_pos hg, List.getElem?_range hg]
    simp
  · rw [if_neg h]
    by_cases hi : i < n
    · rw [List.getElem?_range hi]
      simp only [Option.map_some]
      rw [if_neg (fun z => h z.symm)]
    · rw [List.getElem?_eq_none (by rw [List.length_range]; omega)]
      rfl
def spSkipped (K : PySem.W.Frag) : Sp := fun vs H Q _ => ∃ (a r : Addr) (bs : List Int) (rows : List R3) (n : Nat), vs = [.ref a, .ref r, .int (n : Int)] ∧ SqT K H a (bs.map V.int) ∧ 1 ≤ bs.length ∧ bs.length ≤ 3 ∧ (∀ x ∈ bs, 2 ≤ x ∧ x ≤ 60) ∧ RowsAt K H r rows ∧ (∀ x ∈ rows, RowOk 60 bs x) ∧
  1 ≤ n ∧ n ≤ 7200 ∧ (∀ x ∈ rows, spanP bs x n ∣ n) ∧ ∀ (l : Addr) H', Same H H' → H l = none → H' l = some (.lst ((countsP bs rows n).map V.int)) → Q (.ref l) H'
section
variable {P : Program} {w : World} {K : PySem.W.Frag} {mg : Str → Option Value} {base : Heap}
theorem ok_skipped {f : Addr} {fd : FuncData} (F : Fun K "skipped_counts" "skipped_counts" sskipped_counts f fd) (Dfitted_groups : DefK P w K mg base "fitted_groups" ["bases", "row", "groups"] 2 (spFitted K)) : FnOk P w K mg base CX0 3 f fd ["bases", "rows", "groups"] (spSkipped K) := by
  have sc := scskipped_counts
  refine F.ok sc (fun vs H Q E h => ?_) (fun cdv A outer s H vs Q E hr h => ?_)
  · obtain ⟨a, r, bs, rows, n, rfl, _⟩ := h
    rfl
  · obtain ⟨a, r, bs, rows, n, rfl, ha, b0, b3, hb, hR, ro, n1, n2, hdv, k⟩ := h
    refine ⟨_, (pss_cons (ps_set (i := 3) sc.nd rfl (Or.inl rfl) (pe_op op_rep (pe_lst (pa_cons pe_int pa_nil)) (pv 2)))
      (pss_cons (ps_for PassesOwn.never rfl (pi_tup (pv 1)) (pg_name (i := 4) sc.nd rfl (Or.inl rfl)) (pss_one (ps_for PassesOwn.never rfl (pi_list (pe_d Dfitted_groups (hr.mono (by decide)) rfl (pa_cons (pv 0) (pa_cons (pv 4) (pa_cons (pv 2) pa_nil))))) (pg_name (i := 5) sc.nd rfl (Or.inl rfl)) (pss_one (ps_asg (pe_ix ix_tup (pv 4) pe_int (fun _ _ => rfl)) (pg_sub (pv 3) (pv 5) set_list))))))
      (pss_one (ps_ret (pv 3))))), ?_⟩
    refine ⟨Nat.le_of_ble_eq_true rfl, ?_⟩
    (intro z nz; generalize e_z : upd H z _ = H1; have s1 : Same H H1 := fun b x hb => (congrFun e_z b).symm.trans (same_new nz b x hb); have h1 := (congrFun e_z z).symm.trans upd_same; clear e_z)
    refine ⟨_, rfl, z, _, _, rfl, rfl, h1, by omega, by omega, small (by rw [List.length_singleton, Int.toNat_natCast]; omega), ?_⟩
    (intro l nl; generalize e_l : upd H1 l _ = H2; have s2 : Same H1 H2 := fun b x hb => (congrFun e_l b).symm.trans (same_new nl b x hb); have h2 := (congrFun e_l l).symm.trans upd_same; clear e_l)
    have s02 := s1.trans s2
    have nl0 : H l = none := s1.free nl
    obtain ⟨as, hrt, pr⟩ := id hR
    have hpl := pr.length
    have h2' : H2 l = some (.lst ((countsP bs [] n).map V.int)) := by
      rw [h2]
      unfold countsP cntP
      simp [List.map_const']
    refine ⟨_, rfl, r, rfl, ⟨_, Same.seqT s02 hrt⟩, for_tup (K := K) (xs := as.map V.ref) (fun i σ H' => ∃ v4 v5 : Option V, σ = [some (.ref a), some (.ref r), some (.int ((n : Nat) : Int)), some (.ref l), v4, v5] ∧ Same H H' ∧ H' l = some (.lst ((countsP bs (rows.take i) n).map V.int)))
      ⟨_, _, rfl, s02, h2'⟩ (fun i σ H' _ ⟨_, _, _, s, _⟩ => Same.seqT s hrt) ?_ ?_⟩
    · rintro i x σ H' hx ⟨v4, v5, rfl, sm, el⟩
      obtain ⟨ra, hra, rfl⟩ : ∃ b, as[i]? = some b ∧ x = V.ref b := by
        rw [List.getElem?_map] at hx
        obtain ⟨z, hz, e⟩ := Option.map_eq_some_iff.mp hx
        exact ⟨z, hz, e.symm⟩
      obtain ⟨y, hy, hya⟩ := paired_at pr hra
      have hym := List.mem_of_getElem? hy
      have hoy := ro y hym
      obtain ⟨o1, o2, o3, o4, o5, o6⟩ := id hoy
      have hstep : 1 ≤ stepP bs y := Nat.mul_pos (unitP_pos hb _) (by omega)
      refine ⟨_, rfl, _, rfl, _, rfl, a, ra, bs, y, n, rfl, Same.seqT sm ha, b0, b3, hb, Same.seqT sm hya, hoy, n1, n2, hdv y hym, fun q H5 s5 nq eq5 => ?_⟩
      generalize hfits : fitsP (spanP bs y n) (stepP bs y) n = fits at *
      have hflt : ∀ g ∈ fits, g < n := fun g hg => fits_lt n1 (hdv y hym) hstep (by rw [hfits]; exact hg)
      have hql : q ≠ l := fun z => by rw [z, el] at nq; cases nq
      refine ⟨q, rfl, ⟨_, SqL.lst eq5⟩, for_list (K := K) (xs := (castL fits).map V.int) (fun j σ H' => ∃ v5 : Option V, σ = [some (.ref a), some (.ref r), some (.int ((n : Nat) : Int)), some (.ref l), some (.ref ra), v5] ∧ Same H H' ∧ H' q = some (.lst ((castL fits).map V.int)) ∧
          H' l = some (.lst (((List.range n).map fun g => if g ∈ fits.take j then y.2.2 else cntP bs (rows.take i) n g).map V.int)))
        ⟨_, rfl, sm.trans s5, eq5, ?_⟩ (fun j σ H' _ ⟨_, _, _, e, _⟩ => SqL.lst e) ?_ ?_⟩
      · rw [s5 _ _ el]
        unfold countsP
        simp
      · rintro j x σ H6 hx ⟨w5, rfl, sm6, e6q, e6l⟩
        obtain ⟨g, hg, rfl⟩ : ∃ g : Nat, fits[j]? = some g ∧ x = V.int ((g : Nat) : Int) := by
          unfold castL at hx
          rw [List.map_map, List.getElem?_map] at hx
          obtain ⟨z, hz, e⟩ := Option.map_eq_some_iff.mp hx
          exact ⟨z, hz, e.symm⟩
        have hgn := hflt g (List.mem_of_getElem? hg)
        refine ⟨_, rfl, ra, _, 2, .int y.2.2, rfl, rfl, Same.seqT sm6 hya, rfl, ?_⟩
        refine ⟨_, rfl, _, rfl, l, _, _, g, rfl, rfl, e6l, Evl.ixN_nat (by simp; exact hgn), ?_⟩
        refine ⟨_, rfl, same_mut sm6 nl0, by rw [upd_ne hql]; exact e6q, ?_⟩
        rw [upd_same, ← List.map_set (f := V.int), set_range _ _ _ _ hgn]
        congr 2
        refine congrArg (List.map V.int) (List.map_congr_left fun x _ => ?_)
        rw [List.take_add_one, hg]
        by_cases hxg : x = g
        · simp [hxg]
        · simp [hxg]
      · rintro σ H6 ⟨w5, rfl, sm6, e6q, e6l⟩
        refine ⟨_, _, rfl, sm6, ?_⟩
        rw [e6l]
        unfold castL
        rw [List.length_map, List.length_map, List.take_of_length_le (Nat.le_refl _)]
        unfold countsP
        congr 2
        refine congrArg (List.map V.int) (List.map_congr_left fun x _ => ?_)
        unfold cntP
        rw [take_fold (cntStep bs n x) 0 rows i y hy]
        show (if x ∈ fits then y.2.2 else (rows.take i).foldl (cntStep bs n x) 0) = (if fitG bs n y x then y.2.2 else (rows.take i).foldl (cntStep bs n x) 0)
        by_cases hxf : x ∈ fits
        · have hG : fitG bs n y x := by show x ∈ fitsP _ _ _; rw [hfits]; exact hxf
          rw [if_pos hxf, if_pos hG]
        · have hG : ¬ fitG bs n y x := fun z => hxf (by rw [← hfits]; exact z)
          rw [if_neg hxf, if_neg hG]
    · rintro σ H' ⟨v4, v5, rfl, sm, el⟩
      rw [List.take_of_length_le (by rw [List.length_map, hpl]; exact Nat.le_refl _)] at el
      exact ⟨_, rfl, k l H' sm nl0 el⟩
/-- shifted by k the list is the same, as far as it goes -/
def repOk (cs : List Int) (k : Nat) : Prop := cs.length % k = 0 ∧ cs.drop k = cs.take (cs.length - k)
/-- k is the least such number from 1 on -/
def RepIs (cs : List Int) (k : Nat) : Prop := 1 ≤ k ∧ k ≤ cs.length ∧ repOk cs k ∧ ∀ j, 1 ≤ j → j < k → ¬ repOk cs j
def spLeast (K : PySem.W.Frag) : Sp := fun vs H Q _ => ∃ (a : Addr) (cs : List Int), vs = [.ref a] ∧ SqL K H a (cs.map V.int) ∧ 1 ≤ cs.length ∧ cs.length ≤ 100000 ∧ ∀ (k : Nat) H', Same H H' → RepIs cs k → Q (.int (k : Int)) H'
theorem ok_least {f : Addr} {fd : FuncData} (F : Fun K "least_repeat" "least_repeat" sleast_repeat f fd) (N : Names mg) : FnOk P w K mg base CX0 1 f fd ["counts"] (spLeast K) := by
  have sc := scleast_repeat
  refine F.ok sc (fun vs H Q E h => ?_) (fun cdv A outer s H vs Q E hr h => ?_)
  · obtain ⟨a, cs, rfl, _⟩ := h
    rfl
  · obtain ⟨a, cs, rfl, ha, c1, c2, k⟩ := h
    refine ⟨_, (pss_cons (ps_set (i := 1) sc.nd rfl (Or.inl rfl) (pe_callB call_len_seq (by rfl) N.len (by decide +kernel) (pa_cons (pv 0) pa_nil)))
      (pss_cons (ps_for PassesOwn.never rfl (pi_range2 rfl N.range (pa_cons pe_int (pa_cons (pv 1) pa_nil))) (pg_name (i := 2) sc.nd rfl (Or.inl rfl)) (pss_one (ps_if (PW.pt (pw_and (pt_cmpR op_eq (pe_op op_mod (pv 1) (pv 2)) pe_int (nomark _)) (pw_and1 (pt_cmpR (op_eqIs (hu64 hr)) (pe_slice sl_list (pv 0) (po_some (pv 2)) po_none) (pe_slice sl_list (pv 0) po_none (po_some (pe_op op_sub (pv 1) (pv 2)))) (nomark _))))) (pss_one (ps_ret (pv 2))) pss_nil)))
      (pss_one (ps_ret (pv 1))))), ?_⟩
    have el : (cs.map V.int).length = cs.length := List.length_map ..
    refine ⟨_, rfl, a, _, rfl, .inl ha, ?_⟩
    rw [el]
    refine ⟨_, rfl, 1, _, rfl, ⟨by omega, by omega, by omega, by omega⟩, ?_⟩
    have en : (((cs.length : Nat) : Int) - 1).toNat = cs.length - 1 := by omega
    rw [en]
    refine for_range (n := cs.length - 1) (fun i σ H' => ∃ v2 : Option V, σ = [some (.ref a), some (.int ((cs.length : Nat) : Int)), v2] ∧ Same H H' ∧ ∀ j, 1 ≤ j → j < i + 1 → ¬ repOk cs j) ⟨_, rfl, Same.refl H, fun j h1 h2 => by omega⟩ ?_ ?_
    · rintro i σ H' hi ⟨v2, rfl, sm, hno⟩
      have e1 : (1 : Int) + ((i : Nat) : Int) = ((i + 1 : Nat) : Int) := by omega
      rw [e1]
      have ha' := sm.seq ha
      refine ⟨_, rfl, _, rfl, _, _, rfl, rfl, (by show (0 : Int) < _; omega), rfl, _, rfl, ?_⟩
      refine ifD (fun hd => ?_) (fun hd => ?_)
      · have hm : cs.length % (i + 1) = 0 := by
          have z := V.int.inj hd
          have z' : (((cs.length % (i + 1) : Nat)) : Int) = 0 := by rw [Int.natCast_emod]; exact z
          omega
        refine ⟨_, rfl, _, rfl, _, rfl, a, _, rfl, ha', ?_⟩
        (intro t nt; generalize e_t : upd H' t _ = H5; have s5 : Same H' H5 := fun b x hb => (congrFun e_t b).symm.trans (same_new nt b x hb); have h5 := (congrFun e_t t).symm.trans upd_same; clear e_t)
        have h5' : H5 t = some (.lst ((cs.drop (i + 1)).map V.int)) := by rw [h5, cut_from, List.map_drop]
        refine ⟨_, rfl, _, rfl, _, rfl, _, _, rfl, rfl, _, rfl, a, _, rfl, s5.seq ha', ?_⟩
        (intro u nu; generalize e_u : upd H5 u _ = H6; have s6 : Same H5 H6 := fun b x hb => (congrFun e_u b).symm.trans (same_new nu b x hb); have h6 := (congrFun e_u u).symm.trans upd_same; clear e_u)
        have h6' : H6 u = some (.lst ((cs.take (cs.length - (i + 1))).map V.int)) := by
          rw [h6]
          show some (HO.lst (cutV _ none (some (((cs.length : Nat) : Int) - ((i + 1 : Nat) : Int))))) = _
          rw [show (((cs.length : Nat) : Int) - ((i + 1 : Nat) : Int)) = ((cs.length - (i + 1) : Nat) : Int) by omega, cut_to, List.map_take]
        refine ⟨t, u, _, _, rfl, rfl, .inl ⟨SqL.lst (s6 _ _ h5'), SqL.lst h6'⟩, _, rfl, ?_⟩
        refine ifD (fun hd2 => ?_) (fun hd2 => ?_)
        · exact ⟨_, rfl, k (i + 1) H6 (sm.trans (s5.trans s6)) ⟨by omega, by omega, ⟨hm, hd2⟩, fun j j1 j2 => hno j j1 j2⟩⟩
        · refine ⟨_, rfl, sm.trans (s5.trans s6), fun j j1 j2 hj => ?_⟩
          by_cases hji : j = i + 1
          · rw [hji] at hj
            exact hd2 hj.2
          · exact hno j j1 (by omega) hj
      · refine iteF ?_
        refine ⟨_, rfl, sm, fun j j1 j2 hj => ?_⟩
        by_cases hji : j = i + 1
        · rw [hji] at hj
          refine hd (congrArg V.int ?_)
          show ((cs.length : Nat) : Int) % ((i + 1 : Nat) : Int) = 0
          rw [← Int.natCast_emod, hj.1]
          rfl
        · exact hno j j1 (by omega) hj
    · rintro σ H' ⟨v2, rfl, sm, hno⟩
      refine ⟨_, rfl, k cs.length H' sm ⟨c1, Nat.le_refl _, ⟨Nat.mod_self _, ?_⟩, fun j j1 j2 => hno j j1 (by omega)⟩⟩
      rw [List.drop_eq_nil_of_le (Nat.le_refl _), Nat.sub_self, List.take_zero]
def sumsP (ns : List Int) : List Int := (List.range ns.length).map fun i => (ns.take i).sum
def spSums (K : PySem.W.Frag) : Sp := fun vs H Q _ => ∃ (a : Addr) (ns : List Int), vs = [.ref a] ∧ SqL K H a (ns.map V.int) ∧ ns.length ≤ 100000 ∧ ∀ (l : Addr) H', Same H H' → H l = none → H' l = some (.lst ((sumsP ns).map V.int)) → Q (.ref l) H'
theorem sums_take {ns : List Int} {i : Nat} {x : Int} (h : ns[i]? = some x) : (ns.take (i + 1)).sum = (ns.take i).sum + x := by
  rw [List.take_add_one, h, List.sum_append]
  simp
theorem ok_sums {f : Addr} {fd : FuncData} (F : Fun K "sums_ahead" "sums_ahead" ssums_ahead f fd) : FnOk P w K mg base CX0 1 f fd ["numbers"] (spSums K) := by
  have sc := scsums_ahead
  refine F.ok sc (fun vs H Q E h => ?_) (fun cdv A outer s H vs Q E hr h => ?_)
  · obtain ⟨a, ns, rfl, _⟩ := h
    rfl
  · obtain ⟨a, ns, rfl, ha, hl, k⟩ := h
    refine ⟨_, (pss_cons (ps_set (i := 1) sc.nd rfl (Or.inl rfl) pe_int)
      (pss_cons (ps_set (i := 2) sc.nd rfl (Or.inl rfl) (pe_lst pa_nil))
      (pss_cons (ps_for PassesOwn.never rfl (pi_list (pv 0)) (pg_name (i := 3) sc.nd rfl (Or.inl rfl)) (pss_cons (ps_expr (pe_bm PySem.F.plainAttrs_list PySem.F.slot_list_append PySem.F.type_list_append mt_append (pv 2) (pa_cons (pv 1) pa_nil)))
      (pss_one (ps_aug (i := 1) sc.nd rfl (Or.inl rfl) (pv 3) ip_add))))
      (pss_one (ps_ret (pv 2)))))), ?_⟩
    refine ⟨Nat.le_of_ble_eq_true rfl, ?_⟩
    (intro l nl; generalize e_l : upd H l _ = H1; have s1 : Same H H1 := fun b x hb => (congrFun e_l b).symm.trans (same_new nl b x hb); have h1 := (congrFun e_l l).symm.trans upd_same; clear e_l)
    refine ⟨_, rfl, a, rfl, ⟨_, s1.seq ha⟩, for_list (K := K) (xs := ns.map V.int) (fun i σ H' => ∃ v3 : Option V, σ = [some (.ref a), some (.int (ns.take i).sum), some (.ref l), v3] ∧ Same H H' ∧ H' l = some (.lst (((List.range i).map fun j => (ns.take j).sum).map V.int)))
      ⟨_, rfl, s1, h1⟩ (fun i σ H' _ ⟨_, _, s, _⟩ => s.seq ha) ?_ ?_⟩
    · rintro i x σ H' hx ⟨v3, rfl, sm, el⟩
      obtain ⟨b, hb, rfl⟩ : ∃ b, ns[i]? = some b ∧ x = V.int b := by
        rw [List.getElem?_map] at hx
        obtain ⟨z, hz, e⟩ := Option.map_eq_some_iff.mp hx
        exact ⟨z, hz, e.symm⟩
      have hi : i < ns.length := (List.getElem?_eq_some_iff.mp hb).1
      refine ⟨_, rfl, .inl ⟨rfl, _, SqL.lst el⟩, _, rfl, l, _, _, rfl, rfl, el, smallLt (by simp; omega), ?_⟩
      refine ⟨_, rfl, _, rfl, _, _, rfl, rfl, ?_⟩
      refine ⟨_, (by rw [sums_take hb]; rfl), same_mut sm nl, ?_⟩
      rw [upd_same, List.range_succ, List.map_append, List.map_append]
      rfl
    · rintro σ H' ⟨v3, rfl, sm, el⟩
      rw [List.length_map] at el
      exact ⟨_, rfl, k l H' sm nl el⟩
end
end LM

set_option Elab.async false
set_option linter.all false
set_option maxRecDepth 100000
set_option maxHeartbeats 4000000
set_option pp.maxSteps 600
set_option pp.deepTerms false
namespace LM
open PySem PySem.Spec PyProof.Rows L2 RT
local macro_rules | `(tactic| walk_at "hp") => `(tactic| first | assumption | exact upd_same | (rw [upd_ne (by assumption)]; assumption) | (rw [upd_ne (Ne.symm (by assumption))]; assumption) | (rw [upd_ne (by assumption)]; exact upd_same) | (rw [upd_ne (Ne.symm (by assumption))]; exact upd_same))
local macro_rules | `(tactic| walk_at "sq") => `(tactic| first | assumption | exact Or.inl (Or.inl (by assumption)) | exact Or.inl (Or.inl upd_same) | exact Or.inl (Or.inl (by walk_at "hp")))
local macro_rules | `(tactic| walk_at "ixl") => `(tactic| refine ⟨_, _, _, _, rfl, rfl, (by walk_at "sq"), (by rfl), ?_⟩)
local macro_rules | `(tactic| walk_at "setl") => `(tactic| refine ⟨_, _, _, _, rfl, rfl, (by walk_at "hp"), (by rfl), ?_⟩)
local macro_rules | `(tactic| walk_at "side") => `(tactic| refine idP ?_; first | omega | (show (0 : Int) < _; omega) | (show (0 : Int) < _ ∧ _ < _; omega) | (refine Or.inr ?_; show (-(2 ^ 64) : Int) < _ ∧ _ < _; omega) | (refine Or.inl ?_; show (-(2 ^ 64) : Int) < _ ∧ _ < _; omega) | exact divW (by omega) (by omega) _ | (refine ⟨by decide, by decide, ?_⟩; decide))
local macro_rules | `(tactic| walk_at "go1") => `(tactic| first
  | refine ⟨_, rfl, ?_⟩
  | refine ⟨_, _, rfl, rfl, (by walk_at "side"), ?_⟩
  | refine ⟨_, _, rfl, (by walk_at "side"), ?_⟩
  | refine ⟨_, _, rfl, rfl, ?_⟩
  | refine Or.inl ⟨_, rfl, ?_⟩
  | refine ⟨_, _, rfl, Or.inl (by walk_at "sq"), ?_⟩
  | walk_at "ixl"
  | walk_at "setl"
  | refine ⟨_, _, rfl, (by walk_at "sq"), rfl, ?_⟩
  | refine ⟨_, _, rfl, (by walk_at "sq"), ?_⟩
  | refine ⟨_, _, rfl, ?_⟩
  | refine ⟨rfl, ?_⟩
  | refine ⟨small (Nat.le_of_ble_eq_true rfl), ?_⟩)
local macro_rules | `(tactic| walk_at "go") => `(tactic| repeat walk_at "go1")

abbrev slast_not_above : Stmt := topS 46
theorem sclast_not_above : FnScope ["ascending", "number", "low", "high", "middle"] ["ascending", "number"] (defScope slast_not_above) := ⟨rfl, rfl, rfl, by decide +kernel, rfl, by decide +kernel, by decide +kernel⟩
abbrev slabel_at : Stmt := topS 34
theorem sclabel_at : FnScope ["bases", "place", "numbers", "base", "number"] ["bases", "place"] (defScope slabel_at) := ⟨rfl, rfl, rfl, by decide +kernel, rfl, by decide +kernel, by decide +kernel⟩
/-- the search by halves -/
def lnaGo (fs : List Int) (x : Int) (lo hi : Nat) : Nat :=
  if h : 1 < hi - lo then (if fs.getD ((lo + hi) / 2) 0 ≤ x then lnaGo fs x ((lo + hi) / 2) hi else lnaGo fs x lo ((lo + hi) / 2)) else lo
termination_by hi - lo
decreasing_by all_goals omega
theorem lnaGo_lt (fs : List Int) (x : Int) (lo hi : Nat) (h : lo < hi) : lo ≤ lnaGo fs x lo hi ∧ lnaGo fs x lo hi < hi := by
  unfold lnaGo
  split
  · split
    · have := lnaGo_lt fs x ((lo + hi) / 2) hi (by omega)
      omega
    · have := lnaGo_lt fs x lo ((lo + hi) / 2) (by omega)
      omega
  · omega
termination_by hi - lo
decreasing_by all_goals omega
def lna (fs : List Int) (x : Int) : Nat := lnaGo fs x 0 fs.length
def spLna (K : PySem.W.Frag) : Sp := fun vs H Q _ => ∃ (a : Addr) (fs : List Int) (x : Int), vs = [.ref a, .int x] ∧ SqL K H a (fs.map V.int) ∧ 1 ≤ fs.length ∧ fs.length ≤ 100000 ∧ Q (.int ((lna fs x : Nat) : Int)) H
def labelP (bs : List Int) (p : Int) : List Int := (bs.reverse.foldl digStep (p, [])).1 :: (bs.reverse.foldl digStep (p, [])).2
def spLabelAt (K : PySem.W.Frag) : Sp := fun vs H Q _ => ∃ (a : Addr) (bs : List Int) (p : Int), vs = [.ref a, .int p] ∧ SqT K H a (bs.map V.int) ∧ bs.length ≤ 3 ∧ (∀ x ∈ bs, 2 ≤ x ∧ x ≤ 60) ∧ ∀ (t : Addr) H', Same H H' → H t = none → H' t = some (.tup ((labelP bs p).map V.int)) → Q (.ref t) H'
def spNumbers (K : PySem.W.Frag) : Sp := fun vs H Q _ => ∃ (a : Addr) (bs : List Int) (p : Int), vs = [.ref a, .int p] ∧ SqL K H a (bs.map V.int) ∧ bs.length ≤ 3 ∧ (∀ x ∈ bs, 2 ≤ x ∧ x ≤ 60) ∧ ∀ (t : Addr) H', Same H H' → H t = none → H' t = some (.tup ((labelP bs p).map V.int)) → Q (.ref t) H'
section
variable {P : Program} {w : World} {K : PySem.W.Frag} {mg : Str → Option Value} {base : Heap}
theorem ok_lna {f : Addr} {fd : FuncData} (F : Fun K "last_not_above" "last_not_above" slast_not_above f fd) (N : Names mg) : FnOk P w K mg base CX0 1 f fd ["ascending", "number"] (spLna K) := by
  have sc := sclast_not_above
  refine F.ok sc (fun vs H Q E h => ?_) (fun cdv A outer s H vs Q E hr h => ?_)
  · obtain ⟨a, fs, x, rfl, _⟩ := h
    rfl
  · obtain ⟨a, fs, x, rfl, ha, l1, l2, k⟩ := h
    refine ⟨_, (pss_cons (ps_par (i := 2) (j := 3) rfl sc.nd rfl rfl (by decide) rfl rfl (pa_cons pe_int (pa_cons (pe_callB call_len_seq (by rfl) N.len (by decide +kernel) (pa_cons (pv 0) pa_nil)) pa_nil)) (by rfl))
      (pss_cons (ps_while PassesOwn.never (pt_cmpR op_gt (pe_op op_sub (pv 3) (pv 2)) pe_int (nomark _)) (pss_cons (ps_set (i := 4) sc.nd rfl (Or.inl rfl) (pe_op op_fdiv (pe_op op_add (pv 2) (pv 3)) pe_int))
      (pss_one (ps_if (pt_cmpR op_le (pe_ix ix_list (pv 0) (pv 4) (fun _ _ => rfl)) (pv 1) (nomark _)) (pss_one (ps_set (i := 2) sc.nd rfl (Or.inl rfl) (pv 4))) (pss_one (ps_set (i := 3) sc.nd rfl (Or.inl rfl) (pv 4)))))))
      (pss_one (ps_ret (pv 2))))), ?_⟩
    have el : (fs.map V.int).length = fs.length := List.length_map ..
    refine ⟨_, rfl, a, _, rfl, .inl ha, ?_⟩
    rw [el]
    refine ⟨_, _, rfl, ?_⟩
    refine while_by (fun σ H' => ∃ (lo hi : Nat) (v4 : Option V), σ = [some (.ref a), some (.int x), some (.int ((lo : Nat) : Int)), some (.int ((hi : Nat) : Int)), v4] ∧ lo < hi ∧ hi ≤ fs.length ∧ lnaGo fs x lo hi = lna fs x ∧ H' = H)
      (fun σ _ => match σ with | [_, _, some (.int lo), some (.int hi), _] => hi.toNat - lo.toNat | _ => 0) ⟨0, fs.length, none, rfl, by omega, Nat.le_refl _, rfl, rfl⟩ ?_ ?_
    · rintro σ H' ⟨lo, hi, v4, rfl, hlt, hle, hg, rfl⟩
      refine ⟨_, rfl, _, rfl, _, _, rfl, rfl, _, _, rfl, rfl, _, rfl, ?_⟩
      refine ifD (fun hd => ?_) (fun hd => ?_)
      · have h1 : 1 < hi - lo := by omega
        have hm : (((lo : Nat) : Int) + ((hi : Nat) : Int)) / 2 = (((lo + hi) / 2 : Nat) : Int) := by omega
        have hml : (lo + hi) / 2 < fs.length := by omega
        have hat : atI (fs.map V.int) ((((lo + hi) / 2 : Nat)) : Int) = some (V.int (fs.getD ((lo + hi) / 2) 0)) := by
          rw [atI_nat (map_get hml), List.getD_eq_getElem?_getD, List.getElem?_eq_getElem hml]
          rfl
        refine ⟨_, rfl, _, rfl, _, _, rfl, rfl, _, _, rfl, rfl, (by show (0 : Int) < _ ∧ _ < _; omega), ?_⟩
        refine ⟨_, rfl, _, rfl, a, _, _, .int (fs.getD ((lo + hi) / 2) 0), rfl, rfl, ha, (by rw [hm]; exact hat), _, rfl, _, _, rfl, rfl, _, rfl, ?_⟩
        unfold lnaGo at hg
        rw [dif_pos h1] at hg
        refine ifD (fun hd2 => ?_) (fun hd2 => ?_)
        · rw [if_pos hd2] at hg
          refine ⟨_, rfl, ⟨(lo + hi) / 2, hi, _, (by rw [← hm]; rfl), by omega, hle, hg, rfl⟩, ?_⟩
          show ((hi : Nat) : Int).toNat - ((((lo : Nat) : Int) + ((hi : Nat) : Int)) / 2).toNat < ((hi : Nat) : Int).toNat - ((lo : Nat) : Int).toNat
          omega
        · rw [if_neg hd2] at hg
          refine ⟨_, rfl, ⟨lo, (lo + hi) / 2, _, (by rw [← hm]; rfl), by omega, by omega, hg, rfl⟩, ?_⟩
          show ((((lo : Nat) : Int) + ((hi : Nat) : Int)) / 2).toNat - ((lo : Nat) : Int).toNat < ((hi : Nat) : Int).toNat - ((lo : Nat) : Int).toNat
          omega
      · have h1 : ¬ 1 < hi - lo := by omega
        unfold lnaGo at hg
        rw [dif_neg h1] at hg
        refine ⟨_, rfl, ?_⟩
        rw [hg]
        exact k
    · intro σ H' Q1 Q2 hm h
      obtain ⟨v, hv, v2, hv2, i, j, e1, e2, i2, j2, e3, e4, b, e5, q⟩ := h
      exact ⟨v, hv, v2, hv2, i, j, e1, e2, i2, j2, e3, e4, b, e5, hm _ _ q⟩
theorem ok_labelat {f : Addr} {fd : FuncData} (F : Fun K "label_at" "label_at" slabel_at f fd) (N : Names mg) : FnOk P w K mg base CX0 1 f fd ["bases", "place"] (spLabelAt K) := by
  have sc := sclabel_at
  refine F.ok sc (fun vs H Q E h => ?_) (fun cdv A outer s H vs Q E hr h => ?_)
  · obtain ⟨a, bs, p, rfl, _⟩ := h
    rfl
  · obtain ⟨a, bs, p, rfl, ha, h3, hb, k⟩ := h
    refine ⟨_, (pss_cons (ps_set (i := 2) sc.nd rfl (Or.inl rfl) (pe_lst pa_nil))
      (pss_cons (ps_for PassesOwn.never rfl (pi_revA rfl N.reversed (pv 0)) (pg_name (i := 3) sc.nd rfl (Or.inl rfl)) (pss_cons (ps_asg (pe_callB call_divmod (by rfl) N.divmod (by decide +kernel) (pa_cons (pv 1) (pa_cons (pv 3) pa_nil))) (pg_tup rfl (pgs_cons (pg_name (i := 1) sc.nd rfl (Or.inl rfl)) (pgs_cons (pg_name (i := 4) sc.nd rfl (Or.inl rfl)) pgs_nil))))
      (pss_one (ps_expr (pe_bm PySem.F.plainAttrs_list PySem.F.slot_list_append PySem.F.type_list_append mt_append (pv 2) (pa_cons (pv 4) pa_nil))))))
      (pss_cons (ps_expr (pe_bm PySem.F.plainAttrs_list PySem.F.slot_list_append PySem.F.type_list_append mt_append (pv 2) (pa_cons (pv 1) pa_nil)))
      (pss_one (ps_ret (pe_tupRev rfl (by rfl) N.tuple (by rfl) N.reversed (pv 2))))))), ?_⟩
    refine ⟨Nat.le_of_ble_eq_true rfl, ?_⟩
    (intro l nl; generalize e_l : upd H l _ = H1; have s1 : Same H H1 := fun b x hb => (congrFun e_l b).symm.trans (same_new nl b x hb); have h1 := (congrFun e_l l).symm.trans upd_same; clear e_l)
    refine ⟨_, rfl, a, _, rfl, .inr ⟨Same.seqT s1 ha, ?_⟩⟩
    have hrev : ∀ i x, i < (bs.map V.int).length → (bs.map V.int)[(bs.map V.int).length - 1 - i]? = some x → ∃ b, bs.reverse[i]? = some b ∧ x = V.int b := fun i x hi hx => by
      rw [List.length_map] at hi hx
      rw [List.getElem?_map] at hx
      obtain ⟨z, hz, e⟩ := Option.map_eq_some_iff.mp hx
      exact ⟨z, by rw [List.getElem?_reverse hi]; exact hz, e.symm⟩
    refine for_ItvT (K := K) (xs := bs.map V.int) (fun i σ H' => ∃ v3 v4 : Option V, σ = [some (.ref a), some (.int ((bs.reverse.take i).foldl digStep (p, [])).1), some (.ref l), v3, v4] ∧ Same H H' ∧ H' l = some (.lst (((((bs.reverse.take i).foldl digStep (p, [])).2).reverse).map V.int)))
      ⟨_, _, rfl, s1, h1⟩ (fun i σ H' ⟨_, _, _, s, _⟩ => Same.seqT s ha) ?_ ?_
    · rintro i x σ H' hi hx ⟨v3, v4, rfl, sm, el⟩
      obtain ⟨b, hb', rfl⟩ := hrev i x hi hx
      have hbb := hb b (List.mem_reverse.mp (List.mem_of_getElem? hb'))
      have st := take_fold digStep (p, []) _ i b hb'
      refine ⟨_, rfl, _, rfl, _, _, rfl, (by show (0 : Int) < _ ∧ _ < _; omega), ?_⟩
      (intro t nt; generalize e_t : upd H' t _ = H5; have s5 : Same H' H5 := fun b x hb => (congrFun e_t b).symm.trans (same_new nt b x hb); have h5 := (congrFun e_t t).symm.trans upd_same; clear e_t)
      have el5 := s5 _ _ el
      refine ⟨t, _, rfl, SqT.tup h5, rfl, _, _, rfl, _, _, rfl, rfl, ?_⟩
      refine ⟨_, rfl, .inl ⟨rfl, _, SqL.lst el5⟩, _, rfl, l, _, _, rfl, rfl, el5, smallLt (by rw [List.length_map, List.length_reverse, digStep_len, List.length_take, List.length_reverse]; simp; omega), ?_⟩
      refine ⟨_, _, (by rw [st]; rfl), same_mut (sm.trans s5) nl, ?_⟩
      rw [upd_same, st]
      show _ = some (HO.lst ((((((bs.reverse.take i).foldl digStep (p, [])).1 % b) :: ((bs.reverse.take i).foldl digStep (p, [])).2).reverse).map V.int))
      rw [List.reverse_cons, List.map_append]
      rfl
    · rintro σ H' ⟨v3, v4, rfl, sm, el⟩
      rw [List.take_of_length_le (by rw [List.length_map, List.length_reverse]; exact Nat.le_refl _)] at el
      rw [List.take_of_length_le (by rw [List.length_map, List.length_reverse]; exact Nat.le_refl _)]
      refine ⟨_, rfl, .inl ⟨rfl, _, SqL.lst el⟩, _, rfl, l, _, _, rfl, rfl, el, smallLt (by rw [List.length_map, List.length_reverse, digStep_len, List.length_reverse]; simp; omega), ?_⟩
      generalize eH : upd H' l _ = H6
      have s6 : Same H H6 := by rw [← eH]; exact same_mut sm nl
      have e6 : H6 l = some (.lst ((labelP bs p).reverse.map V.int)) := by
        rw [← eH, upd_same]
        unfold labelP
        rw [List.reverse_cons, List.map_append]
        rfl
      refine ⟨_, rfl, l, _, rfl, SqL.lst e6, ?_⟩
      (intro t nt; generalize e_t : upd H6 t _ = H7; have s7 : Same H6 H7 := fun b x hb => (congrFun e_t b).symm.trans (same_new nt b x hb); have h7 := (congrFun e_t t).symm.trans upd_same; clear e_t)
      refine k t H7 (s6.trans s7) (s6.free nt) ?_
      rw [h7, ← List.map_reverse, List.reverse_reverse]
end
end LM

set_option Elab.async false
set_option linter.all false
set_option maxRecDepth 100000
set_option maxHeartbeats 4000000
set_option pp.maxSteps 600
set_option pp.deepTerms false
namespace LM
open PySem PySem.Spec PyProof.Rows L2
end LM

set_option Elab.async false
set_option linter.all false
set_option maxRecDepth 100000
set_option maxHeartbeats 4000000
set_option pp.maxSteps 600
set_option pp.deepTerms false
namespace LM
open PySem PySem.Spec PyProof.Rows L2
local macro_rules | `(tactic| walk_at "hp") => `(tactic| first | assumption | exact upd_same | (rw [upd_ne (by assumption)]; assumption) | (rw [upd_ne (Ne.symm (by assumption))]; assumption) | (rw [upd_ne (by assumption)]; exact upd_same) | (rw [upd_ne (Ne.symm (by assumption))]; exact upd_same))
local macro_rules | `(tactic| walk_at "sq") => `(tactic| first | assumption | exact Or.inl (Or.inl (by assumption)) | exact Or.inl (Or.inl upd_same) | exact Or.inl (Or.inl (by walk_at "hp")))
local macro_rules | `(tactic| walk_at "ixl") => `(tactic| refine ⟨_, _, _, _, rfl, rfl, (by walk_at "sq"), (by rfl), ?_⟩)
local macro_rules | `(tactic| walk_at "setl") => `(tactic| refine ⟨_, _, _, _, rfl, rfl, (by walk_at "hp"), (by rfl), ?_⟩)
local macro_rules | `(tactic| walk_at "side") => `(tactic| refine idP ?_; first | omega | (show (0 : Int) < _; omega) | (show (0 : Int) < _ ∧ _ < _; omega) | (refine Or.inr ?_; show (-(2 ^ 64) : Int) < _ ∧ _ < _; omega) | (refine Or.inl ?_; show (-(2 ^ 64) : Int) < _ ∧ _ < _; omega) | exact divW (by omega) (by omega) _ | (refine ⟨by decide, by decide, ?_⟩; decide))
local macro_rules | `(tactic| walk_at "go1") => `(tactic| first
  | refine ⟨_, rfl, ?_⟩
  | refine ⟨_, _, rfl, rfl, (by walk_at "side"), ?_⟩
  | refine ⟨_, _, rfl, (by walk_at "side"), ?_⟩
  | refine ⟨_, _, rfl, rfl, ?_⟩
  | refine Or.inl ⟨_, rfl, ?_⟩
  | refine ⟨_, _, rfl, Or.inl (by walk_at "sq"), ?_⟩
  | walk_at "ixl"
  | walk_at "setl"
  | refine ⟨_, _, rfl, (by walk_at "sq"), rfl, ?_⟩
  | refine ⟨_, _, rfl, (by walk_at "sq"), ?_⟩
  | refine ⟨_, _, rfl, ?_⟩
  | refine ⟨rfl, ?_⟩
  | refine ⟨small (Nat.le_of_ble_eq_true rfl), ?_⟩)
local macro_rules | `(tactic| walk_at "go") => `(tactic| repeat walk_at "go1")

abbrev sHouse__init_ : Stmt := inClass (topS 57) 0
theorem scHouse__init_ : FnScope ["self", "bases", "rows", "groups", "counts", "borne", "count"] ["self", "bases", "rows"] (defScope sHouse__init_) := ⟨rfl, rfl, rfl, by decide +kernel, rfl, by decide +kernel, by decide +kernel⟩
abbrev sHouse_place_borne : Stmt := inClass (topS 57) 14
theorem scHouse_place_borne : FnScope ["self", "frame", "groups", "frames", "rounds", "rest", "group", "number"] ["self", "frame"] (defScope sHouse_place_borne) := ⟨rfl, rfl, rfl, by decide +kernel, rfl, by decide +kernel, by decide +kernel⟩
abbrev sHouse_place : Stmt := inClass (topS 57) 6
theorem scHouse_place : FnScope ["self", "frame"] ["self", "frame"] (defScope sHouse_place) := ⟨rfl, rfl, rfl, by decide +kernel, rfl, by decide +kernel, by decide +kernel⟩
abbrev sHouse_label : Stmt := inClass (topS 57) 5
theorem scHouse_label : FnScope ["self", "frame"] ["self", "frame"] (defScope sHouse_label) := ⟨rfl, rfl, rfl, by decide +kernel, rfl, by decide +kernel, by decide +kernel⟩
/-- the attributes in the order in which they are stored -/
def hf (b r sk ah rd : Addr) (t : Str) : List (Str × V) := putF "_round" (.ref rd) (putF "_frames_ahead" (.ref ah) (putF "_skipped" (.ref sk) (putF "_text" (.str t) (putF "_rows" (.ref r) (putF "_bases" (.ref b) [])))))
theorem hf_bases (b r sk ah rd : Addr) (t : Str) : (hf b r sk ah rd t).lookup ("_bases" : Str) = some (.ref b) := by
  unfold hf
  rw [lookup_putF, if_neg (by decide +kernel), lookup_putF, if_neg (by decide +kernel), lookup_putF, if_neg (by decide +kernel), lookup_putF, if_neg (by decide +kernel), lookup_putF, if_neg (by decide +kernel), lookup_putF, if_pos rfl]
theorem hf_skipped (b r sk ah rd : Addr) (t : Str) : (hf b r sk ah rd t).lookup ("_skipped" : Str) = some (.ref sk) := by
  unfold hf
  rw [lookup_putF, if_neg (by decide +kernel), lookup_putF, if_neg (by decide +kernel), lookup_putF, if_pos rfl]
theorem hf_ahead (b r sk ah rd : Addr) (t : Str) : (hf b r sk ah rd t).lookup ("_frames_ahead" : Str) = some (.ref ah) := by
  unfold hf
  rw [lookup_putF, if_neg (by decide +kernel), lookup_putF, if_pos rfl]
theorem hf_round (b r sk ah rd : Addr) (t : Str) : (hf b r sk ah rd t).lookup ("_round" : Str) = some (.ref rd) := by
  unfold hf
  rw [lookup_putF, if_pos rfl]
theorem hf_no (b r sk ah rd : Addr) (t : Str) {m : Str} (h1 : ¬ m = "_round") (h2 : ¬ m = "_frames_ahead") (h3 : ¬ m = "_skipped") (h4 : ¬ m = "_text") (h5 : ¬ m = "_rows") (h6 : ¬ m = "_bases") : (hf b r sk ah rd t).lookup m = none := by
  unfold hf
  rw [lookup_putF, if_neg h1, lookup_putF, if_neg h2, lookup_putF, if_neg h3, lookup_putF, if_neg h4, lookup_putF, if_neg h5, lookup_putF, if_neg h6]
  rfl
theorem hf_place (b r sk ah rd : Addr) (t : Str) : (hf b r sk ah rd t).lookup ("_place_borne" : Str) = none := hf_no _ _ _ _ _ _ (by decide +kernel) (by decide +kernel) (by decide +kernel) (by decide +kernel) (by decide +kernel) (by decide +kernel)
def borneP (bs cs : List Int) : List Int := cs.map fun c => bs.getLastD 1 - c
def groupsP (bs : List Int) (rows : List R3) : Nat := unitP bs 0 * everyL rows
/-- the bases and rows of a house that may be made -/
structure Fair (bs : List Int) (rows : List R3) : Prop where
  b0 : 1 ≤ bs.length
  b3 : bs.length ≤ 3
  bb : ∀ x ∈ bs, 2 ≤ x ∧ x ≤ 60
  r6 : rows.length ≤ 6
  ro : ∀ x ∈ rows, RowOk 60 bs x
  gr : groupsP bs rows ≤ 7200
/-- a house at p -/
structure HouseAt (K : PySem.W.Frag) (C : Addr) (old : Addr → Prop) (H : Hp) (p b r : Addr) (bs : List Int) (rows : List R3) (cs : List Int) : Prop where
  ob : ∃ dx sk ah rd, H p = some (.ins C dx (hf b r sk ah rd (houseS bs rows))) ∧ H sk = some (.lst (cs.map V.int)) ∧ H ah = some (.lst ((sumsP (borneP bs cs)).map V.int)) ∧ H rd = some (.tup [.int (cs.length : Int), .int (borneP bs cs).sum]) ∧ ¬ old sk ∧ ¬ old ah
  bt : SqT K H b (bs.map V.int)
  rt : RowsAt K H r rows
  fair : Fair bs rows
  rep : ∃ k, RepIs (countsP bs rows (groupsP bs rows)) k ∧ cs = (countsP bs rows (groupsP bs rows)).take k
theorem HouseAt.same {K : PySem.W.Frag} {C : Addr} {old : Addr → Prop} {H H' : Hp} {p b r : Addr} {bs : List Int} {rows : List R3} {cs : List Int} (h : HouseAt K C old H p b r bs rows cs) (s : Same H H') : HouseAt K C old H' p b r bs rows cs := by
  obtain ⟨⟨dx, sk, ah, rd, e1, e2, e3, e4, e5, e6⟩, h2, h3, h4, h5⟩ := h
  exact ⟨⟨dx, sk, ah, rd, s _ _ e1, s _ _ e2, s _ _ e3, s _ _ e4, e5, e6⟩, Same.seqT s h2, h3.same s, h4, h5⟩
theorem countsP_len (bs : List Int) (rows : List R3) (n : Nat) : (countsP bs rows n).length = n := by
  unfold countsP
  rw [List.length_map, List.length_range]
theorem cnt_in {bs : List Int} {n g : Nat} : ∀ (rows : List R3) (acc : Int), (∀ x ∈ rows, RowOk 60 bs x) → 0 ≤ acc ∧ acc < bs.getLastD 1 → 0 ≤ rows.foldl (cntStep bs n g) acc ∧ rows.foldl (cntStep bs n g) acc < bs.getLastD 1
  | [], _, _, ha => ha
  | x :: rows, acc, h, ha => by
    rw [List.foldl_cons]
    refine cnt_in rows _ (fun y hy => h y (List.mem_cons_of_mem _ hy)) ?_
    unfold cntStep
    obtain ⟨_, _, _, _, o5, o6⟩ := h x List.mem_cons_self
    split
    · exact ⟨o5, o6⟩
    · exact ha
theorem counts_in {bs : List Int} {rows : List R3} {n : Nat} (b0 : 1 ≤ bs.length) (bb : ∀ x ∈ bs, 2 ≤ x ∧ x ≤ 60) (ro : ∀ x ∈ rows, RowOk 60 bs x) : ∀ c ∈ countsP bs rows n, 0 ≤ c ∧ c < bs.getLastD 1 := by
  intro c hc
  obtain ⟨g, _, rfl⟩ := List.mem_map.mp hc
  have := bb _ (lastD_mem b0)
  exact cnt_in rows 0 ro ⟨Int.le_refl 0, by omega⟩
/-- what stands elsewhere than p stays -/
theorem els_upd {H : Hp} {p : Addr} {o : HO} : Else p H (upd H p o) := fun b x n e => by rw [upd_ne n]; exact e
theorem els_free {H H' : Hp} {p a : Addr} (e : Else p H H') (n : a ≠ p) (h : H' a = none) : H a = none := by
  cases q : H a with
  | none => rfl
  | some o =>
    rw [e _ _ n q] at h
    cases h
theorem els_seqT {K : PySem.W.Frag} {H H' : Hp} {p a C dx : Addr} {fs : List (Str × V)} {xs : List V} (hp : H p = some (.ins C dx fs)) (e : Else p H H') (h : SqT K H a xs) : SqT K H' a xs := by
  rcases h with (h | ⟨o, h⟩) | h
  · exact .inl (.inl (e _ _ (fun z => by rw [z, hp] at h; cases h) h))
  · exact .inl (.inr ⟨o, e _ _ (fun z => by rw [z, hp] at h; cases h) h⟩)
  · exact .inr h
theorem els_rows {K : PySem.W.Frag} {H H' : Hp} {p r C dx : Addr} {fs : List (Str × V)} {rows : List R3} (hp : H p = some (.ins C dx fs)) (e : Else p H H') (h : RowsAt K H r rows) : RowsAt K H' r rows := by
  obtain ⟨as, h1, h2⟩ := h
  exact ⟨as, els_seqT hp e h1, paired_imp h2 fun a _ x q => els_seqT hp e q⟩
theorem sumsP_len (ns : List Int) : (sumsP ns).length = ns.length := by
  unfold sumsP
  rw [List.length_map, List.length_range]
theorem borneP_len (bs cs : List Int) : (borneP bs cs).length = cs.length := by
  unfold borneP
  rw [List.length_map]
theorem lna_lt (fs : List Int) (x : Int) (h : 1 ≤ fs.length) : lna fs x < fs.length := (lnaGo_lt fs x 0 fs.length (by omega)).2
theorem sum_bounds {bs : List Int} (m : Int) : ∀ (cs : List Int), (∀ c ∈ cs, 0 ≤ c ∧ c < bs.getLastD 1) → bs.getLastD 1 ≤ m → (cs.length : Int) ≤ (borneP bs cs).sum ∧ (borneP bs cs).sum ≤ cs.length * m
  | [], _, _ => by
    show (0 : Int) ≤ 0 ∧ (0 : Int) ≤ 0 * m
    omega
  | c :: cs, h, hm => by
    obtain ⟨i1, i2⟩ := sum_bounds (bs := bs) m cs (fun x hx => h x (List.mem_cons_of_mem _ hx)) hm
    obtain ⟨h1, h2⟩ := h c List.mem_cons_self
    have e : (borneP bs (c :: cs)).sum = (bs.getLastD 1 - c) + (borneP bs cs).sum := List.sum_cons
    rw [e, List.length_cons, Int.natCast_add, Int.add_mul]
    omega
theorem cs_facts {bs : List Int} {rows : List R3} {cs : List Int} {kk : Nat} (fr : Fair bs rows) (rep : RepIs (countsP bs rows (groupsP bs rows)) kk) (hcs : cs = (countsP bs rows (groupsP bs rows)).take kk) :
    1 ≤ cs.length ∧ cs.length ≤ 7200 ∧ 1 ≤ (borneP bs cs).sum ∧ (borneP bs cs).sum ≤ 432000 := by
  have cl := countsP_len bs rows (groupsP bs rows)
  have gr := fr.gr
  have hl : cs.length = kk := by rw [hcs, List.length_take]; have := rep.2.1; omega
  have h1 := rep.1
  have h2 := rep.2.1
  have hlast := fr.bb _ (lastD_mem fr.b0)
  obtain ⟨s1, s2⟩ := sum_bounds (bs := bs) 60 cs (fun c hc => counts_in fr.b0 fr.bb fr.ro c (by rw [hcs] at hc; exact List.mem_of_mem_take hc)) hlast.2
  omega
def spInit (K : PySem.W.Frag) (C : Addr) : Sp := fun vs H Q _ => ∃ (p dx b r : Addr) (bs : List Int) (rows : List R3), vs = [.ref p, .ref b, .ref r] ∧ H p = some (.ins C dx []) ∧ SqT K H b (bs.map V.int) ∧ RowsAt K H r rows ∧ Fair bs rows ∧
  ∀ (cs : List Int) H', HouseAt K C (fun q => H q ≠ none) H' p b r bs rows cs → Else p H H' → Q .non H'
def placeP (bs cs : List Int) (n : Int) : Int :=
  (n / (borneP bs cs).sum * (cs.length : Int) + (lna (sumsP (borneP bs cs)) (n % (borneP bs cs).sum) : Nat)) * bs.getLastD 1 +
    (cs.getD (lna (sumsP (borneP bs cs)) (n % (borneP bs cs).sum)) 0 + n % (borneP bs cs).sum - (sumsP (borneP bs cs)).getD (lna (sumsP (borneP bs cs)) (n % (borneP bs cs).sum)) 0)
def spPlaceM (K : PySem.W.Frag) (C : Addr) : Sp := fun vs H Q _ => ∃ (old : Addr → Prop) (p b r : Addr) (bs : List Int) (rows : List R3) (cs : List Int) (n : Int), vs = [.ref p, .int n] ∧ HouseAt K C old H p b r bs rows cs ∧ 0 ≤ n ∧ ∀ H', Same H H' → Q (.int (placeP bs cs n)) H'
def spLabelM (K : PySem.W.Frag) (C : Addr) : Sp := fun vs H Q _ => ∃ (old : Addr → Prop) (p b r : Addr) (bs : List Int) (rows : List R3) (cs : List Int) (n : Int), vs = [.ref p, .int n] ∧ HouseAt K C old H p b r bs rows cs ∧ 0 ≤ n ∧
  ∀ (t : Addr) H', Same H H' → H t = none → H' t = some (.tup ((labelP bs (placeP bs cs n)).map V.int)) → Q (.ref t) H'
structure HouseTxt (K : PySem.W.Frag) (mg : Str → Option Value) (C : Addr) : Prop where
  cl : Cls K C
  nB : NoAttr K C "_bases"
  nR : NoAttr K C "_rows"
  nT : NoAttr K C "_text"
  nS : NoAttr K C "_skipped"
  nA : NoAttr K C "_frames_ahead"
  nD : NoAttr K C "_round"
  mgC : mg "House" = some (.ref C)
theorem pf_len {f : Str} {v : V} : ∀ {fs : List (Str × V)} {n : Nat}, fs.length ≤ n → (putF f v fs).length ≤ n + 1
  | [], _, _ => Nat.succ_le_succ (Nat.zero_le _)
  | (g, x) :: fs, n, h => by
    unfold putF
    split
    · exact Nat.le_succ_of_le h
    · have h2 : fs.length + 1 ≤ n := h
      obtain ⟨m, rfl⟩ : ∃ m, n = m + 1 := ⟨n - 1, by omega⟩
      exact Nat.succ_le_succ (pf_len (show fs.length ≤ m by omega))
theorem few0 : ([] : List (Str × V)).length < 1000 := by decide
theorem few1 {f1 : Str} {v1 : V} : (putF f1 v1 []).length < 1000 := Nat.lt_of_le_of_lt (pf_len (Nat.le_refl 0)) (by decide)
theorem few2 {f1 f2 : Str} {v1 v2 : V} : (putF f2 v2 (putF f1 v1 [])).length < 1000 := Nat.lt_of_le_of_lt (pf_len (pf_len (Nat.le_refl 0))) (by decide)
theorem few3 {f1 f2 f3 : Str} {v1 v2 v3 : V} : (putF f3 v3 (putF f2 v2 (putF f1 v1 []))).length < 1000 := Nat.lt_of_le_of_lt (pf_len (pf_len (pf_len (Nat.le_refl 0)))) (by decide)
theorem few4 {f1 f2 f3 f4 : Str} {v1 v2 v3 v4 : V} : (putF f4 v4 (putF f3 v3 (putF f2 v2 (putF f1 v1 [])))).length < 1000 := Nat.lt_of_le_of_lt (pf_len (pf_len (pf_len (pf_len (Nat.le_refl 0))))) (by decide)
theorem few5 {f1 f2 f3 f4 f5 : Str} {v1 v2 v3 v4 v5 : V} : (putF f5 v5 (putF f4 v4 (putF f3 v3 (putF f2 v2 (putF f1 v1 []))))).length < 1000 := Nat.lt_of_le_of_lt (pf_len (pf_len (pf_len (pf_len (pf_len (Nat.le_refl 0)))))) (by decide)
theorem every_dvd {rows : List R3} : ∀ (e : Nat), e ∣ rows.foldl everyStep e := by
  induction rows with
  | nil => exact fun e => Nat.dvd_refl e
  | cons x rows ih =>
    intro e
    rw [List.foldl_cons]
    refine Nat.dvd_trans ?_ (ih _)
    unfold everyStep
    split
    · exact Nat.dvd_lcm_left _ _
    · exact Nat.dvd_refl e
theorem mul_dvd : ∀ (l : List Int) (a : Nat), a ∣ l.foldl (fun a b => a * b.toNat) a
  | [], a => Nat.dvd_refl a
  | b :: l, a => Nat.dvd_trans (Nat.dvd_mul_right a b.toNat) (mul_dvd l _)
theorem mul_scale : ∀ (l : List Int) (a : Nat), l.foldl (fun a b => a * b.toNat) a = a * l.foldl (fun a b => a * b.toNat) 1
  | [], a => (Nat.mul_one a).symm
  | b :: l, a => by
    rw [List.foldl_cons, List.foldl_cons, mul_scale l (a * b.toNat), mul_scale l (1 * b.toNat), Nat.one_mul, Nat.mul_assoc]
theorem unitP_dvd (bs : List Int) (f : Nat) : unitP bs f ∣ unitP bs 0 := by
  unfold unitP
  rw [List.drop_zero]
  conv => rhs; rw [← List.take_append_drop f bs.dropLast, List.foldl_append, mul_scale]
  exact Nat.dvd_mul_left _ _
theorem spanP_dvd {bs : List Int} {rows : List R3} {x : R3} (bb : ∀ x ∈ bs, 2 ≤ x ∧ x ≤ 60) (ro : ∀ x ∈ rows, RowOk 60 bs x) (hx : x ∈ rows) : spanP bs x (groupsP bs rows) ∣ groupsP bs rows := by
  unfold spanP
  split
  · exact Nat.dvd_refl _
  · exact Nat.dvd_trans (unitP_dvd bs _) (Nat.dvd_mul_right _ _)
section
variable {P : Program} {w : World} {K : PySem.W.Frag} {mg : Str → Option Value} {base : Heap}
/-- a def with defaults that lets nothing out -/
theorem funD_ok {x qual : Str} {params : Arguments} {body : List Stmt} {scope : Scope} {dvs : List V} {kws : List (Str × V)} {f : Addr} {fd : FuncData} {NN ps : List Str} {k : Nat} {sp : Sp} (F : FunD K x qual params body scope dvs kws f fd) (S : FnScope NN ps scope) (hlen : ∀ vs H Q E, sp vs H Q E → vs.length = ps.length)
    (hbd : ∀ (cdv : Value) (A : Around) (outer : List Env) (s : Shared) (H : Hp) (vs : List V) (Q : VK) (E : XK), Room k (A.deeper (envOfC qual scope s.heap.objs.size f cdv)) → sp vs H Q E →
      ∃ t, PSs (Cx.nox (cxOf CX0 P w K mg base NN qual scope f cdv A outer s H E)) body t ∧ t { nx := fun _ H' => Q .non H', rt := Q } (start NN vs) H) : FnOk P w K mg base CX0 (k + 1) f fd ps sp := by
  refine F.ok S hlen fun cdv A outer s H vs Q E hr h => ?_
  obtain ⟨t, ht, q⟩ := hbd cdv A outer s H vs Q E hr h
  exact ⟨t, ht.nox, q⟩
theorem ok_init {f C : Addr} {fd : FuncData} {dv : List V} (F : FunD K "__init__" "House.__init__" (defArgs sHouse__init_) (defBody sHouse__init_) (defScope sHouse__init_) dv [] f fd) (T : HouseTxt K mg C) (N : Names mg) (M : Consts mg)
    (Dcheck_bases : DefK P w K mg base "check_bases" ["bases"] 3 (spChkBases K)) (Dcheck_rows : DefK P w K mg base "check_rows" ["bases", "rows"] 4 (spChkRows K)) (Dgroups_to_repeat : DefK P w K mg base "groups_to_repeat" ["bases", "rows"] 2 (spRepeat K))
    (Dskipped_counts : DefK P w K mg base "skipped_counts" ["bases", "rows", "groups"] 3 (spSkipped K)) (Dhouse_text : DefK P w K mg base "house_text" ["bases", "rows"] 2 (spHouseText K)) (Dleast_repeat : DefK P w K mg base "least_repeat" ["counts"] 1 (spLeast K))
    (Dsums_ahead : DefK P w K mg base "sums_ahead" ["numbers"] 1 (spSums K)) : FnOk P w K mg base CX0 5 f fd ["self", "bases", "rows"] (spInit K C) := by
  have sc := scHouse__init_
  refine funD_ok F sc (fun vs H Q E h => ?_) (fun cdv A outer s H vs Q E hr h => ?_)
  · obtain ⟨p, dx, b, r, bs, rows, rfl, _⟩ := h
    rfl
  · obtain ⟨p, dx, b, r, bs, rows, rfl, hp, hb, hR, fr, k⟩ := h
    obtain ⟨b0, b3, bb, r6, ro, gr⟩ := id fr
    refine ⟨_, (pss_cons (ps_expr (pe_d Dcheck_bases (hr.mono (by decide)) rfl (pa_cons (pv 1) pa_nil)))
      (pss_cons (ps_expr (pe_d Dcheck_rows (hr.mono (by decide)) rfl (pa_cons (pv 1) (pa_cons (pv 2) pa_nil))))
      (pss_cons (ps_set (i := 3) sc.nd rfl (Or.inl rfl) (pe_d Dgroups_to_repeat (hr.mono (by decide)) rfl (pa_cons (pv 1) (pa_cons (pv 2) pa_nil))))
      (pss_cons (ps_if (pt_cmpR op_gt (pv 3) (pe_const rfl M.MOST_GROUPS) (nomark _)) (pss_one ps_never) pss_nil)
      (pss_cons (ps_set (i := 4) sc.nd rfl (Or.inl rfl) (pe_d Dskipped_counts (hr.mono (by decide)) rfl (pa_cons (pv 1) (pa_cons (pv 2) (pa_cons (pv 3) pa_nil)))))
      (pss_cons (ps_fld (pv 0) (pv 1) rfl)
      (pss_cons (ps_fld (pv 0) (pv 2) rfl)
      (pss_cons (ps_fld (pv 0) (pe_d Dhouse_text (hr.mono (by decide)) rfl (pa_cons (pv 1) (pa_cons (pv 2) pa_nil))) rfl)
      (pss_cons (ps_fld (pv 0) (pe_slice sl_list (pv 4) po_none (po_some (pe_d Dleast_repeat (hr.mono (by decide)) rfl (pa_cons (pv 4) pa_nil)))) rfl)
      (pss_cons (ps_setLc (i := 5) (own := [("count", 6)]) rfl sc.nd rfl rfl (sw_true rfl rfl rfl (by decide +kernel)) (pi_list (pe_fld (pv 0) rfl)) (blkOk_by (own := [("count", 6)]) (N := ["self", "bases", "rows", "groups", "counts", "borne", "count"]) (sc := defScope (inClass (topS 57) 0)) (by decide +kernel)) (fun _ _ _ _ _ => (pg_name (i := 6) sc.nd rfl (Or.inl rfl))) (fun _ _ _ _ _ => pts_nil) (fun _ _ _ _ _ => (pe_op op_sub (pe_ix (show IxR _ (rIxT K) from ix_tup) (pv 1) (pe_un un_neg pe_int) (fun _ _ => rfl)) (pv 6))))
      (pss_cons (ps_fld (pv 0) (pe_d Dsums_ahead (hr.mono (by decide)) rfl (pa_cons (pv 5) pa_nil)) rfl)
      (pss_one (ps_fld (pv 0) (pe_tup (pa_cons (pe_callB call_len_seq (by rfl) N.len (by decide +kernel) (pa_cons (pv 5) pa_nil)) (pa_cons (pe_callB (cr_sum rfl) (by rfl) N.sum (by decide +kernel) (pa_cons (pv 5) pa_nil)) pa_nil))) rfl))))))))))))), ?_⟩
    have hlast := bb _ (lastD_mem b0)
    refine ⟨_, rfl, b, bs, rfl, hb, b0, b3, bb, fun H1 s1 => ?_⟩
    refine ⟨_, rfl, _, rfl, b, r, bs, rows, rfl, Same.seqT s1 hb, b0, hR.same s1, r6, ro, fun H2 s2 => ?_⟩
    have s02 := s1.trans s2
    have hev : everyL rows ≤ 7200 := Nat.le_trans (Nat.le_mul_of_pos_left _ (unitP_pos bb 0)) gr
    refine ⟨_, rfl, _, rfl, b, r, bs, rows, rfl, Same.seqT s02 hb, b0, b3, bb, hR.same s02, ro, by omega, fun H3 s3 => ?_⟩
    have s03 := s02.trans s3
    have gr' : ((unitP bs 0 * everyL rows : Nat) : Int) ≤ 7200 := by
      have : unitP bs 0 * everyL rows ≤ 7200 := gr
      omega
    have g1 : 1 ≤ groupsP bs rows := Nat.mul_pos (unitP_pos bb 0) (every_mono rows 1 (by decide) fun x hx => (ro x hx).2.2.1)
    refine ⟨_, rfl, _, _, rfl, rfl, _, rfl, ?_⟩
    refine ifD (fun hd => absurd hd (Int.not_lt.mpr gr')) (fun _ => ?_)
    refine ⟨_, rfl, _, rfl, _, rfl, b, r, bs, rows, groupsP bs rows, rfl, Same.seqT s03 hb, b0, b3, bb, hR.same s03, ro, g1, gr, fun x hx => spanP_dvd bb ro hx, fun l H4 s4 nl el => ?_⟩
    have s04 := s03.trans s4
    have hp4 := s04 _ _ hp
    have hb4 := Same.seqT s04 hb
    have hR4 := hR.same s04
    have npl : l ≠ p := fun z => by rw [z, s03 _ _ hp] at nl; cases nl
    refine ⟨_, rfl, _, rfl, p, C, dx, _, rfl, hp4, T.cl, T.nB, few0, ?_⟩
    (generalize e_f : upd H4 p _ = H5; have hp5 := (congrFun e_f p).symm.trans upd_same; have x5 : Else p H4 H5 := e_f ▸ els_upd; clear e_f)
    refine ⟨_, rfl, _, rfl, p, C, dx, _, rfl, hp5, T.cl, T.nR, few1, ?_⟩
    (generalize e_f : upd H5 p _ = H6; have hp6 := (congrFun e_f p).symm.trans upd_same; have x6 : Else p H5 H6 := e_f ▸ els_upd; clear e_f)
    have x46 := x5.trans x6
    have hb6 := els_seqT hp4 x46 hb4
    have hR6 := els_rows hp4 x46 hR4
    refine ⟨_, rfl, _, rfl, b, r, bs, rows, rfl, hb6, b3, (fun x hx => ⟨by have := bb x hx; omega, (bb x hx).2⟩), hR6, r6, ro, (fun x hx => by have := (ro x hx).2.2.2.2.2; omega), fun H7 s7 => ?_⟩
    have hp7 := s7 _ _ hp6
    refine ⟨_, rfl, p, C, dx, _, rfl, hp7, T.cl, T.nT, few2, ?_⟩
    (generalize e_f : upd H7 p _ = H8; have hp8 := (congrFun e_f p).symm.trans upd_same; have x8 : Else p H7 H8 := e_f ▸ els_upd; clear e_f)
    have x48 := (x46.trans (Same.els s7)).trans x8
    have el8 := x48 _ _ npl el
    have cl := countsP_len bs rows (groupsP bs rows)
    refine ⟨_, rfl, _, rfl, l, _, rfl, SqL.lst el8, by omega, by omega, fun kk H9 s9 rep => ?_⟩
    have hp9 := s9 _ _ hp8
    have x49 := x48.trans (Same.els s9)
    refine ⟨_, rfl, l, _, rfl, SqL.lst (s9 _ _ el8), ?_⟩
    (intro sk nsk; generalize e_sk : upd H9 sk _ = H10; have s10 : Same H9 H10 := fun b x hb => (congrFun e_sk b).symm.trans (same_new nsk b x hb); have h10 := (congrFun e_sk sk).symm.trans upd_same; clear e_sk)
    have h10' : H10 sk = some (.lst (((countsP bs rows (groupsP bs rows)).take kk).map V.int)) := by rw [h10, cut_to, List.map_take]
    generalize hcs : (countsP bs rows (groupsP bs rows)).take kk = cs at h10'
    have hp10 := s10 _ _ hp9
    have nks : sk ≠ p := fun z => by rw [z, hp9] at nsk; cases nsk
    refine ⟨_, rfl, p, C, dx, _, rfl, hp10, T.cl, T.nS, few3, ?_⟩
    (generalize e_f : upd H10 p _ = H11; have hp11 := (congrFun e_f p).symm.trans upd_same; have x11 : Else p H10 H11 := e_f ▸ els_upd; clear e_f)
    have x411 := (x49.trans (Same.els s10)).trans x11
    have h11 := x11 _ _ nks h10'
    have hb11 := els_seqT hp4 x411 hb4
    have hR11 := els_rows hp4 x411 hR4
    have hkk : kk ≤ groupsP bs rows := by have := rep.2.1; omega
    have hcl : cs.length = kk := by rw [← hcs, List.length_take, countsP_len]; omega
    refine ⟨_, rfl, p, C, dx, _, _, rfl, hp11, T.cl, T.nS, (by rw [lookup_putF, if_pos rfl]), sk, rfl, ⟨_, SqL.lst h11⟩, ?_⟩
    intro D nD
    refine lc_list (K := K) (xs := cs.map V.int) (fun i H' => Same H11 H' ∧ H' D = some (.lst ((borneP bs (cs.take i)).map V.int))) ⟨same_new nD, upd_same⟩ (fun i H' _ ⟨s, _⟩ => s.seq (SqL.lst h11)) ?_ ?_
    · rintro i x H' hx ⟨sm, eD⟩
      obtain ⟨c, hc, rfl⟩ : ∃ b, cs[i]? = some b ∧ x = V.int b := by
        rw [List.getElem?_map] at hx
        obtain ⟨z, hz, e⟩ := Option.map_eq_some_iff.mp hx
        exact ⟨z, hz, e.symm⟩
      refine ⟨rfl, ?_⟩
      have hcm := counts_in b0 bb ro c (by rw [← hcs] at hc; exact List.mem_of_mem_take (List.mem_of_getElem? hc))
      refine ⟨_, rfl, _, rfl, b, _, _, _, rfl, rfl, els_seqT hp11 (Same.els sm) hb11, getLastD_map bs b0, _, rfl, _, _, rfl, rfl, _, eD, smallLt (by unfold borneP; rw [List.length_map, List.length_map, List.length_take]; omega), same_mut sm nD, ?_⟩
      rw [upd_same]
      unfold borneP
      rw [List.take_add_one, hc, List.map_append, List.map_append]
      rfl
    · rintro H12 ⟨sm, eD⟩
      rw [List.take_of_length_le (by rw [List.length_map]; exact Nat.le_refl _)] at eD
      have hp12 := sm _ _ hp11
      have hbl : (borneP bs cs).length = cs.length := by unfold borneP; exact List.length_map ..
      refine ⟨_, rfl, D, borneP bs cs, rfl, SqL.lst eD, by omega, fun ah H13 s13 nah eah => ?_⟩
      have hp13 := s13 _ _ hp12
      have nap : ah ≠ p := fun z => by rw [z, hp12] at nah; cases nah
      have nDp : D ≠ p := fun z => by rw [z, hp11] at nD; cases nD
      refine ⟨_, rfl, p, C, dx, _, rfl, hp13, T.cl, T.nA, few4, ?_⟩
      (generalize e_f : upd H13 p _ = H14; have hp14 := (congrFun e_f p).symm.trans upd_same; have x14 : Else p H13 H14 := e_f ▸ els_upd; clear e_f)
      have eD14 := x14 _ _ nDp (s13 _ _ eD)
      refine ⟨_, rfl, D, _, rfl, .inl (SqL.lst eD14), _, rfl, D, _, rfl, SqL.lst eD14, small (Nat.le_of_ble_eq_true rfl), ?_⟩
      (intro rd nrd; generalize e_rd : upd H14 rd _ = H15; have s15 : Same H14 H15 := fun b x hb => (congrFun e_rd b).symm.trans (same_new nrd b x hb); have h15 := (congrFun e_rd rd).symm.trans upd_same; clear e_rd)
      have hp15 := s15 _ _ hp14
      have nrp : rd ≠ p := fun z => by rw [z, hp14] at nrd; cases nrd
      refine ⟨_, rfl, p, C, dx, _, rfl, hp15, T.cl, T.nD, few5, ?_⟩
      (generalize e_f : upd H15 p _ = H16; have hp16 := (congrFun e_f p).symm.trans upd_same; have x16 : Else p H15 H16 := e_f ▸ els_upd; clear e_f)
      have x1116 : Else p H11 H16 := (((Same.els (sm.trans s13)).trans x14).trans (Same.els s15)).trans x16
      have x412 : Else p H H12 := ((Same.els s04).trans x411).trans (Same.els sm)
      refine k cs H16 ⟨⟨dx, sk, ah, rd, hp16, x1116 _ _ nks h11, x16 _ _ nap (s15 _ _ (x14 _ _ nap eah)), ?_, fun z => z (els_free ((Same.els s04).trans x49) nks nsk), fun z => z (els_free x412 nap nah)⟩, els_seqT hp11 x1116 hb11, els_rows hp11 x1116 hR11, fr, kk, rep, hcs.symm⟩ ((Same.els s04).trans (x411.trans x1116))
      rw [x16 _ _ nrp h15, List.length_map, hbl]
theorem ok_placeborne {f C : Addr} {fd : FuncData} (F : Fun K "_place_borne" "House._place_borne" sHouse_place_borne f fd) (T : HouseTxt K mg C) (N : Names mg) (Dlast_not_above : DefK P w K mg base "last_not_above" ["ascending", "number"] 1 (spLna K)) : FnOk P w K mg base CX0 2 f fd ["self", "frame"] (spPlaceM K C) := by
  have sc := scHouse_place_borne
  refine F.ok sc (fun vs H Q E h => ?_) (fun cdv A outer s H vs Q E hr h => ?_)
  · obtain ⟨old, p, b, r, bs, rows, cs, n, rfl, _⟩ := h
    rfl
  · obtain ⟨old, p, b, r, bs, rows, cs, n, rfl, ⟨⟨dx, sk, ah, rd, e1, e2, e3, e4, _, _⟩, bt, rt, fr, kk, rep, hcs⟩, hn, k⟩ := h
    refine ⟨_, (pss_cons (ps_asg (pe_fld (pv 0) rfl) (pg_tup rfl (pgs_cons (pg_name (i := 2) sc.nd rfl (Or.inl rfl)) (pgs_cons (pg_name (i := 3) sc.nd rfl (Or.inl rfl)) pgs_nil))))
      (pss_cons (ps_asg (pe_callB call_divmod (by rfl) N.divmod (by decide +kernel) (pa_cons (pv 1) (pa_cons (pv 3) pa_nil))) (pg_tup rfl (pgs_cons (pg_name (i := 4) sc.nd rfl (Or.inl rfl)) (pgs_cons (pg_name (i := 5) sc.nd rfl (Or.inl rfl)) pgs_nil))))
      (pss_cons (ps_set (i := 6) sc.nd rfl (Or.inl rfl) (pe_d Dlast_not_above (hr.mono (by decide)) rfl (pa_cons (pe_fld (pv 0) rfl) (pa_cons (pv 5) pa_nil))))
      (pss_cons (ps_set (i := 7) sc.nd rfl (Or.inl rfl) (pe_op op_sub (pe_op op_add (pe_ix ix_list (pe_fld (pv 0) rfl) (pv 6) (fun _ _ => rfl)) (pv 5)) (pe_ix ix_list (pe_fld (pv 0) rfl) (pv 6) (fun _ _ => rfl))))
      (pss_one (ps_ret (pe_op op_add (pe_op op_mul (pe_op op_add (pe_op op_mul (pv 4) (pv 2)) (pv 6)) (pe_ix ix_tup (pe_fld (pv 0) rfl) (pe_un un_neg pe_int) (fun _ _ => rfl))) (pv 7)))))))), ?_⟩
    obtain ⟨c1, c2, c3, c4⟩ := cs_facts fr rep hcs
    have lv := lna_lt (sumsP (borneP bs cs)) (n % (borneP bs cs).sum) (by rw [sumsP_len, borneP_len]; omega)
    rw [sumsP_len, borneP_len] at lv
    refine ⟨_, rfl, p, C, dx, _, _, rfl, e1, T.cl, T.nD, hf_round _ _ _ _ _ _, rd, _, rfl, SqT.tup e4, rfl, _, _, rfl, _, _, rfl, rfl, ?_⟩
    refine ⟨_, rfl, _, rfl, _, _, rfl, ⟨by omega, by omega⟩, ?_⟩
    (intro q nq; generalize e_q : upd H q _ = H1; have s1 : Same H H1 := fun b x hb => (congrFun e_q b).symm.trans (same_new nq b x hb); have h1 := (congrFun e_q q).symm.trans upd_same; clear e_q)
    have e1' := s1 _ _ e1
    have e2' := s1 _ _ e2
    have e3' := s1 _ _ e3
    refine ⟨q, _, rfl, SqT.tup h1, rfl, _, _, rfl, _, _, rfl, rfl, ?_⟩
    refine ⟨_, rfl, p, C, dx, _, _, rfl, e1', T.cl, T.nA, hf_ahead _ _ _ _ _ _, _, rfl, ah, _, _, rfl, SqL.lst e3', (by rw [sumsP_len, borneP_len]; exact c1), (by rw [sumsP_len, borneP_len]; omega), ?_⟩
    refine ⟨_, rfl, p, C, dx, _, _, rfl, e1', T.cl, T.nS, hf_skipped _ _ _ _ _ _, _, rfl, sk, _, _, _, rfl, rfl, SqL.lst e2', atI_getD (by omega) (by omega), _, rfl, _, _, rfl, rfl, ?_⟩
    refine ⟨_, rfl, p, C, dx, _, _, rfl, e1', T.cl, T.nA, hf_ahead _ _ _ _ _ _, _, rfl, ah, _, _, _, rfl, rfl, SqL.lst e3', atI_getD (by omega) (by rw [sumsP_len, borneP_len]; omega), _, _, rfl, rfl, ?_⟩
    have hlast := fr.bb _ (lastD_mem fr.b0)
    refine ⟨_, rfl, _, rfl, _, _, rfl, rfl, .inr ⟨by omega, by omega⟩, _, rfl, _, _, rfl, rfl, ?_⟩
    refine ⟨_, rfl, p, C, dx, _, _, rfl, e1', T.cl, T.nB, hf_bases _ _ _ _ _ _, _, rfl, b, _, _, _, rfl, rfl, Same.seqT s1 bt, getLastD_map bs fr.b0, _, _, rfl, rfl, .inr ⟨by omega, by omega⟩, _, rfl, _, _, rfl, rfl, ?_⟩
    exact k _ s1
theorem ok_placeM {f C fP : Addr} {fd fdP : FuncData} (F : Fun K "place" "House.place" sHouse_place f fd) (T : HouseTxt K mg C) (Dcheck_number : DefK P w K mg base "check_number" ["given"] 3 spChkNum)
    (mP : Meth K C "_place_borne" fP) (GP : FnOk P w K mg base CX0 2 fP fdP ["self", "frame"] (spPlaceM K C)) (bP : Binds K fdP ["self", "frame"] []) : FnOk P w K mg base CX0 4 f fd ["self", "frame"] (spPlaceM K C) := by
  have sc := scHouse_place
  refine F.ok sc (fun vs H Q E h => ?_) (fun cdv A outer s H vs Q E hr h => ?_)
  · obtain ⟨old, p, b, r, bs, rows, cs, n, rfl, _⟩ := h
    rfl
  · obtain ⟨old, p, b, r, bs, rows, cs, n, rfl, hH, hn, k⟩ := h
    refine ⟨_, (pss_cons (ps_expr (pe_d Dcheck_number (hr.mono (by decide)) rfl (pa_cons (pv 1) pa_nil)))
      (pss_one (ps_ret (pe_meth (pv 0) T.cl mP GP (hr.mono (by decide)) bP .nil pass0 (pa_cons (pv 1) pa_nil))))), ?_⟩
    obtain ⟨dx, sk, ah, rd, e1, e2, e3, e4, _, _⟩ := hH.ob
    refine ⟨_, rfl, n, rfl, hn, ?_⟩
    exact ⟨_, rfl, p, dx, _, rfl, e1, hf_place _ _ _ _ _ _, _, rfl, old, p, b, r, bs, rows, cs, n, rfl, hH, hn, k⟩
theorem ok_labelM {f C fP : Addr} {fd fdP : FuncData} (F : Fun K "label" "House.label" sHouse_label f fd) (T : HouseTxt K mg C) (Dcheck_number : DefK P w K mg base "check_number" ["given"] 3 spChkNum) (Dlabel_at : DefK P w K mg base "label_at" ["bases", "place"] 1 (spLabelAt K))
    (mP : Meth K C "_place_borne" fP) (GP : FnOk P w K mg base CX0 2 fP fdP ["self", "frame"] (spPlaceM K C)) (bP : Binds K fdP ["self", "frame"] []) : FnOk P w K mg base CX0 4 f fd ["self", "frame"] (spLabelM K C) := by
  have sc := scHouse_label
  refine F.ok sc (fun vs H Q E h => ?_) (fun cdv A outer s H vs Q E hr h => ?_)
  · obtain ⟨old, p, b, r, bs, rows, cs, n, rfl, _⟩ := h
    rfl
  · obtain ⟨old, p, b, r, bs, rows, cs, n, rfl, hH, hn, k⟩ := h
    refine ⟨_, (pss_cons (ps_expr (pe_d Dcheck_number (hr.mono (by decide)) rfl (pa_cons (pv 1) pa_nil)))
      (pss_one (ps_ret (pe_d Dlabel_at (hr.mono (by decide)) rfl (pa_cons (pe_fld (pv 0) rfl) (pa_cons (pe_meth (pv 0) T.cl mP GP (hr.mono (by decide)) bP .nil pass0 (pa_cons (pv 1) pa_nil)) pa_nil)))))), ?_⟩
    obtain ⟨dx, sk, ah, rd, e1, e2, e3, e4, _, _⟩ := hH.ob
    refine ⟨_, rfl, n, rfl, hn, ?_⟩
    refine ⟨_, rfl, p, C, dx, _, _, rfl, e1, T.cl, T.nB, hf_bases _ _ _ _ _ _, ?_⟩
    refine ⟨_, rfl, p, dx, _, rfl, e1, hf_place _ _ _ _ _ _, _, rfl, old, p, b, r, bs, rows, cs, n, rfl, hH, hn, fun H1 s1 => ?_⟩
    refine ⟨b, bs, _, rfl, Same.seqT s1 hH.bt, hH.fair.b3, hH.fair.bb, fun t H2 s2 nt et => ?_⟩
    exact k t H2 (s1.trans s2) (s1.free nt) et
end
end LM

set_option Elab.async false
set_option linter.all false
set_option maxRecDepth 100000
set_option maxHeartbeats 4000000
set_option pp.maxSteps 600
set_option pp.deepTerms false
namespace LM
open PySem PySem.Spec PyProof.Rows L2
local macro_rules | `(tactic| walk_at "hp") => `(tactic| first | assumption | exact upd_same | (rw [upd_ne (by assumption)]; assumption) | (rw [upd_ne (Ne.symm (by assumption))]; assumption) | (rw [upd_ne (by assumption)]; exact upd_same) | (rw [upd_ne (Ne.symm (by assumption))]; exact upd_same))
local macro_rules | `(tactic| walk_at "sq") => `(tactic| first | assumption | exact Or.inl (Or.inl (by assumption)) | exact Or.inl (Or.inl upd_same) | exact Or.inl (Or.inl (by walk_at "hp")))
local macro_rules | `(tactic| walk_at "ixl") => `(tactic| refine ⟨_, _, _, _, rfl, rfl, (by walk_at "sq"), (by rfl), ?_⟩)
local macro_rules | `(tactic| walk_at "setl") => `(tactic| refine ⟨_, _, _, _, rfl, rfl, (by walk_at "hp"), (by rfl), ?_⟩)
local macro_rules | `(tactic| walk_at "side") => `(tactic| refine idP ?_; first | omega | (show (0 : Int) < _; omega) | (show (0 : Int) < _ ∧ _ < _; omega) | (refine Or.inr ?_; show (-(2 ^ 64) : Int) < _ ∧ _ < _; omega) | (refine Or.inl ?_; show (-(2 ^ 64) : Int) < _ ∧ _ < _; omega) | exact divW (by omega) (by omega) _ | (refine ⟨by decide, by decide, ?_⟩; decide))
local macro_rules | `(tactic| walk_at "go1") => `(tactic| first
  | refine ⟨_, rfl, ?_⟩
  | refine ⟨_, _, rfl, rfl, (by walk_at "side"), ?_⟩
  | refine ⟨_, _, rfl, (by walk_at "side"), ?_⟩
  | refine ⟨_, _, rfl, rfl, ?_⟩
  | refine Or.inl ⟨_, rfl, ?_⟩
  | refine ⟨_, _, rfl, Or.inl (by walk_at "sq"), ?_⟩
  | walk_at "ixl"
  | walk_at "setl"
  | refine ⟨_, _, rfl, (by walk_at "sq"), rfl, ?_⟩
  | refine ⟨_, _, rfl, (by walk_at "sq"), ?_⟩
  | refine ⟨_, _, rfl, ?_⟩
  | refine ⟨rfl, ?_⟩
  | refine ⟨small (Nat.le_of_ble_eq_true rfl), ?_⟩)
local macro_rules | `(tactic| walk_at "go") => `(tactic| repeat walk_at "go1")

theorem DGet.some {H : Hp} {d : Addr} {kvs : List (Key × V)} {s : Str} {v : V} (h : H d = Option.some (.dK kvs)) (e : valV kvs (Sum.inr s : Key) = Option.some v) : DGet H d (.str s) (Option.some v) := by
  have := DGet.k (k := Sum.inr s) h
  rw [e] at this
  exact this
/-- tuple of a list or a tuple -/
def rTupOf (K : PySem.W.Frag) : List V → Hp → VK → Prop := fun xs H Q => ∃ p ys, xs = [.ref p] ∧ ((SqL K H p ys ∧ ∀ l, H l = none → Q (.ref l) (upd H l (.tup ys))) ∨ (SqT K H p ys ∧ Q (.ref p) H))
/-- the law's own house at d, as far as it is asked for its bases and rows -/
def HomeD (H : Hp) (d g l : Addr) : Prop := ∃ n s b : V, H d = some (.dK [(Sum.inr "ground", .ref g), (Sum.inr "lanes", .ref l), (Sum.inr "groups", n), (Sum.inr "spots", s), (Sum.inr "below", b)])
theorem HomeAt.els {old : Addr → Prop} {H H' : Hp} {d g l q : Addr} {gs : List Int} {rows : List R3} (h : HomeAt old H d g l gs rows) (n : d ≠ q) (hq : old q) (e : Else q H H') : HomeAt old H' d g l gs rows := by
  obtain ⟨s, b, cs, m, e1, e2, e3, e4, e5, e6, e7⟩ := h
  exact ⟨s, b, cs, m, e _ _ n e1, e2, e3, e _ _ (fun z => e6 (z ▸ hq)) e4, e _ _ (fun z => e7 (z ▸ hq)) e5, e6, e7⟩
theorem HomeAt.same {old : Addr → Prop} {H H' : Hp} {d g l : Addr} {gs : List Int} {rows : List R3} (h : HomeAt old H d g l gs rows) (s : Same H H') : HomeAt old H' d g l gs rows := by
  obtain ⟨x, b, cs, m, e1, e2, e3, e4, e5, e6, e7⟩ := h
  exact ⟨x, b, cs, m, s _ _ e1, e2, e3, s _ _ e4, s _ _ e5, e6, e7⟩
theorem HomeAt.dict {old : Addr → Prop} {H : Hp} {d g l : Addr} {gs : List Int} {rows : List R3} (h : HomeAt old H d g l gs rows) : HomeD H d g l := by
  obtain ⟨s, b, cs, n, e, _⟩ := h
  exact ⟨_, _, _, e⟩
theorem HomeD.els {H H' : Hp} {p d g l : Addr} (h : HomeD H d g l) (n : d ≠ p) (e : Else p H H') : HomeD H' d g l := by
  obtain ⟨x, s, b, ed⟩ := h
  exact ⟨x, s, b, e _ _ n ed⟩
theorem HouseAt.weak {K : PySem.W.Frag} {C : Addr} {o1 o2 : Addr → Prop} {H : Hp} {p b r : Addr} {bs : List Int} {rows : List R3} {cs : List Int} (h : HouseAt K C o1 H p b r bs rows cs) (i : ∀ q, o2 q → o1 q) : HouseAt K C o2 H p b r bs rows cs := by
  obtain ⟨⟨dx, sk, ah, rd, e1, e2, e3, e4, e5, e6⟩, h2, h3, h4, h5⟩ := h
  exact ⟨⟨dx, sk, ah, rd, e1, e2, e3, e4, fun z => e5 (i _ z), fun z => e6 (i _ z)⟩, h2, h3, h4, h5⟩
/-- a list at q that is no part of the house changes: the house stays -/
theorem HouseAt.els {K : PySem.W.Frag} {C : Addr} {old : Addr → Prop} {H H' : Hp} {q p b r : Addr} {bs : List Int} {rows : List R3} {cs : List Int} {ys : List V} (h : HouseAt K C old H p b r bs rows cs) (hq : H q = some (.lst ys)) (ho : old q) (e : Else q H H') : HouseAt K C old H' p b r bs rows cs := by
  obtain ⟨⟨dx, sk, ah, rd, e1, e2, e3, e4, e5, e6⟩, h2, ⟨as, h3, h3'⟩, h4, h5⟩ := h
  have tup : ∀ {a : Addr} {xs : List V}, SqT K H a xs → SqT K H' a xs := by
    intro a xs z
    rcases z with (z | ⟨o, z⟩) | z
    · exact .inl (.inl (e _ _ (fun y => by rw [y, hq] at z; cases z) z))
    · exact .inl (.inr ⟨o, e _ _ (fun y => by rw [y, hq] at z; cases z) z⟩)
    · exact .inr z
  refine ⟨⟨dx, sk, ah, rd, e _ _ (fun y => by rw [y, hq] at e1; cases e1) e1, e _ _ (fun y => e5 (y ▸ ho)) e2, e _ _ (fun y => e6 (y ▸ ho)) e3, e _ _ (fun y => by rw [y, hq] at e4; cases e4) e4, e5, e6⟩, tup h2, ⟨as, tup h3, paired_imp h3' fun a _ x z => tup z⟩, h4, h5⟩
def spBuilt (K : PySem.W.Frag) (C : Addr) : Sp := fun vs H Q _ => ∃ (d g l : Addr) (gs : List Int) (rows : List R3), vs = [.ref d] ∧ HomeD H d g l ∧ SqL K H g (gs.map V.int) ∧ LanesIn K H l rows ∧ Fair gs rows ∧
  ∀ (p b r : Addr) (cs : List Int) H', Same H H' → H p = none → HouseAt K C (fun q => H q ≠ none) H' p b r gs rows cs → Q (.ref p) H'
section
variable {P : Program} {w : World} {K : PySem.W.Frag} {mg : Str → Option Value} {base : Heap}
end
end LM

set_option Elab.async false
set_option linter.all false
set_option maxRecDepth 100000
set_option maxHeartbeats 4000000
namespace LM
open PySem PySem.Spec PyProof.Rows L2
/-! ### arithmetic of groups -/
theorem mod_two {x u e : Nat} (hu : 0 < u) : x % (u * e) = 0 ↔ x / u % e = 0 ∧ x % u = 0 := by
  rw [Nat.mod_mul]
  constructor
  · intro h
    have h1 : x % u = 0 := by omega
    have h2 : u * (x / u % e) = 0 := by omega
    exact ⟨(Nat.mul_eq_zero.mp h2).resolve_left (by omega), h1⟩
  · rintro ⟨h1, h2⟩
    rw [h1, h2, Nat.mul_zero]
theorem castmod (g e : Nat) : ((g : Int) % (e : Int) = 0) ↔ g % e = 0 := by
  rw [← Int.natCast_emod]
  omega
def fitN (gs : List Int) (r : R3) (g : Nat) : Prop := (if r.1 = 0 then g else g % unitP gs (r.1.toNat - 1)) % (unitP gs r.1.toNat * r.2.1.toNat) = 0
theorem fitL_iff (ds : List Int) (r : R3) : fitL ds r = true ↔ (ds.getD r.1.toNat 0 % r.2.1 = 0 ∧ ∀ k ∈ ds.drop (r.1.toNat + 1), k = 0) := by
  unfold fitL
  rw [Bool.and_eq_true, decide_eq_true_iff, Bool.not_eq_true', List.any_eq_false]
  constructor
  · rintro ⟨h1, h2⟩
    refine ⟨h1, fun k hk => ?_⟩
    have := h2 k hk
    simpa using this
  · rintro ⟨h1, h2⟩
    refine ⟨h1, fun k hk => ?_⟩
    simp [h2 k hk]
theorem fit_law {gs : List Int} {r : R3} (g0 : 1 ≤ gs.length) (g3 : gs.length ≤ 3) (gb : ∀ x ∈ gs, 2 ≤ x ∧ x ≤ 60) (ro : RowOk 60 gs r) (g : Nat) : fitL (digs gs (g : Int)) r = true ↔ fitN gs r g := by
  obtain ⟨f, e, c⟩ := r
  obtain ⟨o1, o2, o3, o4, _, _⟩ := ro
  dsimp only at o1 o2 o3 o4
  obtain ⟨E, rfl⟩ : ∃ E : Nat, e = (E : Int) := ⟨e.toNat, by omega⟩
  rw [fitL_iff]
  unfold fitN
  dsimp only
  rw [Int.toNat_natCast]
  match gs, g0, g3 with
  | [b], _, _ =>
    have hf : f = 0 := by simp at o2; omega
    subst hf
    show ((g : Int) % (E : Int) = 0 ∧ ∀ k ∈ [], k = 0) ↔ g % (1 * E) = 0
    rw [castmod, Nat.one_mul]
    exact ⟨fun h => h.1, fun h => ⟨h, fun _ z => nomatch z⟩⟩
  | [a, b], _, _ =>
    have ha := gb a (by simp)
    obtain ⟨A, rfl⟩ : ∃ A : Nat, a = (A : Int) := ⟨a.toNat, by omega⟩
    have hf : f = 0 ∨ f = 1 := by simp at o2; omega
    rcases hf with rfl | rfl
    · show ((g : Int) / (A : Int) % (E : Int) = 0 ∧ ∀ k ∈ [(g : Int) % (A : Int)], k = 0) ↔ g % (1 * A * E) = 0
      rw [Nat.one_mul, mod_two (by omega), ← Int.natCast_ediv, castmod, ← castmod g A]
      exact ⟨fun h => ⟨h.1, h.2 _ (List.mem_singleton.mpr rfl)⟩, fun h => ⟨h.1, fun k hk => by rw [List.mem_singleton.mp hk]; exact h.2⟩⟩
    · show ((g : Int) % (A : Int) % (E : Int) = 0 ∧ ∀ k ∈ [], k = 0) ↔ g % (1 * A) % (1 * E) = 0
      rw [Nat.one_mul, Nat.one_mul, ← Int.natCast_emod, castmod]
      exact ⟨fun h => h.1, fun h => ⟨h, fun _ z => nomatch z⟩⟩
  | [a, b, d], _, _ =>
    have ha := gb a (by simp)
    have hb := gb b (by simp)
    obtain ⟨A, rfl⟩ : ∃ A : Nat, a = (A : Int) := ⟨a.toNat, by omega⟩
    obtain ⟨B, rfl⟩ : ∃ B : Nat, b = (B : Int) := ⟨b.toNat, by omega⟩
    have hf : f = 0 ∨ f = 1 ∨ f = 2 := by simp at o2; omega
    have hAB : 0 < A * B := Nat.mul_pos (by omega) (by omega)
    rcases hf with rfl | rfl | rfl
    · show ((g : Int) / (B : Int) / (A : Int) % (E : Int) = 0 ∧ ∀ k ∈ [(g : Int) / (B : Int) % (A : Int), (g : Int) % (B : Int)], k = 0) ↔ g % (1 * A * B * E) = 0
      rw [Nat.one_mul, mod_two hAB, Nat.mul_comm A B, mod_two (show 0 < B by omega), ← Nat.div_div_eq_div_mul, ← Int.natCast_ediv, ← Int.natCast_ediv, castmod, ← castmod (g / B) A, ← castmod g B]
      constructor
      · rintro ⟨h1, h2⟩
        exact ⟨h1, h2 _ (by simp), h2 _ (by simp)⟩
      · rintro ⟨h1, h2, h3⟩
        refine ⟨h1, fun k hk => ?_⟩
        rcases List.mem_cons.mp hk with rfl | hk
        · exact h2
        · rw [List.mem_singleton.mp hk]
          exact h3
    · show ((g : Int) / (B : Int) % (A : Int) % (E : Int) = 0 ∧ ∀ k ∈ [(g : Int) % (B : Int)], k = 0) ↔ g % (1 * A * B) % (1 * B * E) = 0
      rw [Nat.one_mul, Nat.one_mul, mod_two (show 0 < B by omega), Nat.mul_comm A B, Nat.mod_mul_right_div_self, Nat.mod_mul_right_mod, ← Int.natCast_ediv, ← Int.natCast_emod, castmod, ← castmod g B]
      exact ⟨fun h => ⟨h.1, h.2 _ (List.mem_singleton.mpr rfl)⟩, fun h => ⟨h.1, fun k hk => by rw [List.mem_singleton.mp hk]; exact h.2⟩⟩
    · show ((g : Int) % (B : Int) % (E : Int) = 0 ∧ ∀ k ∈ [], k = 0) ↔ g % (1 * B) % (1 * E) = 0
      rw [Nat.one_mul, Nat.one_mul, ← Int.natCast_emod, castmod]
      exact ⟨fun h => h.1, fun h => ⟨h, fun _ z => nomatch z⟩⟩
theorem mem_seg {span step start g : Nat} (hs : 1 ≤ step) (hp : 1 ≤ span) : g ∈ segN span step start ↔ start ≤ g ∧ g < start + span ∧ (g - start) % step = 0 := by
  unfold segN
  rw [show ((start : Int) + (span : Int)) = ((start + span : Nat) : Int) by omega, rgN_nat, if_pos (by omega), List.mem_map]
  constructor
  · rintro ⟨j, hj, rfl⟩
    have hj := List.mem_range.mp hj
    have h1 : j ≤ (start + span - start - 1) / step := by omega
    have h2 : j * step ≤ start + span - start - 1 := (Nat.le_div_iff_mul_le (by omega)).mp h1
    refine ⟨by omega, by omega, ?_⟩
    rw [Nat.add_sub_cancel_left, Nat.mul_mod_left]
  · rintro ⟨h1, h2, h3⟩
    refine ⟨(g - start) / step, List.mem_range.mpr ?_, ?_⟩
    · have := Nat.div_le_div_right (c := step) (show g - start ≤ start + span - start - 1 by omega)
      omega
    · have := Nat.div_mul_cancel (Nat.dvd_of_mod_eq_zero h3)
      omega
theorem mem_fits {span step n g : Nat} (h1 : 1 ≤ n) (hd : span ∣ n) (hs : 1 ≤ step) (hg : g < n) : g ∈ fitsP span step n ↔ g % span % step = 0 := by
  have hp : 1 ≤ span := Nat.pos_of_dvd_of_pos hd (by omega)
  have hc := rg_count h1 hd
  have dm := Nat.div_add_mod g span
  have ml := Nat.mod_lt g (show 0 < span by omega)
  unfold fitsP
  rw [List.mem_flatten]
  constructor
  · rintro ⟨l, hl, hg2⟩
    obtain ⟨k, hk, rfl⟩ := List.mem_map.mp hl
    obtain ⟨q1, q2, q3⟩ := (mem_seg hs hp).mp hg2
    have e : g / span = k := by
      refine Nat.div_eq_of_lt_le q1 ?_
      rw [Nat.succ_mul]
      exact q2
    rw [show g % span = g - k * span by rw [← e, Nat.mul_comm]; omega]
    exact q3
  · intro h
    refine ⟨_, List.mem_map.mpr ⟨g / span, List.mem_range.mpr ?_, rfl⟩, (mem_seg hs hp).mpr ⟨?_, ?_, ?_⟩⟩
    · exact Nat.div_lt_of_lt_mul (by rw [Nat.mul_comm, hc]; exact hg)
    · rw [Nat.mul_comm]
      omega
    · rw [Nat.mul_comm]
      omega
    · rw [Nat.mul_comm, show g - span * (g / span) = g % span by omega]
      exact h
theorem fit_prog {bs : List Int} {r : R3} {n g : Nat} (bb : ∀ x ∈ bs, 2 ≤ x ∧ x ≤ 60) (ro : RowOk 60 bs r) (h1 : 1 ≤ n) (hd : spanP bs r n ∣ n) (hg : g < n) : fitG bs n r g ↔ fitN bs r g := by
  unfold fitG
  have hs : 1 ≤ stepP bs r := Nat.mul_pos (unitP_pos bb _) (by have := ro.2.2.1; omega)
  rw [mem_fits h1 hd hs hg]
  unfold fitN spanP stepP
  split
  · rw [Nat.mod_eq_of_lt hg]
  · exact Iff.rfl
theorem ite_iff {α : Type} {p q : Prop} {i1 : Decidable p} {i2 : Decidable q} (h : p ↔ q) (x y : α) : (if p then x else y) = if q then x else y := by
  by_cases hp : p
  · rw [if_pos hp, if_pos (h.mp hp)]
  · rw [if_neg hp, if_neg fun z => hp (h.mpr z)]
open Classical in
noncomputable def gnStep (gs : List Int) (g : Nat) (acc : Int) (r : R3) : Int := if fitN gs r g then r.2.2 else acc
/-- how many labels of a group are skipped -/
noncomputable def GN (gs : List Int) (rows : List R3) (g : Nat) : Int := rows.foldl (gnStep gs g) 0
theorem gapL_GN {gs : List Int} {rows : List R3} (g0 : 1 ≤ gs.length) (g3 : gs.length ≤ 3) (gb : ∀ x ∈ gs, 2 ≤ x ∧ x ≤ 60) (ro : ∀ r ∈ rows, RowOk 60 gs r) (g : Nat) : gapL gs rows (g : Int) = GN gs rows g := by
  unfold gapL GN
  suffices ∀ (l : List R3) (acc : Int), (∀ r ∈ l, RowOk 60 gs r) → l.foldl (gapStep (digs gs (g : Int))) acc = l.foldl (gnStep gs g) acc from this rows 0 ro
  intro l
  induction l with
  | nil => exact fun _ _ => rfl
  | cons r l ih =>
    intro acc h
    rw [List.foldl_cons, List.foldl_cons, ih _ fun x hx => h x (List.mem_cons_of_mem _ hx)]
    congr 1
    unfold gapStep gnStep
    exact ite_iff (fit_law g0 g3 gb (h r List.mem_cons_self) g) _ _
theorem cntP_GN {gs : List Int} {rows : List R3} {n g : Nat} (gb : ∀ x ∈ gs, 2 ≤ x ∧ x ≤ 60) (ro : ∀ r ∈ rows, RowOk 60 gs r) (h1 : 1 ≤ n) (hd : ∀ x ∈ rows, spanP gs x n ∣ n) (hg : g < n) : cntP gs rows n g = GN gs rows g := by
  unfold cntP GN
  suffices ∀ (l : List R3) (acc : Int), (∀ r ∈ l, RowOk 60 gs r) → (∀ x ∈ l, spanP gs x n ∣ n) → l.foldl (cntStep gs n g) acc = l.foldl (gnStep gs g) acc from this rows 0 ro hd
  intro l
  induction l with
  | nil => exact fun _ _ _ => rfl
  | cons r l ih =>
    intro acc h h2
    rw [List.foldl_cons, List.foldl_cons, ih _ (fun x hx => h x (List.mem_cons_of_mem _ hx)) fun x hx => h2 x (List.mem_cons_of_mem _ hx)]
    congr 1
    unfold cntStep gnStep
    exact ite_iff (fit_prog gb (h r List.mem_cons_self) h1 (h2 r List.mem_cons_self) hg) _ _
/-! ### rounds -/
def Per (G : Nat → Int) (p : Nat) : Prop := ∀ i, G (i + p) = G i
/-- p keeps the rows -/
def Keeps (gs : List Int) (rows : List R3) (p : Nat) : Prop := unitP gs 0 ∣ p ∧ ∀ r ∈ rows, r.1 = 0 → unitP gs 0 * r.2.1.toNat ∣ p
theorem fitN_per {gs : List Int} {r : R3} {p : Nat} (hu : unitP gs 0 ∣ p) (hr : r.1 = 0 → unitP gs 0 * r.2.1.toNat ∣ p) (g : Nat) : fitN gs r (g + p) ↔ fitN gs r g := by
  unfold fitN
  by_cases h : r.1 = 0
  · rw [if_pos h, if_pos h, h]
    obtain ⟨k, rfl⟩ := hr h
    show (g + unitP gs 0 * r.2.1.toNat * k) % (unitP gs 0 * r.2.1.toNat) = 0 ↔ g % (unitP gs 0 * r.2.1.toNat) = 0
    rw [Nat.add_mul_mod_self_left]
  · rw [if_neg h, if_neg h]
    obtain ⟨k, rfl⟩ := Nat.dvd_trans (unitP_dvd gs (r.1.toNat - 1)) hu
    rw [Nat.add_mul_mod_self_left]
theorem GN_per {gs : List Int} {rows : List R3} {p : Nat} (h : Keeps gs rows p) : Per (GN gs rows) p := by
  intro g
  unfold GN
  suffices ∀ (l : List R3) (acc : Int), (∀ r ∈ l, r.1 = 0 → unitP gs 0 * r.2.1.toNat ∣ p) → l.foldl (gnStep gs (g + p)) acc = l.foldl (gnStep gs g) acc from this rows 0 h.2
  intro l
  induction l with
  | nil => exact fun _ _ => rfl
  | cons r l ih =>
    intro acc hl
    rw [List.foldl_cons, List.foldl_cons, ih _ fun x hx => hl x (List.mem_cons_of_mem _ hx)]
    congr 1
    unfold gnStep
    exact ite_iff (fitN_per h.1 (hl r List.mem_cons_self) g) _ _
theorem every_in : ∀ (rows : List R3) (e : Nat), ∀ r ∈ rows, r.1 = 0 → r.2.1.toNat ∣ rows.foldl everyStep e
  | x :: rows, e, r, hr, h0 => by
    rw [List.foldl_cons]
    rcases List.mem_cons.mp hr with rfl | hr
    · refine Nat.dvd_trans ?_ (every_dvd _)
      unfold everyStep
      rw [if_pos h0]
      exact Nat.dvd_lcm_right _ _
    · exact every_in rows _ r hr h0
theorem keeps_groups (gs : List Int) (rows : List R3) : Keeps gs rows (groupsP gs rows) :=
  ⟨Nat.dvd_mul_right _ _, fun r hr h0 => Nat.mul_dvd_mul_left _ (every_in rows 1 r hr h0)⟩
theorem unitP_unitL (gs : List Int) : unitP gs 0 = unitL gs := rfl
theorem per_add {G : Nat → Int} {p q : Nat} (h : Per G p) (h2 : Per G q) : Per G (p + q) := fun i => by
  rw [← Nat.add_assoc, h2, h]
theorem per_mul {G : Nat → Int} {p : Nat} (h : Per G p) : ∀ k i, G (i + p * k) = G i
  | 0, i => rfl
  | k + 1, i => by
    rw [Nat.mul_succ, ← Nat.add_assoc, h, per_mul h k]
theorem per_mod {G : Nat → Int} {p q : Nat} (h : Per G p) (h2 : Per G q) : Per G (q % p) := fun i => by
  rw [← per_mul h (q / p) (i + q % p), show i + q % p + p * (q / p) = i + q by have := Nat.mod_add_div q p; omega, h2]
/-- the least number from 1 on behind which all comes again -/
def LeastPer (G : Nat → Int) (m : Nat) : Prop := 1 ≤ m ∧ Per G m ∧ ∀ j, 1 ≤ j → j < m → ¬ Per G j
theorem LeastPer.dvd {G : Nat → Int} {m q : Nat} (h : LeastPer G m) (hq : Per G q) : m ∣ q := by
  have hm := per_mod h.2.1 hq
  refine Nat.dvd_of_mod_eq_zero ?_
  rcases Nat.eq_zero_or_pos (q % m) with z | z
  · exact z
  · exact absurd hm (h.2.2 _ z (Nat.mod_lt _ h.1))
theorem LeastPer.uniq {G : Nat → Int} {m k : Nat} (h : LeastPer G m) (h2 : LeastPer G k) : m = k := by
  rcases Nat.lt_trichotomy m k with z | z | z
  · exact absurd h.2.1 (h2.2.2 m h.1 z)
  · exact z
  · exact absurd h2.2.1 (h.2.2 k h2.1 z)
theorem range_get {G : Nat → Int} {n i : Nat} (h : i < n) : ((List.range n).map G)[i]? = some (G i) := by
  rw [List.getElem?_map, List.getElem?_range h]
  rfl
theorem repOk_iff {G : Nat → Int} {n k : Nat} (hk : 1 ≤ k) (hkn : k ≤ n) (hn : Per G n) : repOk ((List.range n).map G) k ↔ (k ∣ n ∧ Per G k) := by
  unfold repOk
  rw [List.length_map, List.length_range]
  constructor
  · rintro ⟨h1, h2⟩
    have hd := Nat.dvd_of_mod_eq_zero h1
    refine ⟨hd, ?_⟩
    have step : ∀ i, i + k < n → G (i + k) = G i := by
      intro i hi
      have e := congrArg (fun l => l[i]?) h2
      rw [List.getElem?_drop, List.getElem?_take_of_lt (by omega), range_get (by omega), range_get (by omega), Nat.add_comm k i] at e
      exact Option.some.inj e
    have low : ∀ i, i < n → G i = G (i % k) := by
      intro i
      induction i using Nat.strongRecOn with
      | _ i ih =>
        intro hi
        by_cases h : i < k
        · rw [Nat.mod_eq_of_lt h]
        · have := step (i - k) (by omega)
          rw [show i - k + k = i by omega] at this
          rw [this, ih (i - k) (by omega) (by omega), ← Nat.mod_eq_sub_mod (by omega)]
    have all : ∀ i, G i = G (i % k) := by
      intro i
      have e := per_mul hn (i / n) (i % n)
      rw [Nat.mod_add_div] at e
      rw [e, low _ (Nat.mod_lt _ (by omega)), Nat.mod_mod_of_dvd _ hd]
    intro i
    rw [all (i + k), Nat.add_mod_right, ← all i]
  · rintro ⟨hd, hp⟩
    refine ⟨Nat.mod_eq_zero_of_dvd hd, List.ext_getElem? fun i => ?_⟩
    rw [List.getElem?_drop]
    by_cases h : i < n - k
    · rw [List.getElem?_take_of_lt h, range_get (by omega), range_get (by omega), Nat.add_comm k i, hp]
    · rw [List.getElem?_eq_none (by rw [List.length_map, List.length_range]; omega), List.getElem?_eq_none (by rw [List.length_take, List.length_map, List.length_range]; omega)]
theorem rep_least {G : Nat → Int} {n k : Nat} (hn : Per G n) (h : RepIs ((List.range n).map G) k) : LeastPer G k := by
  obtain ⟨h1, h2, h3, h4⟩ := h
  rw [List.length_map, List.length_range] at h2
  obtain ⟨q1, q2⟩ := (repOk_iff h1 h2 hn).mp h3
  -- the least period divides n
  have ex : ∃ m, LeastPer G m := by
    have : ∀ b, (∃ m, 1 ≤ m ∧ m ≤ b ∧ Per G m) → ∃ m, LeastPer G m := by
      intro b
      induction b with
      | zero => exact fun ⟨m, a, c, _⟩ => by omega
      | succ b ih =>
        rintro ⟨m, a, c, d⟩
        by_cases hx : ∃ m, 1 ≤ m ∧ m ≤ b ∧ Per G m
        · exact ih hx
        · exact ⟨m, a, d, fun j j1 j2 j3 => hx ⟨j, j1, by omega, j3⟩⟩
    exact this k ⟨k, h1, Nat.le_refl k, q2⟩
  obtain ⟨m, hm⟩ := ex
  have hmn : m ∣ n := hm.dvd hn
  have hmle : m ≤ n := Nat.le_of_dvd (by omega) hmn
  have hmk : m ≤ k := Nat.le_of_dvd (by omega) (hm.dvd q2)
  rcases Nat.lt_or_eq_of_le hmk with z | z
  · exact absurd ((repOk_iff hm.1 hmle hn).mpr ⟨hmn, hm.2.1⟩) (h4 m hm.1 z)
  · rw [← z]
    exact hm
theorem counts_GN {gs : List Int} {rows : List R3} (fr : Fair gs rows) : countsP gs rows (groupsP gs rows) = (List.range (groupsP gs rows)).map (GN gs rows) := by
  refine List.map_congr_left fun g hg => ?_
  have g1 : 1 ≤ groupsP gs rows := Nat.mul_pos (unitP_pos fr.bb 0) (every_mono rows 1 (by decide) fun x hx => (fr.ro x hx).2.2.1)
  exact cntP_GN fr.bb fr.ro g1 (fun x hx => spanP_dvd fr.bb fr.ro hx) (List.mem_range.mp hg)
theorem gaps_GN {gs : List Int} {rows : List R3} (fr : Fair gs rows) (n : Nat) : gapsL gs rows n = (List.range n).map (GN gs rows) :=
  List.map_congr_left fun g _ => gapL_GN fr.b0 fr.b3 fr.bb fr.ro g
/-- the house's counts are those of the least round -/
theorem cs_GN {gs : List Int} {rows : List R3} {cs : List Int} (fr : Fair gs rows) (h : ∃ k, RepIs (countsP gs rows (groupsP gs rows)) k ∧ cs = (countsP gs rows (groupsP gs rows)).take k) : LeastPer (GN gs rows) cs.length ∧ cs = (List.range cs.length).map (GN gs rows) := by
  obtain ⟨k, hk, rfl⟩ := h
  rw [counts_GN fr] at hk ⊢
  have hl := rep_least (GN_per (keeps_groups gs rows)) hk
  have hkn : k ≤ groupsP gs rows := by have := hk.2.1; rwa [List.length_map, List.length_range] at this
  have hlen : ((List.range (groupsP gs rows)).map (GN gs rows)).take k = (List.range k).map (GN gs rows) := by
    rw [← List.map_take, List.take_range, Nat.min_eq_left hkn]
  rw [hlen, List.length_map, List.length_range]
  exact ⟨hl, rfl⟩
end LM

set_option Elab.async false
set_option linter.all false
set_option maxRecDepth 100000
set_option maxHeartbeats 4000000
namespace LM
open PySem PySem.Spec PyProof.Rows L2
/-! ### defs called where no repr is under way -/
structure FnG (P : Program) (w : World) (K : PySem.W.Frag) (mg : Str → Option Value) (base : Heap) (k : Nat) (f : Addr) (fd : FuncData) (ps : List Str) (sp : Sp) : Prop where
  num : ∀ xs G R Z, sp xs G R Z → xs.length = ps.length
  go : ∀ (Ar : Around) (above : List Env) (t : Shared) (G : Hp) (ar : Args) (ys : List Value) (xs : List V) (R : VK) (Z : XK), Ar.guards = some [] → Room k Ar → Env0 P w K mg base Ar above t G → BindsTo t fd ar (ps.zip ys) → Vals xs ys → sp xs G R Z →
    codeAny (model P w) Ar (.call (.ref f) ar) (CR CX0 above P w G t R Z) t
section
variable {P : Program} {w : World} {K : PySem.W.Frag} {mg : Str → Option Value} {base : Heap}
/-- such a def, by its body -/
theorem funG_ok {x qual : Str} {st : Stmt} {f : Addr} {fd : FuncData} {NN ps : List Str} {k : Nat} {sp : Sp} (F : Fun K x qual st f fd) (S : FnScope NN ps (defScope st)) (hnum : ∀ xs G R Z, sp xs G R Z → xs.length = ps.length)
    (hbd : ∀ (cd : Value) (Ar : Around) (above : List Env) (t : Shared) (G : Hp) (xs : List V) (R : VK) (Z : XK), Ar.guards = some [] → Room k (Ar.deeper (envOfC qual (defScope st) t.heap.objs.size f cd)) → sp xs G R Z →
      ∃ T, PSs (Cx.nox (cxOf CX0 P w K mg base NN qual (defScope st) f cd Ar above t G Z)) (defBody st) T ∧ T { nx := fun _ G' => R .non G', rt := R } (start NN xs) G) : FnG P w K mg base (k + 1) f fd ps sp := by
  obtain ⟨oc, od, kV, doc, pm, an, cd, ct, osl, rfl, inK, hco⟩ := F.ex
  refine ⟨hnum, fun Ar above t G ar ys xs R Z hgd room en bi va sat => ?_⟩
  have hlen := hnum _ _ _ _ sat
  have kin : K.In t.heap := en.mod.kin.keeps fun b o z => (en.bs b o z).1
  have noL : t.heap.NoLimit := en.mod.nolimit.keeps fun b o z => (en.bs b o z).1
  have kinds : ∀ y ∈ ps.zip ys, (defScope st).names.lookup y.1 = some .local ∨ ((defScope st).names.lookup y.1 = some .cell ∧ ((cellsFrom (t.heap.objs.size + 1) (defScope st).names []).lookup y.1).isSome = true) := by
    rintro ⟨n, v⟩ hy
    exact (S.par n (List.of_mem_zip hy).1).imp id fun q => ⟨q, PySem.W.cellsFrom_some _ _ _ (.inl q)⟩
  refine codeAny_call_function room.depth (kin _ _ inK) rfl S.co S.gen rfl (PySem.W.codeRec_of kin hco) (bi _ _ _ _ ?_)
  refine wpAny_newFunctionEnv_cells S.kind kinds fun env heq t1 inC => ?_
  subst heq
  refine ⟨noL.keeps inC.toInCall.keep, codeAny_func ?_⟩
  obtain ⟨T, hT, hq⟩ := hbd cd Ar above t G xs R Z hgd (room.deeper _) sat
  have hI := inv_start (CX := CX0) (E := Z) S room.hd en hlen va inC
  refine wpAny_mono (hT.nox.run [] t1 (start NN xs) G _ hI hq) (fun fl t2 hs => ?_) fun _ _ hs => hs
  cases fl with
  | ret u =>
    obtain ⟨v, σ2, G2, J, rv, q⟩ := hs
    exact ⟨v, G2, J.os, J.bare, J.base, J.hok, rv, q⟩
  | next =>
    obtain ⟨σ2, G2, J, q⟩ := hs
    exact ⟨V.non, G2, J.os, J.bare, J.base, J.hok, rfl, q⟩
  | brk =>
    obtain ⟨_, _, _, z⟩ := hs
    exact (show False from z).elim
  | cont =>
    obtain ⟨_, _, _, z⟩ := hs
    exact (show False from z).elim
end
/-- such a def of the text that stands at its name -/
structure DefG (P : Program) (w : World) (K : PySem.W.Frag) (mg : Str → Option Value) (base : Heap) (x : Str) (ps : List Str) (k : Nat) (sp : Sp) : Prop where
  all : ∃ (f : Addr) (fd : FuncData), FnG P w K mg base k f fd ps sp ∧ mg x = some (.ref f) ∧ PySem.W.keepIn K (.ref f) = true ∧ Binds K fd ps []
theorem pe_dG {X : Cx} {x : Str} {p pos : Pos} {e : Expr} {es : List Expr} {t : TA} {ps : List Str} {k : Nat} {sp : Sp} (D : DefG X.prog X.w X.K X.mg X.base x ps k sp) (hgd : X.A.guards = some []) (hr : Room k X.A) (hg : Gl X x) (ha : PA X (e :: es) t)
    (hdb : (x == ("__debug__" : Str)) = false := by decide) (he : starEach (e :: es) X.env = (false, eval e X.env) :: starEach es X.env := by rfl) (hpl : (backTo pos (starEach es X.env)).any (·.1) = false := by rfl) :
    PE X (.Call (.Name x p) (e :: es) [] pos) (tCall sp [] E0 t) := by
  obtain ⟨f, fd, F, hm, hk, hb⟩ := D.all
  refine ⟨fun pins s σ G R I sat => ?_⟩
  refine wpAny_Call_Name_kw (ld_glob I hg hm ?_ hdb)
  refine PySem.W.callWith_K (h₀ := X.base) I.ok.mod.kin hk (thn (ha.run pos pins s σ G _ I sat) fun ys s1 ⟨xs, G1, J, va, q⟩ => ⟨J.kIn, ?_⟩) he hpl
  have q' : sp xs G1 R E0 := by
    have q2 : sp (xs ++ []) G1 R E0 := q
    rwa [List.append_nil] at q2
  have hl : (ys ++ ([] : List Value)).length = ps.length := by rw [List.append_nil, ← va.length]; exact F.num _ _ _ _ q'
  have hbb := hb s1 ys J.kIn hl
  rw [List.append_nil] at hbb
  refine wpAny_call (codeAny_mono (F.go X.A X.stack s1 G1 ⟨ys, []⟩ ys xs R E0 hgd hr J.env0 hbb va q') fun res s2 hq => ?_)
  cases res with
  | error er => exact hq.elim
  | ok fl =>
    cases fl with
    | ret u => exact J.after hq
    | next => exact hq.elim
    | brk => exact hq.elim
    | cont => exact hq.elim
/-! ### repr of a tuple of integers -/
theorem reads_ints {h : Heap} : ∀ {ns : List Int} {its : List Value}, Vals (ns.map V.int) its → ReadsAll h its (ns.map PyData.int) []
  | [], _, r => by
    cases r
    exact .nil
  | n :: ns, _, r => by
    cases r with
    | cons r1 r2 =>
      obtain ⟨t, rfl⟩ := r1
      exact ReadsAll.cons (.int n t) (reads_ints r2)
/-- what repr of a tuple of integers shows -/
def showI (ns : List Int) : Str := (PyData.tuple (ns.map PyData.int)).shown
theorem depth_ints : ∀ ns : List Int, (PyData.tuple (ns.map PyData.int)).depth ≤ 2 := by
  intro ns
  have : ∀ l : List Int, PyData.depthAll (l.map PyData.int) ≤ 1 := by
    intro l
    induction l with
    | nil => simp [PyData.depthAll]
    | cons n l ih =>
      simp only [List.map_cons, PyData.depthAll, PyData.depth]
      omega
  simp only [PyData.depth]
  have := this ns
  omega
def rRepr (K : PySem.W.Frag) : List V → Hp → VK → Prop := fun xs G R => ∃ (p : Addr) (ns : List Int), xs = [.ref p] ∧ SqT K G p (ns.map V.int) ∧ (∀ n ∈ ns, n.natAbs.log2 < 1920) ∧ (showI ns).length ≤ sizeLine ∧ R (.str (showI ns)) G
theorem call_reprI {X : Cx} (hgd : X.A.guards = some []) (hu : X.A.units + 3 < cLine) : CallR X (.builtin "repr") (rRepr X.K) := by
  intro pins s σ G xs us R I va sat
  obtain ⟨p, ns, rfl, hp, hb, hz, q⟩ := sat
  obtain ⟨u, rfl, hu1⟩ := vals1 va
  obtain rfl : u = Value.ref p := hu1
  obtain ⟨its, rv, ⟨o, ho, hcl, n, hd⟩, _⟩ := I.tuple hp
  have rd : Reads s.heap (.ref p) (PyData.tuple (ns.map PyData.int)) [] := Reads.tuple (vs := its.toArray) ho hcl hd (reads_ints (by simpa using rv))
  refine repr_of_reads' rd (by simpa [PyData.showable] using PyData.showableAll_ints ns hb) (fun _ z => nomatch z) hgd (by have := depth_ints ns; omega) (fun _ _ z => z) (fun h' u tk hk => ?_) hz
  exact ⟨.str _, G, I.kept hk, ⟨u, rfl⟩, q⟩
/-! ### the law's call, where no repr is under way -/
/-- from a heap in which nothing but the script may be tracked -/
theorem law_coreG {P : Program} {w : World} {K : PySem.W.Frag} {mg mb : Str → Option Value} {k : Nat} {fa a : Addr} {fd : FuncData} {x : Str} {sp : Sp} {t : Shared} {ys : List Value} {G : Hp}
    (kin : K.In t.heap) (gns : t.heap.Ns mainGlobals mg) (bns : t.heap.Ns builtinsNs mb) (boot : ∀ x : Str, x ≠ "__name__" → mb x = bootBuiltins x) (noL : t.heap.NoLimit) (gens : t.gens = #[])
    (ha : t.heap.get? a = some { cls := .type "list", data := .seq ys.toArray }) (room : Room k callerA) (hgd : callerA.guards = some [])
    (F : ∀ base : Heap, K.In base → base.Ns mainGlobals mg → FnG P w K mg base k fa fd [x] sp) (bi : ∀ (s : Shared) (u : Value), BindsTo s fd ⟨[u], []⟩ [(x, u)])
    (sat : sp [.ref a] G (fun v _ => v = .bl true) E0) (only : Only G) (hok : HOk P w G t.heap) (hA : ∀ b, G b ≠ none → b = a) (hK : G a ≠ none → K.lookup a = none) :
    codeAny (model P w) callerA (.call (.ref fa) ⟨[.ref a], []⟩) (fun r s' => r = .ok (.ret (.bool true)) ∧ PySem.OldK t.heap s'.heap ∧ s'.os = t.os ∧ AllBare s'.gens) t := by
  have base_of : ∀ {b : Addr} {o : Obj}, t.heap.get? b = some o → G b = none → (hidT t.heap G).get? b = some o := hidT_get
  have noDict : ∀ {b : Addr} {o : Obj} {es : Array DictEntry} {ep : Nat}, t.heap.get? b = some o → o.data = .dict es ep → G b = none := by
    intro b o es ep z dz
    cases q : G b with
    | none => rfl
    | some u =>
      obtain rfl := hA b (by rw [q]; exact fun z => nomatch z)
      rw [ha] at z
      cases z
      exact nomatch dz
  have ns_of : ∀ {b : Addr} {m : Str → Option Value}, t.heap.Ns b m → (hidT t.heap G).Ns b m := fun ⟨o, es, ep, z, dz, rest⟩ => ⟨o, es, ep, base_of z (noDict z dz), dz, rest⟩
  have kinB : K.In (hidT t.heap G) := by
    intro b o z
    refine base_of (kin b o z) ?_
    cases q : G b with
    | none => rfl
    | some u =>
      obtain rfl := hA b (by rw [q]; exact fun z => nomatch z)
      rw [hK (by rw [q]; exact fun z => nomatch z)] at z
      cases z
  obtain ⟨mc, l1, l2⟩ := noL
  have hM : Mod K mg (hidT t.heap G) := ⟨kinB, ns_of gns, ⟨mb, ns_of bns, boot⟩, ⟨mc, ns_of l1, l2⟩⟩
  have en : Env0 P w K mg (hidT t.heap G) callerA [] t G := ⟨rfl, hM, fun _ _ z => of_hidT z, Nat.le_of_eq (hidT_size _ _), trivial, fun b z => absurd (show b ∈ ([] : List Addr) from z) List.not_mem_nil, hok, .of_eq gens⟩
  have run := (F _ kinB (ns_of gns)).go callerA [] t G ⟨[.ref a], []⟩ [.ref a] [.ref a] _ _ hgd room en (bi t (.ref a)) (.cons rfl .nil) sat
  refine codeAny_mono run fun res t2 hq => ?_
  cases res with
  | error er => exact hq.elim
  | ok fl =>
    cases fl with
    | next => exact hq.elim
    | brk => exact hq.elim
    | cont => exact hq.elim
    | ret u =>
      obtain ⟨v, G2, os, bare, un, hok2, rv, q⟩ := hq
      obtain rfl : v = V.bl true := q
      obtain rfl : u = Value.bool true := rv
      refine ⟨rfl, OldK.of_keep fun b o z => ?_, os, bare⟩
      cases q : G b with
      | none => exact un.keep b o z q (fun y => absurd (show b ∈ ([] : List Addr) from y) List.not_mem_nil) List.not_mem_nil
      | some u =>
        rcases only b with y | ⟨ob, xs, y⟩
        · rw [q] at y
          cases y
        · obtain ⟨e1, _⟩ := hok b _ y
          obtain ⟨e2, _⟩ := hok2 b _ (un.frzs b ob _ y)
          rw [z] at e1
          cases e1
          exact e2
theorem law_callG {P : Program} {w : World} {K : PySem.W.Frag} {mg mb : Str → Option Value} {k : Nat} {fa a : Addr} {fd : FuncData} {x : Str} {sp : Sp} {t : Shared} {ys : List Value} {ns : List Int}
    (kin : K.In t.heap) (gns : t.heap.Ns mainGlobals mg) (bns : t.heap.Ns builtinsNs mb) (boot : ∀ x : Str, x ≠ "__name__" → mb x = bootBuiltins x) (noL : t.heap.NoLimit) (gens : t.gens = #[])
    (ha : t.heap.get? a = some { cls := .type "list", data := .seq ys.toArray }) (hi : IntsAre ys ns) (hl : ns.length ≤ sizeLine) (room : Room k callerA) (hgd : callerA.guards = some [])
    (F : ∀ base : Heap, K.In base → base.Ns mainGlobals mg → FnG P w K mg base k fa fd [x] sp) (bi : ∀ (s : Shared) (u : Value), BindsTo s fd ⟨[u], []⟩ [(x, u)])
    (hsp : ∀ G : Hp, Only G → SqL K G a (ns.map V.int) → sp [.ref a] G (fun v _ => v = .bl true) E0) :
    codeAny (model P w) callerA (.call (.ref fa) ⟨[.ref a], []⟩) (fun r s' => r = .ok (.ret (.bool true)) ∧ PySem.OldK t.heap s'.heap ∧ s'.os = t.os ∧ AllBare s'.gens) t := by
  have rv := vals_ints hi
  have hlen := hi.length
  cases hk : K.lookup a with
  | some o =>
    have e := kin a o hk
    rw [ha] at e
    cases e
    have only : Only (fun _ => none) := fun _ => .inl rfl
    exact law_coreG kin gns bns boot noL gens ha room hgd F bi (hsp _ only (.inr ⟨_, ys.toArray, _, hk, rfl, rfl, rfl, by rw [List.size_toArray, hlen]; exact hl, by simpa using rv⟩)) only (fun _ _ z => nomatch z) (fun _ z => absurd rfl z) fun z => absurd rfl z
  | none =>
    have at_a : (fun b => if b = a then some (HO.frz { cls := .type "list", data := .seq ys.toArray } (.lst (ns.map V.int))) else none) a = some (HO.frz { cls := .type "list", data := .seq ys.toArray } (.lst (ns.map V.int))) := if_pos rfl
    have only : Only (fun b => if b = a then some (HO.frz { cls := .type "list", data := .seq ys.toArray } (.lst (ns.map V.int))) else none) := by
      intro b
      by_cases hb : b = a
      · exact .inr ⟨_, _, if_pos hb⟩
      · exact .inl (if_neg hb)
    refine law_coreG kin gns bns boot noL gens ha room hgd F bi (hsp _ only (.inl (.inr ⟨_, at_a⟩))) only (fun b u z => ?_) (fun b z => ?_) fun _ => hk
    · by_cases hb : b = a
      · subst hb
        cases at_a.symm.trans z
        exact ⟨ha, by rw [List.length_map]; exact hl, ys, _, rv, ha⟩
      · exact nomatch (if_neg hb).symm.trans z
    · by_cases hb : b = a
      · exact hb
      · exact absurd (if_neg hb) z
theorem walk_ofG {l : PySem.W.OpenLaw} {n k : Nat} {q : Program} {loose : List Str} {XP : (Str → Option Value) → Heap → Prop} {YP : World → Heap → Prop} {d : DefRec} {K : Params → PySem.W.Frag} {sp : PySem.W.Frag → Sp} {x : Str}
    (most : l.most = some n) (small : n ≤ sizeLine) (nodf : d.params.defaults = []) (room : Room k callerA) (hgd : callerA.guards = some []) (hY : ∀ (w : World) (h : Heap), YP w h → (K w.params).In h)
    (F : ∀ (w : World) (mg : Str → Option Value) (fa : Addr) (h : Heap), (K w.params).In h → h.Ns mainGlobals mg → mg d.name = some (.ref fa) →
      ∃ fd : FuncData, (∀ (s : Shared) (u : Value), BindsTo s fd ⟨[u], []⟩ [(x, u)]) ∧ ∀ base : Heap, (K w.params).In base → base.Ns mainGlobals mg → FnG l.prog w (K w.params) mg base k fa fd [x] (sp (K w.params)))
    (hsp : ∀ (K : PySem.W.Frag) (G : Hp) (a : Addr) (ns : List Int), ns.length ≤ n → Only G → SqL K G a (ns.map V.int) → sp K [.ref a] G (fun v _ => v = .bl true) E0) :
    PySem.W.WalkO q loose XP YP l.row.toRowW d [] (fun f vs => PySem.call f vs) := by
  refine Att.attach_call most nodf fun w s0 t mg mb fa o pm cd doc a ys ns Gr Y ho hd hcd hmg hobj hints hlen gens => ?_
  have kin := hY w _ Y
  obtain ⟨fd, bi, hF⟩ := F w mg fa _ kin Gr.T.g hmg
  exact law_callG kin Gr.T.g Gr.T.b Gr.T.builtins Gr.T.nolimit gens hobj hints (Nat.le_trans hlen small) room hgd hF bi fun G only hS => hsp _ G a ns hlen only hS
end LM

set_option Elab.async false
set_option linter.all false
set_option maxRecDepth 100000
set_option maxHeartbeats 4000000
namespace LM
open PySem PySem.Spec PyProof.Rows L2
/-! ### repr of a list of integers and None -/
def optV : Option Int → V
  | none => .non
  | some n => .int n
def optD : Option Int → PyData
  | none => .none
  | some n => .int n
theorem reads_opts {h : Heap} : ∀ {ds : List (Option Int)} {its : List Value}, Vals (ds.map optV) its → ReadsAll h its (ds.map optD) []
  | [], _, r => by
    cases r
    exact .nil
  | none :: ds, _, r => by
    cases r with
    | cons r1 r2 =>
      obtain rfl := r1
      exact ReadsAll.cons .none (reads_opts r2)
  | some n :: ds, _, r => by
    cases r with
    | cons r1 r2 =>
      obtain ⟨t, rfl⟩ := r1
      exact ReadsAll.cons (.int n t) (reads_opts r2)
def showO (ds : List (Option Int)) : Str := (PyData.list (ds.map optD)).shown
theorem opts_facts : ∀ (ds : List (Option Int)), (∀ n, some n ∈ ds → n.natAbs.log2 < 1920) → PyData.showableAll (ds.map optD) = true ∧ PyData.hasDictAll (ds.map optD) = false ∧ PyData.depthAll (ds.map optD) ≤ 1
  | [], _ => by simp [PyData.showableAll, PyData.hasDictAll, PyData.depthAll]
  | d :: ds, h => by
    obtain ⟨h1, h2, h3⟩ := opts_facts ds fun n hn => h n (List.mem_cons_of_mem _ hn)
    cases d with
    | none =>
      refine ⟨?_, ?_, ?_⟩
      · simpa [optD, PyData.showableAll, PyData.showable] using h1
      · simpa [optD, PyData.hasDictAll, PyData.hasDict] using h2
      · simp only [List.map_cons, optD, PyData.depthAll, PyData.depth]
        omega
    | some n =>
      have hn := h n List.mem_cons_self
      refine ⟨?_, ?_, ?_⟩
      · simp only [List.map_cons, optD, PyData.showableAll, PyData.showable, Bool.and_eq_true, decide_eq_true_eq]
        exact ⟨hn, h1⟩
      · simpa [optD, PyData.hasDictAll, PyData.hasDict] using h2
      · simp only [List.map_cons, optD, PyData.depthAll, PyData.depth]
        omega
def rReprL (K : PySem.W.Frag) : List V → Hp → VK → Prop := fun xs G R => ∃ (p : Addr) (ds : List (Option Int)), xs = [.ref p] ∧ SqL K G p (ds.map optV) ∧ (∀ n, some n ∈ ds → n.natAbs.log2 < 1920) ∧ (showO ds).length ≤ sizeLine ∧ R (.str (showO ds)) G
theorem call_reprL {X : Cx} (hgd : X.A.guards = some []) (hu : X.A.units + 3 < cLine) : CallR X (.builtin "repr") (rReprL X.K) := by
  intro pins s σ G xs us R I va sat
  obtain ⟨p, ds, rfl, hp, hb, hz, q⟩ := sat
  obtain ⟨u, rfl, hu1⟩ := vals1 va
  obtain rfl : u = Value.ref p := hu1
  obtain ⟨its, rv, pl, _⟩ := I.list hp
  obtain ⟨h1, h2, h3⟩ := opts_facts ds hb
  obtain ⟨o, n, ho, hcl, _, hd⟩ := pl
  have rd : Reads s.heap (.ref p) (PyData.list (ds.map optD)) [p] := Reads.list (vs := its.toArray) ho hcl hd (reads_opts (by simpa using rv))
  have nod : (PyData.list (ds.map optD)).hasDict = false := by simpa [PyData.hasDict] using h2
  refine repr_of_reads' rd (by simpa [PyData.showable] using h1) (PyData.noDict_hsm nod) hgd (by simp only [PyData.depth]; omega) (fun _ _ z => z) (fun h' u tk hk => ?_) hz
  exact ⟨.str _, G, I.kept hk, ⟨u, rfl⟩, q⟩
theorem opts_len : ∀ (ds : List (Option Int)), ds.length ≤ 100 → (∀ n, some n ∈ ds → n.natAbs.log2 < 1920) → (showO ds).length ≤ sizeLine := by
  intro ds hl h
  have e : ∀ y ∈ PyData.shownAll (ds.map optD), y.length ≤ 2000 := by
    clear hl
    induction ds with
    | nil => intro y hy; simp [PyData.shownAll] at hy
    | cons d ds ih =>
      intro y hy
      simp only [List.map_cons, PyData.shownAll] at hy
      rcases List.mem_cons.mp hy with rfl | hy
      · cases d with
        | none =>
          simp only [optD, PyData.shown]
          decide
        | some n =>
          simp only [optD, PyData.shown]
          have := int_text_length_le (k := 1920) (by decide) (h n List.mem_cons_self)
          rw [PySem.ofString_length]
          omega
      · exact ih (fun n hn => h n (List.mem_cons_of_mem _ hn)) y hy
  have hn : (PyData.shownAll (ds.map optD)).length = ds.length := by rw [PyData.shownAll_length, List.length_map]
  unfold showO
  rw [PyData.shown_list]
  have hj := Nat.le_trans (StrLaws.join_length_le ", " (PyData.shownAll (ds.map optD))) (join_le ", " _ 2000 e)
  rw [hn] at hj
  have e1 : ((", " : Str)).length = 2 := by decide
  have e2 : (("[" : Str)).length = 1 := by decide
  have e3 : (("]" : Str)).length = 1 := by decide
  rw [e1] at hj
  rw [strLen_append, strLen_append, e2, e3]
  have : ds.length * (2000 + 2) ≤ 100 * 2002 := Nat.mul_le_mul_right _ hl
  exact Nat.le_trans (show _ ≤ 300000 by omega) (by decide)
/-! ### a method called with keywords alone -/
def tMethKw (C : Addr) (m : Str) (sp : Sp) (gV : List V → List V → List V) (E : XK) (ta : TE) (tk : TA) : TE := fun σ G R => ta σ G fun x G1 => ∃ a dx fs, x = .ref a ∧ G1 a = some (.ins C dx fs) ∧ fs.lookup m = none ∧ tk σ G1 fun zs G2 => sp (gV [x] zs) G2 R E
theorem pe_methKw {X : Cx} {k : Nat} {C f : Addr} {fd : FuncData} {ps ks : List Str} {sp : Sp} {m : Str} {pos apos : Pos} {o : Expr} {kws : List Keyword} {ta : TE} {tk : TA} {g : List Value → List Value → List Value} {gV : List V → List V → List V} {pl : Sem Bool}
    (he : PE X o ta) (c : Cls X.K C) (hm : Meth X.K C m f) (F : FnOk X.prog X.w X.K X.mg X.base CX0 k f fd ps sp) (hr : Room k X.A) (hb : KBinds X.K fd ps ks g gV) (hkw : PK X kws tk)
    (hall : (backToKw pos (keywordEach kws X.env)).all (·.1.isSome) = true := by rfl) (hks : (backToKw pos (keywordEach kws X.env)).filterMap (·.1) = ks := by rfl) (hpl : ((backTo pos (starEach [] X.env)).any (·.1) || (backToKw pos (keywordEach kws X.env)).any (·.1.isNone)) = false := by rfl)
    (ht : eval (.Call (.Attribute o m apos) [] kws pos) X.env = (eval o X.env >>= fun ov => standAt apos.atName >>= fun _ => holding [ov] (getMethod ov m pl) >>= fun fx => callWith pos fx.1 fx.2 (backTo pos (starEach [] X.env)) (backToKw pos (keywordEach kws X.env))) := by rfl) :
    PE X (.Call (.Attribute o m apos) [] kws pos) (tMethKw C m sp gV E0 ta tk) := by
  refine ⟨fun pins s σ G R I sat => ?_⟩
  refine PySem.W.methodCall_KW (pl := pl) (thn (he.run pins s σ G _ I sat) fun u s1 ⟨x, G1, J, rx, a, dx, fs, ex, ea, lk, q⟩ => ?_) ht
  subst ex
  obtain rfl : u = Value.ref a := rx
  refine getmeth_ok J ea c hm lk ?_
  refine PySem.W.callWith_KW0 (first := [.ref a]) (h₀ := X.base) J.ok.mod.kin hm.kp hall (thn (hkw.run pos pins s1 σ G1 _ J q) fun ws s2 ⟨zs, G2, J2, rz, q2⟩ => ⟨J2.kIn, ?_⟩) hpl
  rw [hks]
  exact run_fnk (us := [.ref a]) (vs := [.ref a]) F hr hb pass0 J2 (.cons rfl .nil) rz q2
end LM

set_option Elab.async false
set_option linter.all false
set_option maxRecDepth 100000
set_option maxHeartbeats 4000000
namespace LM
open PySem PySem.Spec PyProof.Rows L2 RT
theorem strs_of_vals : ∀ {zs : List Str} {us : List Value}, Vals (zs.map V.str) us → ∃ l : List (Str × Tok), strValues l = us ∧ l.map (·.1) = zs
  | [], _, r => by
    cases r
    exact ⟨[], rfl, rfl⟩
  | z :: zs, _, r => by
    cases r with
    | cons r1 r2 =>
      obtain ⟨t, rfl⟩ := r1
      obtain ⟨l, e1, e2⟩ := strs_of_vals r2
      exact ⟨(z, t) :: l, by rw [← e1]; rfl, by rw [← e2]; rfl⟩
theorem join_rev {prog : Program} {w : World} {A : Around} {E : Value → Shared → Prop} {s : Shared} {x : Str} {t : Tok} {it l : Addr} {its : List Value} {ys : List Str} {Q : Value → Shared → Prop} (hh : A.handled = none) (hit : s.heap.IsRevIter it l ((its.toArray.size : Int) - 1)) (hl : s.heap.IsList l its.toArray) (hne : l ≠ it)
    (hn : its.toArray.size ≤ sizeLine) (rv : Vals (ys.map V.str) its) (hz : (ys.reverse.map (·.length)).sum + ys.reverse.length * x.length ≤ 16777216)
    (hq : ∀ (h' : Heap) (tk : Nat) (t' : Tok), (∀ b o, b ≠ it → s.heap.get? b = some o → h'.get? b = some o) → Q (.str (Txt.join x ys.reverse) t') { s with heap := h', toks := tk }) :
    wpAny (model prog w) A (call (.builtin "str.join") [.str x t, .ref it]) Q E s := by
  refine wpAny_call (codeAny_call_builtin F.slot_str_join.plain F.entry_str_join (F.slot_str_join.check _ _ _ _ _ _ _ _ (typeIs_str _ _ _) (F.args_str_join_2 _ _) ?_))
  rw [join_tree_other]
  refine wpAny_bind (wpAny_typeOf hit.typeIs ?_)
  show wpAny _ A.in1 ((pyIter (.ref it)).tryCatch _ >>= fun i => collect i >>= fun items => joinTail x items) _ _ s
  refine wpAny_bind (wpAny_tryCatch (wpAny_pyIter_revIter hit ?_))
  refine wpAny_bind (collect_rev (A := A.in1) hh hit hl hne hn fun h' tk acc hk hacc => ?_)
  have rv2 := vals_rev rv hacc
  rw [← List.map_reverse] at rv2
  obtain ⟨l', e1, e2⟩ := strs_of_vals rv2
  rw [← e1]
  have hok : JoinOk x (l'.map (·.1)) = true := by
    rw [e2]
    exact joinOk_of hz
  have hok' := hok
  unfold JoinOk at hok'
  rw [Bool.not_eq_true'] at hok'
  have g : Gives (joinTail x (strValues l')) (joinMade x l') := by
    have g0 := gives_joinTail x l' hok'
    cases l' with
    | nil => exact g0
    | cons p r => cases r with
      | nil => exact g0
      | cons q r' => exact g0
  refine g prog w A (wants Q E) { s with heap := h', toks := tk } (post_join l' ⟨joinFit_length hok', fun t' k => ?_⟩)
  rw [e2]
  exact hq h' k t' hk
/-- sep.join(reversed(parts)) -/
def tJoinRev (K : PySem.W.Frag) (to te : TE) : TE := fun σ G R => to σ G fun x G1 => (∃ a, x = .str a) ∧ te σ G1 fun v G2 => ∃ (a : Str) (q : Addr) (ys : List Str), x = .str a ∧ v = .ref q ∧ SqL K G2 q (ys.map V.str) ∧ (ys.reverse.map (·.length)).sum + ys.reverse.length * a.length ≤ 16777216 ∧ R (.str (Txt.join a ys.reverse)) G2
theorem pe_joinRev {X : Cx} {o e : Expr} {to te : TE} {apos pos p2 pos2 : Pos} (hc : X.calm = true) (ho : PE X o to) (hg2 : Gl X "reversed") (hm2 : X.mg "reversed" = none) (he : PE X e te)
    (hs : starEach [e] X.env = (false, eval e X.env) :: starEach [] X.env := by rfl)
    (hs1 : starEach [.Call (.Name "reversed" p2) [e] [] pos2] X.env = [(false, eval (.Call (.Name "reversed" p2) [e] [] pos2) X.env)] := by rfl)
    (hbase : attributeBase o "join" X.env (eval o X.env) = eval o X.env := by rfl) (hline : (apos.endLine == pos.line) = true := by rfl) :
    PE X (.Call (.Attribute o "join" apos) [.Call (.Name "reversed" p2) [e] [] pos2] [] pos) (tJoinRev X.K to te) := by
  refine ⟨fun pins s σ G R I sat => ?_⟩
  refine PySem.Call_method1 hbase hs1 hline (thn (ho.run pins s σ G _ I sat) fun v s1 ⟨x, G1, J, rx, q1⟩ => ?_)
  obtain ⟨⟨a, rfl⟩, q1⟩ := q1
  obtain ⟨t, rfl⟩ := _root_.id rx
  refine ⟨"str", _, F.plainAttrs_str, F.slot_str_join, F.type_str_join, typeIs_str _ _ _, (fun _ e => nomatch e), Calls.callWith_builtin rfl (Calls.evalArgs_plain (Calls.spliced_cons ?_))⟩
  refine Call_ (ld_blt J hg2 hm2 PyProof.Rows.boot_reversed (PyProof.Rows.callWith_type1 (args_cons (thn (he.run pins s1 σ G1 _ J q1) fun u s2 ⟨y, G2, J2, ry, q2⟩ => args_nil ?_) hs) hs rfl))
  obtain ⟨a', q, ys, ea, rfl, hq, hz, q3⟩ := q2
  cases ea
  obtain rfl : u = Value.ref q := ry
  obtain ⟨its, rv, pl, hsz⟩ := J2.list hq
  refine call_reversed_list pl.isList ?_
  refine Calls.spliced_nil ?_
  have k0 : ∀ b o, s2.heap.get? b = some o → (s2.heap.push (revObj q ((its.toArray.size : Int) - 1))).get? b = some o := fun b o z => Heap.get?_push_of_some _ z
  have J3 : Inv X pins σ G2 { s2 with heap := s2.heap.push (revObj q ((its.toArray.size : Int) - 1)) } := J2.kept (t' := s2.toks) k0
  obtain ⟨f0, f1, f2, f3, f4, f5⟩ := J2.fpOk (H' := G2) (b := s2.heap.objs.size) (Nat.le_refl _) (J2.hok.fresh (Nat.le_refl _))
  have hl := pl.isList
  obtain ⟨ol, hol, _⟩ := id hl
  have hne : q ≠ s2.heap.objs.size := Nat.ne_of_lt (Heap.lt_size hol)
  have hn : its.toArray.size ≤ sizeLine := by rw [List.size_toArray, ← rv.length]; exact hsz
  refine join_rev (s := { s2 with heap := s2.heap.push (revObj q ((its.toArray.size : Int) - 1)) }) (J2.ok.hd hc) ⟨_, Heap.get?_push_size _ rfl, rfl, rfl⟩ (hl.push _) hne hn rv hz fun h' tk t' hk => ?_
  exact ⟨.str _, G2, J3.turned (t' := tk) (fun b o hb z => hk b o hb z) f0 f1 f3 f4 f5, ⟨t', rfl⟩, q3⟩
end LM

set_option Elab.async false
set_option linter.all false
set_option maxRecDepth 100000
set_option maxHeartbeats 4000000
namespace LM
open PySem PySem.Spec PyProof.Rows L2
/-! ### text times number -/
theorem op_mul_str {X : Cx} : OpR X (binaryOp .Mult) (fun x y H Q => ∃ a n, x = .str a ∧ y = .int n ∧ MulOk a n ∧ Q (.str (Txt.mul a n)) H) := by
  intro pins s σ H x y v u Q I rx ry h
  obtain ⟨a, n, rfl, rfl, hz, q⟩ := h
  obtain ⟨t, rfl⟩ := rx
  obtain ⟨t', rfl⟩ := ry
  exact SB.mul hz fun t' k => ⟨.str (Txt.mul a n), H, I.tok _, ⟨_, rfl⟩, q⟩
theorem mulOk_one {c : Nat} {n : Int} (h0 : -1000000 ≤ n) (h1 : n ≤ 1000000) : MulOk ⟨#[c]⟩ n := by
  refine ⟨?_, fun h _ => ?_, fun h _ => ?_⟩
  · rw [decide_eq_false (by omega), decide_eq_false (by omega)]
    rfl
  · intro z
    have z' : (1 : Int) > (2 ^ 63 - 1) / n := z
    have : (1 : Int) ≤ (2 ^ 63 - 1) / n := (Int.le_ediv_iff_mul_le (by omega)).mpr (by omega)
    omega
  · show Builtin.Str.tooLong (1 * n.toNat) = false
    unfold Builtin.Str.tooLong
    refine decide_eq_false ?_
    have : n.toNat ≤ 1000000 := by omega
    have e : (1000000 : Nat) < sizeLine := by decide
    omega
/-! ### two tuples side by side -/
theorem walk_zipT {K : PySem.W.Frag} {a b : Addr} {xs ys : List V} {n : Nat} (hn : n = min xs.length ys.length) : Walk (RZ.ItzT K a b) n (fun H => SqT K H a xs ∧ SqT K H b ys) (YPair (fun i => xs[i]?) (fun i => ys[i]?)) := by
  refine ⟨fun i _ hi ⟨q1, q2⟩ => ⟨xs, ys, xs[i]'(by omega), ys[i]'(by omega), q1, q2, by simp [show i < xs.length by omega], by simp [show i < ys.length by omega]⟩, fun _ ⟨q1, q2⟩ => ⟨xs, ys, q1, q2, by omega⟩, fun i H v H' _ ⟨q1, q2⟩ y => ?_⟩
  obtain ⟨T, x, z, h1, h2, h3, h4, h5⟩ := y
  exact ⟨T, x, z, h1, h2, h3, h4 xs q1, h5 ys q2⟩
/-! ### repr of lists and tuples of any data -/
def rReprD (K : PySem.W.Frag) : List V → Hp → VK → Prop := fun xs G R => ∃ (p : Addr) (d : PyData), xs = [.ref p] ∧ Dp K G (.ref p) d ∧ d.showable = true ∧ d.hasDict = false ∧ d.depth ≤ 20 ∧ d.shown.length ≤ sizeLine ∧ R (.str d.shown) G
theorem call_reprD {X : Cx} (hgd : X.A.guards = some []) (hu : X.A.units + 64 < cLine) : CallR X (.builtin "repr") (rReprD X.K) := by
  intro pins s σ G xs us R I va sat
  obtain ⟨p, d, rfl, hp, h1, h2, h3, hz, q⟩ := sat
  obtain ⟨u, rfl, hu1⟩ := vals1 va
  obtain rfl : u = Value.ref p := hu1
  obtain ⟨as, rd⟩ := Dp.reads I d (.ref p) (.ref p) hp rfl
  refine repr_of_reads' rd h1 (PyData.noDict_hsm h2) hgd (by omega) (fun _ _ z => z) (fun h' u tk hk => ?_) hz
  exact ⟨.str _, G, I.kept hk, ⟨u, rfl⟩, q⟩
theorem shownAll_le {m : Nat} : ∀ (ds : List PyData), (∀ d ∈ ds, d.shown.length ≤ m) → ∀ y ∈ PyData.shownAll ds, y.length ≤ m
  | [], _, y, hy => by simp [PyData.shownAll] at hy
  | d :: ds, h, y, hy => by
    rcases List.mem_cons.mp (show y ∈ d.shown :: PyData.shownAll ds from hy) with rfl | hy
    · exact h d List.mem_cons_self
    · exact shownAll_le ds (fun e he => h e (List.mem_cons_of_mem _ he)) y hy
theorem shown_list_le {m : Nat} {ds : List PyData} (h : ∀ d ∈ ds, d.shown.length ≤ m) : (PyData.list ds).shown.length ≤ ds.length * (m + 2) + 2 := by
  rw [PyData.shown_list]
  have hj := Nat.le_trans (StrLaws.join_length_le ", " (PyData.shownAll ds)) (join_le ", " _ m (shownAll_le ds h))
  rw [PyData.shownAll_length] at hj
  have e1 : ((", " : Str)).length = 2 := by decide
  have e2 : (("[" : Str)).length = 1 := by decide
  have e3 : (("]" : Str)).length = 1 := by decide
  rw [e1] at hj
  rw [strLen_append, strLen_append, e2, e3]
  omega
theorem shown_tuple_le {m : Nat} {ds : List PyData} (h : ∀ d ∈ ds, d.shown.length ≤ m) : (PyData.tuple ds).shown.length ≤ ds.length * (m + 2) + 3 := by
  rw [PyData.shown_tuple]
  have hj := Nat.le_trans (StrLaws.join_length_le ", " (PyData.shownAll ds)) (join_le ", " _ m (shownAll_le ds h))
  rw [PyData.shownAll_length] at hj
  have e1 : ((", " : Str)).length = 2 := by decide
  have e2 : (("(" : Str)).length = 1 := by decide
  have e3 : ((",)" : Str)).length = 2 := by decide
  have e4 : ((")" : Str)).length = 1 := by decide
  rw [e1] at hj
  rw [strLen_append, strLen_append, e2]
  split
  · rw [e3]
    omega
  · rw [e4]
    omega
theorem dpAll_ints {K : PySem.W.Frag} {H : Hp} : ∀ ns : List Int, DpAll K H (ns.map V.int) (ns.map PyData.int)
  | [] => .nil
  | n :: ns => .cons (.int n) (dpAll_ints ns)
end LM

set_option Elab.async false
set_option linter.all false
set_option maxRecDepth 100000
set_option maxHeartbeats 4000000
namespace LM
open PySem PySem.Spec PyProof.Rows L2
/-! ### how many labels are borne below a place -/
def sumC (B : Nat) (c : Nat → Nat) : Nat → Nat
  | 0 => 0
  | g + 1 => sumC B c g + (B - c g)
def bor (B : Nat) (c : Nat → Nat) (s : Nat) : Bool := decide (c (s / B) ≤ s % B)
def bel (B : Nat) (c : Nat → Nat) (s : Nat) : Nat := ((List.range s).filter (bor B c)).length
section
variable {B : Nat} {c : Nat → Nat}
theorem bel_succ (s : Nat) : bel B c (s + 1) = bel B c s + if bor B c s = true then 1 else 0 := by
  unfold bel
  rw [List.range_succ, List.filter_append, List.length_append]
  cases h : bor B c s <;> simp [h]
theorem bel_eq (hB : 0 < B) (hc : ∀ g, c g ≤ B) : ∀ g j, j ≤ B → bel B c (g * B + j) = sumC B c g + (j - c g) := by
  have inner : ∀ g, bel B c (g * B) = sumC B c g → ∀ j, j ≤ B → bel B c (g * B + j) = sumC B c g + (j - c g) := by
    intro g h0 j
    induction j with
    | zero =>
      intro _
      rw [Nat.add_zero, h0, Nat.zero_sub, Nat.add_zero]
    | succ j ih =>
      intro hj
      rw [← Nat.add_assoc, bel_succ, ih (by omega)]
      have e1 : (g * B + j) / B = g := by
        rw [Nat.mul_comm, Nat.mul_add_div hB, Nat.div_eq_of_lt (by omega), Nat.add_zero]
      have e2 : (g * B + j) % B = j := by
        rw [Nat.mul_comm, Nat.mul_add_mod, Nat.mod_eq_of_lt (by omega)]
      have e3 : bor B c (g * B + j) = decide (c g ≤ j) := by
        unfold bor
        rw [e1, e2]
      rw [e3]
      by_cases h : c g ≤ j
      · rw [decide_eq_true h, if_pos rfl]
        omega
      · rw [decide_eq_false h, if_neg Bool.false_ne_true]
        omega
  intro g
  induction g with
  | zero => exact inner 0 (by rw [Nat.zero_mul]; rfl)
  | succ g ih =>
    refine inner (g + 1) ?_
    have := ih B (Nat.le_refl B)
    rw [Nat.succ_mul, this]
    rfl
theorem bel_at (hB : 0 < B) (hc : ∀ g, c g ≤ B) (s : Nat) : bel B c s = sumC B c (s / B) + (s % B - c (s / B)) := by
  have h := bel_eq hB hc (s / B) (s % B) (Nat.le_of_lt (Nat.mod_lt s hB))
  rwa [Nat.div_add_mod'] at h
theorem sumC_add {L : Nat} (hp : ∀ i, c (i + L) = c i) : ∀ g, sumC B c (g + L) = sumC B c g + sumC B c L
  | 0 => by
    rw [Nat.zero_add]
    show _ = 0 + _
    rw [Nat.zero_add]
  | g + 1 => by
    have e : g + 1 + L = (g + L) + 1 := by omega
    rw [e]
    show sumC B c (g + L) + (B - c (g + L)) = sumC B c g + (B - c g) + sumC B c L
    rw [sumC_add hp g, hp]
    omega
theorem c_mul {L : Nat} (hp : ∀ i, c (i + L) = c i) : ∀ q i, c (i + L * q) = c i
  | 0, i => rfl
  | q + 1, i => by rw [Nat.mul_succ, ← Nat.add_assoc, hp, c_mul hp q]
theorem sumC_mul {L : Nat} (hp : ∀ i, c (i + L) = c i) : ∀ q g, sumC B c (g + L * q) = sumC B c g + sumC B c L * q
  | 0, g => rfl
  | q + 1, g => by
    rw [Nat.mul_succ, ← Nat.add_assoc, sumC_add hp, sumC_mul hp q, Nat.mul_succ]
    omega
theorem bor_mul (hB : 0 < B) {L : Nat} (hp : ∀ i, c (i + L) = c i) (q s : Nat) : bor B c (s + L * B * q) = bor B c s := by
  unfold bor
  have e1 : (s + L * B * q) / B = s / B + L * q := by
    rw [show L * B * q = B * (L * q) by rw [Nat.mul_comm L B, Nat.mul_assoc], Nat.add_mul_div_left _ _ hB]
  have e2 : (s + L * B * q) % B = s % B := by
    rw [show L * B * q = B * (L * q) by rw [Nat.mul_comm L B, Nat.mul_assoc], Nat.add_mul_mod_self_left]
  rw [e1, e2, c_mul hp]
theorem bel_mul (hB : 0 < B) (hc : ∀ g, c g ≤ B) {L : Nat} (hp : ∀ i, c (i + L) = c i) (q s : Nat) : bel B c (s + L * B * q) = bel B c s + sumC B c L * q := by
  have e1 : (s + L * B * q) / B = s / B + L * q := by
    rw [show L * B * q = B * (L * q) by rw [Nat.mul_comm L B, Nat.mul_assoc], Nat.add_mul_div_left _ _ hB]
  have e2 : (s + L * B * q) % B = s % B := by
    rw [show L * B * q = B * (L * q) by rw [Nat.mul_comm L B, Nat.mul_assoc], Nat.add_mul_mod_self_left]
  rw [bel_at hB hc, bel_at hB hc, e1, e2, c_mul hp, sumC_mul hp]
  omega
theorem bel_mono {s t : Nat} (h : s ≤ t) : bel B c s ≤ bel B c t := by
  induction t with
  | zero => rw [Nat.le_zero.mp h]; exact Nat.le_refl _
  | succ t ih =>
    rcases Nat.lt_or_eq_of_le h with z | z
    · rw [bel_succ]
      have := ih (by omega)
      omega
    · rw [z]; exact Nat.le_refl _
theorem bel_lt {s t : Nat} (hs : bor B c s = true) (h : s < t) : bel B c s < bel B c t := by
  have := bel_mono (B := B) (c := c) (show s + 1 ≤ t from h)
  rw [bel_succ, if_pos hs] at this
  omega
theorem bel_inj {s t : Nat} (hs : bor B c s = true) (ht : bor B c t = true) (h : bel B c s = bel B c t) : s = t := by
  rcases Nat.lt_trichotomy s t with z | z | z
  · have := bel_lt hs z
    omega
  · exact z
  · have := bel_lt ht z
    omega
theorem spot_get {p : Nat → Bool} {s : Nat} (hp : p s = true) : ∀ {N : Nat}, s < N → ((List.range N).filter p)[((List.range s).filter p).length]? = some s
  | N + 1, h => by
    rw [List.range_succ, List.filter_append]
    rcases Nat.lt_or_eq_of_le (Nat.le_of_lt_succ h) with z | z
    · have ih := spot_get hp z
      rw [List.getElem?_append_left (List.getElem?_eq_some_iff.mp ih).1]
      exact ih
    · subst z
      rw [List.getElem?_append_right (Nat.le_refl _), Nat.sub_self]
      simp [hp]
end
theorem lnaGo_spec (fs : List Int) (x : Int) (n lo hi : Nat) (h : lo < hi) (h1 : fs.getD lo 0 ≤ x) (h2 : hi = n ∨ x < fs.getD hi 0) : fs.getD (lnaGo fs x lo hi) 0 ≤ x ∧ (lnaGo fs x lo hi + 1 = n ∨ x < fs.getD (lnaGo fs x lo hi + 1) 0) := by
  unfold lnaGo
  split
  · split
    · rename_i hm
      exact lnaGo_spec fs x n ((lo + hi) / 2) hi (by omega) hm h2
    · rename_i hm
      exact lnaGo_spec fs x n lo ((lo + hi) / 2) (by omega) h1 (.inr (by omega))
  · have e : lo + 1 = hi := by omega
    rw [e]
    exact ⟨h1, h2⟩
termination_by hi - lo
decreasing_by all_goals omega
/-! ### the house by its counts -/
noncomputable def cN (gs : List Int) (rows : List R3) (g : Nat) : Nat := (GN gs rows g).toNat
theorem GN_in {gs : List Int} {rows : List R3} (fr : Fair gs rows) (g : Nat) : 0 ≤ GN gs rows g ∧ GN gs rows g < gs.getLastD 1 := by
  have hl := fr.bb _ (lastD_mem fr.b0)
  unfold GN
  suffices ∀ (l : List R3) (acc : Int), (∀ r ∈ l, RowOk 60 gs r) → 0 ≤ acc ∧ acc < gs.getLastD 1 → 0 ≤ l.foldl (gnStep gs g) acc ∧ l.foldl (gnStep gs g) acc < gs.getLastD 1 from this rows 0 fr.ro ⟨Int.le_refl 0, by omega⟩
  intro l
  induction l with
  | nil => exact fun _ _ h => h
  | cons r l ih =>
    intro acc h ha
    rw [List.foldl_cons]
    refine ih _ (fun x hx => h x (List.mem_cons_of_mem _ hx)) ?_
    unfold gnStep
    split
    · exact (h r List.mem_cons_self).2.2.2.2
    · exact ha
/-- what a house's lists are, by its counts -/
structure Cnt (gs : List Int) (rows : List R3) (cs : List Int) (B : Nat) (c : Nat → Nat) (L : Nat) : Prop where
  hB : 2 ≤ B
  hB6 : B ≤ 60
  last : gs.getLastD 1 = (B : Int)
  hL : 1 ≤ L
  hL7 : L ≤ 7200
  len : cs.length = L
  cse : cs = (List.range L).map fun g => ((c g : Nat) : Int)
  lt : ∀ g, c g < B
  per : ∀ i, c (i + L) = c i
  eqG : ∀ g, GN gs rows g = ((c g : Nat) : Int)
  least : LeastPer (GN gs rows) L
theorem cnt_of {gs : List Int} {rows : List R3} {cs : List Int} (fr : Fair gs rows) (h : ∃ k, RepIs (countsP gs rows (groupsP gs rows)) k ∧ cs = (countsP gs rows (groupsP gs rows)).take k) : Cnt gs rows cs (gs.getLastD 1).toNat (cN gs rows) cs.length := by
  obtain ⟨lp, e⟩ := cs_GN fr h
  have hl := fr.bb _ (lastD_mem fr.b0)
  have hG : ∀ g, GN gs rows g = ((cN gs rows g : Nat) : Int) := fun g => by
    have := GN_in fr g
    unfold cN
    omega
  obtain ⟨k, hk, hcs⟩ := h
  obtain ⟨f1, f2, _, _⟩ := cs_facts fr hk hcs
  refine ⟨by omega, by omega, by omega, f1, f2, rfl, ?_, fun g => ?_, fun i => ?_, hG, lp⟩
  · conv => lhs; rw [e]
    exact List.map_congr_left fun g _ => hG g
  · have := GN_in fr g
    have := hG g
    omega
  · have h1 := lp.2.1 i
    rw [hG, hG] at h1
    omega
section
variable {gs : List Int} {rows : List R3} {cs : List Int} {B : Nat} {c : Nat → Nat} {L : Nat}
theorem sum_range (n : Nat) (hlt : ∀ g, c g < B) : ((List.range n).map fun g => (B : Int) - ((c g : Nat) : Int)).sum = ((sumC B c n : Nat) : Int) := by
  induction n with
  | zero => rfl
  | succ n ih =>
    rw [List.range_succ, List.map_append, List.sum_append, ih]
    show _ + ((B : Int) - ((c n : Nat) : Int) + 0) = ((sumC B c n + (B - c n) : Nat) : Int)
    have := hlt n
    omega
theorem Cnt.borne (k : Cnt gs rows cs B c L) : borneP gs cs = (List.range L).map fun g => (B : Int) - ((c g : Nat) : Int) := by
  unfold borneP
  rw [k.cse, List.map_map, k.last]
  rfl
theorem Cnt.total (k : Cnt gs rows cs B c L) : (borneP gs cs).sum = ((sumC B c L : Nat) : Int) := by
  rw [k.borne, sum_range _ k.lt]
theorem Cnt.ahead (k : Cnt gs rows cs B c L) {i : Nat} (h : i < L) : (sumsP (borneP gs cs)).getD i 0 = ((sumC B c i : Nat) : Int) := by
  unfold sumsP
  have hl : (borneP gs cs).length = L := by rw [borneP_len, k.len]
  rw [hl, List.getD_eq_getElem?_getD, List.getElem?_map, List.getElem?_range h]
  show ((borneP gs cs).take i).sum = _
  rw [k.borne, ← List.map_take, List.take_range, Nat.min_eq_left (by omega), sum_range _ k.lt]
theorem Cnt.skipped (k : Cnt gs rows cs B c L) {i : Nat} (h : i < L) : cs.getD i 0 = ((c i : Nat) : Int) := by
  rw [k.cse, List.getD_eq_getElem?_getD, List.getElem?_map, List.getElem?_range h]
  rfl
theorem sumC_mono {i j : Nat} (h : i ≤ j) : sumC B c i ≤ sumC B c j := by
  induction j with
  | zero => rw [Nat.le_zero.mp h]; exact Nat.le_refl _
  | succ j ih =>
    rcases Nat.lt_or_eq_of_le h with z | z
    · have := ih (by omega)
      show _ ≤ sumC B c j + (B - c j)
      omega
    · rw [z]; exact Nat.le_refl _
/-- the place of a frame bears just this frame -/
theorem Cnt.place (k : Cnt gs rows cs B c L) (hF : 1 ≤ sumC B c L) (m : Nat) : ∃ s : Nat, placeP gs cs (m : Int) = (s : Int) ∧ bor B c s = true ∧ bel B c s = m := by
  have hlen : (sumsP (borneP gs cs)).length = L := by rw [sumsP_len, borneP_len, k.len]
  unfold placeP
  rw [k.total, ← Int.natCast_ediv, ← Int.natCast_emod]
  have hmF : m % sumC B c L < sumC B c L := Nat.mod_lt _ (by omega)
  have h0 : (sumsP (borneP gs cs)).getD 0 0 ≤ ((m % sumC B c L : Nat) : Int) := by
    rw [k.ahead (by have := k.hL; omega)]
    show ((0 : Nat) : Int) ≤ _
    omega
  have hlt := lna_lt (sumsP (borneP gs cs)) ((m % sumC B c L : Nat) : Int) (by rw [hlen]; exact k.hL)
  have sp := lnaGo_spec (sumsP (borneP gs cs)) ((m % sumC B c L : Nat) : Int) L 0 L k.hL h0 (.inl rfl)
  have elna : lna (sumsP (borneP gs cs)) ((m % sumC B c L : Nat) : Int) = lnaGo (sumsP (borneP gs cs)) ((m % sumC B c L : Nat) : Int) 0 L := by
    unfold lna
    rw [hlen]
  rw [← elna] at sp
  rw [hlen] at hlt
  generalize lna (sumsP (borneP gs cs)) ((m % sumC B c L : Nat) : Int) = r at hlt sp
  obtain ⟨s1, s2⟩ := sp
  rw [k.ahead hlt] at s1
  have s3 : m % sumC B c L < sumC B c (r + 1) := by
    rcases s2 with z | z
    · rw [z]
      exact hmF
    · by_cases h : r + 1 < L
      · rw [k.ahead h] at z
        omega
      · rw [show r + 1 = L by omega]
        exact hmF
  have s1' : sumC B c r ≤ m % sumC B c L := by omega
  have s3' : m % sumC B c L < sumC B c r + (B - c r) := s3
  have hcr := k.lt r
  rw [k.ahead hlt, k.skipped hlt, k.last, k.len]
  refine ⟨(m / sumC B c L * L + r) * B + (c r + (m % sumC B c L - sumC B c r)), ?_, ?_, ?_⟩
  · rw [Int.natCast_add, Int.natCast_mul, Int.natCast_add, Int.natCast_mul]
    omega
  · have e1 : ((m / sumC B c L * L + r) * B + (c r + (m % sumC B c L - sumC B c r))) / B = r + L * (m / sumC B c L) := by
      rw [Nat.mul_comm _ B, Nat.mul_add_div (by omega), Nat.div_eq_of_lt (show c r + (m % sumC B c L - sumC B c r) < B by omega), Nat.add_zero, Nat.mul_comm L, Nat.add_comm]
    have e2 : ((m / sumC B c L * L + r) * B + (c r + (m % sumC B c L - sumC B c r))) % B = c r + (m % sumC B c L - sumC B c r) := by
      rw [Nat.mul_comm _ B, Nat.mul_add_mod, Nat.mod_eq_of_lt (show c r + (m % sumC B c L - sumC B c r) < B by omega)]
    unfold bor
    rw [e1, e2, c_mul k.per]
    exact decide_eq_true (by omega)
  · rw [bel_eq (by omega) (fun g => Nat.le_of_lt (k.lt g)) _ _ (by omega), Nat.add_comm _ r, Nat.mul_comm _ L, c_mul k.per, sumC_mul k.per]
    have := Nat.mod_add_div m (sumC B c L)
    omega
end
end LM

set_option Elab.async false
set_option linter.all false
set_option maxRecDepth 100000
set_option maxHeartbeats 4000000
namespace LM
open PySem PySem.Spec PyProof.Rows L2
/-! ### the law's own house by its counts -/
theorem again_rep {cs : List Int} {k : Nat} : againL cs k = true ↔ repOk cs k := by
  unfold againL repOk
  rw [Bool.and_eq_true, decide_eq_true_iff, decide_eq_true_iff]
  refine ⟨fun ⟨h1, h2⟩ => ⟨?_, h2⟩, fun ⟨h1, h2⟩ => ⟨?_, h2⟩⟩
  · have := Nat.div_add_mod' cs.length k
    omega
  · exact Nat.div_mul_cancel (Nat.dvd_of_mod_eq_zero h1)
section
variable {gs : List Int} {rows : List R3} {cs : List Int} {B : Nat} {c : Nat → Nat} {L : Nat}
theorem Cnt.size (k : Cnt gs rows cs B c L) (fr : Fair gs rows) : sizeL (gapsL gs rows (groupsP gs rows)) = L ∧ L ≤ groupsP gs rows := by
  have hn := GN_per (keeps_groups gs rows)
  have g1 : 1 ≤ groupsP gs rows := Nat.mul_pos (unitP_pos fr.bb 0) (every_mono rows 1 (by decide) fun x hx => (fr.ro x hx).2.2.1)
  have hd := k.least.dvd hn
  have hle := Nat.le_of_dvd g1 hd
  refine ⟨?_, hle⟩
  rw [gaps_GN fr]
  generalize groupsP gs rows = n at *
  unfold sizeL sizesL
  rw [List.length_map, List.length_range]
  have hf : (List.range n).find? (fun j => againL ((List.range n).map (GN gs rows)) (j + 1)) = some (L - 1) := by
    rw [List.find?_range_eq_some]
    have hL := k.hL
    refine ⟨?_, List.mem_range.mpr (by omega), fun j hj => ?_⟩
    · rw [show L - 1 + 1 = L by omega]
      exact again_rep.mpr ((repOk_iff k.hL hle hn).mpr ⟨hd, k.least.2.1⟩)
    · cases h : againL ((List.range n).map (GN gs rows)) (j + 1) with
      | false => rfl
      | true => exact absurd ((repOk_iff (by omega) (by omega) hn).mp (again_rep.mp h)).2 (k.least.2.2 (j + 1) (by omega) (by omega))
  rw [← List.head?_filter] at hf
  cases e : (List.range n).filter fun j => againL ((List.range n).map (GN gs rows)) (j + 1) with
  | nil =>
    rw [e] at hf
    cases hf
  | cons x l =>
    rw [e] at hf
    obtain rfl := Option.some.inj hf
    have hL := k.hL
    show L - 1 + 1 = L
    omega
theorem Cnt.spots (k : Cnt gs rows cs B c L) (fr : Fair gs rows) {n : Nat} (hn : n ≤ L * B) : spotsL (gapsL gs rows (groupsP gs rows)) B n = (List.range n).filter (bor B c) := by
  obtain ⟨_, hle⟩ := k.size fr
  have hB := k.hB
  unfold spotsL
  refine List.filter_congr fun s hs => ?_
  have hs := List.mem_range.mp hs
  have hdiv : s / B < L := Nat.div_lt_of_lt_mul (by rw [Nat.mul_comm]; omega)
  unfold spotOk bor
  rw [gaps_GN fr, List.getD_eq_getElem?_getD, range_get (show s / B < groupsP gs rows by omega)]
  show decide (GN gs rows (s / B) ≤ ((s % B : Nat) : Int)) = _
  rw [k.eqG]
  by_cases h : c (s / B) ≤ s % B
  · rw [decide_eq_true h]
    exact decide_eq_true (by omega)
  · rw [decide_eq_false h]
    exact decide_eq_false (by omega)
theorem Cnt.below (k : Cnt gs rows cs B c L) (fr : Fair gs rows) : belowL (gapsL gs rows (groupsP gs rows)) B (L * B) = (List.range (L * B)).map (bel B c) := by
  unfold belowL
  refine List.map_congr_left fun s hs => ?_
  rw [k.spots fr (Nat.le_of_lt (List.mem_range.mp hs))]
  rfl
theorem Cnt.belN (k : Cnt gs rows cs B c L) : bel B c (L * B) = sumC B c L := by
  have hB := k.hB
  have h := bel_eq (B := B) (c := c) (by omega) (fun g => Nat.le_of_lt (k.lt g)) L 0 (Nat.zero_le _)
  rw [Nat.add_zero, Nat.zero_sub, Nat.add_zero] at h
  exact h
theorem Cnt.pos (k : Cnt gs rows cs B c L) : 1 ≤ sumC B c L := by
  have h := sumC_mono (B := B) (c := c) k.hL
  have h2 : sumC B c 1 = 0 + (B - c 0) := rfl
  have := k.lt 0
  omega
theorem Cnt.top (k : Cnt gs rows cs B c L) : sumC B c L ≤ L * B := by
  rw [← k.belN]
  unfold bel
  exact Nat.le_trans (List.length_filter_le _ _) (by rw [List.length_range]; exact Nat.le_refl _)
/-- places and frames of the house over a round -/
theorem Cnt.bel_split (k : Cnt gs rows cs B c L) (s : Nat) : bel B c s = s / (L * B) * sumC B c L + bel B c (s % (L * B)) ∧ bor B c s = bor B c (s % (L * B)) := by
  have hB := k.hB
  have h1 := bel_mul (B := B) (c := c) (by omega) (fun g => Nat.le_of_lt (k.lt g)) k.per (s / (L * B)) (s % (L * B))
  have h2 := bor_mul (B := B) (c := c) (by omega) k.per (s / (L * B)) (s % (L * B))
  rw [Nat.mod_add_div] at h1 h2
  refine ⟨?_, h2⟩
  rw [h1, Nat.mul_comm (sumC B c L)]
  omega
theorem Cnt.spot (k : Cnt gs rows cs B c L) {s : Nat} (hs : bor B c s = true) : ∃ q, ((List.range (L * B)).filter (bor B c))[bel B c s % sumC B c L]? = some q ∧ bel B c s / sumC B c L * (L * B) + q = s := by
  have hB := k.hB
  have hLB : 0 < L * B := Nat.mul_pos k.hL (by omega)
  obtain ⟨e1, e2⟩ := k.bel_split s
  have hm := Nat.mod_lt s hLB
  have hq := spot_get (e2 ▸ hs) hm
  have hlt : bel B c (s % (L * B)) < sumC B c L := by
    rw [← k.belN]
    exact bel_lt (e2 ▸ hs) hm
  have d1 : bel B c s / sumC B c L = s / (L * B) := by
    rw [e1, Nat.mul_comm, Nat.mul_add_div k.pos, Nat.div_eq_of_lt hlt, Nat.add_zero]
  have d2 : bel B c s % sumC B c L = bel B c (s % (L * B)) := by
    rw [e1, Nat.mul_comm, Nat.mul_add_mod, Nat.mod_eq_of_lt hlt]
  refine ⟨s % (L * B), ?_, ?_⟩
  · rw [d2]
    exact hq
  · rw [d1, Nat.mul_comm]
    exact Nat.div_add_mod s (L * B)
end
end LM

set_option Elab.async false
set_option linter.all false
set_option maxRecDepth 100000
set_option maxHeartbeats 4000000
set_option pp.maxSteps 600
set_option pp.deepTerms false
namespace LM
open PySem PySem.Spec PyProof.Rows L2
local macro_rules | `(tactic| walk_at "hp") => `(tactic| first | assumption | exact upd_same | (rw [upd_ne (by assumption)]; assumption) | (rw [upd_ne (Ne.symm (by assumption))]; assumption) | (rw [upd_ne (by assumption)]; exact upd_same) | (rw [upd_ne (Ne.symm (by assumption))]; exact upd_same))
local macro_rules | `(tactic| walk_at "sq") => `(tactic| first | assumption | exact Or.inl (Or.inl (by assumption)) | exact Or.inl (Or.inl upd_same) | exact Or.inl (Or.inl (by walk_at "hp")))
local macro_rules | `(tactic| walk_at "ixl") => `(tactic| refine ⟨_, _, _, _, rfl, rfl, (by walk_at "sq"), (by rfl), ?_⟩)
local macro_rules | `(tactic| walk_at "setl") => `(tactic| refine ⟨_, _, _, _, rfl, rfl, (by walk_at "hp"), (by rfl), ?_⟩)
local macro_rules | `(tactic| walk_at "side") => `(tactic| refine idP ?_; first | omega | (show (0 : Int) < _; omega) | (show (0 : Int) < _ ∧ _ < _; omega) | (refine Or.inr ?_; show (-(2 ^ 64) : Int) < _ ∧ _ < _; omega) | (refine Or.inl ?_; show (-(2 ^ 64) : Int) < _ ∧ _ < _; omega) | exact divW (by omega) (by omega) _ | (refine ⟨by decide, by decide, ?_⟩; decide))
local macro_rules | `(tactic| walk_at "go1") => `(tactic| first
  | refine ⟨_, rfl, ?_⟩
  | refine ⟨_, _, rfl, rfl, (by walk_at "side"), ?_⟩
  | refine ⟨_, _, rfl, (by walk_at "side"), ?_⟩
  | refine ⟨_, _, rfl, rfl, ?_⟩
  | refine Or.inl ⟨_, rfl, ?_⟩
  | refine ⟨_, _, rfl, Or.inl (by walk_at "sq"), ?_⟩
  | walk_at "ixl"
  | walk_at "setl"
  | refine ⟨_, _, rfl, (by walk_at "sq"), rfl, ?_⟩
  | refine ⟨_, _, rfl, (by walk_at "sq"), ?_⟩
  | refine ⟨_, _, rfl, ?_⟩
  | refine ⟨rfl, ?_⟩
  | refine ⟨small (Nat.le_of_ble_eq_true rfl), ?_⟩)
local macro_rules | `(tactic| walk_at "go") => `(tactic| repeat walk_at "go1")

abbrev sis_way : Stmt := topS 24
theorem scis_way : FnScope ["value"] ["value"] (defScope sis_way) := ⟨rfl, rfl, rfl, by decide +kernel, rfl, by decide +kernel, by decide +kernel⟩
abbrev scheck_way : Stmt := topS 25
theorem sccheck_way : FnScope ["given"] ["given"] (defScope scheck_way) := ⟨rfl, rfl, rfl, by decide +kernel, rfl, by decide +kernel, by decide +kernel⟩
abbrev sHouse_first_frame : Stmt := inClass (topS 57) 13
theorem scHouse_first_frame : FnScope ["self", "group", "groups", "frames", "rounds", "rest"] ["self", "group"] (defScope sHouse_first_frame) := ⟨rfl, rfl, rfl, by decide +kernel, rfl, by decide +kernel, by decide +kernel⟩
abbrev sHouse_frame_bearing : Stmt := inClass (topS 57) 15
theorem scHouse_frame_bearing : FnScope ["self", "place", "group", "number", "behind"] ["self", "place"] (defScope sHouse_frame_bearing) := ⟨rfl, rfl, rfl, by decide +kernel, rfl, by decide +kernel, by decide +kernel⟩
abbrev sHouse_at : Stmt := inClass (topS 57) 10
theorem scHouse_at : FnScope ["self", "place", "way", "frame", "following"] ["self", "place", "way"] (defScope sHouse_at) := ⟨rfl, rfl, rfl, by decide +kernel, rfl, by decide +kernel, by decide +kernel⟩
def wayS (nx : Bool) : Str := if nx then "next" else "last"
def wayStr (x : Str) : Bool := (x == "next") || (x == "last")
def spIsWay : Sp := fun vs H Q _ => ∃ x : Str, vs = [.str x] ∧ ∀ H', Same H H' → Q (.bl (wayStr x)) H'
def spWay : Sp := fun vs H Q _ => ∃ nx : Bool, vs = [.str (wayS nx)] ∧ ∀ H', Same H H' → Q .non H'
/-- what is told of a place -/
def atO (B : Nat) (c : Nat → Nat) (s : Nat) (nx : Bool) : Option Int := if bor B c s = true then some (bel B c s : Int) else if nx = true then some (bel B c s : Int) else if 0 < bel B c s then some ((bel B c s : Int) - 1) else none
def bearO (B : Nat) (c : Nat → Nat) (s : Nat) : Option Int := if bor B c s = true then some (bel B c s : Int) else none
/-- a house at p, by its counts -/
def HouseBy (K : PySem.W.Frag) (C : Addr) (old : Addr → Prop) (H : Hp) (p b r : Addr) (bs : List Int) (rows : List R3) (cs : List Int) (B : Nat) (c : Nat → Nat) (L : Nat) : Prop := HouseAt K C old H p b r bs rows cs ∧ Cnt bs rows cs B c L
theorem HouseAt.by {K : PySem.W.Frag} {C : Addr} {old : Addr → Prop} {H : Hp} {p b r : Addr} {bs : List Int} {rows : List R3} {cs : List Int} (h : HouseAt K C old H p b r bs rows cs) : HouseBy K C old H p b r bs rows cs (bs.getLastD 1).toNat (cN bs rows) cs.length := ⟨h, cnt_of h.fair h.rep⟩
theorem hf_ff (b r sk ah rd : Addr) (t : Str) : (hf b r sk ah rd t).lookup ("_first_frame" : Str) = none := hf_no _ _ _ _ _ _ (by decide +kernel) (by decide +kernel) (by decide +kernel) (by decide +kernel) (by decide +kernel) (by decide +kernel)
theorem hf_fb (b r sk ah rd : Addr) (t : Str) : (hf b r sk ah rd t).lookup ("_frame_bearing" : Str) = none := hf_no _ _ _ _ _ _ (by decide +kernel) (by decide +kernel) (by decide +kernel) (by decide +kernel) (by decide +kernel) (by decide +kernel)
theorem hf_at (b r sk ah rd : Addr) (t : Str) : (hf b r sk ah rd t).lookup ("at" : Str) = none := hf_no _ _ _ _ _ _ (by decide +kernel) (by decide +kernel) (by decide +kernel) (by decide +kernel) (by decide +kernel) (by decide +kernel)
def spFirst (K : PySem.W.Frag) (C : Addr) : Sp := fun vs H Q _ => ∃ (old : Addr → Prop) (p b r : Addr) (bs : List Int) (rows : List R3) (cs : List Int) (B : Nat) (c : Nat → Nat) (L g : Nat), vs = [.ref p, .int (g : Int)] ∧ HouseBy K C old H p b r bs rows cs B c L ∧ ∀ H', Same H H' → Q (.int ((sumC B c g : Nat) : Int)) H'
def spBear (K : PySem.W.Frag) (C : Addr) : Sp := fun vs H Q _ => ∃ (old : Addr → Prop) (p b r : Addr) (bs : List Int) (rows : List R3) (cs : List Int) (B : Nat) (c : Nat → Nat) (L s : Nat), vs = [.ref p, .int (s : Int)] ∧ HouseBy K C old H p b r bs rows cs B c L ∧ ∀ H', Same H H' → Q (optV (bearO B c s)) H'
def spAt (K : PySem.W.Frag) (C : Addr) : Sp := fun vs H Q _ => ∃ (old : Addr → Prop) (p b r : Addr) (bs : List Int) (rows : List R3) (cs : List Int) (B : Nat) (c : Nat → Nat) (L s : Nat) (nx : Bool), vs = [.ref p, .int (s : Int), .str (wayS nx)] ∧ HouseBy K C old H p b r bs rows cs B c L ∧ ∀ H', Same H H' → Q (optV (atO B c s nx)) H'
section
variable {P : Program} {w : World} {K : PySem.W.Frag} {mg : Str → Option Value} {base : Heap}
theorem ok_isway {f : Addr} {fd : FuncData} (F : Fun K "is_way" "is_way" sis_way f fd) (N : Names mg) : FnOk P w K mg base CX0 1 f fd ["value"] spIsWay := by
  have sc := scis_way
  refine F.ok sc (fun vs H Q E h => ?_) (fun cdv A outer s H vs Q E hr h => ?_)
  · obtain ⟨x, rfl, _⟩ := h
    rfl
  · obtain ⟨x, rfl, k⟩ := h
    refine ⟨_, (pss_one (ps_ret (pe_and (pe_callB call_isi (by rfl) N.isinstance (by decide +kernel) (pa_cons (pv 0) (pa_cons (pe_ty "str" rfl N.str (by decide +kernel)) pa_nil))) (pe_one (pe_cmpR op_in_seq (pv 0) (pe_tup (pa_cons pe_str (pa_cons pe_str pa_nil))) (by rfl)))))), ?_⟩
    refine ⟨_, rfl, _, _, _, _, _, rfl, .ty _, .base (.str x), kit_ty (r := true) (by decide +kernel), _, rfl, ?_⟩
    refine iteT ?_
    refine ⟨_, rfl, Nat.le_of_ble_eq_true rfl, ?_⟩
    (intro q nq; generalize e_q : upd H q _ = H1; have s1 : Same H H1 := fun b x hb => (congrFun e_q b).symm.trans (same_new nq b x hb); have h1 := (congrFun e_q q).symm.trans upd_same; clear e_q)
    refine ⟨q, _, rfl, .inr (SqT.tup h1), rfl, rfl, ?_⟩
    have e : inV (.str x) [.str "next", .str "last"] = wayStr x := by
      show (("next" : Str) == x || (("last" : Str) == x || false)) = ((x == "next") || (x == "last"))
      rw [Bool.or_false, Bool.beq_comm (a := ("next" : Str)), Bool.beq_comm (a := ("last" : Str))]
    rw [if_neg Bool.false_ne_true, e]
    exact k _ s1
theorem ok_way {f : Addr} {fd : FuncData} (F : Fun K "check_way" "check_way" scheck_way f fd) (Dis_way : DefK P w K mg base "is_way" ["value"] 1 spIsWay) : FnOk P w K mg base CX0 2 f fd ["given"] spWay := by
  have sc := sccheck_way
  refine F.ok sc (fun vs H Q E h => ?_) (fun cdv A outer s H vs Q E hr h => ?_)
  · obtain ⟨nx, rfl, _⟩ := h
    rfl
  · obtain ⟨nx, rfl, k⟩ := h
    refine ⟨_, (pss_one (ps_if (pt_not (pt_val (pe_d Dis_way (hr.mono (by decide)) rfl (pa_cons (pv 0) pa_nil)))) (pss_one ps_never) pss_nil)), ?_⟩
    refine ⟨_, rfl, _, rfl, fun H1 s1 => ?_⟩
    have e : wayStr (wayS nx) = true := by cases nx <;> decide +kernel
    rw [e]
    refine ⟨_, rfl, ?_⟩
    exact iteF (k _ s1)
theorem ok_first {f C : Addr} {fd : FuncData} (F : Fun K "_first_frame" "House._first_frame" sHouse_first_frame f fd) (T : HouseTxt K mg C) (N : Names mg) : FnOk P w K mg base CX0 1 f fd ["self", "group"] (spFirst K C) := by
  have sc := scHouse_first_frame
  refine F.ok sc (fun vs H Q E h => ?_) (fun cdv A outer s H vs Q E hr h => ?_)
  · obtain ⟨old, p, b, r, bs, rows, cs, B, c, L, g, rfl, _⟩ := h
    rfl
  · obtain ⟨old, p, b, r, bs, rows, cs, B, c, L, g, rfl, ⟨⟨⟨dx, sk, ah, rd, e1, e2, e3, e4, _, _⟩, bt, rt, fr, _⟩, ct⟩, k⟩ := h
    refine ⟨_, (pss_cons (ps_asg (pe_fld (pv 0) rfl) (pg_tup rfl (pgs_cons (pg_name (i := 2) sc.nd rfl (Or.inl rfl)) (pgs_cons (pg_name (i := 3) sc.nd rfl (Or.inl rfl)) pgs_nil))))
      (pss_cons (ps_asg (pe_callB call_divmod (by rfl) N.divmod (by decide +kernel) (pa_cons (pv 1) (pa_cons (pv 2) pa_nil))) (pg_tup rfl (pgs_cons (pg_name (i := 4) sc.nd rfl (Or.inl rfl)) (pgs_cons (pg_name (i := 5) sc.nd rfl (Or.inl rfl)) pgs_nil))))
      (pss_one (ps_ret (pe_op op_add (pe_op op_mul (pv 4) (pv 3)) (pe_ix ix_list (pe_fld (pv 0) rfl) (pv 5) (fun _ _ => rfl))))))), ?_⟩
    rw [ct.total, ct.len] at e4
    have hL := ct.hL
    have hL7 := ct.hL7
    have hpos := ct.pos
    have htop := ct.top
    have hLB : L * B ≤ 7200 * 60 := Nat.mul_le_mul hL7 ct.hB6
    refine ⟨_, rfl, p, C, dx, _, _, rfl, e1, T.cl, T.nD, hf_round _ _ _ _ _ _, rd, _, rfl, SqT.tup e4, rfl, _, _, rfl, _, _, rfl, rfl, ?_⟩
    refine ⟨_, rfl, _, rfl, _, _, rfl, ⟨by omega, by omega⟩, ?_⟩
    (intro q nq; generalize e_q : upd H q _ = H1; have s1 : Same H H1 := fun b x hb => (congrFun e_q b).symm.trans (same_new nq b x hb); have h1 := (congrFun e_q q).symm.trans upd_same; clear e_q)
    refine ⟨q, _, rfl, SqT.tup h1, rfl, _, _, rfl, _, _, rfl, rfl, ?_⟩
    have hm : g % L < L := Nat.mod_lt _ hL
    have hlen : (sumsP (borneP bs cs)).length = L := by rw [sumsP_len, borneP_len, ct.len]
    refine ⟨_, rfl, _, rfl, _, _, rfl, rfl, .inr ⟨by omega, by omega⟩, _, rfl, p, C, dx, _, _, rfl, s1 _ _ e1, T.cl, T.nA, hf_ahead _ _ _ _ _ _, _, rfl, ah, _, _, _, rfl, rfl, SqL.lst (s1 _ _ e3), atI_getD (by omega) (by rw [hlen]; omega), _, _, rfl, rfl, ?_⟩
    have e : (g : Int) / (L : Int) * ((sumC B c L : Nat) : Int) + (sumsP (borneP bs cs)).getD ((g : Int) % (L : Int)).toNat 0 = ((sumC B c g : Nat) : Int) := by
      rw [← Int.natCast_emod, Int.toNat_natCast, ct.ahead hm, ← Int.natCast_ediv, ← Int.natCast_mul]
      have h1 := sumC_mul (B := B) ct.per (g / L) (g % L)
      rw [Nat.mod_add_div] at h1
      rw [h1, Nat.mul_comm (sumC B c L)]
      omega
    show Q (V.int ((g : Int) / (L : Int) * ((sumC B c L : Nat) : Int) + (sumsP (borneP bs cs)).getD ((g : Int) % (L : Int)).toNat 0)) H1
    rw [e]
    exact k _ s1
theorem ok_bear {f C fF : Addr} {fd fdF : FuncData} (F : Fun K "_frame_bearing" "House._frame_bearing" sHouse_frame_bearing f fd) (T : HouseTxt K mg C) (N : Names mg) (mF : Meth K C "_first_frame" fF) (GF : FnOk P w K mg base CX0 1 fF fdF ["self", "group"] (spFirst K C)) (bF : Binds K fdF ["self", "group"] []) :
    FnOk P w K mg base CX0 2 f fd ["self", "place"] (spBear K C) := by
  have sc := scHouse_frame_bearing
  refine F.ok sc (fun vs H Q E h => ?_) (fun cdv A outer s H vs Q E hr h => ?_)
  · obtain ⟨old, p, b, r, bs, rows, cs, B, c, L, x, rfl, _⟩ := h
    rfl
  · obtain ⟨old, p, b, r, bs, rows, cs, B, c, L, x, rfl, hB, k⟩ := h
    refine ⟨_, (pss_cons (ps_asg (pe_callB call_divmod (by rfl) N.divmod (by decide +kernel) (pa_cons (pv 1) (pa_cons (pe_ix ix_tup (pe_fld (pv 0) rfl) (pe_un un_neg pe_int) (fun _ _ => rfl)) pa_nil))) (pg_tup rfl (pgs_cons (pg_name (i := 2) sc.nd rfl (Or.inl rfl)) (pgs_cons (pg_name (i := 3) sc.nd rfl (Or.inl rfl)) pgs_nil))))
      (pss_cons (ps_set (i := 4) sc.nd rfl (Or.inl rfl) (pe_op op_sub (pv 3) (pe_ix ix_list (pe_fld (pv 0) rfl) (pe_op op_mod (pv 2) (pe_ix ix_tup (pe_fld (pv 0) rfl) pe_int (fun _ _ => rfl))) (fun _ _ => rfl))))
      (pss_one (ps_ret (pe_ifExp (pt_cmpR op_ge (pv 4) pe_int (nomark _)) (pe_op op_add (pe_meth (pv 0) T.cl mF GF (hr.mono (by decide)) bF .nil pass0 (pa_cons (pv 2) pa_nil)) (pv 4)) pe_non))))), ?_⟩
    obtain ⟨hA, ct⟩ := id hB
    obtain ⟨⟨dx, sk, ah, rd, e1, e2, e3, e4, _, _⟩, bt, rt, fr, _⟩ := id hA
    rw [ct.total, ct.len] at e4
    have hL := ct.hL
    have hL7 := ct.hL7
    have hB2 := ct.hB
    have hB6 := ct.hB6
    refine ⟨_, rfl, _, rfl, p, C, dx, _, _, rfl, e1, T.cl, T.nB, hf_bases _ _ _ _ _ _, _, rfl, b, _, _, _, rfl, rfl, bt, getLastD_map bs fr.b0, _, _, rfl, ?_⟩
    rw [ct.last]
    refine ⟨⟨by omega, by omega⟩, ?_⟩
    (intro q nq; generalize e_q : upd H q _ = H1; have s1 : Same H H1 := fun b x hb => (congrFun e_q b).symm.trans (same_new nq b x hb); have h1 := (congrFun e_q q).symm.trans upd_same; clear e_q)
    refine ⟨q, _, rfl, SqT.tup h1, rfl, _, _, rfl, _, _, rfl, rfl, ?_⟩
    have e1' := s1 _ _ e1
    have e2' := s1 _ _ e2
    have e4' := s1 _ _ e4
    have hm : x / B % L < L := Nat.mod_lt _ hL
    have hsk : atI (cs.map V.int) ((x : Int) / (B : Int) % (L : Int)) = some (V.int ((c (x / B) : Nat) : Int)) := by
      have h1 := c_mul ct.per (x / B / L) (x / B % L)
      rw [Nat.mod_add_div] at h1
      rw [← Int.natCast_ediv, ← Int.natCast_emod, atI_getD (by omega) (by rw [ct.len]; omega), Int.toNat_natCast, ct.skipped hm, h1]
    refine ⟨_, rfl, _, rfl, p, C, dx, _, _, rfl, e1', T.cl, T.nS, hf_skipped _ _ _ _ _ _, _, rfl, _, rfl, p, C, dx, _, _, rfl, e1', T.cl, T.nD, hf_round _ _ _ _ _ _, rd, _, _, _, rfl, rfl, SqT.tup e4', rfl, _, _, rfl, rfl, (by show (0 : Int) < _; omega), sk, _, _, _, rfl, rfl, SqL.lst e2', hsk, _, _, rfl, rfl, ?_⟩
    have hc := ct.lt (x / B)
    have hxB := Nat.mod_lt x (show 0 < B by omega)
    have hbel := bel_at (B := B) (c := c) (by omega) (fun g => Nat.le_of_lt (ct.lt g)) x
    refine ⟨_, rfl, _, _, rfl, rfl, _, rfl, ?_⟩
    refine ifD (fun hd => ?_) (fun hd => ?_)
    · have hd' : c (x / B) ≤ x % B := by rw [← Int.natCast_emod] at hd; omega
      refine ⟨_, rfl, p, dx, _, rfl, e1', hf_ff _ _ _ _ _ _, _, rfl, old, p, b, r, bs, rows, cs, B, c, L, x / B, (by rw [Int.natCast_ediv]; rfl), ⟨hA.same s1, ct⟩, fun H2 s2 => ⟨_, rfl, _, _, rfl, rfl, ?_⟩⟩
      have e : bearO B c x = some (((sumC B c (x / B) : Nat) : Int) + ((x : Int) % (B : Int) - ((c (x / B) : Nat) : Int))) := by
        unfold bearO bor
        rw [decide_eq_true hd', if_pos rfl, hbel, ← Int.natCast_emod]
        refine congrArg some ?_
        omega
      have := k H2 (s1.trans s2)
      rw [e] at this
      exact this
    · have hd' : ¬ c (x / B) ≤ x % B := by rw [← Int.natCast_emod] at hd; omega
      have e : bearO B c x = none := by
        unfold bearO bor
        rw [decide_eq_false hd', if_neg Bool.false_ne_true]
      have := k H1 s1
      rw [e] at this
      exact this
theorem ok_at {f C fF fB : Addr} {fd fdF fdB : FuncData} (F : Fun K "at" "House.at" sHouse_at f fd) (T : HouseTxt K mg C) (N : Names mg) (Dcheck_number : DefK P w K mg base "check_number" ["given"] 3 spChkNum) (Dcheck_way : DefK P w K mg base "check_way" ["given"] 2 spWay)
    (mF : Meth K C "_first_frame" fF) (GF : FnOk P w K mg base CX0 1 fF fdF ["self", "group"] (spFirst K C)) (bF : Binds K fdF ["self", "group"] [])
    (mB : Meth K C "_frame_bearing" fB) (GB : FnOk P w K mg base CX0 2 fB fdB ["self", "place"] (spBear K C)) (bB : Binds K fdB ["self", "place"] []) : FnOk P w K mg base CX0 4 f fd ["self", "place", "way"] (spAt K C) := by
  have sc := scHouse_at
  refine F.ok sc (fun vs H Q E h => ?_) (fun cdv A outer s H vs Q E hr h => ?_)
  · obtain ⟨old, p, b, r, bs, rows, cs, B, c, L, x, nx, rfl, _⟩ := h
    rfl
  · obtain ⟨old, p, b, r, bs, rows, cs, B, c, L, x, nx, rfl, hB, k⟩ := h
    refine ⟨_, (pss_cons (ps_expr (pe_d Dcheck_number (hr.mono (by decide)) rfl (pa_cons (pv 1) pa_nil)))
      (pss_cons (ps_expr (pe_d Dcheck_way (hr.mono (by decide)) rfl (pa_cons (pv 2) pa_nil)))
      (pss_cons (ps_set (i := 3) sc.nd rfl (Or.inl rfl) (pe_meth (pv 0) T.cl mB GB (hr.mono (by decide)) bB .nil pass0 (pa_cons (pv 1) pa_nil)))
      (pss_cons (ps_if (pt_cmpR op_notN (pv 3) pe_non (nomark _)) (pss_one (ps_ret (pv 3))) pss_nil)
      (pss_cons (ps_set (i := 4) sc.nd rfl (Or.inl rfl) (pe_meth (pv 0) T.cl mF GF (hr.mono (by decide)) bF .nil pass0 (pa_cons (pe_op op_fdiv (pv 1) (pe_ix ix_tup (pe_fld (pv 0) rfl) (pe_un un_neg pe_int) (fun _ _ => rfl))) pa_nil)))
      (pss_cons (ps_if (pt_cmpR op_eq (pv 2) pe_str (nomark _)) (pss_one (ps_ret (pv 4))) pss_nil)
      (pss_one (ps_ret (pe_ifExp (pt_cmpR op_gt (pv 4) pe_int (nomark _)) (pe_op op_sub (pv 4) pe_int) pe_non))))))))), ?_⟩
    obtain ⟨hA, ct⟩ := id hB
    obtain ⟨⟨dx, sk, ah, rd, e1, e2, e3, e4, _, _⟩, bt, rt, fr, _⟩ := id hA
    have hB2 := ct.hB
    have hB6 := ct.hB6
    refine ⟨_, rfl, _, rfl, by omega, ?_⟩
    refine ⟨_, rfl, nx, rfl, fun H1 s1 => ?_⟩
    refine ⟨_, rfl, p, dx, _, rfl, s1 _ _ e1, hf_fb _ _ _ _ _ _, _, rfl, old, p, b, r, bs, rows, cs, B, c, L, x, rfl, ⟨hA.same s1, ct⟩, fun H2 s2 => ?_⟩
    have s12 := s1.trans s2
    have hbel := bel_at (B := B) (c := c) (by omega) (fun g => Nat.le_of_lt (ct.lt g)) x
    refine ⟨_, rfl, rfl, _, rfl, ?_⟩
    by_cases hbo : bor B c x = true
    · have e0 : bearO B c x = some ((bel B c x : Nat) : Int) := if_pos hbo
      have e9 : atO B c x nx = some ((bel B c x : Nat) : Int) := if_pos hbo
      have kk := k H2 s12
      rw [e9] at kk
      rw [e0]
      refine ifN (fun _ => ⟨_, rfl, kk⟩) (fun hd => nomatch hd)
    · have e0 : bearO B c x = none := if_neg hbo
      have e9 : atO B c x nx = if nx = true then some ((bel B c x : Nat) : Int) else if 0 < bel B c x then some (((bel B c x : Nat) : Int) - 1) else none := if_neg hbo
      rw [e0]
      refine ifN (fun hd => absurd rfl hd) (fun _ => ?_)
      have hbel2 : bel B c x = sumC B c (x / B) := by
        unfold bor at hbo
        have : ¬ c (x / B) ≤ x % B := fun z => hbo (decide_eq_true z)
        omega
      refine ⟨_, rfl, p, dx, _, rfl, s12 _ _ e1, hf_ff _ _ _ _ _ _, _, rfl, _, rfl, p, C, dx, _, _, rfl, s12 _ _ e1, T.cl, T.nB, hf_bases _ _ _ _ _ _, _, rfl, b, _, _, _, rfl, rfl, Same.seqT s12 bt, getLastD_map bs fr.b0, _, _, rfl, rfl, (by rw [ct.last]; exact ⟨by omega, by omega⟩), ?_⟩
      refine ⟨old, p, b, r, bs, rows, cs, B, c, L, x / B, (by rw [ct.last, Int.natCast_ediv]; rfl), ⟨hA.same s12, ct⟩, fun H3 s3 => ?_⟩
      have s13 := s12.trans s3
      have kk := k H3 s13
      rw [e9] at kk
      rw [← hbel2]
      refine ⟨_, rfl, rfl, _, rfl, ?_⟩
      cases nx with
      | true =>
        rw [if_pos rfl] at kk
        exact ifD (fun _ => ⟨_, rfl, kk⟩) (fun hd => absurd rfl hd)
      | false =>
        rw [if_neg Bool.false_ne_true] at kk
        refine ifD (fun hd => absurd (V.str.inj hd) (by decide +kernel)) (fun _ => ?_)
        refine ⟨_, rfl, _, _, rfl, rfl, _, rfl, ?_⟩
        refine ifD (fun hd => ?_) (fun hd => ?_)
        · have hd' : 0 < bel B c x := by omega
          rw [if_pos hd'] at kk
          exact ⟨_, rfl, _, _, rfl, rfl, kk⟩
        · have hd' : ¬ 0 < bel B c x := by omega
          rw [if_neg hd'] at kk
          exact kk
end
end LM

set_option Elab.async false
set_option linter.all false
set_option maxRecDepth 100000
set_option maxHeartbeats 4000000
set_option pp.maxSteps 600
set_option pp.deepTerms false
namespace LM
open PySem PySem.Spec PyProof.Rows L2
local macro_rules | `(tactic| walk_at "hp") => `(tactic| first | assumption | exact upd_same | (rw [upd_ne (by assumption)]; assumption) | (rw [upd_ne (Ne.symm (by assumption))]; assumption) | (rw [upd_ne (by assumption)]; exact upd_same) | (rw [upd_ne (Ne.symm (by assumption))]; exact upd_same))
local macro_rules | `(tactic| walk_at "sq") => `(tactic| first | assumption | exact Or.inl (Or.inl (by assumption)) | exact Or.inl (Or.inl upd_same) | exact Or.inl (Or.inl (by walk_at "hp")))
local macro_rules | `(tactic| walk_at "ixl") => `(tactic| refine ⟨_, _, _, _, rfl, rfl, (by walk_at "sq"), (by rfl), ?_⟩)
local macro_rules | `(tactic| walk_at "setl") => `(tactic| refine ⟨_, _, _, _, rfl, rfl, (by walk_at "hp"), (by rfl), ?_⟩)
local macro_rules | `(tactic| walk_at "side") => `(tactic| refine idP ?_; first | omega | (show (0 : Int) < _; omega) | (show (0 : Int) < _ ∧ _ < _; omega) | (refine Or.inr ?_; show (-(2 ^ 64) : Int) < _ ∧ _ < _; omega) | (refine Or.inl ?_; show (-(2 ^ 64) : Int) < _ ∧ _ < _; omega) | exact divW (by omega) (by omega) _ | (refine ⟨by decide, by decide, ?_⟩; decide))
local macro_rules | `(tactic| walk_at "go1") => `(tactic| first
  | refine ⟨_, rfl, ?_⟩
  | refine ⟨_, _, rfl, rfl, (by walk_at "side"), ?_⟩
  | refine ⟨_, _, rfl, (by walk_at "side"), ?_⟩
  | refine ⟨_, _, rfl, rfl, ?_⟩
  | refine Or.inl ⟨_, rfl, ?_⟩
  | refine ⟨_, _, rfl, Or.inl (by walk_at "sq"), ?_⟩
  | walk_at "ixl"
  | walk_at "setl"
  | refine ⟨_, _, rfl, (by walk_at "sq"), rfl, ?_⟩
  | refine ⟨_, _, rfl, (by walk_at "sq"), ?_⟩
  | refine ⟨_, _, rfl, ?_⟩
  | refine ⟨rfl, ?_⟩
  | refine ⟨small (Nat.le_of_ble_eq_true rfl), ?_⟩)
local macro_rules | `(tactic| walk_at "go") => `(tactic| repeat walk_at "go1")

def natL (l : List Nat) : List V := l.map fun k => V.int ((k : Nat) : Int)
/-- the law's own house, by its counts -/
def HomeBy (old : Addr → Prop) (H : Hp) (d g l : Addr) (B : Nat) (c : Nat → Nat) (L : Nat) : Prop := ∃ (n : V) (sp be : Addr), H d = some (.dK [(Sum.inr "ground", .ref g), (Sum.inr "lanes", .ref l), (Sum.inr "groups", n), (Sum.inr "spots", .ref sp), (Sum.inr "below", .ref be)]) ∧
  H sp = some (.lst (natL ((List.range (L * B)).filter (bor B c)))) ∧ H be = some (.lst (natL ((List.range (L * B)).map (bel B c)))) ∧ ¬ old sp ∧ ¬ old be
theorem HomeAt.by {old : Addr → Prop} {H : Hp} {d g l : Addr} {gs : List Int} {rows : List R3} {cs : List Int} {B : Nat} {c : Nat → Nat} {L : Nat} (h : HomeAt old H d g l gs rows) (k : Cnt gs rows cs B c L) (fr : Fair gs rows) : HomeBy old H d g l B c L := by
  obtain ⟨s, b, cs', n, e1, e2, e3, e4, e5, e6, e7⟩ := h
  have eb : (gs.getLastD 1).toNat = B := by have := k.last; omega
  have e3' : cs' = gapsL gs rows (groupsP gs rows) := by rw [e3, e2]; rfl
  rw [eb, e3', (k.size fr).1] at e4 e5
  rw [k.spots fr (Nat.le_refl _)] at e4
  rw [k.below fr] at e5
  exact ⟨_, s, b, e1, e4, e5, e6, e7⟩
theorem HomeBy.same {old : Addr → Prop} {H H' : Hp} {d g l : Addr} {B : Nat} {c : Nat → Nat} {L : Nat} (h : HomeBy old H d g l B c L) (s : Same H H') : HomeBy old H' d g l B c L := by
  obtain ⟨n, sp, be, e1, e2, e3, e4, e5⟩ := h
  exact ⟨n, sp, be, s _ _ e1, s _ _ e2, s _ _ e3, e4, e5⟩
theorem HomeBy.els {old : Addr → Prop} {H H' : Hp} {d g l q : Addr} {B : Nat} {c : Nat → Nat} {L : Nat} (h : HomeBy old H d g l B c L) (hd : d ≠ q) (hq : old q) (e : Else q H H') : HomeBy old H' d g l B c L := by
  obtain ⟨n, sp, be, e1, e2, e3, e4, e5⟩ := h
  exact ⟨n, sp, be, e _ _ hd e1, e _ _ (fun z => e4 (z ▸ hq)) e2, e _ _ (fun z => e5 (z ▸ hq)) e3, e4, e5⟩
theorem natL_len (l : List Nat) : (natL l).length = l.length := List.length_map ..
theorem natL_flat : ∀ l : List Nat, (natL l).all flatV = true
  | [] => rfl
  | _ :: l => natL_flat l
theorem natL_in (i : Nat) : ∀ l : List Nat, inV (.int (i : Int)) (natL l) = decide (i ∈ l)
  | [] => rfl
  | k :: l => by
    have h := natL_in i l
    show (eqV (.int ((k : Nat) : Int)) (.int (i : Int)) || inV (.int (i : Int)) (natL l)) = _
    rw [h]
    by_cases hk : i = k
    · subst hk
      simp [eqV]
    · have : ¬ ((k : Nat) : Int) = (i : Int) := by omega
      simp [eqV, hk, this]
theorem natL_at {l : List Nat} {i : Nat} {x : Nat} (h : l[i]? = some x) : atI (natL l) ((i : Nat) : Int) = some (V.int (x : Int)) := by
  refine atI_nat ?_
  unfold natL
  rw [List.getElem?_map, h]
  rfl
def nearI (B : Nat) (c : Nat → Nat) (s : Nat) (nx : Bool) : Int := if nx = true ∨ bor B c s = true then (bel B c s : Int) else (bel B c s : Int) - 1
def spNear : Sp := fun vs H Q _ => ∃ (old : Addr → Prop) (d g l : Addr) (gs : List Int) (rows : List R3) (cs : List Int) (B : Nat) (c : Nat → Nat) (L s : Nat) (nx : Bool), vs = [.ref d, .int (s : Int), .str (wayS nx)] ∧ HomeBy old H d g l B c L ∧ Cnt gs rows cs B c L ∧ ∀ H', Same H H' → Q (.int (nearI B c s nx)) H'
def spSpot : Sp := fun vs H Q _ => ∃ (old : Addr → Prop) (d g l : Addr) (gs : List Int) (rows : List R3) (cs : List Int) (B : Nat) (c : Nat → Nat) (L s : Nat), vs = [.ref d, .int ((bel B c s : Nat) : Int)] ∧ HomeBy old H d g l B c L ∧ Cnt gs rows cs B c L ∧ bor B c s = true ∧ ∀ H', Same H H' → Q (.int (s : Int)) H'
section
variable {P : Program} {w : World} {K : PySem.W.Frag} {mg : Str → Option Value} {base : Heap}
end
end LM

set_option Elab.async false
set_option linter.all false
set_option maxRecDepth 100000
set_option maxHeartbeats 4000000
namespace LM
open PySem PySem.Spec PyProof.Rows L2
/-! ### zip of a list and a tuple, either way -/
def SqB (K : PySem.W.Frag) : Bool → Hp → Addr → List V → Prop
  | true => SqL K
  | false => SqT K
def ItB : Bool → Heap → Addr → Addr → Nat → Prop
  | true => Heap.IsListIter
  | false => Heap.IsTupleIter
def SeB : Bool → Heap → Addr → Array Value → Prop
  | true => Heap.IsList
  | false => Heap.IsTuple
def obB (b : Bool) (l : Addr) : Obj := { cls := .type (if b = true then "list_iterator" else "tuple_iterator"), data := .fields #[.ref l, .int 0 0] }
def ItzM (K : PySem.W.Frag) (m n : Bool) (a b : Addr) : It :=
  ⟨fun i H => ∃ (xs ys : List V), SqB K m H a xs ∧ SqB K n H b ys ∧ i < xs.length ∧ i < ys.length,
    fun i H v H' => ∃ T x y, v = .ref T ∧ H T = none ∧ H' = upd H T (.tup [x, y]) ∧ (∀ xs, SqB K m H a xs → xs[i]? = some x) ∧ ∀ ys, SqB K n H b ys → ys[i]? = some y,
    fun i H => ∃ xs ys : List V, SqB K m H a xs ∧ SqB K n H b ys ∧ i = min xs.length ys.length⟩
theorem drawsB {prog : Program} {w : World} {A : Around} (hh : A.handled = none) (m : Bool) (it l : Addr) (hne : l ≠ it) (items : Array Value) : Draws prog w A it [it, l] items.size (fun i v => items[i]? = some v) (fun i h => ItB m h it l i ∧ SeB m h l items) := by
  cases m with
  | true => exact Draws.list hh it l hne items
  | false => exact Draws.tuple hh it l hne items
theorem beginsB (m : Bool) (l : Addr) (items : Array Value) : Begins (.ref l) (obB m l) fun h => SeB m h l items := by
  cases m with
  | true => exact begins_list l items
  | false => exact begins_tuple l items
theorem itB_obj {m : Bool} {h : Heap} {it l : Addr} {i : Nat} (z : ItB m h it l i) : ∃ o, h.get? it = some o ∧ ∀ v, o.data ≠ .cell v := by
  cases m with
  | true =>
    obtain ⟨o, ho, hc, hd⟩ := z
    exact ⟨o, ho, fun v q => by rw [hd] at q; cases q⟩
  | false =>
    obtain ⟨o, ho, hc, hd⟩ := z
    exact ⟨o, ho, fun v q => by rw [hd] at q; cases q⟩
theorem itB_keep {m : Bool} {h h' : Heap} {it l : Addr} {i : Nat} (z : ItB m h it l i) (k : ∀ o, h.get? it = some o → h'.get? it = some o) : ItB m h' it l i := by
  cases m with
  | true => exact Heap.IsListIter.at z k
  | false => exact Heap.IsTupleIter.at z k
theorem itB_first {m : Bool} {h : Heap} {it l : Addr} (z : h.get? it = some (obB m l)) : ItB m h it l 0 := by
  cases m with
  | true => exact ⟨_, z, rfl, rfl⟩
  | false => exact ⟨_, z, rfl, rfl⟩
section
variable {X : Cx} {pins : List (Addr × Obj)} {σ : L2.St} {H : Hp} {s : Shared}
theorem sqB_get (I : Inv X pins σ H s) {m : Bool} {a : Addr} {xs : List V} (h : SqB X.K m H a xs) : ∃ its, Vals xs its ∧ SeB m s.heap a its.toArray ∧ a < s.heap.objs.size := by
  cases m with
  | true =>
    obtain ⟨its, rv, p, _⟩ := I.list h
    exact ⟨its, rv, p.isList, p.lt⟩
  | false =>
    obtain ⟨its, rv, p, _⟩ := I.tuple h
    obtain ⟨o, ho, _⟩ := id p
    exact ⟨its, rv, p, Heap.lt_size ho⟩
theorem sqB_inj (I : Inv X pins σ H s) {m : Bool} {a : Addr} {xs ys : List V} (h1 : SqB X.K m H a xs) (h2 : SqB X.K m H a ys) : xs = ys := by
  cases m with
  | true => exact I.list_inj h1 h2
  | false => exact I.tuple_inj h1 h2
end
theorem turn_zipM {P : Program} {w : World} {K : PySem.W.Frag} {elts : List Expr} {kk : Nat} {tpos : Pos} {m n : Bool} {a b z TI TO i1 i2 : Addr} (S : ZipSep2 z TI TO i1 i2 [i1, a] [i2, b]) (ha : a ≠ i1) (hb : b ≠ i2) :
    Turn P w K (.Tuple elts kk tpos) (ItzM K m n a b) [z, TI, TO, i1, i2] z (fun i h => IsZip h z TI TO .none ∧ IsTupOf2 h TI (.ref i1) (.ref i2) ∧ (∃ x y, IsTupOf2 h TO x y) ∧ ItB m h i1 a i ∧ ItB n h i2 b i) := by
  have objs : ∀ i h, (IsZip h z TI TO .none ∧ IsTupOf2 h TI (.ref i1) (.ref i2) ∧ (∃ x y, IsTupOf2 h TO x y) ∧ ItB m h i1 a i ∧ ItB n h i2 b i) → ∀ c ∈ [z, TI, TO, i1, i2], ∃ o, h.get? c = some o ∧ ∀ v, o.data ≠ .cell v := by
    rintro i h ⟨q1, q2, ⟨x, y, q3⟩, q4, q5⟩ c hc
    simp only [List.mem_cons, List.not_mem_nil, or_false] at hc
    rcases hc with rfl | rfl | rfl | rfl | rfl
    · exact ⟨_, q1, fun v q => nomatch q⟩
    · exact ⟨_, q2, fun v q => nomatch q⟩
    · exact ⟨_, q3, fun v q => nomatch q⟩
    · exact itB_obj q4
    · exact itB_obj q5
  refine ⟨by simp, objs, ?_, ?_, ?_, fun A i s Q E st h => wpAny_pyIter_zip st.1 h⟩
  · rintro i h h' ⟨q1, q2, ⟨x, y, q3⟩, q4, q5⟩ k
    exact ⟨k z (by simp) _ q1, k TI (by simp) _ q2, ⟨x, y, k TO (by simp) _ q3⟩, itB_keep q4 fun o q => k i1 (by simp) o q, itB_keep q5 fun o q => k i2 (by simp) o q⟩
  · intro X hP hw hK hc i pins s σ H E I hf st hg
    subst hP hw hK
    have ob := objs i s.heap st
    obtain ⟨q1, q2, q3, q4, q5⟩ := st
    obtain ⟨xs, ys, h1, h2, l1, l2⟩ := hg
    obtain ⟨its, rv, p, _⟩ := sqB_get I h1
    obtain ⟨jts, rw_, r, _⟩ := sqB_get I h2
    have W := GoesN.zip2 (elts := elts) (x1 := kk) (pos := tpos) S (drawsB (prog := X.prog) (w := X.w) (A := X.A.in1) (I.ok.hd hc) m i1 a ha its.toArray) (drawsB (prog := X.prog) (w := X.w) (A := X.A.in1) (I.ok.hd hc) n i2 b hb jts.toArray)
    have e1 := rv.length
    have e2 := rw_.length
    have g1 : xs[i]? = some xs[i] := List.getElem?_eq_getElem l1
    have g2 : ys[i]? = some ys[i] := List.getElem?_eq_getElem l2
    obtain ⟨u, hu, ru⟩ := rv.get g1
    obtain ⟨v, hv, rv2⟩ := rw_.get g2
    refine W.goes i s _ E (by simp; omega) ⟨q1, q2, q3, ⟨q4, p⟩, ⟨q5, r⟩⟩ fun y h' tk hy st' hk _ => ?_
    obtain ⟨T, x1, x2, rfl, hT, k1, k2, hp⟩ := hy
    obtain rfl : x1 = u := by
      have z1 : its[i]? = some x1 := by simpa using k1
      exact Option.some.inj (z1.symm.trans hu)
    obtain rfl : x2 = v := by
      have z1 : jts[i]? = some x2 := by simpa using k2
      exact Option.some.inj (z1.symm.trans hv)
    have new : ObjOk X.prog X.w (upd H T (.tup [xs[i], ys[i]])) h' T (.tup [xs[i], ys[i]]) := ⟨by show 2 ≤ sizeLine; decide, [x1, x2], .cons ru (.cons rv2 .nil), hp⟩
    have J : Inv X pins σ (upd H T (.tup [xs[i], ys[i]])) { s with heap := h', toks := tk } :=
      I.turnedNew (ch := [z, TI, TO, i1, i2]) (fun c o hc q => hk c o (fun hm => hc (by simp only [List.mem_cons, List.not_mem_nil, or_false] at hm ⊢; rcases hm with h | h | h | h <;> simp [h])) q) hf hT new
    refine ⟨.ref T, _, J, rfl, ⟨T, xs[i], ys[i], rfl, I.hok.fresh hT, rfl, fun zs hz => by rw [sqB_inj I hz h1]; exact g1, fun zs hz => by rw [sqB_inj I hz h2]; exact g2⟩, ⟨st'.1, st'.2.1, st'.2.2.1, st'.2.2.2.1.1, st'.2.2.2.2.1⟩, fun c hc => ?_⟩
    obtain ⟨o, ho, _⟩ := ob c hc
    have hlt := Heap.lt_size ho
    rw [upd_ne (Nat.ne_of_lt (Nat.lt_of_lt_of_le hlt hT))]
    exact (hf c hc).1
  · intro X hP hw hK hc i pins s σ H E I hf st hg
    subst hP hw hK
    obtain ⟨q1, q2, q3, q4, q5⟩ := st
    obtain ⟨xs, ys, h1, h2, he⟩ := hg
    obtain ⟨its, rv, p, _⟩ := sqB_get I h1
    obtain ⟨jts, rw_, r, _⟩ := sqB_get I h2
    have W := GoesN.zip2 (elts := elts) (x1 := kk) (pos := tpos) S (drawsB (prog := X.prog) (w := X.w) (A := X.A.in1) (I.ok.hd hc) m i1 a ha its.toArray) (drawsB (prog := X.prog) (w := X.w) (A := X.A.in1) (I.ok.hd hc) n i2 b hb jts.toArray)
    have e1 := rv.length
    have e2 := rw_.length
    have en : i = min its.toArray.size jts.toArray.size := by simp; omega
    refine W.stops s _ E ⟨q1, q2, q3, ⟨en ▸ q4, p⟩, ⟨en ▸ q5, r⟩⟩ fun h' tk hk _ => ?_
    exact I.turnedL (t' := tk) (ch := [z, TI, TO, i1, i2]) (fun c o hc q => hk c o (fun hm => hc (by simp only [List.mem_cons, List.not_mem_nil, or_false] at hm ⊢; rcases hm with h | h | h | h <;> simp [h])) q) hf
def iZipM (K : PySem.W.Frag) (m n : Bool) (ta : TA) : TI := fun σ H R => ta σ H fun vs H1 => ∃ a b xs ys, vs = [.ref a, .ref b] ∧ SqB K m H1 a xs ∧ SqB K n H1 b ys ∧ R (ItzM K m n a b) H1
theorem pi_zipM {X : Cx} {e e2 : Expr} {ta : TA} {p pos tpos : Pos} {elts : List Expr} {kk : Nat} (m n : Bool) (hg : Gl X "zip") (hm : X.mg "zip" = none) (ha : PA X [e, e2] ta)
    (hst : starEach [e, e2] X.env = (false, eval e X.env) :: starEach [e2] X.env := by rfl) (hpl : (backTo pos (starEach [e2] X.env)).any (·.1) = false := by rfl) : PI X (.Tuple elts kk tpos) (.Call (.Name "zip" p) [e, e2] [] pos) (iZipM X.K m n ta) := by
  refine ⟨fun pins s σ H R I h => Call_ (ld_blt I hg hm PyProof.Rows.boot_zip (PyProof.Rows.callWith_type1 (thn (ha.run pos pins s σ H _ I h) fun us s1 ⟨vs, H1, I1, r1, a, b, xs, ys, ev, h1, h2, q⟩ => ?_) hst hpl))⟩
  subst ev
  obtain ⟨u, v, rfl, ru, rv⟩ := vals2 r1
  obtain rfl : u = Value.ref a := ru
  obtain rfl : v = Value.ref b := rv
  obtain ⟨its, _, p1, lt1⟩ := sqB_get I1 h1
  obtain ⟨jts, _, p2, lt2⟩ := sqB_get I1 h2
  have hS : ZipSep2 (s1.heap.objs.size + 4) (s1.heap.objs.size + 2) (s1.heap.objs.size + 3) s1.heap.objs.size (s1.heap.objs.size + 1) [s1.heap.objs.size, a] [s1.heap.objs.size + 1, b] := zip_sep2 (fun c hc => by rw [List.mem_singleton.mp hc]; exact lt1) (fun c hc => by rw [List.mem_singleton.mp hc]; exact lt2)
  refine zip_begins2 (beginsB m a its.toArray) (beginsB n b jts.toArray) p1 p2 fun h' hz hTI hTO g1 g2 hsz hk => wpAny_pyIter_zip hz ?_
  refine ⟨s1.heap.objs.size + 4, [s1.heap.objs.size + 4, s1.heap.objs.size + 2, s1.heap.objs.size + 3, s1.heap.objs.size, s1.heap.objs.size + 1], _, _, H1, rfl, I1.kept (t' := s1.toks) hk, turn_zipM hS (Nat.ne_of_lt lt1) (Nat.ne_of_lt (Nat.lt_succ_of_lt lt2)), ⟨hz, hTI, ⟨_, _, hTO⟩, itB_first g1, itB_first g2⟩, fun c hc => ?_, q⟩
  have hle : s1.heap.objs.size ≤ c := by
    simp only [List.mem_cons, List.not_mem_nil, or_false] at hc
    rcases hc with h | h | h | h | h <;> rw [h] <;> first | exact Nat.le_refl _ | exact Nat.le_add_right _ _
  exact I1.fpOk hle (I1.hok.fresh hle)
theorem walk_zipM {K : PySem.W.Frag} {m n : Bool} {a b : Addr} {xs ys : List V} {k : Nat} (hk : k = min xs.length ys.length) : Walk (ItzM K m n a b) k (fun H => SqB K m H a xs ∧ SqB K n H b ys) (YPair (fun i => xs[i]?) (fun i => ys[i]?)) := by
  refine ⟨fun i _ hi ⟨q1, q2⟩ => ⟨xs, ys, q1, q2, by omega, by omega⟩, fun _ ⟨q1, q2⟩ => ⟨xs, ys, q1, q2, hk⟩, fun i H v H' _ ⟨q1, q2⟩ y => ?_⟩
  obtain ⟨T, x, z, h1, h2, h3, h4, h5⟩ := y
  exact ⟨T, x, z, h1, h2, h3, h4 xs q1, h5 ys q2⟩
end LM

set_option Elab.async false
set_option linter.all false
set_option maxRecDepth 100000
set_option maxHeartbeats 4000000
namespace LM
open PySem PySem.Spec PyProof.Rows L2
/-! ### own == and != beside any value -/
section
open Builtin
variable {prog : Program} {w : World} {A : Around} {E : Value → Shared → Prop} {s : Shared} {K : PySem.W.Frag} {x C L f : Addr} {h₀ : Heap} {m : Str → Option Value} {ox : Obj} {od : Option Obj} {b tb : Value}
theorem objNe_own {Q : Fin → Shared → Prop} (hu : A.units < cLine) (X : K.In s.heap) (I : PySem.W.InstAt s.heap x ox C od) (hs : PySem.W.findIn K (.ref C) "__eq__" = some (some (.ref f))) (hf : PySem.W.isFn K (.ref f) = true)
    (h : wpAny (model prog w) A (call (.ref f) [.ref x, b]) (fun v s' => ∃ r, v = .bool r ∧ Q (.done (.ret (.bool (!r)))) s') E s) : wpAny (model prog w) A (Builtin.«object.__ne__» ⟨[.ref x, b], []⟩) Q E s := by
  unfold Builtin.«object.__ne__»
  refine wpAny_bind (wpAny_pure ?_)
  refine wpAny_bind (wpAny_cRoomFor hu ?_)
  refine wpAny_bind (PySem.W.ifBound_K X I hs hf (wpAny_mono h (fun v s' ⟨r, ev, q⟩ => ?_) fun _ _ e => e))
  subst ev
  exact wpAny_bind (wpAny_truthy_bool (wpAny_pure q))
theorem ne_own {Q : Value → Shared → Prop} (hu : A.units + 1 < cLine) (Fx : Fr h₀ L s.heap m) (X₀ : K.In h₀) (I : PySem.W.InstAt s.heap x ox C od) (hb : PySem.W.Looks (model prog w) s.heap (typeOf b) tb) (hn : PySem.W.notFirst K C tb = true)
    (hne : PySem.W.findIn K (.ref C) "__ne__" = some (some (.builtin "object.__ne__"))) (hob : PySem.W.mroIn K C (.type "object") = some true) (hs : PySem.W.findIn K (.ref C) "__eq__" = some (some (.ref f))) (hf : PySem.W.isFn K (.ref f) = true)
    (h : wpAny (model prog w) A.in1 (call (.ref f) [.ref x, b]) (fun v s' => ∃ r, v = .bool r ∧ Q (.bool (!r)) s') E s) : wpAny (model prog w) A (richCompare .NotEq (.ref x) b) Q E s := by
  have X := X₀.keeps Fx.keep
  have one : wpAny (model prog w) A (tryCompare (.ref x) "__ne__" b) (fun r s' => ∃ v, r = some v ∧ Q v s') E s := by
    unfold tryCompare
    refine wpAny_bind ?_
    simp only [callSpecialIfBound?, bindSpecialIfBound?]
    refine wpAny_holding (wpAny_bind (wpAny_bind (wpAny_bind (I.type.here ((PySem.W.looks_findIn X hne).here ?_)))))
    have hbind := PySem.F.slot_object_ne.bind
    simp only [hbind]
    refine wpAny_bind (wpAny_askSetting (wpAny_ite ?_))
    have fin : wpAny (model prog w) A (call (.builtin "object.__ne__") ([.ref x] ++ [b]) >>= fun v => pure (some v)) (fun r s' => wpAny (model prog w) A (match r with | some .notImplemented | none => pure none | some v => pure (some v)) (fun r s' => ∃ v, r = some v ∧ Q v s') E s') E s := by
      refine wpAny_bind (wpAny_call (codeAny_call_builtin PySem.F.slot_object_ne.plain PySem.F.cmpEntry_ne (@PySem.W.check_slot (model prog w) _ _ s "object.__ne__" "object" "__ne__" (.ref x) [b] [] _ PySem.F.cmpKind_ne PySem.F.cmpSplit_ne (I.type.andThen (PySem.W.looks_mroIn X hob)) (PySem.F.cmpArgs_ne _ _) (objNe_own (A := A.in1) (Nat.lt_of_succ_lt hu |> fun z => by show A.units + 1 < cLine; exact hu) X I hs hf (wpAny_mono h (fun v s' ⟨r, ev, q⟩ => ⟨r, ev, ?_⟩) fun _ _ e => e)))))
      exact wpAny_pure (wpAny_pure ⟨_, rfl, q⟩)
    split
    · exact wpAny_bind (wpAny_pure (wpAny_pure fin))
    · exact wpAny_tryCatch (wpAny_bind (wpAny_pure (wpAny_pure fin)))
  unfold richCompare
  simp only [oneThing_ref]
  refine wpAny_holding (wpAny_bind (wpAny_cRoomFor (Nat.lt_of_succ_lt hu) ?_))
  refine wpAny_bind (I.type.here (wpAny_bind (hb.here ?_)))
  have fin2 : wpAny (model prog w) A (tryCompare (.ref x) "__ne__" b) (fun r s' => ∃ v, r = some v ∧ Q v s') E s := one
  split
  · rename_i q
    have e : PySem.W.subIn K tb (.ref C) = some false := (Bool.or_eq_true_iff.mp hn).elim (fun e => by rw [beq_iff_eq.mp e] at q; simp at q) fun e => beq_iff_eq.mp e
    refine wpAny_bind ((PySem.W.looks_subIn X e).here ?_)
    simp only [Bool.false_eq_true, if_false]
    exact wpAny_bind (wpAny_mono fin2 (fun r s' ⟨v, ev, hq⟩ => by subst ev; exact wpAny_pure hq) fun _ _ e => e)
  · refine wpAny_bind (wpAny_pure ?_)
    simp only [Bool.false_eq_true, if_false]
    exact wpAny_bind (wpAny_mono fin2 (fun r s' ⟨v, ev, hq⟩ => by subst ev; exact wpAny_pure hq) fun _ _ e => e)
end

/-- the class's own == at f, its != that of object -/
structure OwnE (K : PySem.W.Frag) (C f : Addr) : Prop where
  eq : PySem.W.findIn K (.ref C) "__eq__" = some (some (.ref f))
  fn : PySem.W.isFn K (.ref f) = true
  ne : PySem.W.findIn K (.ref C) "__ne__" = some (some (.builtin "object.__ne__"))
  ob : PySem.W.mroIn K C (.type "object") = some true
/-- an instance beside any value: what the own == promises, ng: turned about -/
def rEqO (K : PySem.W.Frag) (C : Addr) (sp : Sp) (E : XK) (ng : Bool) : R2 := fun x y H Q => ∃ a dx fs t, x = .ref a ∧ H a = some (.ins C dx fs) ∧ TyX K H y t ∧ PySem.W.notFirst K C t = true ∧ sp [.ref a, y] H (fun v H' => ∃ r, v = .bl r ∧ Q (.bl (if ng = true then !r else r)) H') E
section
variable {X : Cx} {CX : CXT} {k : Nat} {C f : Addr} {fd : FuncData} {ps : List Str} {sp : Sp} {E : XK}
theorem ty_looks {pins : List (Addr × Obj)} {σ : L2.St} {H : Hp} {s : Shared} {x : V} {u t : Value} (I : Inv X pins σ H s) (rx : RelV x u) (ty : TyX X.K H x t) : PySem.W.Looks (model X.prog X.w) s.heap (typeOf u) t := by
  obtain ⟨Pp, Z, hp, _⟩ := L2.kit_of I rx ty
  exact Z.ty _ _ I.kIn hp
theorem op_eqO (O : OwnE X.K C f) (F : FnOk X.prog X.w X.K X.mg X.base CX k f fd ps sp) (hr : Room k X.A) (hb : Binds X.K fd ps []) (hx : Passes CX X E) : OpR X (compareOp .Eq) (rEqO X.K C sp E false) := by
  intro pins s σ H x y v u Q I rx ry ⟨a, dx, fs, t, ex, ea, ty, nf, h⟩
  subst ex
  obtain rfl : v = Value.ref a := rx
  obtain ⟨mA, J, _⟩ := ins_get I.hok ea
  obtain ⟨od, J, _⟩ := J.look
  obtain ⟨m, hF⟩ := I.fr
  show wpAny (model X.prog X.w) X.A (richCompare .Eq (.ref a) u) (EP X pins σ Q) X.xe s
  refine PySem.W.cmp_K (op := .Eq) hr.units0 hF I.ok.mod.kin J (ty_looks I ry ty) nf O.eq O.fn ?_
  refine wpAny_mono (run_fn (us := [.ref a, u]) (vs := [.ref a, y]) F hr hb .nil hx I (.cons rfl (.cons ry .nil)) h) (fun w s' hq => ?_) fun _ _ z => z
  obtain ⟨v', H', I', rw_, r, er, q⟩ := hq
  subst er
  obtain rfl : w = Value.bool r := rw_
  exact ⟨.bl r, H', I', rfl, q⟩
theorem op_neO (O : OwnE X.K C f) (F : FnOk X.prog X.w X.K X.mg X.base CX k f fd ps sp) (hr : Room (k + 1) X.A) (hb : Binds X.K fd ps []) (hx : Passes CX X.nox E) : OpR X (compareOp .NotEq) (rEqO X.K C sp E true) := by
  intro pins s σ H x y v u Q I rx ry ⟨a, dx, fs, t, ex, ea, ty, nf, h⟩
  subst ex
  obtain rfl : v = Value.ref a := rx
  obtain ⟨mA, J, _⟩ := ins_get I.hok ea
  obtain ⟨od, J, _⟩ := J.look
  obtain ⟨m, hF⟩ := I.fr
  show wpAny (model X.prog X.w) X.A (richCompare .NotEq (.ref a) u) (EP X pins σ Q) X.xe s
  refine ne_own (hu_of hr) hF I.ok.mod.kin J (ty_looks I ry ty) nf O.ne O.ob O.eq O.fn ?_
  have hl := F.len _ _ _ _ h
  refine wpAny_call (codeAny_mono (F.run X.A.in1 X.stack s H ⟨[.ref a, u], []⟩ [.ref a, u] [.ref a, y] _ E hr.in1 I.env0.in1 (by
    have := hb s [.ref a, u] I.kIn (by simpa using hl)
    simpa using this) (.cons rfl (.cons ry .nil)) h) fun r s' hq => ?_)
  cases r with
  | error er => exact False.elim (hx pins σ H s er s' (I.wish _) hq)
  | ok fl =>
    cases fl with
    | ret w =>
      obtain ⟨v', H', I', rw_, r, er, q⟩ := I.after hq
      subst er
      obtain rfl : w = Value.bool r := rw_
      exact ⟨r, rfl, .bl (!r), H', I', rfl, q⟩
    | next => exact False.elim hq
    | brk => exact False.elim hq
    | cont => exact False.elim hq
end

/-! ### str, repr and bool of an instance -/
section
variable {X : Cx} {CX : CXT} {k : Nat} {C f : Addr} {fd : FuncData} {ps : List Str} {sp : Sp} {E : XK}
def rStrO (C : Addr) (sp : Sp) (E : XK) : List V → Hp → VK → Prop := fun xs H Q => ∃ a dx fs, xs = [.ref a] ∧ H a = some (.ins C dx fs) ∧ sp [.ref a] H (fun v H' => ∃ z, v = .str z ∧ Q (.str z) H') E
theorem call_strO (hs : PySem.W.findIn X.K (.ref C) "__str__" = some (some (.ref f))) (hf : PySem.W.isFn X.K (.ref f) = true) (F : FnOk X.prog X.w X.K X.mg X.base CX k f fd ps sp) (hr : Room (k + 2) X.A) (hb : Binds X.K fd ps []) (hx : Passes CX X.nox E) : CallR X (.type "str") (rStrO C sp E) := by
  intro pins s σ H xs us Q I va ⟨a, dx, fs, ex, ea, h⟩
  subst ex
  obtain ⟨u, rfl, ru⟩ := vals1 va
  obtain rfl : u = Value.ref a := ru
  obtain ⟨mA, J, _⟩ := ins_get I.hok ea
  obtain ⟨od, J, _⟩ := J.look
  have hl := F.len _ _ _ _ h
  refine PySem.W.kso_call (by have := hu_of hr; have := hr.in1.in1.units0; exact this) I.kIn J hs hf ?_
  refine wpAny_call (codeAny_mono (F.run X.A.in1.in1 X.stack s H ⟨[.ref a], []⟩ [.ref a] [.ref a] _ E hr.in1.in1 I.env0.in1.in1 (by
    have := hb s [.ref a] I.kIn (by simpa using hl)
    simpa using this) (.cons rfl .nil) h) fun r s' hq => ?_)
  cases r with
  | error er => exact False.elim (hx pins σ H s er s' (I.wish _) hq)
  | ok fl =>
    cases fl with
    | ret w =>
      obtain ⟨v', H', I', rw_, z, er, q⟩ := I.after hq
      subst er
      obtain ⟨t, rfl⟩ := rw_
      exact ⟨.str z, H', I', ⟨t, rfl⟩, q⟩
    | next => exact False.elim hq
    | brk => exact False.elim hq
    | cont => exact False.elim hq
theorem call_reprO (hs : PySem.W.findIn X.K (.ref C) "__repr__" = some (some (.ref f))) (hf : PySem.W.isFn X.K (.ref f) = true) (F : FnOk X.prog X.w X.K X.mg X.base CX k f fd ps sp) (hr : Room (k + 1) X.A) (hb : Binds X.K fd ps []) (hx : Passes CX X.nox E) : CallR X (.builtin "repr") (rStrO C sp E) := by
  intro pins s σ H xs us Q I va ⟨a, dx, fs, ex, ea, h⟩
  subst ex
  obtain ⟨u, rfl, ru⟩ := vals1 va
  obtain rfl : u = Value.ref a := ru
  obtain ⟨mA, J, _⟩ := ins_get I.hok ea
  obtain ⟨od, J, _⟩ := J.look
  obtain ⟨m, hF⟩ := I.fr
  have hl := F.len _ _ _ _ h
  refine PySem.W.repr_K hr.in1.units0 hF I.ok.mod.kin J hs hf ?_
  refine wpAny_call (codeAny_mono (F.run X.A.in1 X.stack s H ⟨[.ref a], []⟩ [.ref a] [.ref a] _ E hr.in1 I.env0.in1 (by
    have := hb s [.ref a] I.kIn (by simpa using hl)
    simpa using this) (.cons rfl .nil) h) fun r s' hq => ?_)
  cases r with
  | error er => exact False.elim (hx pins σ H s er s' (I.wish _) hq)
  | ok fl =>
    cases fl with
    | ret w =>
      obtain ⟨v', H', I', rw_, z, er, q⟩ := I.after hq
      subst er
      obtain ⟨t, rfl⟩ := rw_
      exact ⟨.str z, H', I', ⟨t, rfl⟩, q⟩
    | next => exact False.elim hq
    | brk => exact False.elim hq
    | cont => exact False.elim hq
end
/-! ### first, *others = a list -/
section
variable {X : Cx}
theorem pgs_star {e : Expr} {es : List Expr} {p : Pos} {t : TG} {u : TGs} (h1 : PG X e t) (h2 : PGs X es u) (hs : (assignEach (.Starred e p :: es) X.env).map (·.2) = assign e X.env :: (assignEach es X.env).map (·.2) := by rfl) : PGs X (.Starred e p :: es) (gCons t u) := by
  refine ⟨fun pins s σ H vs us Q I r ⟨v, vr, e1, h⟩ => ?_⟩
  subst e1
  cases r with
  | cons r rr =>
    rw [hs]
    refine assignInOrder_cons (thn (h1.run pins s σ H _ _ _ I r h) fun _ s1 ⟨σ1, H1, I1, q1⟩ => ?_)
    exact h2.run pins s1 σ1 H1 vr _ Q I1 rr q1
/-- a list's first item, and a new list of the others -/
def gStar1 (K : PySem.W.Frag) (t : TGs) : TG := fun v σ H Q => ∃ a x xs, v = .ref a ∧ SqL K H a (x :: xs) ∧ ∀ D, H D = none → t [x, .ref D] σ (upd H D (.lst xs)) Q
theorem pg_star1 {es : List Expr} {k : Nat} {pos : Pos} {t : TGs} (hc : X.calm = true) (h : PGs X es t) (hn : (assignEach es X.env).length = 2 := by rfl) (hst : (assignEach es X.env).findIdx? (·.1) = some 1 := by rfl) : PG X (.Tuple es k pos) (gStar1 X.K t) := by
  refine ⟨fun pins s σ H v u Q I r ⟨a, x, xs, e1, hq, hw⟩ => ?_⟩
  subst e1
  obtain rfl : u = Value.ref a := r
  obtain ⟨its, rv, pl, hz⟩ := I.list hq
  cases rv with
  | @cons _ y _ ys ry rys =>
  have hl := pl.isList
  have hlt : a ≠ s.heap.objs.size := Nat.ne_of_lt pl.lt
  have hh : X.A.handled = none := I.ok.hd hc
  rw [PyProof.Rows.assign_Tuple]
  refine wpAny_bind (wpAny_standAt ?_)
  unfold unpack
  rw [hn, hst]
  refine wpAny_bind (wpAny_holding ?_)
  unfold unpackItems notIterableAtAll
  refine wpAny_bind (wpAny_bind (wpAny_specialOf hl.typeIs PySem.F.slot_list_iter.lookup (wpAny_pure ?_)))
  simp only [Bool.false_eq_true, if_false]
  refine wpAny_bind (wpAny_holding (wpAny_pyIter_list hl ?_))
  refine wpAny_bind (wpAny_holding (PySem.W.kun_draw hlt 1 0 _ _ ⟨_, Heap.get?_push_size _ rfl, rfl, rfl⟩ (hl.push _) (by simp) fun h1 hit1 hs1 => ?_))
  have hl1 : h1.IsList a (y :: ys).toArray := (hl.push _).extBut hs1.extBut hlt
  obtain ⟨oi, hoi, _⟩ := id hit1
  obtain ⟨ol, hol, _⟩ := id hl1
  have hsz : (y :: ys).toArray.size ≤ sizeLine := by
    have e := rys.length
    simp only [List.size_toArray, List.length_cons] at hz ⊢
    omega
  show wpAny _ _ (if ([y] : List Value).length < 1 then _ else _) _ _ _
  rw [if_neg (by simp)]
  refine wpAny_bind (wpAny_holding (PySem.W.kun_collect (s := { s with heap := h1 }) (T := "list_iterator") (.inr (.inr (.inl rfl))) (Walks.list (A := X.A.in1) hh s.heap.objs.size a hlt (y :: ys).toArray) (fun j u st => st.1.typeIs) (k := 1) (by simp) ⟨hit1, hl1⟩ (Heap.lt_size hoi) (Heap.lt_size hol) (fun h2 tk hk => ?_) hsz))
  show wpAny _ _ (if ys.length < 0 then _ else _) _ _ _
  rw [if_neg (Nat.not_lt_zero _)]
  show wpAny _ _ (newList (ys.take (ys.length - 0)) >>= fun d => pure ([y] ++ [d] ++ ys.drop (ys.length - 0))) _ _ _
  rw [Nat.sub_zero, List.take_length, List.drop_length]
  have hk2 : ∀ b o, s.heap.get? b = some o → h2.get? b = some o := fun b o e => by
    have hb : b ≠ s.heap.objs.size := Nat.ne_of_lt (Heap.lt_size e)
    exact hk b o hb (hs1.extBut b o hb (Heap.get?_push_of_some _ e))
  have I2 : Inv X pins σ H { s with heap := h2, toks := tk } := I.kept (t' := tk) hk2
  refine wpAny_bind (wpAny_newList (s := { s with heap := h2, toks := tk }) ?_ (by simp only [List.size_toArray, List.length_cons] at hsz; omega))
  refine wpAny_pure ?_
  have hsz' : ys.length ≤ sizeLine := by simp only [List.size_toArray, List.length_cons] at hsz; omega
  have hxs : xs.length ≤ sizeLine := by rw [rys.length]; exact hsz'
  have kk : ∀ b u, h2.get? b = some u → (h2.push { cls := .type "list", data := .seq ys.toArray }).get? b = some u := fun b u e => Heap.get?_push_of_some _ e
  have I3 := I2.laid (t' := tk) kk (Nat.le_refl _) (show ObjOk X.prog X.w (upd H _ (.lst xs)) _ _ (.lst xs) from ⟨hxs, ys, 0, rys, Heap.get?_push_size _ rfl⟩)
  exact thn (h.run pins _ σ _ [x, .ref h2.objs.size] [y, .ref h2.objs.size] Q I3 (.cons ry (.cons rfl .nil)) (hw _ (I2.hok.fresh (Nat.le_refl _)))) fun _ s' hh => hh
end

/-! ### bool of an instance without __bool__ and __len__ -/
section
variable {prog : Program} {w : World} {A : Around} {E : Value → Shared → Prop} {s : Shared}
theorem meets_bool_ref (x : Addr) : MeetsIn prog w (Builtin.«bool.__new__» ⟨[.type "bool", .ref x], []⟩) (fun A R s => (∀ (Q : Bool → Shared → Prop) (E : Value → Shared → Prop), Q true s → wpAny (model prog w) A.in1 (truthy (.ref x)) Q E s) ∧ R (.ok (.ret (.bool true))) s) :=
  .of_wp fun A R s hs => by
    obtain ⟨hl, hs⟩ := hs
    obtain ⟨hp, g, d, tk, os⟩ := s
    have f1 := F.conv_sub_bool
    repeat (any_goals (first | assumption | (with_reducible refine hl _ _ ?_) | wp_step))
    all_goals first | exact ⟨_, rfl, hs⟩ | exact hs | skip
theorem call_bool_ref {x : Addr} {Q : Value → Shared → Prop} (hl : ∀ (Q : Bool → Shared → Prop) (E : Value → Shared → Prop), Q true s → wpAny (model prog w) A.in1.in1 (truthy (.ref x)) Q E s) (h : Q (.bool true) s) : wpAny (model prog w) A (call (.type "bool") [.ref x]) Q E s :=
  callType_newIn F.called_bool F.newNe_bool (F.typeCall_bool_1 (.ref x)) (F.newCall_bool_1 (.ref x)) (fun obj => F.args_object_init_2 obj (.ref x)) F.entry_bool_new (meets_bool_ref x) ⟨hl, rfl, h⟩
end
section
variable {X : Cx} {CX : CXT} {k : Nat} {C f : Addr} {fd : FuncData} {ps : List Str} {sp : Sp} {E : XK}
theorem call_boolO (hs : PySem.W.findIn X.K (.ref C) "__bool__" = some none) (hl : PySem.W.findIn X.K (.ref C) "__len__" = some none) : CallR X (.type "bool") (fun xs H Q => ∃ a dx fs, xs = [.ref a] ∧ H a = some (.ins C dx fs) ∧ Q (.bl true) H) := by
  intro pins s σ H xs us Q I va ⟨a, dx, fs, ex, ea, h⟩
  subst ex
  obtain ⟨u, rfl, ru⟩ := vals1 va
  obtain rfl : u = Value.ref a := ru
  obtain ⟨mA, J, _⟩ := ins_get I.hok ea
  obtain ⟨od, J, _⟩ := J.look
  obtain ⟨m, hF⟩ := I.fr
  exact call_bool_ref (fun Q E h => PySem.W.truthy_K0 hF I.ok.mod.kin J hs hl h) ⟨.bl true, H, I, rfl, h⟩
/-- x(..), x a local name that holds the class at C -/
def tMakeV (i : Nat) (C : Addr) (sp : Sp) (dvs : List V) (E : XK) (t : TA) : TE := fun σ H Q => σ[i]? = some (some (.ref C)) ∧ tMake C sp dvs E t σ H Q
theorem pe_makeV {x : Str} {i : Nat} {ds : List Value} {dvs : List V} {e : Expr} {es : List Expr} {t : TA} {p pos : Pos} (M : Mk X.K C f) (F : FnOk X.prog X.w X.K X.mg X.base CX k f fd ps sp) (hr : Room (k + 1) X.A) (hN : X.N[i]? = some x) (hv : Vis X.env.scope x) (hb : Binds X.K fd ps ds) (hd : Vals dvs ds) (hx : Passes CX X E) (ha : PA X (e :: es) t)
    (hdb : (x == ("__debug__" : Str)) = false := by decide) (hcd : (x == ("__classdict__" : Str)) = false := by decide)
    (he : starEach (e :: es) X.env = (false, eval e X.env) :: starEach es X.env := by rfl) (hpl : (backTo pos (starEach es X.env)).any (·.1) = false := by rfl) : PE X (.Call (.Name x p) (e :: es) [] pos) (tMakeV i C sp dvs E t) := by
  refine ⟨fun pins s σ H Q I h => ?_⟩
  obtain ⟨hs, ht⟩ := h
  refine wpAny_Call_Name_kw (thn ((pe_var (pos := p) hN hv hdb hcd).run pins s σ H (fun v H1 => v = .ref C ∧ H1 = H) I ⟨.ref C, hs, rfl, rfl⟩) fun u s1 ⟨v, H1, I1, r1, q1⟩ => ?_)
  obtain ⟨rfl, rfl⟩ := q1
  cases r1
  refine PySem.W.callWith_K (h₀ := X.base) I.ok.mod.kin M.kp (thn (ha.run pos pins s1 σ _ _ I1 ht) fun us s2 ⟨vs, H2, I2, r, q⟩ => ⟨I2.kIn, ?_⟩) he hpl
  exact run_make M F hr hb hd hx I2 r q
end
/-! ### values of other kinds beside an instance -/
/-- a value that is no instance of the class at C, nor of a class below it -/
structure Alien (K : PySem.W.Frag) (C : Addr) (H : Hp) (y : V) : Prop where
  ty : ∃ t, TyX K H y t ∧ PySem.W.notFirst K C t = true ∧ PySem.W.kitOne K t (.ref C) = some false
/-- what of the text the kinds of values ask, for the class at C -/
structure Other (K : PySem.W.Frag) (C : Addr) : Prop where
  own1 : PySem.W.notFirst K C (.ref C) = true
  own2 : PySem.W.kitOne K (.ref C) (.ref C) = some true
  str1 : PySem.W.notFirst K C (.type "str") = true
  str2 : PySem.W.kitOne K (.type "str") (.ref C) = some false
  int1 : PySem.W.notFirst K C (.type "int") = true
  int2 : PySem.W.kitOne K (.type "int") (.ref C) = some false
  non1 : PySem.W.notFirst K C (.type "NoneType") = true
  non2 : PySem.W.kitOne K (.type "NoneType") (.ref C) = some false
  lst1 : PySem.W.notFirst K C (.type "list") = true
  lst2 : PySem.W.kitOne K (.type "list") (.ref C) = some false
  tup1 : PySem.W.notFirst K C (.type "tuple") = true
  tup2 : PySem.W.kitOne K (.type "tuple") (.ref C) = some false
  dic1 : PySem.W.notFirst K C (.type "dict") = true
  dic2 : PySem.W.kitOne K (.type "dict") (.ref C) = some false
section
variable {K : PySem.W.Frag} {C : Addr} {H : Hp}
theorem Other.str (o : Other K C) (x : Str) : Alien K C H (.str x) := ⟨_, .base (.str _), o.str1, o.str2⟩
theorem Other.int (o : Other K C) (x : Int) : Alien K C H (.int x) := ⟨_, .base (.int _), o.int1, o.int2⟩
theorem Other.non (o : Other K C) : Alien K C H .non := ⟨_, .base .non, o.non1, o.non2⟩
theorem Other.lst (o : Other K C) {a : Addr} {xs : List V} (h : H a = some (.lst xs)) : Alien K C H (.ref a) := ⟨_, .base (.lst h), o.lst1, o.lst2⟩
theorem Other.dic (o : Other K C) {a : Addr} {xs : List (Key × V)} (h : H a = some (.dK xs)) : Alien K C H (.ref a) := ⟨_, .base (.dK h), o.dic1, o.dic2⟩
end
/-- what isinstance asks of an instance of the class at C itself -/
structure OwnT (K : PySem.W.Frag) (C : Addr) : Prop where
  ha : PySem.W.findIn K (.ref C) "__class__" = some (some (.builtin "object.__class__"))
  hn : PySem.W.specialIn K (.builtin "object.__class__") "__get__" = some (some (.builtin "getset_descriptor.__get__"))
  htk : PySem.W.takesIn K (.builtin "object.__class__") = some true
  hm : PySem.W.mroIn K C (.type "object") = some true
theorem OwnT.ty {K : PySem.W.Frag} {C : Addr} {H : Hp} {a dx : Addr} {fs : List (Str × V)} (o : OwnT K C) (cl : Cls K C) (e : H a = some (.ins C dx fs)) : TyX K H (.ref a) (.ref C) := .base (.ins e cl o.ha o.hn o.htk o.hm)
end LM

set_option Elab.async false
set_option linter.all false
set_option maxRecDepth 100000
set_option maxHeartbeats 4000000
namespace LM
open PySem PySem.Spec PyProof.Rows L2
theorem dig_acc : ∀ (l : List Int) (q : Int) (acc : List Int), l.foldl digStep (q, acc) = ((l.foldl digStep (q, [])).1, (l.foldl digStep (q, [])).2 ++ acc)
  | [], q, acc => rfl
  | b :: l, q, acc => by
    rw [List.foldl_cons, List.foldl_cons]
    show l.foldl digStep (q / b, q % b :: acc) = ((l.foldl digStep (q / b, [q % b])).1, (l.foldl digStep (q / b, [q % b])).2 ++ acc)
    rw [dig_acc l (q / b) (q % b :: acc), dig_acc l (q / b) [q % b], List.append_assoc]
    rfl
theorem labelP_nil (p : Int) : labelP [] p = [p] := rfl
theorem labelP_snoc (bs : List Int) (b p : Int) : labelP (bs ++ [b]) p = labelP bs (p / b) ++ [p % b] := by
  unfold labelP
  rw [List.reverse_append, List.reverse_singleton, List.singleton_append, List.foldl_cons]
  show (bs.reverse.foldl digStep (p / b, [p % b])).1 :: (bs.reverse.foldl digStep (p / b, [p % b])).2 = _
  rw [dig_acc]
  rfl
theorem snoc_of {α : Type} : ∀ (l : List α), l = [] ∨ ∃ r x, l = r ++ [x]
  | [] => .inl rfl
  | x :: l => .inr ⟨(x :: l).dropLast, (x :: l).getLast (List.cons_ne_nil _ _), (List.dropLast_concat_getLast _).symm⟩
theorem snoc_ind {α : Type} {P : List α → Prop} (h0 : P []) (h1 : ∀ l x, P l → P (l ++ [x])) (l : List α) : P l := by
  rw [← List.reverse_reverse l]
  induction l.reverse with
  | nil => exact h0
  | cons x r ih =>
    rw [List.reverse_cons]
    exact h1 _ _ ih
theorem labelP_len (bs : List Int) (p : Int) : (labelP bs p).length = bs.length + 1 := by
  induction bs using snoc_ind generalizing p with
  | h0 => rfl
  | h1 l x ih => rw [labelP_snoc, List.length_append, ih, List.length_append]; rfl
/-- the place of a label -/
def placeOf (bs ds : List Int) : Int := (bs.zip ds.tail).foldl (fun a p => a * p.1 + p.2) (ds.headD 0)
/-- whether these are the numbers of a label -/
def boundL (bs ds : List Int) : List Bool := (bs.zip ds.tail).map fun p => decide (0 ≤ p.2) && decide (p.2 ≤ p.1 - 1)
def labelB (bs ds : List Int) : Bool := decide (ds.length = bs.length + 1) && (decide (0 ≤ ds.headD 0) && (boundL bs ds).all id)
theorem zip_snoc {bs ds : List Int} {b d : Int} (h : ds.length = bs.length + 1) : (bs ++ [b]).zip (ds ++ [d]).tail = bs.zip ds.tail ++ [(b, d)] := by
  cases ds with
  | nil => simp at h
  | cons x ds =>
    show (bs ++ [b]).zip (ds ++ [d]) = bs.zip ds ++ [(b, d)]
    rw [List.zip_append (by simpa using h.symm)]
    rfl
theorem headD_snoc {ds : List Int} {d : Int} (h : 1 ≤ ds.length) : (ds ++ [d]).headD 0 = ds.headD 0 := by
  cases ds with
  | nil => simp at h
  | cons x ds => rfl
theorem placeOf_snoc {bs ds : List Int} {b d : Int} (h : ds.length = bs.length + 1) : placeOf (bs ++ [b]) (ds ++ [d]) = placeOf bs ds * b + d := by
  unfold placeOf
  rw [zip_snoc h, headD_snoc (by omega), List.foldl_append]
  rfl
theorem labelB_snoc {bs ds : List Int} {b d : Int} (h : ds.length = bs.length + 1) : labelB (bs ++ [b]) (ds ++ [d]) = (labelB bs ds && (decide (0 ≤ d) && decide (d ≤ b - 1))) := by
  unfold labelB boundL
  rw [zip_snoc h, headD_snoc (by omega), List.map_append, List.all_append, List.length_append, List.length_append, h]
  simp [Bool.and_assoc]
theorem place_label (bs : List Int) (p : Int) (hb : ∀ x ∈ bs, 2 ≤ x) : placeOf bs (labelP bs p) = p := by
  induction bs using snoc_ind generalizing p with
  | h0 => rfl
  | h1 l x ih =>
    rw [labelP_snoc, placeOf_snoc (labelP_len _ _), ih _ fun y hy => hb y (List.mem_append_left _ hy), Int.mul_comm]
    exact Int.mul_ediv_add_emod _ _
theorem label_ok (bs : List Int) (p : Int) (hb : ∀ x ∈ bs, 2 ≤ x) (hp : 0 ≤ p) : labelB bs (labelP bs p) = true := by
  induction bs using snoc_ind generalizing p with
  | h0 =>
    show (decide (1 = 0 + 1) && (decide (0 ≤ p) && true)) = true
    rw [decide_eq_true hp]
    rfl
  | h1 l x ih =>
    have hx := hb x (by simp)
    have h1 := Int.emod_nonneg p (show x ≠ 0 by omega)
    have h2 := Int.emod_lt_of_pos p (show 0 < x by omega)
    rw [labelP_snoc, labelB_snoc (labelP_len _ _), ih _ (fun y hy => hb y (List.mem_append_left _ hy)) (Int.ediv_nonneg hp (by omega)), decide_eq_true h1, decide_eq_true (show p % x ≤ x - 1 by omega)]
    rfl
theorem labelB_len {bs ds : List Int} (h : labelB bs ds = true) : ds.length = bs.length + 1 := by
  unfold labelB at h
  rw [Bool.and_eq_true] at h
  exact of_decide_eq_true h.1
theorem label_place (bs : List Int) : ∀ (ds : List Int), labelB bs ds = true → (∀ x ∈ bs, 2 ≤ x) → labelP bs (placeOf bs ds) = ds := by
  induction bs using snoc_ind with
  | h0 =>
    intro ds h _
    have hl := labelB_len h
    match ds, hl with
    | [d], _ => rfl
  | h1 l x ih =>
    intro ds h hb
    have hl := labelB_len h
    rcases snoc_of ds with rfl | ⟨r, d, rfl⟩
    · simp at hl
    · have hr : r.length = l.length + 1 := by simpa using hl
      rw [labelB_snoc hr, Bool.and_eq_true, Bool.and_eq_true] at h
      obtain ⟨h1, h2, h3⟩ := h
      have h2 := of_decide_eq_true h2
      have h3 := of_decide_eq_true h3
      have hx := hb x (by simp)
      have e1 : (placeOf l r * x + d) / x = placeOf l r := by
        rw [Int.add_comm, Int.add_mul_ediv_right _ _ (by omega), Int.ediv_eq_zero_of_lt h2 (by omega), Int.zero_add]
      have e2 : (placeOf l r * x + d) % x = d := by
        rw [Int.add_comm, Int.add_mul_emod_self_right, Int.emod_eq_of_lt h2 (by omega)]
      rw [placeOf_snoc hr, labelP_snoc, e1, e2, ih r h1 fun y hy => hb y (List.mem_append_left _ hy)]
/-- the number of a label's group -/
def groupOf (bs ds : List Int) : Int := (bs.dropLast.zip ds.tail).foldl (fun a p => a * p.1 + p.2) (ds.headD 0)
theorem group_label (bs : List Int) (p : Int) (hb : ∀ x ∈ bs, 2 ≤ x) (h : 1 ≤ bs.length) : groupOf bs (labelP bs p) = p / bs.getLastD 1 ∧ ∃ r, labelP bs p = r ++ [p % bs.getLastD 1] ∧ r.length = bs.length := by
  rcases snoc_of bs with rfl | ⟨r, x, rfl⟩
  · simp at h
  · have el : (r ++ [x]).getLastD 1 = x := by simp
    rw [el, labelP_snoc]
    refine ⟨?_, labelP r (p / x), rfl, by rw [labelP_len]; simp⟩
    unfold groupOf
    rw [List.dropLast_concat, headD_snoc (by rw [labelP_len]; omega)]
    have hl := labelP_len r (p / x)
    have e : r.zip (labelP r (p / x) ++ [p % x]).tail = r.zip (labelP r (p / x)).tail := by
      cases q : labelP r (p / x) with
      | nil => rw [q] at hl; simp at hl
      | cons y t =>
        rw [q] at hl
        show r.zip (t ++ [p % x]) = r.zip t
        conv => lhs; rw [← List.append_nil r, List.zip_append (by simpa using hl.symm)]
        simp
    rw [e]
    exact place_label r (p / x) fun y hy => hb y (List.mem_append_left _ hy)
/-- the label behind a label, as the law tells it -/
def laterStep (bs : List Int) (s : List Int × Nat) : List Int × Nat :=
  if s.1.getD s.2 0 = bs.getD (s.2 - 1) 0 then ((s.1.set s.2 0).set (s.2 - 1) (s.1.getD (s.2 - 1) 0 + 1), s.2 - 1) else s
def laterN (bs ds : List Int) : Nat → List Int × Nat
  | 0 => (ds.set bs.length (ds.getD bs.length 0 + 1), bs.length)
  | i + 1 => laterStep bs (laterN bs ds i)
def laterL (bs ds : List Int) : List Int := (laterN bs ds bs.length).1
theorem laterN_at (bs ds : List Int) : ∀ i, (laterN bs ds i).2 ≤ bs.length ∧ bs.length ≤ (laterN bs ds i).2 + i
  | 0 => ⟨Nat.le_refl _, Nat.le_refl _⟩
  | i + 1 => by
    have h := laterN_at bs ds i
    show (laterStep bs (laterN bs ds i)).2 ≤ _ ∧ _ ≤ (laterStep bs (laterN bs ds i)).2 + _
    unfold laterStep
    split
    · dsimp only
      omega
    · omega
theorem laterN_len (bs ds : List Int) : ∀ i, (laterN bs ds i).1.length = ds.length
  | 0 => by show (ds.set _ _).length = _; rw [List.length_set]
  | i + 1 => by
    show (laterStep bs (laterN bs ds i)).1.length = _
    unfold laterStep
    split
    · dsimp only
      rw [List.length_set, List.length_set, laterN_len bs ds i]
    · exact laterN_len bs ds i
theorem later_label (bs : List Int) (p : Int) (hb : ∀ x ∈ bs, 2 ≤ x) (hp : 0 ≤ p) (h1 : 1 ≤ bs.length) (h3 : bs.length ≤ 3) : laterL bs (labelP bs p) = labelP bs (p + 1) := by
  have hB := label_ok bs p hb hp
  have hP := place_label bs p hb
  have hl := labelP_len bs p
  suffices labelB bs (laterL bs (labelP bs p)) = true ∧ placeOf bs (laterL bs (labelP bs p)) = p + 1 by
    rw [← this.2]
    exact (label_place bs _ this.1 hb).symm
  generalize labelP bs p = ds at hB hP hl
  match bs, h1, h3 with
  | [b], _, _ =>
    match ds, hl with
    | [x, y], _ =>
      have hb1 := hb b (by simp)
      simp [labelB, boundL] at hB
      replace hP : x * b + y = p := hP
      show labelB [b] (laterStep [b] ([x, y + 1], 1)).1 = true ∧ placeOf [b] (laterStep [b] ([x, y + 1], 1)).1 = p + 1
      unfold laterStep
      by_cases c : y + 1 = b
      · have e : (if ([x, y + 1] : List Int).getD 1 0 = ([b] : List Int).getD (1 - 1) 0 then (((([x, y + 1] : List Int).set 1 0).set (1 - 1) (([x, y + 1] : List Int).getD (1 - 1) 0 + 1), 1 - 1) : List Int × Nat) else ([x, y + 1], 1)) = ([x + 1, 0], 0) := if_pos c
        rw [e]
        refine ⟨?_, ?_⟩
        · simp [labelB, boundL]; omega
        · show (x + 1) * b + 0 = p + 1
          rw [Int.add_mul]; omega
      · have e : (if ([x, y + 1] : List Int).getD 1 0 = ([b] : List Int).getD (1 - 1) 0 then (((([x, y + 1] : List Int).set 1 0).set (1 - 1) (([x, y + 1] : List Int).getD (1 - 1) 0 + 1), 1 - 1) : List Int × Nat) else ([x, y + 1], 1)) = ([x, y + 1], 1) := if_neg c
        rw [e]
        refine ⟨?_, ?_⟩
        · simp [labelB, boundL]; omega
        · show x * b + (y + 1) = p + 1
          omega
  | [a, b], _, _ =>
    match ds, hl with
    | [x, y, z], _ =>
      have hb1 := hb a (by simp)
      have hb2 := hb b (by simp)
      simp [labelB, boundL] at hB
      replace hP : (x * a + y) * b + z = p := hP
      have st1 : laterStep [a, b] ([x, y, z + 1], 2) = if z + 1 = b then ([x, y + 1, 0], 1) else ([x, y, z + 1], 2) := rfl
      have st2 : laterStep [a, b] ([x, y + 1, 0], 1) = if y + 1 = a then ([x + 1, 0, 0], 0) else ([x, y + 1, 0], 1) := rfl
      show labelB [a, b] (laterStep [a, b] (laterStep [a, b] ([x, y, z + 1], 2))).1 = true ∧ placeOf [a, b] (laterStep [a, b] (laterStep [a, b] ([x, y, z + 1], 2))).1 = p + 1
      rw [st1]
      by_cases c : z + 1 = b
      · rw [if_pos c, st2]
        by_cases d : y + 1 = a
        · rw [if_pos d]
          refine ⟨?_, ?_⟩
          · simp [labelB, boundL]; omega
          · show ((x + 1) * a + 0) * b + 0 = p + 1
            rw [show (x + 1) * a + 0 = (x * a + y) + 1 by rw [Int.add_mul]; omega, Int.add_mul]; omega
        · rw [if_neg d]
          refine ⟨?_, ?_⟩
          · simp [labelB, boundL]; omega
          · show (x * a + (y + 1)) * b + 0 = p + 1
            rw [← Int.add_assoc, Int.add_mul]; omega
      · rw [if_neg c, st1, if_neg c]
        refine ⟨?_, ?_⟩
        · simp [labelB, boundL]; omega
        · show (x * a + y) * b + (z + 1) = p + 1
          omega
  | [a, b, c], _, _ =>
    match ds, hl with
    | [w, x, y, z], _ =>
      have hb1 := hb a (by simp)
      have hb2 := hb b (by simp)
      have hb3 := hb c (by simp)
      simp [labelB, boundL] at hB
      replace hP : ((w * a + x) * b + y) * c + z = p := hP
      have st1 : laterStep [a, b, c] ([w, x, y, z + 1], 3) = if z + 1 = c then ([w, x, y + 1, 0], 2) else ([w, x, y, z + 1], 3) := rfl
      have st2 : laterStep [a, b, c] ([w, x, y + 1, 0], 2) = if y + 1 = b then ([w, x + 1, 0, 0], 1) else ([w, x, y + 1, 0], 2) := rfl
      have st3 : laterStep [a, b, c] ([w, x + 1, 0, 0], 1) = if x + 1 = a then ([w + 1, 0, 0, 0], 0) else ([w, x + 1, 0, 0], 1) := rfl
      show labelB [a, b, c] (laterStep [a, b, c] (laterStep [a, b, c] (laterStep [a, b, c] ([w, x, y, z + 1], 3)))).1 = true ∧ placeOf [a, b, c] (laterStep [a, b, c] (laterStep [a, b, c] (laterStep [a, b, c] ([w, x, y, z + 1], 3)))).1 = p + 1
      rw [st1]
      by_cases h1 : z + 1 = c
      · rw [if_pos h1, st2]
        by_cases h2 : y + 1 = b
        · rw [if_pos h2, st3]
          by_cases h3 : x + 1 = a
          · rw [if_pos h3]
            refine ⟨?_, ?_⟩
            · simp [labelB, boundL]; omega
            · show (((w + 1) * a + 0) * b + 0) * c + 0 = p + 1
              rw [show (w + 1) * a + 0 = (w * a + x) + 1 by rw [Int.add_mul]; omega, show (w * a + x + 1) * b + 0 = ((w * a + x) * b + y) + 1 by rw [Int.add_mul]; omega, Int.add_mul]; omega
          · rw [if_neg h3]
            refine ⟨?_, ?_⟩
            · simp [labelB, boundL]; omega
            · show ((w * a + (x + 1)) * b + 0) * c + 0 = p + 1
              rw [← Int.add_assoc, show (w * a + x + 1) * b + 0 = ((w * a + x) * b + y) + 1 by rw [Int.add_mul]; omega, Int.add_mul]; omega
        · rw [if_neg h2, st2, if_neg h2]
          refine ⟨?_, ?_⟩
          · simp [labelB, boundL]; omega
          · show ((w * a + x) * b + (y + 1)) * c + 0 = p + 1
            rw [← Int.add_assoc, Int.add_mul]; omega
      · rw [if_neg h1, st1, if_neg h1, st1, if_neg h1]
        refine ⟨?_, ?_⟩
        · simp [labelB, boundL]; omega
        · show ((w * a + x) * b + y) * c + (z + 1) = p + 1
          omega
/-! ### texts of words -/
abbrev sg (x : Str) : List Nat := x.cps.toList
theorem sg_app (x y : Str) : sg (x ++ y) = sg x ++ sg y := by
  show (x.cps ++ y.cps).toList = _
  rw [Array.toList_append]
theorem sg_inj {x y : Str} (h : sg x = sg y) : x = y := by
  cases x
  cases y
  exact congrArg Str.mk (Array.toList_inj.mp h)
theorem sg_join (c : Nat) (x y : Str) (r : List Str) : sg (Str.join ⟨#[c]⟩ (x :: y :: r)) = sg x ++ c :: sg (Str.join ⟨#[c]⟩ (y :: r)) := by
  show sg (x ++ ⟨#[c]⟩ ++ Str.join ⟨#[c]⟩ (y :: r)) = _
  rw [sg_app, sg_app, List.append_assoc]
  rfl
theorem cut_one {c : Nat} : ∀ {a b x y : List Nat}, c ∉ a → c ∉ b → a ++ c :: x = b ++ c :: y → a = b ∧ x = y
  | [], [], x, y, _, _, h => ⟨rfl, by simpa using h⟩
  | [], d :: b, x, y, _, hb, h => by
    have h1 : c = d := by simpa using congrArg List.head? h
    exact absurd (by rw [h1]; exact List.mem_cons_self) hb
  | d :: a, [], x, y, ha, _, h => by
    have h1 : d = c := by simpa using congrArg List.head? h
    exact absurd (by rw [h1]; exact List.mem_cons_self) ha
  | d :: a, e :: b, x, y, ha, hb, h => by
    have h1 : d = e ∧ a ++ c :: x = b ++ c :: y := by simpa using h
    have h2 := cut_one (fun z => ha (List.mem_cons_of_mem _ z)) (fun z => hb (List.mem_cons_of_mem _ z)) h1.2
    exact ⟨by rw [h1.1, h2.1], h2.2⟩
theorem joinC_inj (c : Nat) : ∀ (as bs : List Str), as ≠ [] → bs ≠ [] → (∀ p ∈ as, c ∉ sg p) → (∀ p ∈ bs, c ∉ sg p) → Str.join ⟨#[c]⟩ as = Str.join ⟨#[c]⟩ bs → as = bs
  | [], _, h, _, _, _, _ => absurd rfl h
  | _, [], _, h, _, _, _ => absurd rfl h
  | [a], [b], _, _, _, _, h => by
    have h' : a = b := h
    rw [h']
  | [a], b :: d :: r, _, _, ha, _, h => by
    have e := congrArg sg h
    rw [sg_join] at e
    have e' : sg a = sg b ++ c :: sg (Str.join ⟨#[c]⟩ (d :: r)) := e
    exact absurd (by rw [e']; simp) (ha a List.mem_cons_self)
  | a :: d :: r, [b], _, _, _, hb, h => by
    have e := congrArg sg h
    rw [sg_join] at e
    have e' : sg a ++ c :: sg (Str.join ⟨#[c]⟩ (d :: r)) = sg b := e
    exact absurd (by rw [← e']; simp) (hb b List.mem_cons_self)
  | a :: a2 :: r, b :: b2 :: s, _, _, ha, hb, h => by
    have e := congrArg sg h
    rw [sg_join, sg_join] at e
    obtain ⟨e1, e2⟩ := cut_one (ha a List.mem_cons_self) (hb b List.mem_cons_self) e
    rw [sg_inj e1, joinC_inj c (a2 :: r) (b2 :: s) (List.cons_ne_nil _ _) (List.cons_ne_nil _ _) (fun p hp => ha p (List.mem_cons_of_mem _ hp)) (fun p hp => hb p (List.mem_cons_of_mem _ hp)) (sg_inj e2)]
theorem join_glued (sep : Str) (ws : List Str) : Txt.join sep ws = Str.join sep ws := StrLaws.glued_eq_join sep ws
theorem split_ne (x y : Str) : Txt.split x y ≠ [] := fun h => by
  have := PyProof.Rows.split_pos x y
  rw [h] at this
  exact absurd this (by decide)
theorem split_join (c : Nat) (ws : List Str) (h0 : ws ≠ []) (hw : ∀ p ∈ ws, c ∉ sg p) : Txt.split (Txt.join ⟨#[c]⟩ ws) ⟨#[c]⟩ = ws := by
  refine joinC_inj c _ _ (split_ne _ _) h0 (StrLaws.split_free _ c) hw ?_
  rw [StrLaws.join_split, join_glued]
/-! ### words of figures -/
def figB (w : Str) : Bool := !(sg w).isEmpty && (sg w).all fun c => decide (48 ≤ c) && decide (c ≤ 57)
theorem dig_cls : ∀ c : Nat, c < 128 → Unicode.isDigit c = (decide (48 ≤ c) && decide (c ≤ 57)) := by
  have k : ∀ n : _root_.Fin 128, Unicode.isDigit n.val = (decide (48 ≤ n.val) && decide (n.val ≤ 57)) := by decide +kernel
  exact fun c h => k ⟨c, h⟩
theorem all_toL (x : Str) (p : Nat → Bool) : x.cps.all p = (sg x).all p := by
  rw [← Array.all_toList]
theorem fig_eq (w : Str) : (Txt.isascii w && Txt.isdigit w) = figB w := by
  unfold Txt.isascii Txt.isdigit figB
  rw [all_toL, all_toL]
  have h0 : decide (w.length > 0) = !(sg w).isEmpty := by
    show decide (w.cps.size > 0) = !w.cps.toList.isEmpty
    rw [← Array.length_toList]
    cases w.cps.toList <;> simp
  rw [h0]
  have h1 : ((sg w).all (fun x => decide (x < 128)) && (sg w).all Unicode.isDigit) = (sg w).all fun c => decide (48 ≤ c) && decide (c ≤ 57) := by
    generalize sg w = l
    induction l with
    | nil => rfl
    | cons c l ih =>
      rw [List.all_cons, List.all_cons, List.all_cons, ← ih]
      by_cases h : c < 128
      · rw [decide_eq_true h, dig_cls c h]
        cases (decide (48 ≤ c) && decide (c ≤ 57)) <;> cases (l.all fun x => decide (x < 128)) <;> simp
      · rw [decide_eq_false h, decide_eq_false (show ¬ c ≤ 57 by omega)]
        simp
  rw [← h1]
  cases (sg w).isEmpty <;> simp
theorem figB_iff {w : Str} : figB w = true ↔ sg w ≠ [] ∧ NumText.AllDigits (sg w) := by
  unfold figB NumText.AllDigits
  generalize sg w = l
  rw [Bool.and_eq_true, List.all_eq_true]
  constructor
  · rintro ⟨h1, h2⟩
    refine ⟨fun z => by rw [z] at h1; exact absurd h1 (by decide), fun c hc => ?_⟩
    have := h2 c hc
    rw [Bool.and_eq_true, decide_eq_true_eq, decide_eq_true_eq] at this
    exact this
  · rintro ⟨h1, h2⟩
    refine ⟨?_, fun c hc => ?_⟩
    · cases l with
      | nil => exact absurd rfl h1
      | cons => rfl
    · rw [Bool.and_eq_true, decide_eq_true_eq, decide_eq_true_eq]
      exact h2 c hc
/-- the number that figures write -/
def worthN (w : Str) : Nat := NumText.digitsVal (sg w)
theorem sg_num (m : Nat) : sg (numS (m : Int)) = (Nat.toDigits 10 m).map Char.toNat := PySem.W.KIN.signs_num m
theorem num_worth (m : Nat) : worthN (numS (m : Int)) = m := by
  unfold worthN
  rw [sg_num]
  exact PySem.W.KIN.val_back m
theorem num_fig (m : Nat) : figB (numS (m : Int)) = true := by
  rw [figB_iff, sg_num]
  refine ⟨fun e => ?_, fun c hc => ?_⟩
  · have h := toDigits_len_ge 10 m
    rw [List.map_eq_nil_iff.mp e] at h
    exact absurd h (by decide)
  · obtain ⟨ch, hch, e⟩ := List.mem_map.mp hc
    have r := digit_range (Nat.isDigit_of_mem_toDigits (by decide) (by decide) hch)
    rw [← e]
    exact r
theorem fig_free {w : Str} (h : figB w = true) {c : Nat} (hc : c < 48 ∨ 57 < c) : c ∉ sg w := fun hm => by
  have := (figB_iff.mp h).2 c hm
  omega
theorem worth_snoc (w : Str) (i : Nat) (c : Nat) (h : (sg w)[i]? = some c) : NumText.digitsVal ((sg w).take (i + 1)) = NumText.digitsVal ((sg w).take i) * 10 + (c - 48) := by
  rw [List.take_add_one, h]
  exact NumText.digitsVal_snoc _ _
theorem fig_int {c : Nat} (h : 48 ≤ c ∧ c ≤ 57) : PySem.intText? ⟨#[c]⟩ = some ((c - 48 : Nat) : Int) := by
  have e := PySem.intText_digits (x := ⟨#[c]⟩) (fun d hd => by rw [List.mem_singleton.mp hd]; exact h) (List.cons_ne_nil _ _) (show 1 ≤ 4300 by decide)
  rw [e]
  show some (((0 * 10 + (c - 48) : Nat)) : Int) = _
  rw [Nat.zero_mul, Nat.zero_add]
/-! ### small numbers with zeros in front -/
def padS (b d : Int) : Str := Txt.zfill (numS d) (((numS (b - 1)).length : Nat) : Int)
def padL (b d : Int) : Str := Txt.mul "0" ((((numS (b - 1)).length : Nat) : Int) - (((numS d).length : Nat) : Int)) ++ numS d
theorem pad_small : ∀ b : _root_.Fin 61, ∀ d : _root_.Fin 61, d.val < b.val → figB (padS b.val d.val) = true ∧ worthN (padS b.val d.val) = d.val ∧ padS b.val d.val = padL b.val d.val ∧ (padS b.val d.val).length ≤ 2 ∧ (numS b.val).length ≤ 2 := by decide +kernel
theorem pad_of {b d : Int} (h0 : 0 ≤ d) (h1 : d ≤ b - 1) (h2 : b ≤ 60) : figB (padS b d) = true ∧ ((worthN (padS b d) : Nat) : Int) = d ∧ padS b d = padL b d ∧ (padS b d).length ≤ 2 ∧ (numS b).length ≤ 2 := by
  obtain ⟨d, rfl⟩ := Int.eq_ofNat_of_zero_le h0
  obtain ⟨b, rfl⟩ := Int.eq_ofNat_of_zero_le (show 0 ≤ b by omega)
  obtain ⟨q1, q2, q3, q4, q5⟩ := pad_small ⟨b, by omega⟩ ⟨d, by omega⟩ (show d < b by omega)
  exact ⟨q1, congrArg Int.ofNat q2, q3, q4, q5⟩
/-! ### texts of labels -/
theorem str_assoc (x y z : Str) : x ++ y ++ z = x ++ (y ++ z) := sg_inj (by rw [sg_app, sg_app, sg_app, sg_app, List.append_assoc])
theorem join_two (sep x y : Str) : ∀ r : List Str, Str.join sep (x :: y :: r) = Str.join sep ((x ++ sep ++ y) :: r)
  | [] => rfl
  | z :: r => by
    show x ++ sep ++ (y ++ sep ++ Str.join sep (z :: r)) = (x ++ sep ++ y) ++ sep ++ Str.join sep (z :: r)
    simp only [str_assoc]
theorem join_fold (sep : Str) : ∀ (r : List Str) (x : Str), Str.join sep (x :: r) = r.foldl (fun s y => s ++ sep ++ y) x
  | [], x => rfl
  | y :: r, x => by rw [join_two, join_fold sep r, List.foldl_cons]
def wordsP (bs ds : List Int) : List Str := numS (ds.headD 0) :: (bs.zip ds.tail).map fun p => padS p.1 p.2
def labelS (bs ds : List Int) : Str := Txt.join ":" (wordsP bs ds)
def wordedStep (s : Str) (p : Int × Int) : Str := s ++ ":" ++ Txt.mul "0" ((((numS (p.1 - 1)).length : Nat) : Int) - (((numS p.2).length : Nat) : Int)) ++ numS p.2
def wordedL (bs ds : List Int) : Str := (bs.zip ds.tail).foldl wordedStep (numS (ds.headD 0))
theorem col_eq : (":" : Str) = ⟨#[58]⟩ := by decide
theorem zip_bound {bs ds : List Int} (h : labelB bs ds = true) : ∀ p ∈ bs.zip ds.tail, 0 ≤ p.2 ∧ p.2 ≤ p.1 - 1 := by
  intro p hp
  unfold labelB boundL at h
  rw [Bool.and_eq_true, Bool.and_eq_true, List.all_eq_true] at h
  have := h.2.2 _ (List.mem_map.mpr ⟨p, hp, rfl⟩)
  simpa using this
theorem zip_left {bs ds : List Int} {m : Int} (hb : ∀ x ∈ bs, x ≤ m) : ∀ p ∈ bs.zip ds, p.1 ≤ m := fun p hp => hb _ (List.of_mem_zip hp).1
theorem label_head {bs ds : List Int} (h : labelB bs ds = true) : 0 ≤ ds.headD 0 := by
  unfold labelB at h
  rw [Bool.and_eq_true, Bool.and_eq_true] at h
  exact of_decide_eq_true h.2.1
theorem worded_eq {bs ds : List Int} (h : labelB bs ds = true) (hb : ∀ x ∈ bs, x ≤ 60) : wordedL bs ds = labelS bs ds := by
  unfold wordedL labelS wordsP
  rw [join_glued, join_fold, List.foldl_map]
  have h1 := zip_bound h
  have h2 := zip_left (ds := ds.tail) hb
  generalize bs.zip ds.tail = l at h1 h2
  generalize numS (ds.headD 0) = s
  induction l generalizing s with
  | nil => rfl
  | cons p l ih =>
    rw [List.foldl_cons, List.foldl_cons, ih (fun q hq => h1 q (List.mem_cons_of_mem _ hq)) fun q hq => h2 q (List.mem_cons_of_mem _ hq)]
    obtain ⟨a, b⟩ := h1 p List.mem_cons_self
    rw [(pad_of a b (h2 p List.mem_cons_self)).2.2.1]
    unfold wordedStep padL
    simp only [str_assoc]
theorem words_fig {bs ds : List Int} (h : labelB bs ds = true) (hb : ∀ x ∈ bs, x ≤ 60) : ∀ w ∈ wordsP bs ds, figB w = true := by
  intro w hw
  rcases List.mem_cons.mp hw with rfl | hw
  · obtain ⟨m, e⟩ := Int.eq_ofNat_of_zero_le (label_head h)
    rw [e]
    exact num_fig m
  · obtain ⟨p, hp, rfl⟩ := List.mem_map.mp hw
    obtain ⟨a, b⟩ := zip_bound h p hp
    exact (pad_of a b (zip_left hb p hp)).1
theorem words_worth {bs ds : List Int} (h : labelB bs ds = true) (hb : ∀ x ∈ bs, x ≤ 60) : (wordsP bs ds).map (fun w => ((worthN w : Nat) : Int)) = ds := by
  have hl := labelB_len h
  have h1 := zip_bound h
  have h2 := zip_left (ds := ds.tail) hb
  have h0 := label_head h
  cases ds with
  | nil => simp at hl
  | cons d ds =>
    have hl' : ds.length = bs.length := by simpa using hl
    unfold wordsP
    rw [List.map_cons, List.map_map]
    obtain ⟨m, e⟩ := Int.eq_ofNat_of_zero_le (show 0 ≤ d from h0)
    have e0 : ((worthN (numS ((d :: ds).headD 0)) : Nat) : Int) = d := by
      show ((worthN (numS d) : Nat) : Int) = d
      rw [e, num_worth]
    rw [e0]
    refine congrArg (d :: ·) ?_
    show (bs.zip ds).map _ = ds
    have e1 : (bs.zip ds).map (fun p => ((worthN (padS p.1 p.2) : Nat) : Int)) = (bs.zip ds).map Prod.snd := List.map_congr_left fun p hp => by
      obtain ⟨a, b⟩ := h1 p hp
      exact (pad_of a b (h2 p hp)).2.1
    exact e1.trans (List.map_snd_zip (by omega))
/-- the label that is read off a text -/
def readL (bs : List Int) (x : Str) : Option (List Int) :=
  if ((Txt.split x ":").map figB).all id = true then
    if labelB bs ((Txt.split x ":").map fun w => ((worthN w : Nat) : Int)) = true ∧ labelS bs ((Txt.split x ":").map fun w => ((worthN w : Nat) : Int)) = x then some ((Txt.split x ":").map fun w => ((worthN w : Nat) : Int)) else none
  else none
theorem label_split {bs ds : List Int} (h : labelB bs ds = true) (hb : ∀ x ∈ bs, x ≤ 60) : Txt.split (labelS bs ds) ":" = wordsP bs ds := by
  unfold labelS
  rw [col_eq]
  exact split_join 58 _ (List.cons_ne_nil _ _) fun p hp => fig_free (words_fig h hb p hp) (.inr (by decide))
theorem read_label {bs ds : List Int} (h : labelB bs ds = true) (hb : ∀ x ∈ bs, x ≤ 60) : readL bs (labelS bs ds) = some ds := by
  unfold readL
  rw [label_split h hb, words_worth h hb, if_pos, if_pos ⟨h, rfl⟩]
  rw [List.all_map, List.all_eq_true]
  exact fun w hw => words_fig h hb w hw
theorem num_len {m : Int} (h0 : 0 ≤ m) (h1 : m < 10 ^ 60) : (numS m).length ≤ 60 := by
  obtain ⟨n, rfl⟩ := Int.eq_ofNat_of_zero_le h0
  have hn : n < 10 ^ 60 := by
    have : ((10 : Int) ^ 60) = ((10 ^ 60 : Nat) : Int) := by decide
    omega
  have e : (numS (n : Int)).length = (Nat.toDigits 10 n).length := by
    show (numS (n : Int)).cps.size = _
    rw [← Array.length_toList]
    show (sg (numS (n : Int))).length = _
    rw [sg_num, List.length_map]
  rw [e]
  exact Nat.le_trans (Nat.le_refl _) (toDigits_len_pow (by decide) (by decide) hn)
end LM

set_option Elab.async false
set_option linter.all false
set_option maxRecDepth 100000
set_option maxHeartbeats 4000000
set_option pp.maxSteps 600
set_option pp.deepTerms false
namespace LM
open PySem PySem.Spec PyProof.Rows L2 RZ
local macro_rules | `(tactic| walk_at "hp") => `(tactic| first | assumption | exact upd_same | (rw [upd_ne (by assumption)]; assumption) | (rw [upd_ne (Ne.symm (by assumption))]; assumption) | (rw [upd_ne (by assumption)]; exact upd_same) | (rw [upd_ne (Ne.symm (by assumption))]; exact upd_same))
local macro_rules | `(tactic| walk_at "sq") => `(tactic| first | assumption | exact Or.inl (Or.inl (by assumption)) | exact Or.inl (Or.inl upd_same) | exact Or.inl (Or.inl (by walk_at "hp")))
local macro_rules | `(tactic| walk_at "ixl") => `(tactic| refine ⟨_, _, _, _, rfl, rfl, (by walk_at "sq"), (by rfl), ?_⟩)
local macro_rules | `(tactic| walk_at "setl") => `(tactic| refine ⟨_, _, _, _, rfl, rfl, (by walk_at "hp"), (by rfl), ?_⟩)
local macro_rules | `(tactic| walk_at "side") => `(tactic| refine idP ?_; first | omega | (show (0 : Int) < _; omega) | (show (0 : Int) < _ ∧ _ < _; omega) | (refine Or.inr ?_; show (-(2 ^ 64) : Int) < _ ∧ _ < _; omega) | (refine Or.inl ?_; show (-(2 ^ 64) : Int) < _ ∧ _ < _; omega) | exact divW (by omega) (by omega) _ | (refine ⟨by decide, by decide, ?_⟩; decide))
local macro_rules | `(tactic| walk_at "go1") => `(tactic| first
  | refine ⟨_, rfl, ?_⟩
  | refine ⟨_, _, rfl, rfl, (by walk_at "side"), ?_⟩
  | refine ⟨_, _, rfl, (by walk_at "side"), ?_⟩
  | refine ⟨_, _, rfl, rfl, ?_⟩
  | refine Or.inl ⟨_, rfl, ?_⟩
  | refine ⟨_, _, rfl, Or.inl (by walk_at "sq"), ?_⟩
  | walk_at "ixl"
  | walk_at "setl"
  | refine ⟨_, _, rfl, (by walk_at "sq"), rfl, ?_⟩
  | refine ⟨_, _, rfl, (by walk_at "sq"), ?_⟩
  | refine ⟨_, _, rfl, ?_⟩
  | refine ⟨rfl, ?_⟩
  | refine ⟨small (Nat.le_of_ble_eq_true rfl), ?_⟩)
local macro_rules | `(tactic| walk_at "go") => `(tactic| repeat walk_at "go1")

abbrev shas_figures_alone : Stmt := topS 28
theorem schas_figures_alone : FnScope ["word"] ["word"] (defScope shas_figures_alone) := ⟨rfl, rfl, rfl, by decide +kernel, rfl, by decide +kernel, by decide +kernel⟩
abbrev sworth : Stmt := topS 29
theorem scworth : FnScope ["figures", "number", "figure"] ["figures"] (defScope sworth) := ⟨rfl, rfl, rfl, by decide +kernel, rfl, by decide +kernel, by decide +kernel⟩
abbrev sread_number : Stmt := topS 30
theorem scread_number : FnScope ["word"] ["word"] (defScope sread_number) := ⟨rfl, rfl, rfl, by decide +kernel, rfl, by decide +kernel, by decide +kernel⟩
abbrev snumbers_behind : Stmt := topS 56
theorem scnumbers_behind : FnScope ["word", "line", "first", "others", "other"] ["word", "line"] (defScope snumbers_behind) := ⟨rfl, rfl, rfl, by decide +kernel, rfl, by decide +kernel, by decide +kernel⟩
def spHasFig : Sp := fun vs H Q _ => ∃ (w : Str), vs = [.str w] ∧ Q (.bl (figB w)) H
def spWorth : Sp := fun vs H Q _ => ∃ (w : Str), vs = [.str w] ∧ figB w = true ∧ Q (.int ((worthN w : Nat) : Int)) H
/-- the number that a word is read as, None if it is none -/
def readN (w : Str) : Option Int := if figB w = true ∧ ¬ (Txt.startswith w "0" = true ∧ w ≠ "0") then some ((worthN w : Nat) : Int) else none
theorem read_small : ∀ k : _root_.Fin 61, readN (numS (k.val : Int)) = some (k.val : Int) := by decide +kernel
theorem read_num {n : Int} (h0 : 0 ≤ n) (h1 : n ≤ 60) : readN (numS n) = some n := by
  have := read_small ⟨n.toNat, by omega⟩
  have e : ((n.toNat : Nat) : Int) = n := by omega
  simpa [e] using this
def readV : Option Int → V
  | none => .non
  | some n => .int n
def spReadNum : Sp := fun vs H Q _ => ∃ (w : Str), vs = [.str w] ∧ Q (readV (readN w)) H
/-- what stands behind a word in a line -/
def spBehind : Sp := fun vs H Q _ => ∃ (word line w : Str) (ws : List Str), vs = [.str word, .str line] ∧ line.length ≤ 100000 ∧ Txt.split line " " = w :: ws ∧
  (w = word → ∀ (t : Addr) H', Same H H' → H t = none → H' t = some (.tup (ws.map fun x => readV (readN x))) → Q (.ref t) H') ∧ (w ≠ word → ∀ H', Same H H' → Q .non H')
section
variable {P : Program} {w : World} {K : PySem.W.Frag} {mg : Str → Option Value} {base : Heap}
theorem ok_hasfig {f : Addr} {fd : FuncData} (F : Fun K "has_figures_alone" "has_figures_alone" shas_figures_alone f fd) : FnOk P w K mg base CX0 1 f fd ["word"] spHasFig := by
  have sc := schas_figures_alone
  refine F.ok sc (fun vs H Q E h => ?_) (fun cdv A outer s H vs Q E hr h => ?_)
  · obtain ⟨w, rfl, _⟩ := h
    rfl
  · obtain ⟨w, rfl, k⟩ := h
    refine ⟨_, (pss_one (ps_ret (pe_and (pe_m0 PySem.F.slot_str_isascii PySem.F.type_str_isascii mt_isascii (pv 0)) (pe_one (pe_m0 PySem.F.slot_str_isdigit PySem.F.type_str_isdigit mt_isdigit (pv 0)))))), ?_⟩
    refine ⟨_, rfl, ⟨_, rfl⟩, _, rfl, rfl, trivial, _, rfl, ?_⟩
    rw [← fig_eq] at k
    refine ifB (fun h1 => ?_) (fun h1 => ?_)
    · refine ⟨_, rfl, ⟨_, rfl⟩, _, rfl, rfl, trivial, ?_⟩
      rw [h1, Bool.true_and] at k
      exact k
    · rw [h1, Bool.false_and] at k
      exact k
theorem ok_worth {f : Addr} {fd : FuncData} (F : Fun K "worth" "worth" sworth f fd) (N : Names mg) : FnOk P w K mg base CX0 1 f fd ["figures"] spWorth := by
  have sc := scworth
  refine F.ok sc (fun vs H Q E h => ?_) (fun cdv A outer s H vs Q E hr h => ?_)
  · obtain ⟨w, rfl, _⟩ := h
    rfl
  · obtain ⟨z, rfl, hf, k⟩ := h
    refine ⟨_, (pss_cons (ps_set (i := 1) sc.nd rfl (Or.inl rfl) pe_int)
      (pss_cons (ps_for PassesOwn.never rfl (pi_str (pv 0)) (pg_name (i := 2) sc.nd rfl (Or.inl rfl)) (pss_one (ps_set (i := 1) sc.nd rfl (Or.inl rfl) (pe_op op_add (pe_op op_mul pe_int (pv 1)) (pe_callTy (T := "int") call_int_str (by rfl) N.int (by decide +kernel) (pa_cons (pv 2) pa_nil))))))
      (pss_one (ps_ret (pv 1))))), ?_⟩
    obtain ⟨f1, f2⟩ := figB_iff.mp hf
    refine ⟨_, rfl, _, rfl, for_it walk_str (fun i σ H' => ∃ v2 : Option V, σ = [some (.str z), some (.int ((NumText.digitsVal ((sg z).take i) : Nat) : Int)), v2] ∧ H' = H) ⟨_, rfl, rfl⟩ (fun _ _ _ _ _ => trivial) ?_ ?_⟩
    · rintro i x σ H1 H2 hi ⟨v2, rfl, rfl⟩ ⟨rfl, c, hc, rfl⟩
      have hc' : (sg z)[i]? = some c := by rw [← Array.getElem?_toList] at hc; exact hc
      have hcc := f2 c (List.mem_of_getElem? hc')
      refine ⟨_, rfl, _, _, rfl, rfl, .inl ⟨by decide, by decide⟩, _, rfl, _, _, rfl, fig_int hcc, (show 1 ≤ 640 by decide), _, _, rfl, rfl, ?_⟩
      refine ⟨_, (by rw [worth_snoc z i c hc', Int.natCast_add, Int.natCast_mul, Int.mul_comm]; rfl), rfl⟩
    · rintro σ H' ⟨v2, rfl, rfl⟩
      refine ⟨_, rfl, ?_⟩
      have e : (sg z).take z.cps.size = sg z := List.take_of_length_le (by rw [Array.length_toList]; exact Nat.le_refl _)
      rw [e]
      exact k
theorem ok_readnum {f : Addr} {fd : FuncData} (F : Fun K "read_number" "read_number" sread_number f fd) (Dhas_figures_alone : DefK P w K mg base "has_figures_alone" ["word"] 1 spHasFig) (Dworth : DefK P w K mg base "worth" ["figures"] 1 spWorth) : FnOk P w K mg base CX0 2 f fd ["word"] spReadNum := by
  have sc := scread_number
  refine F.ok sc (fun vs H Q E h => ?_) (fun cdv A outer s H vs Q E hr h => ?_)
  · obtain ⟨w, rfl, _⟩ := h
    rfl
  · obtain ⟨z, rfl, k⟩ := h
    refine ⟨_, (pss_cons (ps_if (PW.pt (pw_or (pt_not (pt_val (pe_d Dhas_figures_alone (hr.mono (by decide)) rfl (pa_cons (pv 0) pa_nil)))) (pw_or1 (PW.pt (pw_and (pt_val (pe_m1 PySem.F.slot_str_startswith PySem.F.type_str_startswith mt_startswith (pv 0) pe_str)) (pw_and1 (pt_cmpR op_ne (pv 0) pe_str (nomark _)))))))) (pss_one (ps_ret pe_non)) pss_nil)
      (pss_one (ps_ret (pe_d Dworth (hr.mono (by decide)) rfl (pa_cons (pv 0) pa_nil))))), ?_⟩
    refine ⟨_, rfl, z, rfl, _, rfl, ?_⟩
    cases hf : figB z with
    | false =>
      refine iteT ?_
      have e : readN z = none := by
        unfold readN
        rw [if_neg (fun h => by rw [hf] at h; exact Bool.false_ne_true h.1)]
      rw [e] at k
      exact k
    | true =>
      refine iteF ?_
      refine ⟨_, rfl, ⟨_, rfl⟩, z, _, rfl, rfl, _, rfl, ?_⟩
      have yes : ¬ (Txt.startswith z "0" = true ∧ z ≠ "0") → readV (readN z) = .int ((worthN z : Nat) : Int) := fun h => by
        unfold readN
        rw [if_pos ⟨hf, h⟩]
        rfl
      cases hz : Txt.startswith z "0" with
      | false =>
        rw [yes (fun h => by rw [hz] at h; exact Bool.false_ne_true h.1)] at k
        refine iteF ?_
        exact ⟨_, rfl, z, rfl, hf, k⟩
      | true =>
        refine iteT ?_
        refine ⟨_, rfl, rfl, _, rfl, ?_⟩
        refine ifN (fun hd => ?_) (fun hd => ?_)
        · have e : readN z = none := by
            unfold readN
            rw [if_neg (fun h => h.2 ⟨hz, fun e => hd (congrArg V.str e)⟩)]
          rw [e] at k
          exact k
        · rw [yes (fun h => h.2 (V.str.inj hd))] at k
          exact ⟨_, rfl, z, rfl, hf, k⟩
theorem ok_behind {f : Addr} {fd : FuncData} (F : Fun K "numbers_behind" "numbers_behind" snumbers_behind f fd) (N : Names mg) (Dread_number : DefK P w K mg base "read_number" ["word"] 2 spReadNum) : FnOk P w K mg base CX0 3 f fd ["word", "line"] spBehind := by
  have sc := scnumbers_behind
  refine F.ok sc (fun vs H Q E h => ?_) (fun cdv A outer s H vs Q E hr h => ?_)
  · obtain ⟨a, b, w, ws, rfl, _⟩ := h
    rfl
  · obtain ⟨word, line, w, ws, rfl, hl, hsp, k1, k2⟩ := h
    refine ⟨_, (pss_cons (ps_asg (pe_split (pv 1) pe_str) (pg_star1 rfl (pgs_cons (pg_name (i := 2) sc.nd rfl (Or.inl rfl)) (pgs_star (pg_name (i := 3) sc.nd rfl (Or.inl rfl)) pgs_nil))))
      (pss_cons (ps_if (pt_cmpR op_ne (pv 2) (pv 0) (nomark _)) (pss_one (ps_ret pe_non)) pss_nil)
      (pss_one (ps_ret (pe_callTy (T := "tuple") call_tuple_of (by rfl) N.tuple (by decide +kernel) (pa_cons (pe_lc (own := [("other", 4)]) rfl sc.nd (pi_list (pv 3)) (blkOk_by (own := [("other", 4)]) (N := ["word", "line", "first", "others", "other"]) (sc := defScope (topS 56)) (by decide +kernel)) (fun _ _ _ _ _ => (pg_name (i := 4) sc.nd rfl (Or.inl rfl))) (fun _ _ _ _ _ => pts_nil) (fun _ _ _ _ _ => (pe_d Dread_number (hr.mono (by decide)) rfl (pa_cons (pv 4) pa_nil)))) pa_nil)))))), ?_⟩
    refine ⟨_, rfl, ⟨_, rfl⟩, _, _, rfl, rfl, (by decide), Nat.le_trans (show line.length + 2 ≤ 100002 by omega) (by decide), ?_⟩
    (intro q nq; generalize e_q : upd H q _ = H1; have s1 : Same H H1 := fun b x hb => (congrFun e_q b).symm.trans (same_new nq b x hb); have h1 := (congrFun e_q q).symm.trans upd_same; clear e_q)
    rw [hsp] at h1
    refine ⟨q, _, _, rfl, SqL.lst h1, ?_⟩
    (intro r nr; generalize e_r : upd H1 r _ = H2; have s2 : Same H1 H2 := fun b x hb => (congrFun e_r b).symm.trans (same_new nr b x hb); have h2 := (congrFun e_r r).symm.trans upd_same; clear e_r)
    have s02 := s1.trans s2
    refine ⟨_, _, rfl, _, _, rfl, rfl, ?_⟩
    refine ⟨_, rfl, _, rfl, rfl, _, rfl, ?_⟩
    refine ifN (fun hd => k2 (fun e => hd (congrArg V.str e)) H2 s02) (fun hd => ?_)
    have k1 := k1 (V.str.inj hd)
    clear k2 hd
    refine ⟨_, rfl, r, rfl, ⟨_, SqL.lst h2⟩, ?_⟩
    intro D nD
    have hwl : ws.length ≤ 100001 := by
      have := PyProof.Rows.split_le line " "
      rw [hsp] at this
      have : ws.length + 1 ≤ line.length + 2 := this
      omega
    refine lc_list (K := K) (xs := ws.map V.str) (fun i H' => Same H2 H' ∧ H' D = some (.lst ((ws.take i).map fun x => readV (readN x)))) ⟨same_new nD, upd_same⟩ (fun i H' _ ⟨sm, _⟩ => SqL.lst (sm _ _ h2)) ?_ ?_
    · rintro i y H' hy ⟨sm, eD⟩
      obtain ⟨x, hx, rfl⟩ : ∃ b, ws[i]? = some b ∧ y = V.str b := by
        rw [List.getElem?_map] at hy
        obtain ⟨z, hz, e⟩ := Option.map_eq_some_iff.mp hy
        exact ⟨z, hz, e.symm⟩
      refine ⟨rfl, ?_⟩
      refine ⟨_, rfl, x, rfl, _, eD, smallLt (by rw [List.length_map, List.length_take]; omega), same_mut sm nD, ?_⟩
      rw [upd_same, List.take_add_one, hx, List.map_append]
      rfl
    rintro H3 ⟨s3, eD⟩
    rw [List.take_of_length_le (by rw [List.length_map]; exact Nat.le_refl _)] at eD
    refine ⟨D, _, rfl, .inl ⟨SqL.lst eD, ?_⟩⟩
    (intro t nt; generalize e_t : upd H3 t _ = H4; have s4 : Same H3 H4 := fun b x hb => (congrFun e_t b).symm.trans (same_new nt b x hb); have h4 := (congrFun e_t t).symm.trans upd_same; clear e_t)
    exact k1 t H4 (s02.trans (s3.trans s4)) ((s02.trans s3).free nt) h4
end
end LM

set_option Elab.async false
set_option linter.all false
set_option maxRecDepth 100000
set_option maxHeartbeats 4000000
set_option pp.maxSteps 600
set_option pp.deepTerms false
namespace LM
open PySem PySem.Spec PyProof.Rows L2 RZ
local macro_rules | `(tactic| walk_at "hp") => `(tactic| first | assumption | exact upd_same | (rw [upd_ne (by assumption)]; assumption) | (rw [upd_ne (Ne.symm (by assumption))]; assumption) | (rw [upd_ne (by assumption)]; exact upd_same) | (rw [upd_ne (Ne.symm (by assumption))]; exact upd_same))
local macro_rules | `(tactic| walk_at "sq") => `(tactic| first | assumption | exact Or.inl (Or.inl (by assumption)) | exact Or.inl (Or.inl upd_same) | exact Or.inl (Or.inl (by walk_at "hp")))
local macro_rules | `(tactic| walk_at "ixl") => `(tactic| refine ⟨_, _, _, _, rfl, rfl, (by walk_at "sq"), (by rfl), ?_⟩)
local macro_rules | `(tactic| walk_at "setl") => `(tactic| refine ⟨_, _, _, _, rfl, rfl, (by walk_at "hp"), (by rfl), ?_⟩)
local macro_rules | `(tactic| walk_at "side") => `(tactic| refine idP ?_; first | omega | (show (0 : Int) < _; omega) | (show (0 : Int) < _ ∧ _ < _; omega) | (refine Or.inr ?_; show (-(2 ^ 64) : Int) < _ ∧ _ < _; omega) | (refine Or.inl ?_; show (-(2 ^ 64) : Int) < _ ∧ _ < _; omega) | exact divW (by omega) (by omega) _ | (refine ⟨by decide, by decide, ?_⟩; decide))
local macro_rules | `(tactic| walk_at "go1") => `(tactic| first
  | refine ⟨_, rfl, ?_⟩
  | refine ⟨_, _, rfl, rfl, (by walk_at "side"), ?_⟩
  | refine ⟨_, _, rfl, (by walk_at "side"), ?_⟩
  | refine ⟨_, _, rfl, rfl, ?_⟩
  | refine Or.inl ⟨_, rfl, ?_⟩
  | refine ⟨_, _, rfl, Or.inl (by walk_at "sq"), ?_⟩
  | walk_at "ixl"
  | walk_at "setl"
  | refine ⟨_, _, rfl, (by walk_at "sq"), rfl, ?_⟩
  | refine ⟨_, _, rfl, (by walk_at "sq"), ?_⟩
  | refine ⟨_, _, rfl, ?_⟩
  | refine ⟨rfl, ?_⟩
  | refine ⟨small (Nat.le_of_ble_eq_true rfl), ?_⟩)
local macro_rules | `(tactic| walk_at "go") => `(tactic| repeat walk_at "go1")

abbrev sis_label : Stmt := topS 32
theorem scis_label : FnScope ["bases", "value", "bounded", "base", "number"] ["bases", "value"] (defScope sis_label) := ⟨rfl, rfl, rfl, by decide +kernel, rfl, by decide +kernel, by decide +kernel⟩
abbrev splace_of : Stmt := topS 33
theorem scplace_of : FnScope ["bases", "label", "place", "base", "number"] ["bases", "label"] (defScope splace_of) := ⟨rfl, rfl, rfl, by decide +kernel, rfl, by decide +kernel, by decide +kernel⟩
abbrev swritten_number : Stmt := topS 27
theorem scwritten_number : FnScope ["number", "parts", "rest"] ["number"] (defScope swritten_number) := ⟨rfl, rfl, rfl, by decide +kernel, rfl, by decide +kernel, by decide +kernel⟩
abbrev swritten_label : Stmt := topS 35
theorem scwritten_label : FnScope ["bases", "label", "words", "base", "number"] ["bases", "label"] (defScope swritten_label) := ⟨rfl, rfl, rfl, by decide +kernel, rfl, by decide +kernel, by decide +kernel⟩
def spIsLabel (K : PySem.W.Frag) : Sp := fun vs H Q _ => ∃ (a l : Addr) (bs ds : List Int), vs = [.ref a, .ref l] ∧ SqT K H a (bs.map V.int) ∧ SqT K H l (ds.map V.int) ∧ 1 ≤ bs.length ∧ bs.length ≤ 3 ∧ ∀ H', Same H H' → Q (.bl (labelB bs ds)) H'
def spPlaceOf (K : PySem.W.Frag) : Sp := fun vs H Q _ => ∃ (a l : Addr) (bs ds : List Int), vs = [.ref a, .ref l] ∧ SqT K H a (bs.map V.int) ∧ SqT K H l (ds.map V.int) ∧ ds.length = bs.length + 1 ∧ bs.length ≤ 3 ∧ (∀ x ∈ bs, 2 ≤ x ∧ x ≤ 60) ∧ ∀ H', Same H H' → Q (.int (placeOf bs ds)) H'
def spNumText : Sp := fun vs H Q _ => ∃ (n : Int), vs = [.int n] ∧ 0 ≤ n ∧ n < 10 ^ 60 ∧ ∀ H', Same H H' → Q (.str (numS n)) H'
def spLabelText (K : PySem.W.Frag) : Sp := fun vs H Q _ => ∃ (a l : Addr) (bs ds : List Int), vs = [.ref a, .ref l] ∧ SqT K H a (bs.map V.int) ∧ SqT K H l (ds.map V.int) ∧ labelB bs ds = true ∧ bs.length ≤ 3 ∧ (∀ x ∈ bs, 2 ≤ x ∧ x ≤ 60) ∧ ds.headD 0 < 10 ^ 60 ∧ ∀ H', Same H H' → Q (.str (labelS bs ds)) H'
/-- what is read: the label, or None -/
def readO (o : Option (List Int)) (H : Hp) (Q : V → Hp → Prop) : Prop := match o with
  | none => ∀ H', Same H H' → Q .non H'
  | some ds => ∀ (t : Addr) H', Same H H' → H t = none → H' t = some (.tup (ds.map V.int)) → Q (.ref t) H'
def spReadLabel (K : PySem.W.Frag) : Sp := fun vs H Q _ => ∃ (a : Addr) (bs : List Int) (x : Str), vs = [.ref a, .str x] ∧ SqT K H a (bs.map V.int) ∧ 1 ≤ bs.length ∧ bs.length ≤ 3 ∧ (∀ x ∈ bs, 2 ≤ x ∧ x ≤ 60) ∧ x.length ≤ 90 ∧ (∀ w ∈ (Txt.split x ":").head?, w.length ≤ 59) ∧ readO (readL bs x) H Q
theorem cut_tail (xs : List V) : cutV xs (some 1) none = xs.drop 1 := cut_from xs 1
theorem not_whole {n : Nat} (h : 1 ≤ n) : ¬ (HT.sIx n 0 (some 1) = 0 ∧ HT.sIx n n none = n) := fun z => by
  have e : HT.sIx n 0 (some 1) = min 1 n := HT.sIx_nat n 0 1
  rw [e] at z
  omega
theorem zip_get {bs ds : List Int} {i : Nat} {x1 x2 : V} (hi : i < (bs.zip ds).length) (g1 : (bs.map V.int)[i]? = some x1) (g2 : (ds.map V.int)[i]? = some x2) : ∃ b d, (bs.zip ds)[i]? = some (b, d) ∧ x1 = .int b ∧ x2 = .int d := by
  rw [List.getElem?_map] at g1 g2
  obtain ⟨b, hb, rfl⟩ := Option.map_eq_some_iff.mp g1
  obtain ⟨d, hd, rfl⟩ := Option.map_eq_some_iff.mp g2
  exact ⟨b, d, List.getElem?_zip_eq_some.mpr ⟨hb, hd⟩, rfl, rfl⟩
theorem pad_all : ∀ k : _root_.Fin 61, PadOk (k.val : Int) = true := by decide +kernel
theorem pad_ok {k : Nat} (h : k ≤ 60) : PadOk (k : Int) = true := pad_all ⟨k, by omega⟩
theorem digits_lt : ∀ cs : List Nat, NumText.AllDigits cs → NumText.digitsVal cs < 10 ^ cs.length := by
  intro cs
  induction cs using snoc_ind with
  | h0 => exact fun _ => (by decide : 0 < 1)
  | h1 l c ih =>
    intro h
    have h1 := ih fun d hd => h d (List.mem_append_left _ hd)
    have h2 := h c (by simp)
    rw [NumText.digitsVal_snoc, List.length_append]
    show _ < 10 ^ (l.length + 1)
    rw [Nat.pow_succ]
    omega
theorem big_log {n : Int} (h0 : 0 ≤ n) (h1 : n < 10 ^ 60) : n.natAbs.log2 < 1920 := by
  have hn : n.natAbs < 10 ^ 60 := by
    have : ((10 : Int) ^ 60) = ((10 ^ 60 : Nat) : Int) := by decide
    omega
  rcases Nat.eq_zero_or_pos n.natAbs with z | z
  · rw [z]
    decide
  · exact Nat.lt_trans ((Nat.log2_lt (by omega)).mpr (Nat.lt_trans hn (show 10 ^ 60 < 2 ^ 200 by decide))) (by decide)
section
variable {P : Program} {w : World} {K : PySem.W.Frag} {mg : Str → Option Value} {base : Heap}
theorem ok_islabel {f : Addr} {fd : FuncData} (F : Fun K "is_label" "is_label" sis_label f fd) (N : Names mg) (Dis_integer_within : DefK P w K mg base "is_integer_within" ["value", "low", "high"] 2 spWithin) (Dis_number : DefK P w K mg base "is_number" ["value"] 2 spIsNum) : FnOk P w K mg base CX0 3 f fd ["bases", "value"] (spIsLabel K) := by
  have sc := scis_label
  refine F.ok sc (fun vs H Q E h => ?_) (fun cdv A outer s H vs Q E hr h => ?_)
  · obtain ⟨a, l, bs, ds, rfl, _⟩ := h
    rfl
  · obtain ⟨a, l, bs, ds, rfl, hb, hd, b1, b3, k⟩ := h
    refine ⟨_, (pss_cons (ps_if (PW.pt (pw_or (pt_not (pt_val (pe_callB call_isi (by rfl) N.isinstance (by decide +kernel) (pa_cons (pv 1) (pa_cons (pe_ty "tuple" rfl N.tuple (by decide +kernel)) pa_nil))))) (pw_or1 (pt_cmpR op_ne (pe_callB call_len_seq (by rfl) N.len (by decide +kernel) (pa_cons (pv 1) pa_nil)) (pe_op op_add (pe_callB call_len_seq (by rfl) N.len (by decide +kernel) (pa_cons (pv 0) pa_nil)) pe_int) (nomark _))))) (pss_one (ps_ret pe_bl)) pss_nil)
      (pss_cons (ps_setLc (i := 2) (own := [("base", 3), ("number", 4)]) (g := gTup K 2 (gCons (gName 3) (gCons (gName 4) gNil))) rfl sc.nd rfl rfl (sw_true rfl rfl rfl (by decide +kernel)) (pi_zipA rfl N.zip (pa_cons (pv 0) (pa_cons (pe_slice sl_tup (pv 1) (po_some pe_int) po_none) pa_nil))) (blkOk_by (own := [("base", 3), ("number", 4)]) (N := ["bases", "value", "bounded", "base", "number"]) (sc := defScope (topS 32)) (by decide +kernel)) (fun _ _ _ _ _ => (pg_tup rfl (pgs_cons (pg_name (i := 3) sc.nd rfl (Or.inl rfl) (Or.inr rfl)) (pgs_cons (pg_name (i := 4) sc.nd rfl (Or.inl rfl) (Or.inr rfl)) pgs_nil)))) (fun _ _ _ _ _ => pts_nil) (fun _ _ _ _ _ => (pe_d Dis_integer_within (hr.mono (by decide)) rfl (pa_cons (pv 4) (pa_cons pe_int (pa_cons (pe_op op_sub (pv 3) pe_int) pa_nil))))))
      (pss_one (ps_ret (pe_and (pe_d Dis_number (hr.mono (by decide)) rfl (pa_cons (pe_ix ix_tup (pv 1) pe_int (fun _ _ => rfl)) pa_nil)) (pe_one (pe_callB (cr_all rfl) (by rfl) N.all (by decide +kernel) (pa_cons (pv 2) pa_nil)))))))), ?_⟩
    refine ⟨_, rfl, _, _, _, _, _, rfl, .ty _, tyT hd, kit_ty (r := true) (by decide +kernel), _, rfl, ?_⟩
    refine iteF ?_
    refine ⟨_, rfl, l, _, rfl, .inr hd, _, rfl, a, _, rfl, .inr hb, _, _, rfl, rfl, rfl, _, rfl, ?_⟩
    rw [List.length_map, List.length_map]
    by_cases hlen : ds.length = bs.length + 1
    rotate_left
    · refine ifN (fun hd' => ?_) (fun hd' => absurd (V.int.inj hd') (by omega))
      have e : labelB bs ds = false := by
        unfold labelB
        rw [decide_eq_false hlen]
        rfl
      rw [e] at k
      exact k H (Same.refl H)
    refine ifN (fun hd' => absurd (congrArg V.int (by omega)) hd') (fun _ => ?_)
    have hx : 0 < ds.length := by omega
    have h0 : ds.headD 0 = ds[0] := by cases ds with | nil => simp at hx | cons => rfl
    refine ⟨_, rfl, _, rfl, _, rfl, l, _, rfl, hd, not_whole (by rw [List.length_map]; exact hx), ?_⟩
    (intro t nt; generalize e_t : upd H t _ = H1; have s1 : Same H H1 := fun b x hb => (congrFun e_t b).symm.trans (same_new nt b x hb); have h1 := (congrFun e_t t).symm.trans upd_same; clear e_t)
    have h1' : H1 t = some (.tup (ds.tail.map V.int)) := by rw [h1, cut_tail, List.drop_one, List.map_tail]
    refine ⟨a, t, _, _, rfl, .inr ⟨Same.seqT s1 hb, SqT.tup h1', ?_⟩⟩
    intro D nD
    refine lc_it (walk_zipT (n := (bs.zip ds.tail).length) (by rw [List.length_zip, List.length_map, List.length_map])) (fun i H' => Same H1 H' ∧ H' D = some (.lst ((((bs.zip ds.tail).take i).map fun p => decide (0 ≤ p.2) && decide (p.2 ≤ p.1 - 1)).map V.bl))) ⟨same_new nD, upd_same⟩ (fun i H' _ ⟨sm, _⟩ => ⟨Same.seqT (s1.trans sm) hb, SqT.tup (sm _ _ h1')⟩) ?_ ?_
    · rintro i x H2 H3 hi ⟨sm, eD⟩ ⟨T, x1, x2, rfl, nT, rfl, g1, g2⟩
      obtain ⟨b, d, hz, rfl, rfl⟩ := zip_get hi g1 g2
      have zl : (bs.zip ds.tail).length ≤ 3 := by rw [List.length_zip]; omega
      refine ⟨T, _, rfl, SqT.tup upd_same, rfl, _, _, rfl, _, _, rfl, rfl, rfl, ?_⟩
      have eD2 := same_new nT (o := HO.tup [V.int b, V.int d]) _ _ eD
      refine ⟨_, rfl, _, rfl, _, _, rfl, rfl, d, 0, b - 1, rfl, _, eD2, smallLt (by rw [List.length_map, List.length_map, List.length_take]; omega), same_mut (Same.of_new sm nT) nD, ?_⟩
      rw [upd_same, List.take_add_one, hz, List.map_append, List.map_append]
      rfl
    rintro H2 ⟨sm, eD⟩
    rw [List.take_of_length_le (Nat.le_refl _)] at eD
    have s02 := s1.trans sm
    refine ⟨_, rfl, l, _, _, _, rfl, rfl, Same.seqT s02 hd, atI_nat (map_get hx), ds[0], rfl, _, rfl, ?_⟩
    rw [← h0]
    have kk := k H2 s02
    have e : labelB bs ds = (decide (0 ≤ ds.headD 0) && (boundL bs ds).all id) := by
      unfold labelB
      rw [decide_eq_true hlen, Bool.true_and]
    rw [e] at kk
    refine ifB (fun h1 => ?_) (fun h1 => ?_)
    · rw [h1, Bool.true_and] at kk
      exact ⟨_, rfl, D, _, rfl, SqL.lst eD, kk⟩
    · rw [h1, Bool.false_and] at kk
      exact kk
theorem ok_placeof {f : Addr} {fd : FuncData} (F : Fun K "place_of" "place_of" splace_of f fd) (N : Names mg) : FnOk P w K mg base CX0 1 f fd ["bases", "label"] (spPlaceOf K) := by
  have sc := scplace_of
  refine F.ok sc (fun vs H Q E h => ?_) (fun cdv A outer s H vs Q E hr h => ?_)
  · obtain ⟨a, l, bs, ds, rfl, _⟩ := h
    rfl
  · obtain ⟨a, l, bs, ds, rfl, hb, hd, hl, b3, bb, k⟩ := h
    refine ⟨_, (pss_cons (ps_set (i := 2) sc.nd rfl (Or.inl rfl) (pe_ix ix_tup (pv 1) pe_int (fun _ _ => rfl)))
      (pss_cons (ps_for PassesOwn.never rfl (pi_zipA rfl N.zip (pa_cons (pv 0) (pa_cons (pe_slice sl_tup (pv 1) (po_some pe_int) po_none) pa_nil))) (pg_tup rfl (pgs_cons (pg_name (i := 3) sc.nd rfl (Or.inl rfl)) (pgs_cons (pg_name (i := 4) sc.nd rfl (Or.inl rfl)) pgs_nil))) (pss_one (ps_set (i := 2) sc.nd rfl (Or.inl rfl) (pe_op op_add (pe_op op_mul (pv 2) (pv 3)) (pv 4)))))
      (pss_one (ps_ret (pv 2))))), ?_⟩
    have hx : 0 < ds.length := by omega
    have h0 : ds.headD 0 = ds[0] := by cases ds with | nil => simp at hx | cons => rfl
    refine ⟨_, rfl, l, _, _, _, rfl, rfl, hd, atI_nat (map_get hx), ?_⟩
    rw [← h0]
    refine ⟨_, rfl, _, rfl, _, rfl, l, _, rfl, hd, not_whole (by rw [List.length_map]; exact hx), ?_⟩
    (intro t nt; generalize e_t : upd H t _ = H1; have s1 : Same H H1 := fun b x hb => (congrFun e_t b).symm.trans (same_new nt b x hb); have h1 := (congrFun e_t t).symm.trans upd_same; clear e_t)
    have h1' : H1 t = some (.tup (ds.tail.map V.int)) := by rw [h1, cut_tail, List.drop_one, List.map_tail]
    refine ⟨a, t, _, _, rfl, .inr ⟨Same.seqT s1 hb, SqT.tup h1', ?_⟩⟩
    refine for_it (walk_zipT (n := (bs.zip ds.tail).length) (by rw [List.length_zip, List.length_map, List.length_map])) (fun i σ H' => ∃ v3 v4 : Option V, σ = [some (.ref a), some (.ref l), some (.int (((bs.zip ds.tail).take i).foldl (fun a p => a * p.1 + p.2) (ds.headD 0))), v3, v4] ∧ Same H1 H') ⟨_, _, rfl, Same.refl H1⟩ (fun i σ H' _ ⟨_, _, _, sm⟩ => ⟨Same.seqT (s1.trans sm) hb, SqT.tup (sm _ _ h1')⟩) ?_ ?_
    · rintro i x σ H2 H3 hi ⟨v3, v4, rfl, sm⟩ ⟨T, x1, x2, rfl, nT, rfl, g1, g2⟩
      obtain ⟨b, d, hz, rfl, rfl⟩ := zip_get hi g1 g2
      have hbb := bb b (List.of_mem_zip (List.mem_of_getElem? hz)).1
      refine ⟨T, _, rfl, SqT.tup upd_same, rfl, _, _, rfl, _, _, rfl, rfl, ?_⟩
      refine ⟨_, rfl, _, rfl, _, _, rfl, rfl, .inr ⟨by omega, by omega⟩, _, rfl, _, _, rfl, rfl, ?_⟩
      exact ⟨_, _, (by rw [take_fold _ _ _ i _ hz]; rfl), Same.of_new sm nT⟩
    · rintro σ H' ⟨v3, v4, rfl, sm⟩
      rw [List.take_of_length_le (Nat.le_refl _)]
      exact ⟨_, rfl, k _ (s1.trans sm)⟩
theorem ok_numtext {f : Addr} {fd : FuncData} (F : Fun K "written_number" "written_number" swritten_number f fd) (N : Names mg) : FnOk P w K mg base CX0 1 f fd ["number"] spNumText := by
  have sc := scwritten_number
  refine F.ok sc (fun vs H Q E h => ?_) (fun cdv A outer s H vs Q E hr h => ?_)
  · obtain ⟨n, rfl, _⟩ := h
    rfl
  · obtain ⟨n, rfl, n0, n1, k⟩ := h
    refine ⟨_, (pss_cons (ps_set (i := 1) sc.nd rfl (Or.inl rfl) (pe_lst pa_nil))
      (pss_cons (ps_while PassesOwn.never (pt_cmpR op_ge (pv 0) (pe_op op_pow pe_int pe_int) (nomark _)) (pss_cons (ps_asg (pe_callB call_divmodW (by rfl) N.divmod (by decide +kernel) (pa_cons (pv 0) (pa_cons (pe_op op_pow pe_int pe_int) pa_nil))) (pg_tup rfl (pgs_cons (pg_name (i := 0) sc.nd rfl (Or.inl rfl)) (pgs_cons (pg_name (i := 2) sc.nd rfl (Or.inl rfl)) pgs_nil))))
      (pss_one (ps_expr (pe_bm PySem.F.plainAttrs_list PySem.F.slot_list_append PySem.F.type_list_append mt_append (pv 1) (pa_cons (pe_bm PySem.F.plainAttrs_str PySem.F.slot_str_zfill PySem.F.type_str_zfill mt_zfill (pe_callTy (T := "str") call_str_int (by rfl) N.str (by decide +kernel) (pa_cons (pv 2) pa_nil)) (pa_cons pe_int pa_nil)) pa_nil))))))
      (pss_cons (ps_expr (pe_bm PySem.F.plainAttrs_list PySem.F.slot_list_append PySem.F.type_list_append mt_append (pv 1) (pa_cons (pe_callTy (T := "str") call_str_int (by rfl) N.str (by decide +kernel) (pa_cons (pv 0) pa_nil)) pa_nil)))
      (pss_one (ps_ret (pe_joinRev rfl pe_str rfl N.reversed (pv 1))))))), ?_⟩
    refine ⟨Nat.le_of_ble_eq_true rfl, ?_⟩
    (intro p np; generalize e_p : upd H p _ = H1; have s1 : Same H H1 := fun b x hb => (congrFun e_p b).symm.trans (same_new np b x hb); have h1 := (congrFun e_p p).symm.trans upd_same; clear e_p)
    refine while_by (fun σ H' => ∃ v2 : Option V, σ = [some (.int n), some (.ref p), v2] ∧ H' = H1) (fun _ _ => 0) ⟨_, rfl, rfl⟩ ?_ ?_
    · rintro σ H' ⟨v2, rfl, rfl⟩
      refine ⟨_, rfl, _, _, rfl, rfl, ⟨by decide, by decide, by decide⟩, _, _, rfl, rfl, _, rfl, ?_⟩
      refine ifD (fun hd => absurd hd (by show ¬ (10 : Int) ^ 60 ≤ n; omega)) (fun hd => ?_)
      refine ⟨_, rfl, .inl ⟨rfl, _, SqL.lst h1⟩, _, rfl, n, rfl, big_log n0 n1, p, _, _, rfl, rfl, h1, smallLt (by decide), ?_⟩
      generalize e2 : upd H' p _ = H2
      have h2 : H2 p = some (.lst ([numS n].map V.str)) := (congrFun e2 p).symm.trans upd_same
      have s2 : Same H H2 := fun b o e => by rw [← e2, upd_ne (ne_of_none e np)]; exact s1 _ _ e
      refine ⟨⟨_, rfl⟩, _, rfl, _, p, [numS n], rfl, rfl, SqL.lst h2, ?_, ?_⟩
      · have := num_len n0 n1
        show ((numS n).length + 0) + 1 * 0 ≤ 16777216
        omega
      · exact k H2 s2
    · intro σ H' Q1 Q2 hm h
      obtain ⟨v, hv, i, j, e1, e2, c, i2, j2, e3, e4, b, e5, q⟩ := h
      exact ⟨v, hv, i, j, e1, e2, c, i2, j2, e3, e4, b, e5, hm _ _ q⟩
theorem ok_labeltext {f : Addr} {fd : FuncData} (F : Fun K "written_label" "written_label" swritten_label f fd) (N : Names mg) (Dwritten_number : DefK P w K mg base "written_number" ["number"] 1 spNumText) : FnOk P w K mg base CX0 2 f fd ["bases", "label"] (spLabelText K) := by
  have sc := scwritten_label
  refine F.ok sc (fun vs H Q E h => ?_) (fun cdv A outer s H vs Q E hr h => ?_)
  · obtain ⟨a, l, bs, ds, rfl, _⟩ := h
    rfl
  · obtain ⟨a, l, bs, ds, rfl, hb, hd, hl, b3, bb, h60, k⟩ := h
    refine ⟨_, (pss_cons (ps_set (i := 2) sc.nd rfl (Or.inl rfl) (pe_lst (pa_cons (pe_d Dwritten_number (hr.mono (by decide)) rfl (pa_cons (pe_ix ix_tup (pv 1) pe_int (fun _ _ => rfl)) pa_nil)) pa_nil)))
      (pss_cons (ps_for PassesOwn.never rfl (pi_zipA rfl N.zip (pa_cons (pv 0) (pa_cons (pe_slice sl_tup (pv 1) (po_some pe_int) po_none) pa_nil))) (pg_tup rfl (pgs_cons (pg_name (i := 3) sc.nd rfl (Or.inl rfl)) (pgs_cons (pg_name (i := 4) sc.nd rfl (Or.inl rfl)) pgs_nil))) (pss_one (ps_expr (pe_bm PySem.F.plainAttrs_list PySem.F.slot_list_append PySem.F.type_list_append mt_append (pv 2) (pa_cons (pe_bm PySem.F.plainAttrs_str PySem.F.slot_str_zfill PySem.F.type_str_zfill mt_zfill (pe_callTy (T := "str") call_str_int (by rfl) N.str (by decide +kernel) (pa_cons (pv 4) pa_nil)) (pa_cons (pe_callB call_len_str (by rfl) N.len (by decide +kernel) (pa_cons (pe_callTy (T := "str") call_str_int (by rfl) N.str (by decide +kernel) (pa_cons (pe_op op_sub (pv 3) pe_int) pa_nil)) pa_nil)) pa_nil)) pa_nil)))))
      (pss_one (ps_ret (pe_join pe_str (pv 2)))))), ?_⟩
    have hlen := labelB_len hl
    have hx : 0 < ds.length := by omega
    have h0 : ds.headD 0 = ds[0] := by cases ds with | nil => simp at hx | cons => rfl
    refine ⟨_, rfl, l, _, _, _, rfl, rfl, hd, atI_nat (map_get hx), ?_⟩
    rw [← h0]
    refine ⟨_, rfl, label_head hl, h60, fun H1 s1 => ?_⟩
    refine ⟨Nat.le_of_ble_eq_true rfl, ?_⟩
    (intro p np; generalize e_p : upd H1 p _ = H2; have s2 : Same H1 H2 := fun b x hb => (congrFun e_p b).symm.trans (same_new np b x hb); have h2 := (congrFun e_p p).symm.trans upd_same; clear e_p)
    have s02 := s1.trans s2
    refine ⟨_, rfl, _, rfl, _, rfl, l, _, rfl, Same.seqT s02 hd, not_whole (by rw [List.length_map]; exact hx), ?_⟩
    (intro t nt; generalize e_t : upd H2 t _ = H3; have s3 : Same H2 H3 := fun b x hb => (congrFun e_t b).symm.trans (same_new nt b x hb); have h3 := (congrFun e_t t).symm.trans upd_same; clear e_t)
    have h3' : H3 t = some (.tup (ds.tail.map V.int)) := by rw [h3, cut_tail, List.drop_one, List.map_tail]
    have s03 := s02.trans s3
    have hzb := zip_bound hl
    have hzl := zip_left (ds := ds.tail) (m := 60) fun x hx => (bb x hx).2
    have ntp : t ≠ p := fun z => by rw [z, s3 _ _ h2] at h3; cases h3
    refine ⟨a, t, _, _, rfl, .inr ⟨Same.seqT s03 hb, SqT.tup h3', ?_⟩⟩
    refine for_it (walk_zipT (n := (bs.zip ds.tail).length) (by rw [List.length_zip, List.length_map, List.length_map])) (fun i σ H' => ∃ v3 v4 : Option V, σ = [some (.ref a), some (.ref l), some (.ref p), v3, v4] ∧ Same H1 H' ∧ H' t = some (.tup (ds.tail.map V.int)) ∧ H' p = some (.lst ((numS (ds.headD 0) :: ((bs.zip ds.tail).take i).map fun p => padS p.1 p.2).map V.str)))
      ⟨_, _, rfl, s2.trans s3, h3', s3 _ _ h2⟩ (fun i σ H' _ ⟨_, _, _, sm, ht, _⟩ => ⟨Same.seqT (s1.trans sm) hb, SqT.tup ht⟩) ?_ ?_
    · rintro i x σ H4 H5 hi ⟨v3, v4, rfl, sm, ht, hp⟩ ⟨T, x1, x2, rfl, nT, rfl, g1, g2⟩
      obtain ⟨b, d, hz, rfl, rfl⟩ := zip_get hi g1 g2
      obtain ⟨q0, q1⟩ := hzb _ (List.mem_of_getElem? hz)
      have q2 := hzl _ (List.mem_of_getElem? hz)
      dsimp only at q0 q1 q2
      obtain ⟨_, _, _, q5, _⟩ := pad_of q0 q1 q2
      refine ⟨T, _, rfl, SqT.tup upd_same, rfl, _, _, rfl, _, _, rfl, rfl, ?_⟩
      generalize e5 : upd H4 T _ = H5
      have s5 : Same H4 H5 := fun b o e => by rw [← e5, upd_ne (ne_of_none e nT)]; exact e
      have hp5 := s5 _ _ hp
      have zl : (bs.zip ds.tail).length ≤ 3 := by rw [List.length_zip]; omega
      have nl := num_len (m := b - 1) (by omega) (Int.lt_of_le_of_lt (show b - 1 ≤ 60 by omega) (by decide))
      refine ⟨_, rfl, .inl ⟨rfl, _, SqL.lst hp5⟩, _, rfl, d, rfl, big_log q0 (Int.lt_of_le_of_lt (show d ≤ 60 by omega) (by decide)), rfl, _, rfl, _, _, rfl, rfl, b - 1, rfl, big_log (show 0 ≤ b - 1 by omega) (Int.lt_of_le_of_lt (show b - 1 ≤ 60 by omega) (by decide)), numS (b - 1), rfl, small (by omega), _, _, rfl, rfl, pad_ok nl, p, _, _, rfl, rfl, hp5, smallLt (by rw [List.length_map, List.length_cons, List.length_map, List.length_take]; omega), ?_⟩
      refine ⟨_, _, rfl, same_mut (sm.trans s5) np, ?_, ?_⟩
      · rw [upd_ne ntp]
        exact s5 _ _ ht
      · rw [upd_same, List.take_add_one, hz, List.map_append, ← List.cons_append, List.map_append]
        rfl
    · rintro σ H' ⟨v3, v4, rfl, sm, ht, hp⟩
      rw [List.take_of_length_le (Nat.le_refl _)] at hp
      refine ⟨⟨_, rfl⟩, _, rfl, _, p, wordsP bs ds, rfl, rfl, .inl (SqL.lst hp), ?_, k H' (s1.trans sm)⟩
      refine Nat.le_trans (join_le _ _ 60 fun y hy => ?_) ?_
      · rcases List.mem_cons.mp hy with rfl | hy
        · exact num_len (label_head hl) h60
        · obtain ⟨z, hz, rfl⟩ := List.mem_map.mp hy
          obtain ⟨a1, a2⟩ := hzb z hz
          have := (pad_of a1 a2 (hzl z hz)).2.2.2.1
          omega
      · have e : ((":" : Str)).length = 1 := by decide
        rw [e]
        unfold wordsP
        rw [List.length_cons, List.length_map, List.length_zip]
        omega
end
end LM

set_option Elab.async false
set_option linter.all false
set_option maxRecDepth 100000
set_option maxHeartbeats 4000000
set_option pp.maxSteps 600
set_option pp.deepTerms false
namespace LM
open PySem PySem.Spec PyProof.Rows L2 RZ
local macro_rules | `(tactic| walk_at "hp") => `(tactic| first | assumption | exact upd_same | (rw [upd_ne (by assumption)]; assumption) | (rw [upd_ne (Ne.symm (by assumption))]; assumption) | (rw [upd_ne (by assumption)]; exact upd_same) | (rw [upd_ne (Ne.symm (by assumption))]; exact upd_same))
local macro_rules | `(tactic| walk_at "sq") => `(tactic| first | assumption | exact Or.inl (Or.inl (by assumption)) | exact Or.inl (Or.inl upd_same) | exact Or.inl (Or.inl (by walk_at "hp")))
local macro_rules | `(tactic| walk_at "ixl") => `(tactic| refine ⟨_, _, _, _, rfl, rfl, (by walk_at "sq"), (by rfl), ?_⟩)
local macro_rules | `(tactic| walk_at "setl") => `(tactic| refine ⟨_, _, _, _, rfl, rfl, (by walk_at "hp"), (by rfl), ?_⟩)
local macro_rules | `(tactic| walk_at "side") => `(tactic| refine idP ?_; first | omega | (show (0 : Int) < _; omega) | (show (0 : Int) < _ ∧ _ < _; omega) | (refine Or.inr ?_; show (-(2 ^ 64) : Int) < _ ∧ _ < _; omega) | (refine Or.inl ?_; show (-(2 ^ 64) : Int) < _ ∧ _ < _; omega) | exact divW (by omega) (by omega) _ | (refine ⟨by decide, by decide, ?_⟩; decide))
local macro_rules | `(tactic| walk_at "go1") => `(tactic| first
  | refine ⟨_, rfl, ?_⟩
  | refine ⟨_, _, rfl, rfl, (by walk_at "side"), ?_⟩
  | refine ⟨_, _, rfl, (by walk_at "side"), ?_⟩
  | refine ⟨_, _, rfl, rfl, ?_⟩
  | refine Or.inl ⟨_, rfl, ?_⟩
  | refine ⟨_, _, rfl, Or.inl (by walk_at "sq"), ?_⟩
  | walk_at "ixl"
  | walk_at "setl"
  | refine ⟨_, _, rfl, (by walk_at "sq"), rfl, ?_⟩
  | refine ⟨_, _, rfl, (by walk_at "sq"), ?_⟩
  | refine ⟨_, _, rfl, ?_⟩
  | refine ⟨rfl, ?_⟩
  | refine ⟨small (Nat.le_of_ble_eq_true rfl), ?_⟩)
local macro_rules | `(tactic| walk_at "go") => `(tactic| repeat walk_at "go1")

abbrev sHouse_frame : Stmt := inClass (topS 57) 8
theorem scHouse_frame : FnScope ["self", "label"] ["self", "label"] (defScope sHouse_frame) := ⟨rfl, rfl, rfl, by decide +kernel, rfl, by decide +kernel, by decide +kernel⟩
abbrev sHouse_written : Stmt := inClass (topS 57) 7
theorem scHouse_written : FnScope ["self", "frame"] ["self", "frame"] (defScope sHouse_written) := ⟨rfl, rfl, rfl, by decide +kernel, rfl, by decide +kernel, by decide +kernel⟩
/-! ### labels and frames by counts -/
section
variable {gs : List Int} {rows : List R3} {cs : List Int} {B : Nat} {c : Nat → Nat} {L : Nat}
theorem Cnt.grp (k : Cnt gs rows cs B c L) (s : Nat) : s / B ≤ bel B c s := by
  have hB := k.hB
  have h : ∀ g, g ≤ sumC B c g := by
    intro g
    induction g with
    | zero => exact Nat.le_refl _
    | succ g ih =>
      have := k.lt g
      show g + 1 ≤ sumC B c g + (B - c g)
      omega
  rw [bel_at (by omega) (fun g => Nat.le_of_lt (k.lt g)) s]
  have := h (s / B)
  omega
/-- a borne place is that of its frame -/
theorem Cnt.back (k : Cnt gs rows cs B c L) {s : Nat} (hs : bor B c s = true) : placeP gs cs ((bel B c s : Nat) : Int) = (s : Int) := by
  obtain ⟨t, h1, h2, h3⟩ := k.place k.pos (bel B c s)
  rw [h1, bel_inj h2 hs h3]
/-- the place of a frame -/
theorem Cnt.at (k : Cnt gs rows cs B c L) (m : Nat) : ∃ s : Nat, placeP gs cs (m : Int) = (s : Int) ∧ bor B c s = true ∧ bel B c s = m ∧ s < (m + 1) * B := by
  obtain ⟨t, h1, h2, h3⟩ := k.place k.pos m
  refine ⟨t, h1, h2, h3, ?_⟩
  have hB := k.hB
  have h4 := k.grp t
  rw [h3] at h4
  have h5 := Nat.div_add_mod t B
  have h6 := Nat.mod_lt t (show 0 < B by omega)
  have h7 : B * (t / B) ≤ B * m := Nat.mul_le_mul_left _ h4
  rw [Nat.succ_mul, Nat.mul_comm]
  omega
end
theorem label_first (bs : List Int) (p : Int) (hb : ∀ x ∈ bs, 2 ≤ x) (hp : 0 ≤ p) : (labelP bs p).headD 0 ≤ p := by
  induction bs using snoc_ind generalizing p with
  | h0 => exact Int.le_refl _
  | h1 l x ih =>
    have hx := hb x (by simp)
    have h1 := ih (p / x) (fun y hy => hb y (List.mem_append_left _ hy)) (Int.ediv_nonneg hp (by omega))
    have h2 : p / x ≤ p := Int.ediv_le_self _ hp
    rw [labelP_snoc, headD_snoc (by rw [labelP_len]; omega)]
    omega
def spFrame (K : PySem.W.Frag) (C : Addr) : Sp := fun vs H Q _ => ∃ (old : Addr → Prop) (p b r : Addr) (bs : List Int) (rows : List R3) (cs : List Int) (B : Nat) (c : Nat → Nat) (L : Nat) (l : Addr) (s : Nat), vs = [.ref p, .ref l] ∧ HouseBy K C old H p b r bs rows cs B c L ∧ SqT K H l ((labelP bs (s : Int)).map V.int) ∧ ∀ H', Same H H' → Q (optV (bearO B c s)) H'
def spSpoken (K : PySem.W.Frag) (C : Addr) : Sp := fun vs H Q _ => ∃ (old : Addr → Prop) (p b r : Addr) (bs : List Int) (rows : List R3) (cs : List Int) (B : Nat) (c : Nat → Nat) (L : Nat) (s : Nat), vs = [.ref p, .str (labelS bs (labelP bs (s : Int)))] ∧ HouseBy K C old H p b r bs rows cs B c L ∧ s < 10 ^ 59 ∧ ∀ H', Same H H' → Q (optV (bearO B c s)) H'
def spWritten (K : PySem.W.Frag) (C : Addr) : Sp := fun vs H Q _ => ∃ (old : Addr → Prop) (p b r : Addr) (bs : List Int) (rows : List R3) (cs : List Int) (n : Int), vs = [.ref p, .int n] ∧ HouseAt K C old H p b r bs rows cs ∧ 0 ≤ n ∧ 0 ≤ placeP bs cs n ∧ placeP bs cs n < 10 ^ 59 ∧ ∀ H', Same H H' → Q (.str (labelS bs (labelP bs (placeP bs cs n)))) H'
theorem hf_nm (b r sk ah rd : Addr) (t : Str) : (hf b r sk ah rd t).lookup ("frame" : Str) = none ∧ (hf b r sk ah rd t).lookup ("spoken" : Str) = none ∧ (hf b r sk ah rd t).lookup ("written" : Str) = none := ⟨hf_no _ _ _ _ _ _ (by decide +kernel) (by decide +kernel) (by decide +kernel) (by decide +kernel) (by decide +kernel) (by decide +kernel), hf_no _ _ _ _ _ _ (by decide +kernel) (by decide +kernel) (by decide +kernel) (by decide +kernel) (by decide +kernel) (by decide +kernel), hf_no _ _ _ _ _ _ (by decide +kernel) (by decide +kernel) (by decide +kernel) (by decide +kernel) (by decide +kernel) (by decide +kernel)⟩
theorem label_len {bs ds : List Int} (h : labelB bs ds = true) (hb : ∀ x ∈ bs, 2 ≤ x ∧ x ≤ 60) (b3 : bs.length ≤ 3) (h59 : ds.headD 0 < 10 ^ 59) : (labelS bs ds).length ≤ 90 ∧ ∀ w ∈ (Txt.split (labelS bs ds) ":").head?, w.length ≤ 59 := by
  have hn : (numS (ds.headD 0)).length ≤ 59 := by
    obtain ⟨m, e⟩ := Int.eq_ofNat_of_zero_le (label_head h)
    rw [e] at h59 ⊢
    have hm : m < 10 ^ 59 := by
      have : ((10 : Int) ^ 59) = ((10 ^ 59 : Nat) : Int) := by decide
      omega
    have e2 : (numS (m : Int)).length = (Nat.toDigits 10 m).length := by
      show (numS (m : Int)).cps.size = _
      rw [← Array.length_toList]
      show (sg (numS (m : Int))).length = _
      rw [sg_num, List.length_map]
    rw [e2]
    exact toDigits_len_pow (by decide) (by decide) hm
  refine ⟨?_, ?_⟩
  · unfold labelS
    rw [join_glued]
    refine Nat.le_trans (StrLaws.join_length_le ":" (wordsP bs ds)) ?_
    have e : ((":" : Str)).length = 1 := by decide
    rw [e]
    unfold wordsP
    have h2 : ((bs.zip ds.tail).map fun p => padS p.1 p.2).length ≤ 3 := by rw [List.length_map, List.length_zip]; omega
    have h3 : ∀ y ∈ (bs.zip ds.tail).map fun p => padS p.1 p.2, y.length ≤ 2 := fun y hy => by
      obtain ⟨z, hz, rfl⟩ := List.mem_map.mp hy
      obtain ⟨a1, a2⟩ := zip_bound h z hz
      exact (pad_of a1 a2 (zip_left (ds := ds.tail) (m := 60) (fun x hx => (hb x hx).2) z hz)).2.2.2.1
    have h4 := join_le ":" _ 2 h3
    rw [List.map_cons, List.sum_cons, List.length_cons]
    rw [e] at h4
    omega
  · rw [label_split h fun x hx => (hb x hx).2]
    intro w hw
    obtain rfl := Option.some.inj (show some (numS (ds.headD 0)) = some w from hw)
    exact hn
section
variable {P : Program} {w : World} {K : PySem.W.Frag} {mg : Str → Option Value} {base : Heap}
theorem ok_frame {f C fB : Addr} {fd fdB : FuncData} (F : Fun K "frame" "House.frame" sHouse_frame f fd) (T : HouseTxt K mg C) (Dis_label : DefK P w K mg base "is_label" ["bases", "value"] 3 (spIsLabel K)) (Dplace_of : DefK P w K mg base "place_of" ["bases", "label"] 1 (spPlaceOf K))
    (mB : Meth K C "_frame_bearing" fB) (GB : FnOk P w K mg base CX0 2 fB fdB ["self", "place"] (spBear K C)) (bB : Binds K fdB ["self", "place"] []) : FnOk P w K mg base CX0 4 f fd ["self", "label"] (spFrame K C) := by
  have sc := scHouse_frame
  refine F.ok sc (fun vs H Q E h => ?_) (fun cdv A outer s H vs Q E hr h => ?_)
  · obtain ⟨old, p, b, r, bs, rows, cs, B, c, L, l, x, rfl, _⟩ := h
    rfl
  · obtain ⟨old, p, b, r, bs, rows, cs, B, c, L, l, x, rfl, ⟨hA, ct⟩, hl, k⟩ := h
    refine ⟨_, (pss_cons (ps_if (pt_not (pt_val (pe_d Dis_label (hr.mono (by decide)) rfl (pa_cons (pe_fld (pv 0) rfl) (pa_cons (pv 1) pa_nil))))) (pss_one ps_never) pss_nil)
      (pss_one (ps_ret (pe_meth (pv 0) T.cl mB GB (hr.mono (by decide)) bB .nil pass0 (pa_cons (pe_d Dplace_of (hr.mono (by decide)) rfl (pa_cons (pe_fld (pv 0) rfl) (pa_cons (pv 1) pa_nil))) pa_nil))))), ?_⟩
    obtain ⟨dx, sk, ah, rd, e1, e2, e3, e4, _, _⟩ := hA.ob
    have fr := hA.fair
    have hb2 : ∀ y ∈ bs, 2 ≤ y := fun y hy => (fr.bb y hy).1
    have hok := label_ok bs (x : Int) hb2 (by omega)
    refine ⟨_, rfl, p, C, dx, _, _, rfl, e1, T.cl, T.nB, hf_bases _ _ _ _ _ _, _, rfl, b, l, bs, _, rfl, hA.bt, hl, fr.b0, fr.b3, fun H1 s1 => ⟨_, rfl, ?_⟩⟩
    rw [hok]
    refine iteF ?_
    have e1' := s1 _ _ e1
    refine ⟨_, rfl, p, dx, _, rfl, e1', hf_fb _ _ _ _ _ _, ?_⟩
    refine ⟨_, rfl, p, C, dx, _, _, rfl, e1', T.cl, T.nB, hf_bases _ _ _ _ _ _, _, rfl, b, l, bs, _, rfl, Same.seqT s1 hA.bt, Same.seqT s1 hl, labelP_len _ _, fr.b3, fr.bb, fun H2 s2 => ?_⟩
    rw [place_label bs (x : Int) hb2]
    exact ⟨old, p, b, r, bs, rows, cs, B, c, L, x, rfl, ⟨hA.same (s1.trans s2), ct⟩, fun H3 s3 => k H3 ((s1.trans s2).trans s3)⟩
theorem ok_written {f C fP : Addr} {fd fdP : FuncData} (F : Fun K "written" "House.written" sHouse_written f fd) (T : HouseTxt K mg C) (Dcheck_number : DefK P w K mg base "check_number" ["given"] 3 spChkNum) (Dlabel_at : DefK P w K mg base "label_at" ["bases", "place"] 1 (spLabelAt K)) (Dwritten_label : DefK P w K mg base "written_label" ["bases", "label"] 2 (spLabelText K))
    (mP : Meth K C "_place_borne" fP) (GP : FnOk P w K mg base CX0 2 fP fdP ["self", "frame"] (spPlaceM K C)) (bP : Binds K fdP ["self", "frame"] []) : FnOk P w K mg base CX0 4 f fd ["self", "frame"] (spWritten K C) := by
  have sc := scHouse_written
  refine F.ok sc (fun vs H Q E h => ?_) (fun cdv A outer s H vs Q E hr h => ?_)
  · obtain ⟨old, p, b, r, bs, rows, cs, n, rfl, _⟩ := h
    rfl
  · obtain ⟨old, p, b, r, bs, rows, cs, n, rfl, hA, hn, hp0, hp1, k⟩ := h
    refine ⟨_, (pss_cons (ps_expr (pe_d Dcheck_number (hr.mono (by decide)) rfl (pa_cons (pv 1) pa_nil)))
      (pss_one (ps_ret (pe_d Dwritten_label (hr.mono (by decide)) rfl (pa_cons (pe_fld (pv 0) rfl) (pa_cons (pe_d Dlabel_at (hr.mono (by decide)) rfl (pa_cons (pe_fld (pv 0) rfl) (pa_cons (pe_meth (pv 0) T.cl mP GP (hr.mono (by decide)) bP .nil pass0 (pa_cons (pv 1) pa_nil)) pa_nil))) pa_nil)))))), ?_⟩
    obtain ⟨dx, sk, ah, rd, e1, e2, e3, e4, _, _⟩ := hA.ob
    have fr := hA.fair
    have hb2 : ∀ y ∈ bs, 2 ≤ y := fun y hy => (fr.bb y hy).1
    have hok := label_ok bs (placeP bs cs n) hb2 hp0
    have hfirst := label_first bs (placeP bs cs n) hb2 hp0
    refine ⟨_, rfl, n, rfl, hn, ?_⟩
    refine ⟨_, rfl, p, C, dx, _, _, rfl, e1, T.cl, T.nB, hf_bases _ _ _ _ _ _, _, rfl, p, C, dx, _, _, rfl, e1, T.cl, T.nB, hf_bases _ _ _ _ _ _, ?_⟩
    refine ⟨_, rfl, p, dx, _, rfl, e1, hf_place _ _ _ _ _ _, _, rfl, old, p, b, r, bs, rows, cs, n, rfl, hA, hn, fun H1 s1 => ?_⟩
    refine ⟨b, bs, _, rfl, Same.seqT s1 hA.bt, fr.b3, fr.bb, fun t H2 s2 nt et => ?_⟩
    exact ⟨b, t, bs, _, rfl, Same.seqT (s1.trans s2) hA.bt, SqT.tup et, hok, fr.b3, fr.bb, Int.lt_of_le_of_lt hfirst (Int.lt_of_lt_of_le hp1 (by decide)), fun H3 s3 => k H3 ((s1.trans s2).trans s3)⟩
end
end LM

set_option Elab.async false
set_option linter.all false
set_option maxRecDepth 100000
set_option maxHeartbeats 4000000
namespace LM
open PySem PySem.Spec PyProof.Rows L2
/-! ### errors of the program: classes with an __init__ that calls their base's -/
/-- a class below ValueError without an __init__ of its own -/
structure BaseC (K : PySem.W.Frag) (W : Addr) : Prop where
  ga : PySem.W.specialIn K (.ref W) "__getattribute__" = some (some (.builtin "type.__getattribute__"))
  rd : PySem.W.readsIn K W (.type "type") = true
  vi : PySem.W.findCls K (.ref W) (.type "type") "__init__" = some (.val (.builtin "ValueError.__init__"))
section
variable {X : Cx} {W : Addr} {x : Str} {e : Expr} {es : List Expr} {ta : TA} {p1 p2 pos : Pos}
theorem pe_cinit {pl : Sem Bool} (B : BaseC X.K W) (hg : Gl X x) (hm : X.mg x = some (.ref W)) (ha : PA X (e :: es) ta) (hdb : (x == ("__debug__" : Str)) = false := by decide)
    (hc : eval (.Call (.Attribute (.Name x p1) "__init__" p2) (e :: es) [] pos) X.env = (do
      let ov ← eval (.Name x p1) X.env
      standAt p2.atName
      let (f, first) ← holding [ov] (getMethod ov "__init__" pl)
      callWith pos f first (backTo pos (starEach (e :: es) X.env)) (backToKw pos (keywordEach [] X.env))) := by rfl)
    (he : starEach (e :: es) X.env = (false, eval e X.env) :: starEach es X.env := by rfl) (hpl : (backTo pos (starEach es X.env)).any (·.1) = false := by rfl) :
    PE X (.Call (.Attribute (.Name x p1) "__init__" p2) (e :: es) [] pos) (tVeI X.K ta) := by
  refine ⟨fun pins s σ H Q I h => PySem.W.methodCall_KW (ld_glob I hg hm ?_ hdb) hc⟩
  refine PySem.W.method_cls I.kIn B.ga (PySem.W.cls_value I.kIn B.rd B.vi (by decide +kernel) ?_)
  show wpAny _ _ (callWith pos (Value.builtin "ValueError.__init__") [] (backTo pos (starEach (e :: es) X.env)) []) _ _ _
  refine PyProof.Rows.callWith_method1 (thn (ha.run pos pins _ σ H _ (I.tok _) h) fun us s1 ⟨vs, H1, I1, r1, a, C, ws, ev, hl, T, ea, q⟩ => ?_) he hpl
  subst ev
  cases r1 with
  | @cons _ u0 _ ur ra rw' =>
    obtain rfl : u0 = Value.ref a := ra
    exact oinit_ok T I1 ea (by rw [← Paired.length rw', sizeLine_eq]; omega) fun s' J => ⟨.non, H1, J, rfl, q⟩
end
/-- what __init__ leaves of the exception at a: its one field -/
def spExI (K : PySem.W.Frag) (C : Addr) (f : Str) : Sp := fun vs H Q _ => ∃ (a : Addr) (y : V), vs = [.ref a, y] ∧ H a = some (exo a C none) ∧ ∀ dx, H dx = none → dx ≠ a → Q .non (upd (upd H dx (exd dx [(f, y)])) a (exo a C (some dx)))
theorem made_read {K : PySem.W.Frag} {C : Addr} {f : Str} {H : Hp} {y : V} {Q : XK} (k : ∀ d H', Same H H' → H d = none → H' d = some (.xd [(f, y)]) → Q (.ref C) (some d) H') (a : Addr) (ha : H a = none) :
    spExI K C f [.ref a, y] (upd H a (exo a C none)) (fun v H2 => v = .non ∧ ∃ (d : Addr) (fs : List (Str × V)), H2 a = some (exo a C (some d)) ∧ H2 d = some (exd d fs) ∧ H d = none ∧ Q (.ref C) (some d) (upd (del H2 a) d (.xd fs))) (fun _ _ _ => False) := by
  refine ⟨a, y, rfl, upd_same, fun dx ndx ne => ?_⟩
  rw [upd_ne ne] at ndx
  refine ⟨rfl, dx, [(f, y)], upd_same, by rw [upd_ne ne, upd_same], ndx, k dx _ (fun b o e => ?_) ndx upd_same⟩
  rw [upd_ne (ne_of_none e ndx), del_ne (ne_of_none e ha), upd_ne (ne_of_none e ha), upd_ne (ne_of_none e ndx), upd_ne (ne_of_none e ha)]
  exact e
/-- what of the text a class of errors must have; its __init__ at fI -/
structure ErrC (P : Program) (w : World) (K : PySem.W.Frag) (mg : Str → Option Value) (base : Heap) (x : Str) (C : Addr) (f : Str) : Prop where
  ox : OexC K C
  gC : mg x = some (.ref C)
  no : PySem.W.findIn K (.ref C) f = some none
  xf : XfC K C
  te : PySem.W.exmOne K (.ref C) (.ref C) = some true
  ini : ∃ (fI : Addr) (fd : FuncData) (ps : List Str), PySem.W.findIn K (.ref C) "__init__" = some (some (.ref fI)) ∧ PySem.W.typeIn K (.ref fI) = some (.type "function") ∧ FnOk P w K mg base CX0 1 fI fd ps (spExI K C f) ∧ Binds K fd ps []
section
variable {X : Cx} {C : Addr} {x f : Str} {e : Expr} {te : TE} {p pos : Pos}
/-- X(e), to be raised -/
theorem pmk_err (E : ErrC X.prog X.w X.K X.mg X.base x C f) (hr : Room 2 X.A) (hg : Gl X x) (he : PE X e te) (hdb : (x == ("__debug__" : Str)) = false := by decide) (hs : starEach [e] X.env = (false, eval e X.env) :: starEach [] X.env := by rfl) (hpl : (backTo pos (starEach [] X.env)).any (·.1) = false := by rfl) :
    PMk X (.Call (.Name x p) [e] [] pos) (tMkO C (spExI X.K C f) [] (tCons te tNil)) := by
  obtain ⟨fI, fd, ps, iC, tI, F, hb⟩ := E.ini
  exact pmk_oex E.ox iC tI F hr hb .nil pass0 hg E.gC (pa_cons he pa_nil hs) hdb hs hpl
/-- o.m(..), where what is raised is wished for at the slots -/
def tMethS (C : Addr) (m : Str) (sp : Sp) (E : L2.St → XK) (ta : TE) (t : TA) : TE := fun σ H Q => ta σ H fun x H1 => ∃ a dx fs, x = .ref a ∧ H1 a = some (.ins C dx fs) ∧ fs.lookup m = none ∧ t σ H1 fun vs H2 => sp (x :: vs) H2 Q (E σ)
theorem pe_methS {pl : Sem Bool} {CX : CXT} {k : Nat} {C fa : Addr} {m : Str} {fd : FuncData} {ps : List Str} {sp : Sp} {E : L2.St → XK} {o : Expr} {es : List Expr} {ta : TE} {t : TA} {apos : Pos} (he : PE X o ta) (c : Cls X.K C) (hm : Meth X.K C m fa) (F : FnOk X.prog X.w X.K X.mg X.base CX k fa fd ps sp) (hr : Room k X.A) (hb : Binds X.K fd ps []) (hx : ∀ σ, PassesAt CX X σ (E σ)) (ha : PA X (e :: es) t)
    (hst : starEach (e :: es) X.env = (false, eval e X.env) :: starEach es X.env := by rfl) (hpl : (backTo pos (starEach es X.env)).any (·.1) = false := by rfl)
    (ht : eval (.Call (.Attribute o m apos) (e :: es) [] pos) X.env = (do
      let ov ← eval o X.env
      standAt apos.atName
      let (f, first) ← holding [ov] (getMethod ov m pl)
      callWith pos f first (backTo pos (starEach (e :: es) X.env)) (backToKw pos (keywordEach [] X.env))) := by rfl) :
    PE X (.Call (.Attribute o m apos) (e :: es) [] pos) (tMethS C m sp E ta t) := by
  refine ⟨fun pins s σ H Q I h => PySem.W.methodCall_KW (pl := pl) (thn (he.run pins s σ H _ I h) fun u s1 ⟨x, H1, I1, rx, a, dx, fs, ex, ea, l, q⟩ => ?_) ht⟩
  subst ex
  obtain rfl : u = Value.ref a := rx
  refine getmeth_ok I1 ea c hm l ?_
  refine PySem.W.callWith_K (first := [.ref a]) (h₀ := X.base) I.ok.mod.kin hm.kp (thn (ha.run pos pins s1 σ H1 _ I1 q) fun us s2 ⟨vs, H2, I2, r, q2⟩ => ⟨I2.kIn, ?_⟩) hst hpl
  exact run_fnS (us := .ref a :: us) (vs := .ref a :: vs) F hr hb (hx σ) I2 (.cons rfl r) q2
end
section
variable {P : Program} {w : World} {K : PySem.W.Frag} {mg : Str → Option Value} {base : Heap}
theorem exi_read {K : PySem.W.Frag} {C : Addr} {f : Str} {H : Hp} {vs : List V} {Q : VK} {E : XK} (h : spExI K C f vs H Q E) : vs.length = 2 := by
  obtain ⟨a, y, rfl, _⟩ := h
  rfl
end
end LM

set_option Elab.async false
set_option linter.all false
set_option maxRecDepth 100000
set_option maxHeartbeats 4000000
namespace LM
open PySem PySem.Spec PyProof.Rows L2
/-! ### repr of any value -/
/-- the value y at H, as data: of any kind; a dict only if it is empty -/
inductive Dv (K : PySem.W.Frag) (H : Hp) : V → PyData → Prop
  | dp {y : V} {d : PyData} (h : Dp K H y d) (n : d.hasDict = false) : Dv K H y d
  | dic {a : Addr} (h : H a = some (.dK [])) : Dv K H (.ref a) (.dict [])
theorem Dv.reads {X : Cx} {pins : List (Addr × Obj)} {σ : L2.St} {H : Hp} {s : Shared} (I : Inv X pins σ H s) {y : V} {d : PyData} {u : Value} (h : Dv X.K H y d) (r : RelV y u) : ∃ as, Reads s.heap u d as ∧ (d.hasDict = true → sysModules ∉ as) := by
  cases h with
  | dp h n =>
    obtain ⟨as, rd⟩ := Dp.reads I d y u h r
    exact ⟨as, rd, PyData.noDict_hsm n⟩
  | @dic a h =>
    obtain rfl : u = Value.ref a := r
    obtain ⟨_, hs, vs, kv, o, es, ep, ho, hx, hd, _, pr, _⟩ := I.hok a _ h
    cases kv
    have he : es.toList = [] := by
      cases e : es.toList with
      | nil => rfl
      | cons z l =>
        rw [e] at pr
        cases pr
    refine ⟨a :: [] ++ [], Reads.dict ho hx.1 hd (by rw [he]; exact .nil) (by rw [he]; exact .nil), fun _ hm => ?_⟩
    rw [List.mem_singleton.mp hm] at hs
    rw [beq_self_eq_true] at hs
    cases hs
def rReprV (K : PySem.W.Frag) : List V → Hp → VK → Prop := fun xs G R => ∃ (y : V) (d : PyData), xs = [y] ∧ Dv K G y d ∧ d.showable = true ∧ d.depth ≤ 20 ∧ d.shown.length ≤ sizeLine ∧ R (.str d.shown) G
theorem call_reprV {X : Cx} (hgd : X.A.guards = some []) (hu : X.A.units + 64 < cLine) : CallR X (.builtin "repr") (rReprV X.K) := by
  intro pins s σ G xs us R I va sat
  obtain ⟨y, d, rfl, hd, h1, h3, hz, q⟩ := sat
  obtain ⟨u, rfl, ru⟩ := vals1 va
  obtain ⟨as, rd, hs⟩ := hd.reads I ru
  cases rd with
  | none => exact PySem.P.repr_of_none ⟨.str _, G, I.tok _, ⟨_, rfl⟩, q⟩
  | bool b => exact PySem.P.repr_of_bool ⟨.str _, G, I.tok _, ⟨_, rfl⟩, q⟩
  | int i t => exact PySem.P.repr_of_int (by simpa [PyData.showable] using h1) ⟨.str _, G, I.tok _, ⟨_, rfl⟩, q⟩
  | str x t => exact PySem.P.repr_of_str ⟨.str _, G, I.tok _, ⟨_, rfl⟩, q⟩ hz
  | list a1 a2 a3 a4 => exact repr_of_reads' (.list a1 a2 a3 a4) h1 hs hgd (by omega) (fun _ _ z => z) (fun h' u tk hk => ⟨.str _, G, I.kept hk, ⟨u, rfl⟩, q⟩) hz
  | tuple a1 a2 a3 a4 => exact repr_of_reads' (.tuple a1 a2 a3 a4) h1 hs hgd (by omega) (fun _ _ z => z) (fun h' u tk hk => ⟨.str _, G, I.kept hk, ⟨u, rfl⟩, q⟩) hz
  | dict a1 a2 a3 a4 a5 => exact repr_of_reads' (.dict a1 a2 a3 a4 a5) h1 hs hgd (by omega) (fun _ _ z => z) (fun h' u tk hk => ⟨.str _, G, I.kept hk, ⟨u, rfl⟩, q⟩) hz
end LM

set_option Elab.async false
set_option linter.all false
set_option maxRecDepth 100000
set_option maxHeartbeats 4000000
set_option pp.maxSteps 600
set_option pp.deepTerms false
namespace LM
open PySem PySem.Spec PyProof.Rows L2 RZ
local macro_rules | `(tactic| walk_at "hp") => `(tactic| first | assumption | exact upd_same | (rw [upd_ne (by assumption)]; assumption) | (rw [upd_ne (Ne.symm (by assumption))]; assumption) | (rw [upd_ne (by assumption)]; exact upd_same) | (rw [upd_ne (Ne.symm (by assumption))]; exact upd_same))
local macro_rules | `(tactic| walk_at "sq") => `(tactic| first | assumption | exact Or.inl (Or.inl (by assumption)) | exact Or.inl (Or.inl upd_same) | exact Or.inl (Or.inl (by walk_at "hp")))
local macro_rules | `(tactic| walk_at "ixl") => `(tactic| refine ⟨_, _, _, _, rfl, rfl, (by walk_at "sq"), (by rfl), ?_⟩)
local macro_rules | `(tactic| walk_at "setl") => `(tactic| refine ⟨_, _, _, _, rfl, rfl, (by walk_at "hp"), (by rfl), ?_⟩)
local macro_rules | `(tactic| walk_at "side") => `(tactic| refine idP ?_; first | omega | (show (0 : Int) < _; omega) | (show (0 : Int) < _ ∧ _ < _; omega) | (refine Or.inr ?_; show (-(2 ^ 64) : Int) < _ ∧ _ < _; omega) | (refine Or.inl ?_; show (-(2 ^ 64) : Int) < _ ∧ _ < _; omega) | exact divW (by omega) (by omega) _ | (refine ⟨by decide, by decide, ?_⟩; decide))
local macro_rules | `(tactic| walk_at "go1") => `(tactic| first
  | refine ⟨_, rfl, ?_⟩
  | refine ⟨_, _, rfl, rfl, (by walk_at "side"), ?_⟩
  | refine ⟨_, _, rfl, (by walk_at "side"), ?_⟩
  | refine ⟨_, _, rfl, rfl, ?_⟩
  | refine Or.inl ⟨_, rfl, ?_⟩
  | refine ⟨_, _, rfl, Or.inl (by walk_at "sq"), ?_⟩
  | walk_at "ixl"
  | walk_at "setl"
  | refine ⟨_, _, rfl, (by walk_at "sq"), rfl, ?_⟩
  | refine ⟨_, _, rfl, (by walk_at "sq"), ?_⟩
  | refine ⟨_, _, rfl, ?_⟩
  | refine ⟨rfl, ?_⟩
  | refine ⟨small (Nat.le_of_ble_eq_true rfl), ?_⟩)
local macro_rules | `(tactic| walk_at "go") => `(tactic| repeat walk_at "go1")

abbrev sInvalidLabel__init_ : Stmt := inClass (topS 6) 0
theorem scInvalidLabel__init_ : FnScope ["self", "given"] ["self", "given"] (defScope sInvalidLabel__init_) := ⟨rfl, rfl, rfl, by decide +kernel, rfl, by decide +kernel, by decide +kernel⟩
abbrev sInvalidNumber__init_ : Stmt := inClass (topS 8) 0
theorem scInvalidNumber__init_ : FnScope ["self", "given"] ["self", "given"] (defScope sInvalidNumber__init_) := ⟨rfl, rfl, rfl, by decide +kernel, rfl, by decide +kernel, by decide +kernel⟩
abbrev sInvalidWay__init_ : Stmt := inClass (topS 9) 0
theorem scInvalidWay__init_ : FnScope ["self", "given"] ["self", "given"] (defScope sInvalidWay__init_) := ⟨rfl, rfl, rfl, by decide +kernel, rfl, by decide +kernel, by decide +kernel⟩
/-! ### kinds of values -/
def kindsL : List String := ["int", "bool", "str", "NoneType", "list", "tuple", "dict"]
theorem kind_str {K : PySem.W.Frag} {T : String} (h : T ∈ kindsL) : PySem.W.kitOne K (.type T) (.type "str") = some (decide (T = "str")) := by
  simp only [kindsL, List.mem_cons, List.not_mem_nil, or_false] at h
  rcases h with rfl | rfl | rfl | rfl | rfl | rfl | rfl <;> exact kit_ty (by decide +kernel)
theorem kind_int {K : PySem.W.Frag} {T : String} (h : T ∈ kindsL) : PySem.W.kitOne K (.type T) (.type "int") = some (decide (T = "int") || decide (T = "bool")) := by
  simp only [kindsL, List.mem_cons, List.not_mem_nil, or_false] at h
  rcases h with rfl | rfl | rfl | rfl | rfl | rfl | rfl <;> exact kit_ty (by decide +kernel)
theorem kind_bool {K : PySem.W.Frag} {T : String} (h : T ∈ kindsL) : PySem.W.kitOne K (.type T) (.type "bool") = some (decide (T = "bool")) := by
  simp only [kindsL, List.mem_cons, List.not_mem_nil, or_false] at h
  rcases h with rfl | rfl | rfl | rfl | rfl | rfl | rfl <;> exact kit_ty (by decide +kernel)
theorem kind_tuple {K : PySem.W.Frag} {T : String} (h : T ∈ kindsL) : PySem.W.kitOne K (.type T) (.type "tuple") = some (decide (T = "tuple")) := by
  simp only [kindsL, List.mem_cons, List.not_mem_nil, or_false] at h
  rcases h with rfl | rfl | rfl | rfl | rfl | rfl | rfl <;> exact kit_ty (by decide +kernel)
/-- a value of one of the kinds at H -/
def Kind (K : PySem.W.Frag) (H : Hp) (y : V) (T : String) : Prop := TyX K H y (.type T) ∧ T ∈ kindsL
/-- raised: an error of the class at C about y -/
def RaiseQ (C : Addr) (f : Str) (y : V) (H : Hp) (E : XK) : Prop := ∀ d H', Same H H' → H d = none → H' d = some (.xd [(f, y)]) → E (.ref C) (some d) H'
theorem RaiseQ.same {C : Addr} {f : Str} {y : V} {H H1 : Hp} {E : XK} (h : RaiseQ C f y H E) (s : Same H H1) : RaiseQ C f y H1 E := fun d H' s' n e => h d H' (s.trans s') (s.free n) e
/-- a whole number, or a value of another kind -/
def NumK (K : PySem.W.Frag) (H : Hp) (y : V) : Prop := (∃ n, y = .int n) ∨ ∃ T, Kind K H y T ∧ T ≠ "int"
def numV : V → Option Int
  | .int n => some n
  | _ => none
theorem NumK.non {K : PySem.W.Frag} {H : Hp} {y : V} {T : String} (h : Kind K H y T) (n : T ≠ "int") : numV y = none := by
  obtain ⟨h1, h2⟩ := h
  cases y with
  | int i =>
    exfalso
    cases h1 with
    | base h => cases h; exact n rfl
  | _ => rfl
def spIsIntG (K : PySem.W.Frag) : Sp := fun vs H Q _ => ∃ y, vs = [y] ∧ NumK K H y ∧ Q (.bl (numV y).isSome) H
def inB (o : Option Int) (lo hi : Int) : Bool := match o with
  | some n => decide (lo ≤ n) && decide (n ≤ hi)
  | none => false
def spWithinG (K : PySem.W.Frag) : Sp := fun vs H Q _ => ∃ (y : V) (lo hi : Int), vs = [y, .int lo, .int hi] ∧ NumK K H y ∧ Q (.bl (inB (numV y) lo hi)) H
def posB (o : Option Int) : Bool := match o with
  | some n => decide (0 ≤ n)
  | none => false
def spIsNumG (K : PySem.W.Frag) : Sp := fun vs H Q _ => ∃ y, vs = [y] ∧ NumK K H y ∧ Q (.bl (posB (numV y))) H
def spChkNumX (K : PySem.W.Frag) (CN : Addr) : Sp := fun vs H Q E => ∃ y, vs = [y] ∧ NumK K H y ∧ (posB (numV y) = true → Q .non H) ∧ (posB (numV y) = false → RaiseQ CN "given" y H E)
/-- a way, or none -/
def WayK (K : PySem.W.Frag) (H : Hp) (y : V) : Prop := (∃ x, y = .str x) ∨ ∃ T, Kind K H y T ∧ T ≠ "str"
def wayB : V → Bool
  | .str x => (x == "next") || (x == "last")
  | _ => false
def spIsWayG (K : PySem.W.Frag) : Sp := fun vs H Q _ => ∃ y, vs = [y] ∧ WayK K H y ∧ ∀ H', Same H H' → Q (.bl (wayB y)) H'
def spWayX (K : PySem.W.Frag) (CW : Addr) : Sp := fun vs H Q E => ∃ y, vs = [y] ∧ WayK K H y ∧ (wayB y = true → ∀ H', Same H H' → Q .non H') ∧ (wayB y = false → RaiseQ CW "given" y H E)
section
variable {P : Program} {w : World} {K : PySem.W.Frag} {mg : Str → Option Value} {base : Heap}
theorem ok_elabel {f C W : Addr} {fd : FuncData} (F : Fun K "__init__" "InvalidLabel.__init__" sInvalidLabel__init_ f fd) (B : BaseC K W) (gW : mg "WrongValue" = some (.ref W)) (T : OexC K C) (no : PySem.W.findIn K (.ref C) "given" = some none) : FnOk P w K mg base CX0 1 f fd ["self", "given"] (spExI K C "given") := by
  have sc := scInvalidLabel__init_
  refine F.ok sc (fun vs H Q E h => exi_read h) (fun cdv A outer s H vs Q E hr h => ?_)
  obtain ⟨a, y, rfl, ha, k⟩ := h
  refine ⟨_, (pss_cons (ps_expr (pe_cinit B rfl gW (pa_cons (pv 0) (pa_cons pe_str pa_nil)))) (pss_one (ps_ost (pv 0) (pv 1)))), ?_⟩
  refine ⟨_, rfl, a, C, _, rfl, Nat.le_of_ble_eq_true rfl, T, ha, ?_⟩
  exact ⟨_, rfl, _, rfl, a, C, rfl, T, no, .inl ⟨ha, k⟩⟩
theorem ok_enumber {f C W : Addr} {fd : FuncData} (F : Fun K "__init__" "InvalidNumber.__init__" sInvalidNumber__init_ f fd) (B : BaseC K W) (gW : mg "WrongValue" = some (.ref W)) (T : OexC K C) (no : PySem.W.findIn K (.ref C) "given" = some none) : FnOk P w K mg base CX0 1 f fd ["self", "given"] (spExI K C "given") := by
  have sc := scInvalidNumber__init_
  refine F.ok sc (fun vs H Q E h => exi_read h) (fun cdv A outer s H vs Q E hr h => ?_)
  obtain ⟨a, y, rfl, ha, k⟩ := h
  refine ⟨_, (pss_cons (ps_expr (pe_cinit B rfl gW (pa_cons (pv 0) (pa_cons pe_str pa_nil)))) (pss_one (ps_ost (pv 0) (pv 1)))), ?_⟩
  refine ⟨_, rfl, a, C, _, rfl, Nat.le_of_ble_eq_true rfl, T, ha, ?_⟩
  exact ⟨_, rfl, _, rfl, a, C, rfl, T, no, .inl ⟨ha, k⟩⟩
theorem ok_eway {f C W : Addr} {fd : FuncData} (F : Fun K "__init__" "InvalidWay.__init__" sInvalidWay__init_ f fd) (B : BaseC K W) (gW : mg "WrongValue" = some (.ref W)) (T : OexC K C) (no : PySem.W.findIn K (.ref C) "given" = some none) : FnOk P w K mg base CX0 1 f fd ["self", "given"] (spExI K C "given") := by
  have sc := scInvalidWay__init_
  refine F.ok sc (fun vs H Q E h => exi_read h) (fun cdv A outer s H vs Q E hr h => ?_)
  obtain ⟨a, y, rfl, ha, k⟩ := h
  refine ⟨_, (pss_cons (ps_expr (pe_cinit B rfl gW (pa_cons (pv 0) (pa_cons pe_str pa_nil)))) (pss_one (ps_ost (pv 0) (pv 1)))), ?_⟩
  refine ⟨_, rfl, a, C, _, rfl, Nat.le_of_ble_eq_true rfl, T, ha, ?_⟩
  exact ⟨_, rfl, _, rfl, a, C, rfl, T, no, .inl ⟨ha, k⟩⟩
theorem ok_isintG {f : Addr} {fd : FuncData} (F : Fun K "is_integer" "is_integer" sis_integer f fd) (N : Names mg) : FnOk P w K mg base CX0 1 f fd ["value"] (spIsIntG K) := by
  have sc := scis_integer
  refine F.ok sc (fun vs H Q E h => ?_) (fun cdv A outer s H vs Q E hr h => ?_)
  · obtain ⟨y, rfl, _⟩ := h
    rfl
  · obtain ⟨y, rfl, hk, k⟩ := h
    refine ⟨_, (pss_one (ps_ret (pe_and (pe_callB call_isi (by rfl) N.isinstance (by decide +kernel) (pa_cons (pv 0) (pa_cons (pe_ty "int" rfl N.int (by decide +kernel)) pa_nil))) (pe_one (pe_not (pe_callB call_isi (by rfl) N.isinstance (by decide +kernel) (pa_cons (pv 0) (pa_cons (pe_ty "bool" rfl N.bool (by decide +kernel)) pa_nil)))))))), ?_⟩
    rcases hk with ⟨n, rfl⟩ | ⟨T', hk, hn⟩
    · refine ⟨_, rfl, _, _, _, _, _, rfl, .ty _, .base (.int n), kit_ty (r := true) (by decide +kernel), _, rfl, ?_⟩
      exact ⟨_, rfl, _, _, _, _, _, rfl, .ty _, .base (.int n), kit_ty (r := false) (by decide +kernel), _, rfl, k⟩
    · rw [NumK.non hk hn] at k
      refine ⟨_, rfl, _, _, _, _, _, rfl, .ty _, hk.1, kind_int hk.2, _, rfl, ?_⟩
      rw [decide_eq_false hn, Bool.false_or]
      refine ifD (fun hb => ?_) (fun hb => k)
      refine ⟨_, rfl, _, _, _, _, _, rfl, .ty _, hk.1, kind_bool hk.2, _, rfl, ?_⟩
      rw [decide_eq_true hb]
      exact k
theorem ok_withinG {f : Addr} {fd : FuncData} (F : Fun K "is_integer_within" "is_integer_within" sis_integer_within f fd) (Dis_integer : DefK P w K mg base "is_integer" ["value"] 1 (spIsIntG K)) : FnOk P w K mg base CX0 2 f fd ["value", "low", "high"] (spWithinG K) := by
  have sc := scis_integer_within
  refine F.ok sc (fun vs H Q E h => ?_) (fun cdv A outer s H vs Q E hr h => ?_)
  · obtain ⟨y, lo, hi, rfl, _⟩ := h
    rfl
  · obtain ⟨y, lo, hi, rfl, hk, k⟩ := h
    refine ⟨_, (pss_one (ps_ret (pe_and (pe_d Dis_integer (hr.mono (by decide)) rfl (pa_cons (pv 0) pa_nil)) (pe_one (pe_chain op_le op_le (pv 1) (pv 0) (pv 2)))))), ?_⟩
    refine ⟨_, rfl, y, rfl, hk, _, rfl, ?_⟩
    rcases hk with ⟨n, rfl⟩ | ⟨T', hk, hn⟩
    · refine iteT ?_
      refine ⟨_, rfl, _, rfl, _, _, rfl, rfl, _, rfl, ?_⟩
      refine ifD (fun hd => ?_) (fun hd => ?_)
      · refine ⟨_, rfl, _, _, rfl, rfl, ?_⟩
        have k' : Q (.bl (decide (lo ≤ n) && decide (n ≤ hi))) H := k
        rw [decide_eq_true hd, Bool.true_and] at k'
        exact k'
      · have k' : Q (.bl (decide (lo ≤ n) && decide (n ≤ hi))) H := k
        rw [decide_eq_false hd, Bool.false_and] at k'
        exact k'
    · rw [NumK.non hk hn] at k ⊢
      exact iteF k
theorem ok_isnumG {f : Addr} {fd : FuncData} (F : Fun K "is_number" "is_number" sis_number f fd) (Dis_integer : DefK P w K mg base "is_integer" ["value"] 1 (spIsIntG K)) : FnOk P w K mg base CX0 2 f fd ["value"] (spIsNumG K) := by
  have sc := scis_number
  refine F.ok sc (fun vs H Q E h => ?_) (fun cdv A outer s H vs Q E hr h => ?_)
  · obtain ⟨y, rfl, _⟩ := h
    rfl
  · obtain ⟨y, rfl, hk, k⟩ := h
    refine ⟨_, (pss_one (ps_ret (pe_and (pe_d Dis_integer (hr.mono (by decide)) rfl (pa_cons (pv 0) pa_nil)) (pe_one (pe_cmpR op_ge (pv 0) pe_int (nomark _)))))), ?_⟩
    refine ⟨_, rfl, y, rfl, hk, _, rfl, ?_⟩
    rcases hk with ⟨n, rfl⟩ | ⟨T', hk, hn⟩
    · refine iteT ?_
      exact ⟨_, rfl, _, _, rfl, rfl, k⟩
    · rw [NumK.non hk hn] at k ⊢
      exact iteF k
theorem ok_chknumX {f CN : Addr} {fd : FuncData} (F : Fun K "check_number" "check_number" scheck_number f fd) (EN : ErrC P w K mg base "InvalidNumber" CN "given") (Dis_number : DefK P w K mg base "is_number" ["value"] 2 (spIsNumG K)) : FnOk P w K mg base (L2.CX P w) 3 f fd ["given"] (spChkNumX K CN) := by
  have sc := sccheck_number
  refine F.okX sc (fun vs H Q E h => ?_) (fun cdv A outer s H vs Q E hr h => ?_)
  · obtain ⟨y, rfl, _⟩ := h
    rfl
  · obtain ⟨y, rfl, hk, k1, k2⟩ := h
    refine ⟨_, (pss_one (ps_if (pt_not (pt_val (pe_d Dis_number (hr.mono (by decide)) rfl (pa_cons (pv 0) pa_nil)))) (pss_one (ps_raise rfl (takes_of rfl rfl rfl rfl) (pmk_err EN (hr.mono (by decide)) rfl (pv 0)))) pss_nil)), ?_⟩
    refine ⟨_, rfl, y, rfl, hk, _, rfl, ?_⟩
    cases hb : posB (numV y) with
    | true => exact iteF (k1 hb)
    | false =>
      refine iteT ?_
      exact ⟨_, rfl, Nat.le_of_ble_eq_true rfl, fun a ha => made_read (fun d H' s n e => k2 hb d H' s n e) a ha⟩
theorem ok_iswayG {f : Addr} {fd : FuncData} (F : Fun K "is_way" "is_way" sis_way f fd) (N : Names mg) : FnOk P w K mg base CX0 1 f fd ["value"] (spIsWayG K) := by
  have sc := scis_way
  refine F.ok sc (fun vs H Q E h => ?_) (fun cdv A outer s H vs Q E hr h => ?_)
  · obtain ⟨y, rfl, _⟩ := h
    rfl
  · obtain ⟨y, rfl, hk, k⟩ := h
    refine ⟨_, (pss_one (ps_ret (pe_and (pe_callB call_isi (by rfl) N.isinstance (by decide +kernel) (pa_cons (pv 0) (pa_cons (pe_ty "str" rfl N.str (by decide +kernel)) pa_nil))) (pe_one (pe_cmpR op_in_seq (pv 0) (pe_tup (pa_cons pe_str (pa_cons pe_str pa_nil))) (by rfl)))))), ?_⟩
    rcases hk with ⟨x, rfl⟩ | ⟨T', hk, hn⟩
    · refine ⟨_, rfl, _, _, _, _, _, rfl, .ty _, .base (.str x), kit_ty (r := true) (by decide +kernel), _, rfl, ?_⟩
      refine iteT ?_
      refine ⟨_, rfl, Nat.le_of_ble_eq_true rfl, ?_⟩
      (intro q nq; generalize e_q : upd H q _ = H1; have s1 : Same H H1 := fun b x hb => (congrFun e_q b).symm.trans (same_new nq b x hb); have h1 := (congrFun e_q q).symm.trans upd_same; clear e_q)
      refine ⟨q, _, rfl, .inr (SqT.tup h1), rfl, rfl, ?_⟩
      have e : inV (.str x) [.str "next", .str "last"] = wayB (.str x) := by
        show (("next" : Str) == x || (("last" : Str) == x || false)) = ((x == "next") || (x == "last"))
        rw [Bool.or_false, Bool.beq_comm (a := ("next" : Str)), Bool.beq_comm (a := ("last" : Str))]
      rw [if_neg Bool.false_ne_true, e]
      exact k _ s1
    · have hb : wayB y = false := by
        cases y with
        | str x =>
          exfalso
          obtain ⟨h1, _⟩ := hk
          cases h1 with
          | base h => cases h; exact hn rfl
        | _ => rfl
      rw [hb] at k
      refine ⟨_, rfl, _, _, _, _, _, rfl, .ty _, hk.1, kind_str hk.2, _, rfl, ?_⟩
      rw [decide_eq_false hn]
      exact iteF (k H (Same.refl H))
theorem ok_wayX {f CW : Addr} {fd : FuncData} (F : Fun K "check_way" "check_way" scheck_way f fd) (Dis_way : DefK P w K mg base "is_way" ["value"] 1 (spIsWayG K)) (EW : ErrC P w K mg base "InvalidWay" CW "given") : FnOk P w K mg base (L2.CX P w) 3 f fd ["given"] (spWayX K CW) := by
  have sc := sccheck_way
  refine F.okX sc (fun vs H Q E h => ?_) (fun cdv A outer s H vs Q E hr h => ?_)
  · obtain ⟨y, rfl, _⟩ := h
    rfl
  · obtain ⟨y, rfl, hk, k1, k2⟩ := h
    refine ⟨_, (pss_one (ps_if (pt_not (pt_val (pe_d Dis_way (hr.mono (by decide)) rfl (pa_cons (pv 0) pa_nil)))) (pss_one (ps_raise rfl (takes_of rfl rfl rfl rfl) (pmk_err EW (hr.mono (by decide)) rfl (pv 0)))) pss_nil)), ?_⟩
    refine ⟨_, rfl, y, rfl, hk, fun H1 s1 => ?_⟩
    refine ⟨_, rfl, ?_⟩
    cases hb : wayB y with
    | true => exact iteF (k1 hb H1 s1)
    | false =>
      refine iteT ?_
      exact ⟨_, rfl, Nat.le_of_ble_eq_true rfl, fun a ha => made_read (fun d H' s n e => (k2 hb).same s1 d H' s n e) a ha⟩
end
end LM

set_option Elab.async false
set_option linter.all false
set_option maxRecDepth 100000
set_option maxHeartbeats 4000000
namespace LM
open PySem PySem.Spec PyProof.Rows L2
/-! ### several clauses, each with a name for the error -/
/-- D behind a suite whose name stands in slot i -/
abbrev endsAs (D : Ends) (i : Nat) : Ends := { nx := fun σ' H' => D.nx (σ'.set i none) H', rt := D.rt, bk := fun σ' H' => D.bk (σ'.set i none) H', ct := fun σ' H' => D.ct (σ'.set i none) H' }
def wAsL (K : PySem.W.Frag) (i : Nat) (Wout : WX) (D : Ends) : List (Value × (Addr → Value → Option Addr → TS)) → WX
  | [] => Wout
  | (c, ts) :: r => fun cls d σ H => ∃ b, PySem.W.exmOne K cls c = some b ∧ (b = true → ∀ a, H a = none → ts a cls d (endsAs D i) (σ.set i (some (.ref a))) H) ∧ (b = false → wAsL K i Wout D r cls d σ H)
inductive HdsAs (X : Cx) (n : Str) : List ExceptHandler → List (Value × (Addr → Value → Option Addr → TS)) → Prop
  | nil : HdsAs X n [] []
  | cons {x : Str} {c : Value} {ts : Addr → Value → Option Addr → TS} {st : Stmt} {sts : List Stmt} {np hp : Pos} {hds : List ExceptHandler} {l : List (Value × (Addr → Value → Option Addr → TS))} (hc : L2.Names X x c)
      (su : ∀ (a : Addr) (oe : Obj) (cls : Value) (d : Option Addr) (pn : List (Addr × Obj)), Zc cls d oe → (∃ vs, oe.data = .fields vs) → PSs (X.suite a ((a, oe) :: pn)) (st :: sts) (ts a cls d)) (r : HdsAs X n hds l) :
      HdsAs X n (.ExceptHandler (some (.Name x np)) (some n) (st :: sts) hp :: hds) ((c, ts) :: l)
section
variable {X : Cx} {n : Str} {i : Nat} {body : List Stmt} {hd0 : ExceptHandler} {hds : List ExceptHandler} {l : List (Value × (Addr → Value → Option Addr → TS))} {pos : Pos} {tb : WX → TS} {Wout : WX}
theorem ps_try_asL (hs : X.stack = X.env :: X.outer) (hf : X.env.frame = some X.env.locals) (hN : X.N.Nodup) (hi : X.N[i]? = some n) (hln : X.env.kindOf n = some .local) (tk : Takes X Wout)
    (hb : ∀ (W : WX) (pn : List (Addr × Obj)) (xe : Value → Shared → Prop), Takes (X.tr pn xe) W → PassesOwn (model X.prog X.w) X.A X.env xe → PSs (X.tr pn xe) body (tb W)) (hh : HdsAs X n (hd0 :: hds) l) :
    PS X (.Try body (hd0 :: hds) [] [] pos) (fun D σ H => tb (wAsL X.K i Wout D l) D σ H) := by
  refine ⟨fun pins s σ H D I h => ?_⟩
  have ok := I.ok
  have frames : X.A.frames = some (X.env :: X.outer) := by rw [ok.frames, hs]
  have loc : Loc X.env.scope n := .inl hln
  refine wpAny_Try_except (wpAny_mono ((hb (wAsL X.K i Wout D l) (X.pn ++ pins) (fun e s₁ => wpAny (model X.prog X.w) X.A (noteFrame e X.env) (fun _ s₂ => wpAny (model X.prog X.w) X.A (setFlight e none) (fun _ s₃ =>
    wpAny (model X.prog X.w) X.A (handleBy e X.env (hd0 :: hds)) (SP X pins D) X.xe s₃) X.xe s₂) X.xe s₁) (fun u s' xx => ?_) PassesOwn.looking).run [] s σ H D (I.toTry _) h) (fun f s1 hsp => ?_) (fun e s1 he => he))
  rotate_left
  · cases f with
    | ret u => obtain ⟨v, σ', H', J, r, q⟩ := hsp; exact ⟨v, σ', H', J.ofTry ok, r, q⟩
    | next => obtain ⟨σ', H', J, q⟩ := hsp; exact wpAny_execs_nil ⟨σ', H', J.ofTry ok, q⟩
    | brk => obtain ⟨σ', H', J, q⟩ := hsp; exact ⟨σ', H', J.ofTry ok, q⟩
    | cont => obtain ⟨σ', H', J, q⟩ := hsp; exact ⟨σ', H', J.ofTry ok, q⟩
  obtain ⟨a, B, sI, pins', σ', H', cls, d, rfl, J0, nb, up, sky, na, os, ag, w⟩ := xx
  have J : Inv X pins σ' H' sI := J0.ofTry ok
  have sky1 : Sky B (X.env :: X.outer) a (Zc cls d) X.env.locals s'.heap := hs ▸ sky
  show wpAny (model X.prog X.w) X.A (noteFrame (.ref a) X.env) _ _ _
  refine Sky.land Zc.steady frames hf sky1 fun h3 fl up3 => ?_
  have J3 : Inv X pins σ' H' { s' with heap := h3 } := J.landed nb fl.1 (up.trans up3) os ag
  obtain ⟨oe, vs, he, hz, hd⟩ := fl.there
  have notF : a ∉ frs (X.env :: X.outer) := fun hm => by
    obtain ⟨_, o, e, nf⟩ := fl.2.2.1.mem hm
    cases he.symm.trans e
    exact nf _ hd
  have nL : a ≠ X.env.locals := fun z => notF (List.mem_filterMap.mpr ⟨X.env, List.mem_cons_self, by rw [hf, z]⟩)
  have nF : a ∉ X.fs := fun hm => by
    obtain ⟨e, me, q⟩ := List.mem_filterMap.mp hm
    exact notF (List.mem_filterMap.mpr ⟨e, List.mem_cons_of_mem _ me, q⟩)
  have S3 := J3.suite he hd na nL nF
  suffices go : ∀ {hs' : List ExceptHandler} {l' : List (Value × (Addr → Value → Option Addr → TS))}, HdsAs X n hs' l' → wAsL X.K i Wout D l' cls d σ' H' → wpAny (model X.prog X.w) X.A (handleBy (.ref a) X.env hs') (SP X pins D) X.xe { s' with heap := h3 } from go hh w
  intro hs' l' hk
  induction hk with
  | nil =>
    intro w
    refine wpAny_handleBy_nil ?_
    obtain ⟨k1, k2, k3, oe', vs', T, oT, ts', he', hz', hd', hh1, hr⟩ := id fl
    unfold PySem.passOn
    refine wpAny_bind (wpAny_field he' hd' hh1 ?_)
    rw [if_neg (show ¬ ((Value.ref T == Value.none) = true) by simp)]
    have fin : wpAny (model X.prog X.w) X.A (setFlight (.ref a) X.env.frame) (fun _ s4 => wpAny (model X.prog X.w) X.A (throw (.ref a) : Sem Flow) (SP X pins D) X.xe s4) X.xe { s' with heap := h3 } := by
      rw [hf]
      exact HandSPX.setFlight_upZ fl fun h4 hh4 up4 => wpAny_throw (tk _ _ ⟨a, B, sI, pins, σ', H', cls, d, rfl, J, nb, (up.trans up3).trans up4, .inr (.inr (by rw [hs]; exact hh4)), na, os, ag, w⟩)
    first
      | exact wpAny_bind (wpAny_pure (wpAny_bind fin))
      | exact wpAny_bind fin
  | @cons x c ts st sts np hp hds2 l2 hc su r ih =>
    rintro ⟨b, hb1, yes, no⟩
    refine wpAny_handleBy_cons (codeAny_handlers_test ?_) (fun q => nomatch q)
    have LT : PySem.W.Looks (model X.prog X.w) h3 (typeOf (.ref a)) cls := fun A Q E s k q => wpAny_typeOf_ref (k _ _ he) (by rw [hz.1]; exact q)
    have LM := PySem.W.exm_one (M := model X.prog X.w) J3.kIn LT hb1
    have test : ∀ {Q : Value → Shared → Prop} {E : Value → Shared → Prop}, Q c { s' with heap := h3 } → wpAny (model X.prog X.w) (X.A.mark (some (.ref a))) (eval (.Name x np) X.env) Q E { s' with heap := h3 } := fun {Q E} q => by
      obtain ⟨g, db, m | ⟨m, v, nn⟩⟩ := hc
      · exact ld_glob (X := X.suite a ((a, oe) :: (X.pn ++ pins))) S3 g m q db
      · exact ld_blt (X := X.suite a ((a, oe) :: (X.pn ++ pins))) S3 g m v q nn db
    refine test (LM.here ?_)
    cases b with
    | false => exact ih (no rfl)
    | true =>
      refine codeAny_handlers_suite_as (HandSPX.lands_againZ fl fun h4 fl4 up4 => ?_)
      have J4 : Inv X pins σ' H' { s' with heap := h4 } := J.landed nb fl4.1 ((up.trans up3).trans up4) os ag
      obtain ⟨oe4, vs4, he4, hz4, hd4⟩ := fl4.there
      refine store_ok (X := X.suite a ((a, oe4) :: (X.pn ++ pins))) (v := .ref a) (J4.suite he4 hd4 na nL nF) hN hi loc rfl (fun s5 S5 => ?_) (.inr hln)
      refine wpAny_mono ((su a oe4 cls d (X.pn ++ pins) hz4 ⟨_, hd4⟩).run [] s5 _ H' _ S5 (yes rfl a na)) (fun f s6 hsp => ?_) (fun _ _ z => z.elim)
      have gone : ∀ {σ6 : L2.St} {H6 : Hp} {Q : Shared → Prop}, Inv (X.suite a ((a, oe4) :: (X.pn ++ pins))) [] σ6 H6 s6 → (∀ s7, Inv X pins (σ6.set i none) H6 s7 → Q s7) → wpAny (model X.prog X.w) X.A (do bindName X.env n .none; unbindBehindTheSuite X.env n hp) (fun _ s7 => Q s7) X.xe s6 :=
        fun {σ6 H6 Q} S6 hq => gone_ok (S6.unsuite ok) hN hi hln hq
      cases f with
      | ret u => obtain ⟨v6, σ6, H6, S6, r6, q6⟩ := hsp; exact gone S6 fun s7 J7 => ⟨_, _, _, J7, r6, q6⟩
      | next => obtain ⟨σ6, H6, S6, q6⟩ := hsp; exact gone S6 fun s7 J7 => ⟨_, _, J7, q6⟩
      | brk => obtain ⟨σ6, H6, S6, q6⟩ := hsp; exact gone S6 fun s7 J7 => ⟨_, _, J7, q6⟩
      | cont => obtain ⟨σ6, H6, S6, q6⟩ := hsp; exact gone S6 fun s7 J7 => ⟨_, _, J7, q6⟩
end
end LM

set_option Elab.async false
set_option linter.all false
set_option maxRecDepth 100000
set_option maxHeartbeats 4000000
namespace LM
open PySem PySem.Spec PyProof.Rows L2
/-! ### lambdas -/
/-- such a def, its code object known -/
theorem funGc_ok {P : Program} {w : World} {K : PySem.W.Frag} {mg : Str → Option Value} {base : Heap} {x qual : Str} {st : Stmt} {f c : Addr} {NN ps : List Str} {k : Nat} {sp : Sp} {oc : Value} {od an : Option Addr} {osl : Array (Option Value)} {kV doc pm ct : Value}
    (inK : K.lookup f = some ⟨oc, od, .func (PySem.W.fnOf x qual (defArgs st) (defBody st) (defScope st) .none kV doc pm an (.ref c) ct), osl⟩) (hco : PySem.W.codeIn K (.ref c) qual = true) (S : FnScope NN ps (defScope st)) (hnum : ∀ xs G R Z, sp xs G R Z → xs.length = ps.length)
    (hbd : ∀ (Ar : Around) (above : List Env) (t : Shared) (G : Hp) (xs : List V) (R : VK) (Z : XK), Ar.guards = some [] → Room k (Ar.deeper (envOfC qual (defScope st) t.heap.objs.size f (.ref c))) → sp xs G R Z →
      ∃ T, PSs (Cx.nox (cxOf CX0 P w K mg base NN qual (defScope st) f (.ref c) Ar above t G Z)) (defBody st) T ∧ T { nx := fun _ G' => R .non G', rt := R } (L2.start NN xs) G) :
    FnG P w K mg base (k + 1) f (PySem.W.fnOf x qual (defArgs st) (defBody st) (defScope st) .none kV doc pm an (.ref c) ct) ps sp := by
  refine ⟨hnum, fun Ar above t G ar ys xs R Z hgd room en bi va sat => ?_⟩
  have hlen := hnum _ _ _ _ sat
  have kin : K.In t.heap := en.mod.kin.keeps fun b o z => (en.bs b o z).1
  have noL : t.heap.NoLimit := en.mod.nolimit.keeps fun b o z => (en.bs b o z).1
  have kinds : ∀ y ∈ ps.zip ys, (defScope st).names.lookup y.1 = some .local ∨ ((defScope st).names.lookup y.1 = some .cell ∧ ((cellsFrom (t.heap.objs.size + 1) (defScope st).names []).lookup y.1).isSome = true) := by
    rintro ⟨n, v⟩ hy
    exact (S.par n (List.of_mem_zip hy).1).imp id fun q => ⟨q, PySem.W.cellsFrom_some _ _ _ (.inl q)⟩
  refine codeAny_call_function room.depth (kin _ _ inK) rfl S.co S.gen rfl (PySem.W.codeRec_of kin hco) (bi _ _ _ _ ?_)
  refine wpAny_newFunctionEnv_cells S.kind kinds fun env heq t1 inC => ?_
  subst heq
  refine ⟨noL.keeps inC.toInCall.keep, codeAny_func ?_⟩
  obtain ⟨T, hT, hq⟩ := hbd Ar above t G xs R Z hgd (room.deeper _) sat
  have hI := inv_start (CX := CX0) (E := Z) S room.hd en hlen va inC
  refine wpAny_mono (hT.nox.run [] t1 (L2.start NN xs) G _ hI hq) (fun fl t2 hs => ?_) fun _ _ hs => hs
  cases fl with
  | ret u =>
    obtain ⟨v, σ2, G2, J, rv, q⟩ := hs
    exact ⟨v, G2, J.os, J.bare, J.base, J.hok, rv, q⟩
  | next =>
    obtain ⟨σ2, G2, J, q⟩ := hs
    exact ⟨V.non, G2, J.os, J.bare, J.base, J.hok, rfl, q⟩
  | brk =>
    obtain ⟨_, _, _, z⟩ := hs
    exact (show False from z).elim
  | cont =>
    obtain ⟨_, _, _, z⟩ := hs
    exact (show False from z).elim
/-- what a caught act gives: ('told', v), or the error's name and repr of what it tells -/
def TTc (K : PySem.W.Frag) (cs : List (Addr × Str)) (f : Str) : (XK → Hp → VK → Prop) → Hp → VK → Prop := fun tl H Q =>
  tl (fun cls d H' => ∃ (C : Addr) (name : Str) (dd : Addr) (y : V) (dy : PyData), (C, name) ∈ cs ∧ cls = .ref C ∧ d = some dd ∧ H' dd = some (.xd [(f, y)]) ∧ Dv K H' y dy ∧ dy.showable = true ∧ dy.depth ≤ 20 ∧ dy.shown.length ≤ sizeLine ∧
      ∀ t H2, Same H' H2 → H' t = none → H2 t = some (.tup [.str name, .str dy.shown]) → Q (.ref t) H2) H
    (fun v H' => ∀ t H2, Same H' H2 → H' t = none → H2 t = some (.tup [.str "told", v]) → Q (.ref t) H2)
/-- a method called with keywords alone, that may raise -/
theorem pe_methKwX {X : Cx} {CX : CXT} {k : Nat} {C f : Addr} {fd : FuncData} {ps ks : List Str} {sp : Sp} {m : Str} {E : XK} {pos apos : Pos} {o : Expr} {kws : List Keyword} {ta : TE} {tk : TA} {g : List Value → List Value → List Value} {gV : List V → List V → List V} {pl : Sem Bool}
    (he : PE X o ta) (c : Cls X.K C) (hm : Meth X.K C m f) (F : FnOk X.prog X.w X.K X.mg X.base CX k f fd ps sp) (hr : Room k X.A) (hb : KBinds X.K fd ps ks g gV) (hx : Passes CX X E) (hkw : PK X kws tk)
    (hall : (backToKw pos (keywordEach kws X.env)).all (·.1.isSome) = true := by rfl) (hks : (backToKw pos (keywordEach kws X.env)).filterMap (·.1) = ks := by rfl) (hpl : ((backTo pos (starEach [] X.env)).any (·.1) || (backToKw pos (keywordEach kws X.env)).any (·.1.isNone)) = false := by rfl)
    (ht : eval (.Call (.Attribute o m apos) [] kws pos) X.env = (eval o X.env >>= fun ov => standAt apos.atName >>= fun _ => holding [ov] (getMethod ov m pl) >>= fun fx => callWith pos fx.1 fx.2 (backTo pos (starEach [] X.env)) (backToKw pos (keywordEach kws X.env))) := by rfl) :
    PE X (.Call (.Attribute o m apos) [] kws pos) (tMethKw C m sp gV E ta tk) := by
  refine ⟨fun pins s σ G R I sat => ?_⟩
  refine PySem.W.methodCall_KW (pl := pl) (thn (he.run pins s σ G _ I sat) fun u s1 ⟨x, G1, J, rx, a, dx, fs, ex, ea, lk, q⟩ => ?_) ht
  subst ex
  obtain rfl : u = Value.ref a := rx
  refine getmeth_ok J ea c hm lk (PySem.W.callWith_KW0 (first := [.ref a]) (h₀ := X.base) J.ok.mod.kin hm.kp hall (thn (hkw.run pos pins s1 σ G1 _ J q) fun ws s2 ⟨zs, G2, J2, rz, q2⟩ => ⟨J2.kIn, ?_⟩) hpl)
  rw [hks]
  exact run_fnk (us := [.ref a]) (vs := [.ref a]) F hr hb hx J2 (.cons rfl .nil) rz q2
/-! ### all but the tables stays -/
theorem SqL.extN {K : PySem.W.Frag} {H H' : Hp} {a : Addr} {xs : List V} (e : LamX.ExtN H H') (h : SqL K H a xs) : SqL K H' a xs := by
  rcases h with (h | ⟨o, h⟩) | h
  · exact .inl (.inl (e _ _ h fun ps z => nomatch z))
  · exact .inl (.inr ⟨o, e _ _ h fun ps z => nomatch z⟩)
  · exact .inr h
theorem SqT.extN {K : PySem.W.Frag} {H H' : Hp} {a : Addr} {xs : List V} (e : LamX.ExtN H H') (h : SqT K H a xs) : SqT K H' a xs := by
  rcases h with (h | ⟨o, h⟩) | h
  · exact .inl (.inl (e _ _ h fun ps z => nomatch z))
  · exact .inl (.inr ⟨o, e _ _ h fun ps z => nomatch z⟩)
  · exact .inr h
mutual
theorem Dp.extN {K : PySem.W.Frag} {H H' : Hp} (e : LamX.ExtN H H') : ∀ (d : PyData) (v : V), Dp K H v d → Dp K H' v d
  | .none, _, h => by cases h; exact .non
  | .bool _, _, h => by cases h; exact .bl _
  | .int _, _, h => by cases h; exact .int _
  | .str _, _, h => by cases h; exact .str _
  | .list ds, _, h => by
    cases h with
    | lst h1 h2 => exact .lst (SqL.extN e h1) (Dp.extAll e ds _ h2)
  | .tuple ds, _, h => by
    cases h with
    | tup h1 h2 => exact .tup (SqT.extN e h1) (Dp.extAll e ds _ h2)
  | .dict _, _, h => by cases h
theorem Dp.extAll {K : PySem.W.Frag} {H H' : Hp} (e : LamX.ExtN H H') : ∀ (ds : List PyData) (vs : List V), DpAll K H vs ds → DpAll K H' vs ds
  | [], _, h => by cases h; exact .nil
  | d :: ds, _, h => by
    cases h with
    | cons h1 h2 => exact .cons (Dp.extN e d _ h1) (Dp.extAll e ds _ h2)
end
theorem Dv.extN {K : PySem.W.Frag} {H H' : Hp} {y : V} {d : PyData} (e : LamX.ExtN H H') (h : Dv K H y d) : Dv K H' y d := by
  cases h with
  | dp h n => exact .dp (Dp.extN e d y h) n
  | dic h => exact .dic (e _ _ h fun ps z => nomatch z)
theorem ExtN.same {H H' : Hp} (s : Same H H') : LamX.ExtN H H' := fun b o h _ => s b o h
theorem HouseAt.extN {K : PySem.W.Frag} {C : Addr} {old : Addr → Prop} {H H' : Hp} {p b r : Addr} {bs : List Int} {rows : List R3} {cs : List Int} (h : HouseAt K C old H p b r bs rows cs) (e : LamX.ExtN H H') : HouseAt K C old H' p b r bs rows cs := by
  obtain ⟨⟨dx, sk, ah, rd, e1, e2, e3, e4, e5, e6⟩, h2, ⟨as, h3, h3'⟩, h4, h5⟩ := h
  exact ⟨⟨dx, sk, ah, rd, e _ _ e1 (fun ps z => nomatch z), e _ _ e2 (fun ps z => nomatch z), e _ _ e3 (fun ps z => nomatch z), e _ _ e4 (fun ps z => nomatch z), e5, e6⟩, SqT.extN e h2, ⟨as, SqT.extN e h3, paired_imp h3' fun a _ x q => SqT.extN e q⟩, h4, h5⟩
theorem Tabs.mut {T : List (Addr × Str)} {H : Hp} {D : Addr} {ys : List V} {o : HO} (hD : H D = some (.lst ys)) (t : LamX.Tabs T H) : LamX.Tabs T (upd H D o) := by
  intro p hp
  obtain ⟨ps, h1, h2, h3⟩ := t p hp
  refine ⟨ps, by rw [upd_ne (fun z => by rw [z, hD] at h1; cases h1)]; exact h1, h2, fun pos cv hc => ?_⟩
  obtain ⟨c, e1, e2⟩ := h3 pos cv hc
  refine ⟨c, e1, ?_⟩
  rw [upd_ne (fun z => by rw [z, hD] at e2; cases e2)]
  exact e2
end LM

set_option Elab.async false
set_option linter.all false
set_option maxRecDepth 100000
set_option maxHeartbeats 4000000
/-! an error that is caught, and handed to a def -/
namespace LM
open PySem PySem.Spec PyProof.Rows L2
/-! ### a def that gets the error that is handled -/
/-- what such a def promises: p is the error, with its object -/
structure FnE (P : Program) (w : World) (K : PySem.W.Frag) (mg : Str → Option Value) (base : Heap) (k : Nat) (f : Addr) (fd : FuncData) (ps : List Str) (sp : Addr × Obj → Sp) : Prop where
  num : ∀ p xs G R Z, sp p xs G R Z → xs.length = ps.length
  go : ∀ (Ar : Around) (above : List Env) (t : Shared) (G : Hp) (ar : Args) (ys : List Value) (xs : List V) (R : VK) (Z : XK) (p : Addr × Obj), L2H.RoomH k Ar → L2H.PinOk above G t p → Env0 P w K mg base Ar above t G → BindsTo t fd ar (ps.zip ys) → Vals xs ys → sp p xs G R Z →
    codeAny (model P w) Ar (.call (.ref f) ar) (CR CX0 above P w G t R Z) t
section
variable {P : Program} {w : World} {K : PySem.W.Frag} {mg : Str → Option Value} {base : Heap}
theorem funE_ok {x qual : Str} {st : Stmt} {f : Addr} {fd : FuncData} {NN ps : List Str} {k : Nat} {sp : Addr × Obj → Sp} (F : Fun K x qual st f fd) (S : FnScope NN ps (defScope st)) (hnum : ∀ p xs G R Z, sp p xs G R Z → xs.length = ps.length)
    (hbd : ∀ (cd : Value) (Ar : Around) (above : List Env) (t : Shared) (G : Hp) (xs : List V) (R : VK) (Z : XK) (p : Addr × Obj), L2H.RoomH k (Ar.deeper (envOfC qual (defScope st) t.heap.objs.size f cd)) → sp p xs G R Z →
      ∃ T, PSs (Cx.nox (L2H.cxH CX0 P w K mg base NN qual (defScope st) f cd Ar above t G Z p)) (defBody st) T ∧ T { nx := fun _ G' => R .non G', rt := R } (start NN xs) G) : FnE P w K mg base (k + 1) f fd ps sp := by
  obtain ⟨oc, od, kV, doc, pm, an, cd, ct, osl, rfl, inK, hco⟩ := F.ex
  refine ⟨hnum, fun Ar above t G ar ys xs R Z p room pin en bi va sat => ?_⟩
  have hlen := hnum _ _ _ _ _ sat
  have kin : K.In t.heap := en.mod.kin.keeps fun b o z => (en.bs b o z).1
  have noL : t.heap.NoLimit := en.mod.nolimit.keeps fun b o z => (en.bs b o z).1
  have kinds : ∀ y ∈ ps.zip ys, (defScope st).names.lookup y.1 = some .local ∨ ((defScope st).names.lookup y.1 = some .cell ∧ ((cellsFrom (t.heap.objs.size + 1) (defScope st).names []).lookup y.1).isSome = true) := by
    rintro ⟨n, v⟩ hy
    exact (S.par n (List.of_mem_zip hy).1).imp id fun q => ⟨q, PySem.W.cellsFrom_some _ _ _ (.inl q)⟩
  refine codeAny_call_function room.depth (kin _ _ inK) rfl S.co S.gen rfl (PySem.W.codeRec_of kin hco) (bi _ _ _ _ ?_)
  refine wpAny_newFunctionEnv_cells S.kind kinds fun env heq t1 inC => ?_
  subst heq
  refine ⟨noL.keeps inC.toInCall.keep, codeAny_func ?_⟩
  obtain ⟨T, hT, hq⟩ := hbd cd Ar above t G xs R Z p (room.deeper _) sat
  have hI := L2H.inv_startH (CX := CX0) (E := Z) S pin en hlen va inC
  refine wpAny_mono (hT.nox.run [] t1 (start NN xs) G _ hI hq) (fun fl t2 hs => ?_) fun _ _ hs => hs
  cases fl with
  | ret u =>
    obtain ⟨v, σ2, G2, J, rv, q⟩ := hs
    exact ⟨v, G2, J.os, J.bare, J.base, J.hok, rv, q⟩
  | next =>
    obtain ⟨σ2, G2, J, q⟩ := hs
    exact ⟨.non, G2, J.os, J.bare, J.base, J.hok, rfl, q⟩
  | brk =>
    obtain ⟨_, _, _, q⟩ := hs
    exact False.elim q
  | cont =>
    obtain ⟨_, _, _, q⟩ := hs
    exact False.elim q
end
section
variable {X : Cx} {k : Nat} {f a : Addr} {oe : Obj} {fd : FuncData} {ps : List Str} {sp : Addr × Obj → Sp} {x : Str} {p pos : Pos} {e : Expr} {te : TE}
/-- f(e), e the error that is handled -/
theorem pe_callE (F : FnE X.prog X.w X.K X.mg X.base k f fd ps sp) (hr : L2H.RoomH k X.A) (hp : (a, oe) ∈ X.pn) (hg : Gl X x) (hm : X.mg x = some (.ref f)) (hk : PySem.W.keepIn X.K (.ref f) = true) (hb : Binds X.K fd ps []) (ha : PE X e te)
    (hdb : (x == ("__debug__" : Str)) = false := by decide) (he : starEach [e] X.env = (false, eval e X.env) :: starEach [] X.env := by rfl) (hpl : (backTo pos (starEach [] X.env)).any (·.1) = false := by rfl) :
    PE X (.Call (.Name x p) [e] [] pos) (fun σ H Q => te σ H fun y H1 => sp (a, oe) [y] H1 Q E0) := by
  refine ⟨fun pins s σ H Q I h => ?_⟩
  refine wpAny_Call_Name_kw (ld_glob I hg hm ?_ hdb)
  refine PySem.W.callWith_K (h₀ := X.base) I.ok.mod.kin hk (thn ((pa_cons ha pa_nil he).run pos pins s σ H (fun ys H1 => sp (a, oe) ys H1 Q E0) I h) fun us s1 ⟨vs, H1, I1, r, q⟩ => ⟨I1.kIn, ?_⟩) he hpl
  have hl : us.length = ps.length := by rw [← r.length]; exact F.num _ _ _ _ _ q
  have b := hb s1 us I1.kIn (by rw [List.append_nil]; exact hl)
  rw [List.append_nil] at b
  have P1 := I1.pin (a, oe) (List.mem_append_left _ hp)
  have hpin : L2H.PinOk X.stack H1 s1 (a, oe) := ⟨P1.1, P1.2.1, fun hm => (List.mem_cons.mp (I1.stkSub _ hm)).elim P1.2.2.1 P1.2.2.2.1, P1.2.2.2.2⟩
  refine wpAny_call (codeAny_mono (F.go X.A X.stack s1 H1 ⟨us, []⟩ us vs Q E0 (a, oe) hr hpin I1.env0 b r q) fun r s' hq => ?_)
  cases r with
  | error e => exact False.elim hq
  | ok fl =>
    cases fl with
    | ret u => exact I1.after hq
    | next => exact False.elim hq
    | brk => exact False.elim hq
    | cont => exact False.elim hq
end
/-! ### what is asked of it there -/
def rIsX (K : PySem.W.Frag) (D a dd : Addr) : List V → Hp → VK → Prop := fun xs H Q => ∃ (c : V) (cv : Value) (b : Bool) (fs : List (Str × V)), xs = [.ref a, c] ∧ ClsV c cv ∧ H dd = some (.xd fs) ∧ PySem.W.kitOne K (.ref D) cv = some b ∧ Q (.bl b) H
def tXfX (K : PySem.W.Frag) (D a dd : Addr) (f : Str) (te : TE) : TE := fun σ H Q => te σ H fun x H1 => x = .ref a ∧ PySem.W.findIn K (.ref D) f = some none ∧ ∃ (fs : List (Str × V)) (v : V), H1 dd = some (.xd fs) ∧ fs.lookup f = some v ∧ Q v H1
section
variable {X : Cx} {a D dd : Addr} {oe : Obj}
theorem exc_inst {pins : List (Addr × Obj)} {σ : L2.St} {H : Hp} {s : Shared} {fs : List (Str × V)} (I : Inv X pins σ H s) (hz : Zc (.ref D) (some dd) oe) (hf : ∃ vs, oe.data = .fields vs) (hp : (a, oe) ∈ X.pn) (e : H dd = some (.xd fs)) :
    ∃ od, PySem.W.InstAt s.heap a oe D (some od) ∧ ∀ f v, fs.lookup f = some v → ∃ u, PySem.W.lookIn f od = some (some u) ∧ RelV v u := by
  obtain ⟨ha, _⟩ := I.pin (a, oe) (List.mem_append_left _ hp)
  obtain ⟨vs, hd⟩ := hf
  obtain ⟨mA, hns, hr⟩ := (show ObjOk X.prog X.w H s.heap dd (.xd fs) from I.hok dd _ e)
  obtain ⟨od, ho, hl⟩ := lookIn_ns hns
  refine ⟨od, ⟨ha, hz.1, by unfold PySem.W.notCls; rw [hd] <;> rfl, by rw [hz.2]; exact ho⟩, fun f v l => ?_⟩
  obtain ⟨u, hu, ru⟩ := RelO.some_of (v := v) (o := mA f) (by rw [← l]; exact hr f)
  exact ⟨u, by rw [hl, hu], ru⟩
theorem call_isX (C : ExcC X.K D) (hz : Zc (.ref D) (some dd) oe) (hf : ∃ vs, oe.data = .fields vs) (hp : (a, oe) ∈ X.pn) : CallR X (.builtin "isinstance") (rIsX X.K D a dd) := by
  intro pins s σ H xs us Q I r ⟨c, cv, b, fs, ex, kc, ed, e, q⟩
  subst ex
  cases r with
  | cons rx rr =>
    cases rr with
    | cons rt rr =>
      cases rr
      cases rx
      have ec := kc.eq rt
      subst ec
      obtain ⟨od, J, _⟩ := exc_inst I hz hf hp ed
      obtain ⟨cd, hc, _⟩ := PySem.W.any_some C.hd
      exact PySem.W.kia_one (PySem.W.kitx_exc (by rw [hc]; rfl) C.hg C.hk C.hs C.ha C.hn C.ht C.hm) I.kIn J e (fun z => nomatch z) fun tk => ⟨.bl b, H, I.tok tk, rfl, q⟩
theorem pe_xfX {e : Expr} {te : TE} {pos : Pos} {n : Str} (T : XfC X.K D) (hz : Zc (.ref D) (some dd) oe) (hf : ∃ vs, oe.data = .fields vs) (hp : (a, oe) ∈ X.pn) (he : PE X e te) (hb : attributeBase e n X.env (eval e X.env) = eval e X.env := by rfl) :
    PE X (.Attribute e n pos) (tXfX X.K D a dd n te) := by
  refine ⟨fun pins s σ H Q I h => attr_of hb (thn (he.run pins s σ H _ I h) fun u s1 ⟨x, H1, I1, rx, ex, hno, fs, v, ea, l, q⟩ => ?_)⟩
  subst ex
  obtain rfl : u = Value.ref a := rx
  obtain ⟨od, J, hl⟩ := exc_inst I1 hz hf hp ea
  obtain ⟨u, hu, ru⟩ := hl n v l
  exact HandSPX.exc_get I1.kIn J T.ga T.gg T.exC (PySem.W.findObj_own T.hdC hno rfl hu) (handed_of ru) ⟨v, H1, I1.tok _, ru, q⟩
/-- t.count(y), flat values -/
def rCntF (K : PySem.W.Frag) : V → List V → Hp → VK → Prop := fun x xs H Q => ∃ (p : Addr) (ys : List V) (y : V), x = .ref p ∧ xs = [y] ∧ SqL K H p ys ∧ flatV y = true ∧ ys.all flatV = true ∧ Q (.int (ys.countP fun z => eqV z y : Nat)) H
theorem count_flat {y : V} {u : Value} : ∀ {ys : List V} {its : List Value}, Vals ys its → ys.all flatV = true → (∀ {z : V} {w : Value}, RelV z w → flatV z = true → L2.eqU y w = eqV z y) → its.countP (L2.eqU y) = ys.countP fun z => eqV z y
  | _, _, .nil, _, _ => rfl
  | z :: ys, w :: its, .cons r rs, f, h => by
    rw [List.all_cons, Bool.and_eq_true] at f
    rw [List.countP_cons, List.countP_cons, h r f.1, count_flat (u := u) rs f.2 h]
theorem mt_countF : MtR X "list.count" (rCntF X.K) := by
  intro pins s σ H x xs v us Q I rx rxs h
  obtain ⟨p, ys, y, rfl, rfl, hs, fy, fys, q⟩ := h
  cases rx
  obtain ⟨u, rfl, ru⟩ := rxs.one
  obtain ⟨its, rv, ⟨⟨cls, dd, data, sl⟩, n, ho, hc, hdn, hd⟩, hlen⟩ := I.list hs
  simp only at hc hd
  subst hc hd
  refine call_meets PySem.F.slot_list_count ⟨_, ho, rfl⟩ PySem.F.entry_list_count (PySem.F.args_list_count_2 _ _)
    (SeqAt.list_countAt p its.toArray n dd sl u (L2.eqU y)) ⟨ho, fun u' hu' => mem_eqAt ru fy rv fys u' (by simpa using hu'), ?_⟩
  have ec : its.toArray.toList.countP (L2.eqU y) = ys.countP fun z => eqV z y := count_flat (u := u) rv fys fun r f => eqU_of r f
  refine ⟨.int ((ys.countP fun z => eqV z y : Nat) : Int), H, I.tok _, ⟨s.toks, ?_⟩, q⟩
  show Value.int ((its.toArray.toList.countP (L2.eqU y) : Nat) : Int) s.toks = Value.int ((ys.countP fun z => eqV z y : Nat) : Int) s.toks
  rw [ec]
end
end LM

set_option Elab.async false
set_option linter.all false
set_option maxRecDepth 100000
set_option maxHeartbeats 4000000
/-! except (A, B, C) as n -/
namespace LM
open PySem PySem.Spec PyProof.Rows L2
theorem held_push {Z : Obj → Prop} {base h : Heap} {l : List Env} {e : Addr} (x : HandSPX.FlyingZ base l e Z h) (o : Obj) : HandSPX.FlyingZ base l e Z (h.push o) := by
  obtain ⟨k1, k2, k3, oe, vs, T, oT, ts, he, hz, hd, h1, nT, ne, hT, dT, h3⟩ := x
  exact ⟨fun b u q => Heap.get?_push_of_some _ (k1 b u q), k2, k3.of_keeps fun b u q _ => ⟨u, Heap.get?_push_of_some _ q, rfl⟩, oe, vs, T, oT, ts, Heap.get?_push_of_some _ he, hz, hd, h1, nT, ne, Heap.get?_push_of_some _ hT, dT, h3⟩
theorem name_run {X : Cx} {a : Addr} {pn pins : List (Addr × Obj)} {σ : L2.St} {H : Hp} {s : Shared} {x : Str} {p : Pos} {c : Value} {Q : Value → Shared → Prop} {E : Value → Shared → Prop} (S : Inv (X.suite a pn) pins σ H s) (hc : L2.Names X x c) (q : Q c s) : wpAny (model X.prog X.w) (X.A.mark (some (.ref a))) (eval (.Name x p) X.env) Q E s := by
  obtain ⟨g, db, h⟩ := hc
  rcases h with m | ⟨m, v, nn⟩
  · exact ld_glob (X := X.suite a pn) S g m q db
  · exact ld_blt (X := X.suite a pn) S g m v q nn db
def wAs3 (K : PySem.W.Frag) (cs : List Value) (i : Nat) (ts : Addr → Value → Option Addr → TS) (Wout : WX) (D : Ends) : WX := fun cls d σ H => ∃ b, PySem.W.exmAny K cls cs = some b ∧ (b = true → ∀ a, H a = none → ts a cls d (endsAs D i) (σ.set i (some (.ref a))) H) ∧ (b = false → Wout cls d σ H)
section
variable {X : Cx} {n x1 x2 x3 : Str} {c1 c2 c3 : Value} {i kk : Nat} {body : List Stmt} {st : Stmt} {sts : List Stmt} {p1 p2 p3 tpos hp pos : Pos} {tb : WX → TS} {ts : Addr → Value → Option Addr → TS} {Wout : WX}
theorem ps_try_as3 (hs : X.stack = X.env :: X.outer) (hf : X.env.frame = some X.env.locals) (hN : X.N.Nodup) (hi : X.N[i]? = some n) (hln : X.env.kindOf n = some .local) (n1 : L2.Names X x1 c1) (n2 : L2.Names X x2 c2) (n3 : L2.Names X x3 c3) (tk : Takes X Wout)
    (hb : ∀ (W : WX) (pn : List (Addr × Obj)) (xe : Value → Shared → Prop), Takes (X.tr pn xe) W → PassesOwn (model X.prog X.w) X.A X.env xe → PSs (X.tr pn xe) body (tb W))
    (su : ∀ (a : Addr) (oe : Obj) (cls : Value) (d : Option Addr) (pn : List (Addr × Obj)), Zc cls d oe → (∃ vs, oe.data = .fields vs) → PSs (X.suite a ((a, oe) :: pn)) (st :: sts) (ts a cls d)) :
    PS X (.Try body [.ExceptHandler (some (.Tuple [.Name x1 p1, .Name x2 p2, .Name x3 p3] kk tpos)) (some n) (st :: sts) hp] [] [] pos) (fun D σ H => tb (wAs3 X.K [c1, c2, c3] i ts Wout D) D σ H) := by
  refine ⟨fun pins s σ H D I h => ?_⟩
  have ok := I.ok
  have frames : X.A.frames = some (X.env :: X.outer) := by rw [ok.frames, hs]
  have loc : Loc X.env.scope n := .inl hln
  refine wpAny_Try_except (wpAny_mono ((hb (wAs3 X.K [c1, c2, c3] i ts Wout D) (X.pn ++ pins) (fun e s₁ => wpAny (model X.prog X.w) X.A (noteFrame e X.env) (fun _ s₂ => wpAny (model X.prog X.w) X.A (setFlight e none) (fun _ s₃ =>
    wpAny (model X.prog X.w) X.A (handleBy e X.env [.ExceptHandler (some (.Tuple [.Name x1 p1, .Name x2 p2, .Name x3 p3] kk tpos)) (some n) (st :: sts) hp]) (SP X pins D) X.xe s₃) X.xe s₂) X.xe s₁) (fun u s' xx => ?_) PassesOwn.looking).run [] s σ H D (I.toTry _) h) (fun f s1 hsp => ?_) (fun e s1 he => he))
  rotate_left
  · cases f with
    | ret u => obtain ⟨v, σ', H', J, r, q⟩ := hsp; exact ⟨v, σ', H', J.ofTry ok, r, q⟩
    | next => obtain ⟨σ', H', J, q⟩ := hsp; exact wpAny_execs_nil ⟨σ', H', J.ofTry ok, q⟩
    | brk => obtain ⟨σ', H', J, q⟩ := hsp; exact ⟨σ', H', J.ofTry ok, q⟩
    | cont => obtain ⟨σ', H', J, q⟩ := hsp; exact ⟨σ', H', J.ofTry ok, q⟩
  obtain ⟨a, B, sI, pins', σ', H', cls, d, rfl, J0, nb, up, sky, na, os, ag, w⟩ := xx
  have J : Inv X pins σ' H' sI := J0.ofTry ok
  have sky1 : Sky B (X.env :: X.outer) a (Zc cls d) X.env.locals s'.heap := hs ▸ sky
  show wpAny (model X.prog X.w) X.A (noteFrame (.ref a) X.env) _ _ _
  refine Sky.land Zc.steady frames hf sky1 fun h3 fl0 up3 => ?_
  have J3 : Inv X pins σ' H' { s' with heap := h3 } := J.landed nb fl0.1 (up.trans up3) os ag
  obtain ⟨oe, vs, he, hz, hd⟩ := fl0.there
  have notF : a ∉ frs (X.env :: X.outer) := fun hm => by
    obtain ⟨_, o, e, nf⟩ := fl0.2.2.1.mem hm
    cases he.symm.trans e
    exact nf _ hd
  have nL : a ≠ X.env.locals := fun z => notF (List.mem_filterMap.mpr ⟨X.env, List.mem_cons_self, by rw [hf, z]⟩)
  have nF : a ∉ X.fs := fun hm => by
    obtain ⟨e, me, q⟩ := List.mem_filterMap.mp hm
    exact notF (List.mem_filterMap.mpr ⟨e, List.mem_cons_of_mem _ me, q⟩)
  have S3 := J3.suite he hd na nL nF
  obtain ⟨b, hb1, yes, no⟩ := w
  have test : ∀ {x : Str} {p : Pos} {c : Value} {Q : Value → Shared → Prop} {E : Value → Shared → Prop}, L2.Names X x c → Q c { s' with heap := h3 } → wpAny (model X.prog X.w) (X.A.mark (some (.ref a))) (eval (.Name x p) X.env) Q E { s' with heap := h3 } := fun hc q => name_run S3 hc q
  refine wpAny_handleBy_cons (codeAny_handlers_test ?_) (fun q => nomatch q)
  refine Tuple_ (spliced_more (test n1 (spliced_more (test n2 (spliced_more (test n3 (spliced_none ?_)))))))
  refine wpAny_newObj_type ?_
  have up4 : Heap.UpToSlots h3 (h3.push { cls := .type "tuple", data := .seq [c1, c2, c3].toArray }) := fun b o q _ => ⟨o.slots, Heap.get?_push_of_some _ q⟩
  have fl := held_push fl0 { cls := .type "tuple", data := .seq [c1, c2, c3].toArray }
  have he := Heap.get?_push_of_some (h := h3) { cls := .type "tuple", data := .seq [c1, c2, c3].toArray } he
  have J4 := J3.kept (t' := s'.toks) (h' := h3.push { cls := .type "tuple", data := .seq [c1, c2, c3].toArray }) fun b o q => Heap.get?_push_of_some _ q
  have LT : PySem.W.Looks (model X.prog X.w) (h3.push { cls := .type "tuple", data := .seq [c1, c2, c3].toArray }) (typeOf (.ref a)) cls := fun A Q E s k q => wpAny_typeOf_ref (k _ _ he) (by rw [hz.1]; exact q)
  have LM := PySem.W.exm_tup3 (M := model X.prog X.w) (tp := h3.objs.size) J4.kIn LT (Heap.get?_push_size _ rfl) hb1
  refine LM.here ?_
  cases b with
  | false =>
    show wpAny _ X.A (handleBy (.ref a) X.env []) _ _ _
    refine wpAny_handleBy_nil ?_
    obtain ⟨k1, k2, k3, oe', vs', T, oT, ts', he', hz', hd', hh1, hr⟩ := id fl
    unfold PySem.passOn
    refine wpAny_bind (wpAny_field he' hd' hh1 ?_)
    rw [if_neg (show ¬ ((Value.ref T == Value.none) = true) by simp)]
    have fin : wpAny (model X.prog X.w) X.A (setFlight (.ref a) X.env.frame) (fun _ s4 => wpAny (model X.prog X.w) X.A (throw (.ref a) : Sem Flow) (SP X pins D) X.xe s4) X.xe { s' with heap := h3.push { cls := .type "tuple", data := .seq [c1, c2, c3].toArray } } := by
      rw [hf]
      exact HandSPX.setFlight_upZ fl fun h4 hh4 up5 => wpAny_throw (tk _ _ ⟨a, B, sI, pins, σ', H', cls, d, rfl, J, nb, ((up.trans up3).trans up4).trans up5, .inr (.inr (by rw [hs]; exact hh4)), na, os, ag, no rfl⟩)
    first
      | exact wpAny_bind (wpAny_pure (wpAny_bind fin))
      | exact wpAny_bind fin
  | true =>
    refine codeAny_handlers_suite_as (HandSPX.lands_againZ fl fun h5 fl5 up5 => ?_)
    have J5 : Inv X pins σ' H' { s' with heap := h5 } := J.landed nb fl5.1 (((up.trans up3).trans up4).trans up5) os ag
    obtain ⟨oe5, vs5, he5, hz5, hd5⟩ := fl5.there
    refine store_ok (X := X.suite a ((a, oe5) :: (X.pn ++ pins))) (v := .ref a) (J5.suite he5 hd5 na nL nF) hN hi loc rfl (fun s6 S6 => ?_) (.inr hln)
    refine wpAny_mono ((su a oe5 cls d (X.pn ++ pins) hz5 ⟨_, hd5⟩).run [] s6 _ H' _ S6 (yes rfl a na)) (fun f s7 hsp => ?_) (fun _ _ z => z.elim)
    have gone : ∀ {σ7 : L2.St} {H7 : Hp} {Q : Shared → Prop}, Inv (X.suite a ((a, oe5) :: (X.pn ++ pins))) [] σ7 H7 s7 → (∀ s8, Inv X pins (σ7.set i none) H7 s8 → Q s8) → wpAny (model X.prog X.w) X.A (do bindName X.env n .none; unbindBehindTheSuite X.env n hp) (fun _ s8 => Q s8) X.xe s7 :=
      fun {σ7 H7 Q} S7 hq => gone_ok (S7.unsuite ok) hN hi hln hq
    cases f with
    | ret u => obtain ⟨v7, σ7, H7, S7, r7, q7⟩ := hsp; exact gone S7 fun s8 J8 => ⟨_, _, _, J8, r7, q7⟩
    | next => obtain ⟨σ7, H7, S7, q7⟩ := hsp; exact gone S7 fun s8 J8 => ⟨_, _, J8, q7⟩
    | brk => obtain ⟨σ7, H7, S7, q7⟩ := hsp; exact gone S7 fun s8 J8 => ⟨_, _, J8, q7⟩
    | cont => obtain ⟨σ7, H7, S7, q7⟩ := hsp; exact gone S7 fun s8 J8 => ⟨_, _, J8, q7⟩
end
end LM

set_option Elab.async false
set_option linter.all false
set_option maxRecDepth 100000
set_option maxHeartbeats 4000000
set_option pp.maxSteps 600
set_option pp.deepTerms false
/-! errors told: _law_fault, _law_tried -/
namespace LM
open PySem PySem.Spec PyProof.Rows L2 RZ LamX
local macro_rules | `(tactic| walk_at "hp") => `(tactic| first | assumption | exact upd_same | (rw [upd_ne (by assumption)]; assumption) | (rw [upd_ne (Ne.symm (by assumption))]; assumption) | (rw [upd_ne (by assumption)]; exact upd_same) | (rw [upd_ne (Ne.symm (by assumption))]; exact upd_same))
local macro_rules | `(tactic| walk_at "sq") => `(tactic| first | assumption | exact Or.inl (Or.inl (by assumption)) | exact Or.inl (Or.inl upd_same) | exact Or.inl (Or.inl (by walk_at "hp")))
local macro_rules | `(tactic| walk_at "ixl") => `(tactic| refine ⟨_, _, _, _, rfl, rfl, (by walk_at "sq"), (by rfl), ?_⟩)
local macro_rules | `(tactic| walk_at "setl") => `(tactic| refine ⟨_, _, _, _, rfl, rfl, (by walk_at "hp"), (by rfl), ?_⟩)
local macro_rules | `(tactic| walk_at "side") => `(tactic| refine idP ?_; first | omega | (show (0 : Int) < _; omega) | (show (0 : Int) < _ ∧ _ < _; omega) | (refine Or.inr ?_; show (-(2 ^ 64) : Int) < _ ∧ _ < _; omega) | (refine Or.inl ?_; show (-(2 ^ 64) : Int) < _ ∧ _ < _; omega) | exact divW (by omega) (by omega) _ | (refine ⟨by decide, by decide, ?_⟩; decide))
local macro_rules | `(tactic| walk_at "go1") => `(tactic| first
  | refine ⟨_, rfl, ?_⟩
  | refine ⟨_, _, rfl, rfl, (by walk_at "side"), ?_⟩
  | refine ⟨_, _, rfl, (by walk_at "side"), ?_⟩
  | refine ⟨_, _, rfl, rfl, ?_⟩
  | refine Or.inl ⟨_, rfl, ?_⟩
  | refine ⟨_, _, rfl, Or.inl (by walk_at "sq"), ?_⟩
  | walk_at "ixl"
  | walk_at "setl"
  | refine ⟨_, _, rfl, (by walk_at "sq"), rfl, ?_⟩
  | refine ⟨_, _, rfl, (by walk_at "sq"), ?_⟩
  | refine ⟨_, _, rfl, ?_⟩
  | refine ⟨rfl, ?_⟩
  | refine ⟨small (Nat.le_of_ble_eq_true rfl), ?_⟩)
local macro_rules | `(tactic| walk_at "go") => `(tactic| repeat walk_at "go1")

abbrev s_law_fault : Stmt := topS 78
theorem sc_law_fault : FnScope ["_law_e", "_law_rows", "_law_under", "_law_plain", "_law_at", "_law_word"] ["_law_e"] (defScope s_law_fault) := ⟨rfl, rfl, rfl, by decide +kernel, rfl, by decide +kernel, by decide +kernel⟩
abbrev s_law_tried : Stmt := topS 79
theorem sc_law_tried : FnScope ["_law_act", "_law_found", "_law_e"] ["_law_act"] (defScope s_law_tried) := ⟨rfl, rfl, rfl, by decide +kernel, rfl, by decide +kernel, by decide +kernel⟩
def faultWords : List Str := ["house", "move", "number", "pace", "bound", "clips", "lost", "long"]
def faultWord (i : Nat) : Str := faultWords.getD i ""
def faultField (i : Nat) : Str := if i = 5 then "index" else if i = 7 then "limit" else "given"
/-- the classes of errors at the top -/
structure Kin (mg : Str → Option Value) (c0 c1 c2 c3 c4 c5 c6 c7 w1 w2 w3 : Addr) : Prop where
  NotAHouse : mg "NotAHouse" = some (.ref c0)
  NotAMove : mg "NotAMove" = some (.ref c1)
  InvalidNumber : mg "InvalidNumber" = some (.ref c2)
  InvalidPace : mg "InvalidPace" = some (.ref c3)
  InvalidBound : mg "InvalidBound" = some (.ref c4)
  InvalidClips : mg "InvalidClips" = some (.ref c5)
  Lost : mg "Lost" = some (.ref c6)
  TooLong : mg "TooLong" = some (.ref c7)
  WrongValue : mg "WrongValue" = some (.ref w1)
  WrongState : mg "WrongState" = some (.ref w2)
  NoAnswer : mg "NoAnswer" = some (.ref w3)
  ValueError : mg "ValueError" = none
  LookupError : mg "LookupError" = none
  ArithmeticError : mg "ArithmeticError" = none
/-- the class at D, the i-th of them -/
structure FaultC (K : PySem.W.Frag) (c0 c1 c2 c3 c4 c5 c6 c7 w1 w2 w3 D : Addr) (i : Nat) : Prop where
  ex : ExcC K D
  xf : XfC K D
  no : PySem.W.findIn K (.ref D) (faultField i) = some none
  k0 : PySem.W.kitOne K (.ref D) (.ref c0) = some (decide (i = 0))
  k1 : PySem.W.kitOne K (.ref D) (.ref c1) = some (decide (i = 1))
  k2 : PySem.W.kitOne K (.ref D) (.ref c2) = some (decide (i = 2))
  k3 : PySem.W.kitOne K (.ref D) (.ref c3) = some (decide (i = 3))
  k4 : PySem.W.kitOne K (.ref D) (.ref c4) = some (decide (i = 4))
  k5 : PySem.W.kitOne K (.ref D) (.ref c5) = some (decide (i = 5))
  k6 : PySem.W.kitOne K (.ref D) (.ref c6) = some (decide (i = 6))
  k7 : PySem.W.kitOne K (.ref D) (.ref c7) = some (decide (i = 7))
  u1 : PySem.W.kitOne K (.ref D) (.ref w1) = some (decide (i < 6))
  u2 : PySem.W.kitOne K (.ref D) (.ref w2) = some (decide (i = 6))
  u3 : PySem.W.kitOne K (.ref D) (.ref w3) = some (decide (i = 7))
  b1 : PySem.W.kitOne K (.ref D) (.type "ValueError") = some (decide (i < 6))
  b2 : PySem.W.kitOne K (.ref D) (.type "LookupError") = some (decide (i = 6))
  b3 : PySem.W.kitOne K (.ref D) (.type "ArithmeticError") = some (decide (i = 7))
  tr : PySem.W.exmAny K (.ref D) [.ref w1, .ref w2, .ref w3] = some true
def spFault (K : PySem.W.Frag) (c0 c1 c2 c3 c4 c5 c6 c7 w1 w2 w3 : Addr) : Addr × Obj → Sp := fun p vs H Q _ => ∃ (D dd : Addr) (i : Nat) (y : V), vs = [.ref p.1] ∧ Zc (.ref D) (some dd) p.2 ∧ (∃ us, p.2.data = .fields us) ∧ FaultC K c0 c1 c2 c3 c4 c5 c6 c7 w1 w2 w3 D i ∧ i < 8 ∧ H dd = some (.xd [(faultField i, y)]) ∧
  ∀ t H', Same H H' → H t = none → H' t = some (.tup [.str (faultWord i), y]) → Q (.ref t) H'
theorem fault_cnt : ∀ i, i < 8 → ([V.bl (decide (i = 0)), V.bl (decide (i = 1)), V.bl (decide (i = 2))] ++ [V.bl (decide (i = 3)), V.bl (decide (i = 4)), V.bl (decide (i = 5))] ++ [V.bl (decide (i = 6)), V.bl (decide (i = 7))]).countP (fun z => eqV z (.bl true)) = 1
  | 0, _ | 1, _ | 2, _ | 3, _ | 4, _ | 5, _ | 6, _ | 7, _ => rfl
  | n + 8, h => absurd h (by omega)
theorem fault_flat (i : Nat) : ([V.bl (decide (i = 0)), V.bl (decide (i = 1)), V.bl (decide (i = 2))] ++ [V.bl (decide (i = 3)), V.bl (decide (i = 4)), V.bl (decide (i = 5))] ++ [V.bl (decide (i = 6)), V.bl (decide (i = 7))]).all flatV = true := rfl
theorem fault_at : ∀ i, i < 8 → ([V.bl (decide (i = 0)), V.bl (decide (i = 1)), V.bl (decide (i = 2))] ++ [V.bl (decide (i = 3)), V.bl (decide (i = 4)), V.bl (decide (i = 5))] ++ [V.bl (decide (i = 6)), V.bl (decide (i = 7))])[i]? = some (.bl true)
  | 0, _ | 1, _ | 2, _ | 3, _ | 4, _ | 5, _ | 6, _ | 7, _ => rfl
  | n + 8, h => absurd h (by omega)
theorem fault_low {i m : Nat} {z : V} (hi : i < 8) (hm : m < i) (h : ([V.bl (decide (i = 0)), V.bl (decide (i = 1)), V.bl (decide (i = 2))] ++ [V.bl (decide (i = 3)), V.bl (decide (i = 4)), V.bl (decide (i = 5))] ++ [V.bl (decide (i = 6)), V.bl (decide (i = 7))])[m]? = some z) : eqV z (.bl true) = false := by
  have h2 : ([V.bl (decide (i = 0)), V.bl (decide (i = 1)), V.bl (decide (i = 2))] ++ [V.bl (decide (i = 3)), V.bl (decide (i = 4)), V.bl (decide (i = 5))] ++ [V.bl (decide (i = 6)), V.bl (decide (i = 7))])[m]? = some (.bl (decide (i = m))) := by
    match m, (show m < 8 by omega) with
    | 0, _ | 1, _ | 2, _ | 3, _ | 4, _ | 5, _ | 6, _ | 7, _ => rfl
    | n + 8, h => exact absurd h (by omega)
  rw [h2] at h
  obtain rfl := Option.some.inj h
  rw [decide_eq_false (by omega)]
  rfl
theorem bools_dp {K : PySem.W.Frag} {H : Hp} : ∀ bs : List Bool, DpAll K H (bs.map V.bl) (bs.map PyData.bool)
  | [] => .nil
  | b :: bs => .cons (.bl b) (bools_dp bs)
theorem bools_eqv : ∀ a b c : Bool, SeqAt.shaped (.list [.bool a, .bool b, .bool c]) = true ∧ PyData.eqv (.list [.bool a, .bool b, .bool c]) (.list [.bool a, .bool b, .bool c]) = true := by decide +kernel
theorem fault_word : ∀ {i : Nat}, i < 8 → atI [V.str "house", V.str "move", V.str "number", V.str "pace", V.str "bound", V.str "clips", V.str "lost", V.str "long"] (i : Int) = some (.str (faultWord i))
  | 0, _ | 1, _ | 2, _ | 3, _ | 4, _ | 5, _ | 6, _ | 7, _ => rfl
  | n + 8, h => absurd h (by omega)
theorem fault_under (i : Nat) : [V.bl (decide ((i : Int) < 6)), V.bl (decide (V.int (i : Int) = V.int 6)), V.bl (decide (V.int (i : Int) = V.int 7))] = [decide (i < 6), decide (i = 6), decide (i = 7)].map V.bl := by
  have a : decide ((i : Int) < 6) = decide (i < 6) := decide_eq_decide.mpr (by omega)
  have b : ∀ n : Nat, decide (V.int (i : Int) = V.int (n : Int)) = decide (i = n) := fun n => decide_eq_decide.mpr ⟨fun h => by injection h; omega, fun h => by rw [h]⟩
  have b6 := b 6
  have b7 := b 7
  rw [a, show (V.int 6) = V.int ((6 : Nat) : Int) from rfl, show (V.int 7) = V.int ((7 : Nat) : Int) from rfl, b6, b7]
  rfl
section
variable {P : Program} {w : World} {K : PySem.W.Frag} {mg : Str → Option Value} {base : Heap} {c0 c1 c2 c3 c4 c5 c6 c7 w1 w2 w3 : Addr}
theorem ok_fault {f : Addr} {fd : FuncData} (F : Fun K "_law_fault" "_law_fault" s_law_fault f fd) (N : Names mg) (M : Kin mg c0 c1 c2 c3 c4 c5 c6 c7 w1 w2 w3) : FnE P w K mg base 1 f fd ["_law_e"] (spFault K c0 c1 c2 c3 c4 c5 c6 c7 w1 w2 w3) := by
  have sc := sc_law_fault
  refine funE_ok F sc (fun p vs H Q E h => ?_) (fun cdv A outer s H vs Q E p hr h => ?_)
  · obtain ⟨D, dd, i, y, rfl, _⟩ := h
    rfl
  · obtain ⟨D, dd, i, y, rfl, hz, hf, FC, hi, ed, k⟩ := h
    have hp : (p.1, p.2) ∈ [p] := List.mem_singleton.mpr rfl
    have hu : (A.deeper (envOfC "_law_fault" (defScope s_law_fault) s.heap.objs.size f cdv)).units + 64 < cLine := by have := hr.un; omega
    refine ⟨_, (pss_cons (ps_set (i := 1) sc.nd rfl (Or.inl rfl) (pe_lst (pa_cons (pe_callB (show CallR _ (.builtin "isinstance") (rIsX K D p.1 dd) from call_isX FC.ex hz hf hp) (by rfl) N.isinstance (by decide +kernel) (pa_cons (pv 0) (pa_cons (pe_glob rfl M.NotAHouse (show L2.RelV (V.ref c0) (.ref c0) from rfl)) pa_nil))) (pa_cons (pe_callB (show CallR _ (.builtin "isinstance") (rIsX K D p.1 dd) from call_isX FC.ex hz hf hp) (by rfl) N.isinstance (by decide +kernel) (pa_cons (pv 0) (pa_cons (pe_glob rfl M.NotAMove (show L2.RelV (V.ref c1) (.ref c1) from rfl)) pa_nil))) (pa_cons (pe_callB (show CallR _ (.builtin "isinstance") (rIsX K D p.1 dd) from call_isX FC.ex hz hf hp) (by rfl) N.isinstance (by decide +kernel) (pa_cons (pv 0) (pa_cons (pe_glob rfl M.InvalidNumber (show L2.RelV (V.ref c2) (.ref c2) from rfl)) pa_nil))) pa_nil)))))
      (pss_cons (ps_set (i := 1) sc.nd rfl (Or.inl rfl) (pe_op op_cat (pv 1) (pe_lst (pa_cons (pe_callB (show CallR _ (.builtin "isinstance") (rIsX K D p.1 dd) from call_isX FC.ex hz hf hp) (by rfl) N.isinstance (by decide +kernel) (pa_cons (pv 0) (pa_cons (pe_glob rfl M.InvalidPace (show L2.RelV (V.ref c3) (.ref c3) from rfl)) pa_nil))) (pa_cons (pe_callB (show CallR _ (.builtin "isinstance") (rIsX K D p.1 dd) from call_isX FC.ex hz hf hp) (by rfl) N.isinstance (by decide +kernel) (pa_cons (pv 0) (pa_cons (pe_glob rfl M.InvalidBound (show L2.RelV (V.ref c4) (.ref c4) from rfl)) pa_nil))) (pa_cons (pe_callB (show CallR _ (.builtin "isinstance") (rIsX K D p.1 dd) from call_isX FC.ex hz hf hp) (by rfl) N.isinstance (by decide +kernel) (pa_cons (pv 0) (pa_cons (pe_glob rfl M.InvalidClips (show L2.RelV (V.ref c5) (.ref c5) from rfl)) pa_nil))) pa_nil))))))
      (pss_cons (ps_set (i := 1) sc.nd rfl (Or.inl rfl) (pe_op op_cat (pv 1) (pe_lst (pa_cons (pe_callB (show CallR _ (.builtin "isinstance") (rIsX K D p.1 dd) from call_isX FC.ex hz hf hp) (by rfl) N.isinstance (by decide +kernel) (pa_cons (pv 0) (pa_cons (pe_glob rfl M.Lost (show L2.RelV (V.ref c6) (.ref c6) from rfl)) pa_nil))) (pa_cons (pe_callB (show CallR _ (.builtin "isinstance") (rIsX K D p.1 dd) from call_isX FC.ex hz hf hp) (by rfl) N.isinstance (by decide +kernel) (pa_cons (pv 0) (pa_cons (pe_glob rfl M.TooLong (show L2.RelV (V.ref c7) (.ref c7) from rfl)) pa_nil))) pa_nil)))))
      (pss_cons (ps_set (i := 2) sc.nd rfl (Or.inl rfl) (pe_lst (pa_cons (pe_callB (show CallR _ (.builtin "isinstance") (rIsX K D p.1 dd) from call_isX FC.ex hz hf hp) (by rfl) N.isinstance (by decide +kernel) (pa_cons (pv 0) (pa_cons (pe_glob rfl M.WrongValue (show L2.RelV (V.ref w1) (.ref w1) from rfl)) pa_nil))) (pa_cons (pe_callB (show CallR _ (.builtin "isinstance") (rIsX K D p.1 dd) from call_isX FC.ex hz hf hp) (by rfl) N.isinstance (by decide +kernel) (pa_cons (pv 0) (pa_cons (pe_glob rfl M.WrongState (show L2.RelV (V.ref w2) (.ref w2) from rfl)) pa_nil))) (pa_cons (pe_callB (show CallR _ (.builtin "isinstance") (rIsX K D p.1 dd) from call_isX FC.ex hz hf hp) (by rfl) N.isinstance (by decide +kernel) (pa_cons (pv 0) (pa_cons (pe_glob rfl M.NoAnswer (show L2.RelV (V.ref w3) (.ref w3) from rfl)) pa_nil))) pa_nil)))))
      (pss_cons (ps_set (i := 3) sc.nd rfl (Or.inl rfl) (pe_lst (pa_cons (pe_callB (show CallR _ (.builtin "isinstance") (rIsX K D p.1 dd) from call_isX FC.ex hz hf hp) (by rfl) N.isinstance (by decide +kernel) (pa_cons (pv 0) (pa_cons (pe_ty "ValueError" rfl M.ValueError (by decide +kernel)) pa_nil))) (pa_cons (pe_callB (show CallR _ (.builtin "isinstance") (rIsX K D p.1 dd) from call_isX FC.ex hz hf hp) (by rfl) N.isinstance (by decide +kernel) (pa_cons (pv 0) (pa_cons (pe_ty "LookupError" rfl M.LookupError (by decide +kernel)) pa_nil))) (pa_cons (pe_callB (show CallR _ (.builtin "isinstance") (rIsX K D p.1 dd) from call_isX FC.ex hz hf hp) (by rfl) N.isinstance (by decide +kernel) (pa_cons (pv 0) (pa_cons (pe_ty "ArithmeticError" rfl M.ArithmeticError (by decide +kernel)) pa_nil))) pa_nil)))))
      (pss_cons (ps_if (PW.pt (pw_or (pt_cmpR op_ne (show PE _ _ (tBM K "list" (rCntF K) _ _) from (pe_bm PySem.F.plainAttrs_list PySem.F.slot_list_count PySem.F.type_list_count (show MtR _ "list.count" (rCntF K) from mt_countF) (pv 1) (pa_cons pe_bl pa_nil))) pe_int (nomark _)) (pw_or1 (pt_cmpR (op_neD hu) (pv 2) (pv 3) (nomark _))))) (pss_one (ps_ret (pe_tup (pa_cons pe_str pa_nil)))) pss_nil)
      (pss_cons (ps_set (i := 4) sc.nd rfl (Or.inl rfl) (pe_bm PySem.F.plainAttrs_list PySem.F.slot_list_index PySem.F.type_list_index mt_index (pv 1) (pa_cons pe_bl pa_nil)))
      (pss_cons (ps_if (pt_cmpR (op_neD hu) (pv 2) (pe_lst (pa_cons (pe_cmpR op_lt (pv 4) pe_int (nomark _)) (pa_cons (pe_cmpR op_eq (pv 4) pe_int (nomark _)) (pa_cons (pe_cmpR op_eq (pv 4) pe_int (nomark _)) pa_nil)))) (nomark _)) (pss_one (ps_ret (pe_tup (pa_cons pe_str pa_nil)))) pss_nil)
      (pss_cons (ps_set (i := 5) sc.nd rfl (Or.inl rfl) (pe_ix ix_list (pe_lst (pa_cons pe_str (pa_cons pe_str (pa_cons pe_str (pa_cons pe_str (pa_cons pe_str (pa_cons pe_str (pa_cons pe_str (pa_cons pe_str pa_nil))))))))) (pv 4) (fun _ _ => rfl)))
      (pss_cons (ps_if (pt_cmpR op_eq (pv 4) pe_int (nomark _)) (pss_one (ps_ret (pe_tup (pa_cons (pv 5) (pa_cons (pe_xfX (n := "index") FC.xf hz hf hp (pv 0)) pa_nil))))) pss_nil)
      (pss_one (ps_ret (pe_ifExp (pt_cmpR op_eq (pv 4) pe_int (nomark _)) (pe_tup (pa_cons (pv 5) (pa_cons (pe_xfX (n := "limit") FC.xf hz hf hp (pv 0)) pa_nil))) (pe_tup (pa_cons (pv 5) (pa_cons (pe_xfX (n := "given") FC.xf hz hf hp (pv 0)) pa_nil)))))))))))))))), ?_⟩
    refine ⟨_, rfl, _, _, _, _, rfl, .own _, ed, FC.k0, ?_⟩
    refine ⟨_, rfl, _, _, _, _, rfl, .own _, ed, FC.k1, ?_⟩
    refine ⟨_, rfl, _, _, _, _, rfl, .own _, ed, FC.k2, ?_⟩
    refine ⟨Nat.le_of_ble_eq_true rfl, ?_⟩
    (intro a1 na1; generalize e_a1 : upd H a1 _ = H1; have s1 : Same H H1 := fun b x hb => (congrFun e_a1 b).symm.trans (same_new na1 b x hb); have h1 := (congrFun e_a1 a1).symm.trans upd_same; clear e_a1)
    refine ⟨_, rfl, ?_⟩
    refine ⟨_, rfl, _, _, _, _, rfl, .own _, (s1 _ _ ed), FC.k3, ?_⟩
    refine ⟨_, rfl, _, _, _, _, rfl, .own _, (s1 _ _ ed), FC.k4, ?_⟩
    refine ⟨_, rfl, _, _, _, _, rfl, .own _, (s1 _ _ ed), FC.k5, ?_⟩
    refine ⟨Nat.le_of_ble_eq_true rfl, ?_⟩
    (intro a2 na2; generalize e_a2 : upd H1 a2 _ = H2; have s2 : Same H1 H2 := fun b x hb => (congrFun e_a2 b).symm.trans (same_new na2 b x hb); have h2 := (congrFun e_a2 a2).symm.trans upd_same; clear e_a2)
    have t2 := s1.trans s2
    refine ⟨_, _, _, _, rfl, rfl, (s2 _ _ h1), h2, Nat.le_of_ble_eq_true rfl, ?_⟩
    (intro a3 na3; generalize e_a3 : upd H2 a3 _ = H3; have s3 : Same H2 H3 := fun b x hb => (congrFun e_a3 b).symm.trans (same_new na3 b x hb); have h3 := (congrFun e_a3 a3).symm.trans upd_same; clear e_a3)
    have t3 := t2.trans s3
    refine ⟨_, rfl, ?_⟩
    refine ⟨_, rfl, _, _, _, _, rfl, .own _, (t3 _ _ ed), FC.k6, ?_⟩
    refine ⟨_, rfl, _, _, _, _, rfl, .own _, (t3 _ _ ed), FC.k7, ?_⟩
    refine ⟨Nat.le_of_ble_eq_true rfl, ?_⟩
    (intro a4 na4; generalize e_a4 : upd H3 a4 _ = H4; have s4 : Same H3 H4 := fun b x hb => (congrFun e_a4 b).symm.trans (same_new na4 b x hb); have h4 := (congrFun e_a4 a4).symm.trans upd_same; clear e_a4)
    have t4 := t3.trans s4
    refine ⟨_, _, _, _, rfl, rfl, (s4 _ _ h3), h4, Nat.le_of_ble_eq_true rfl, ?_⟩
    (intro a5 na5; generalize e_a5 : upd H4 a5 _ = H5; have s5 : Same H4 H5 := fun b x hb => (congrFun e_a5 b).symm.trans (same_new na5 b x hb); have h5 := (congrFun e_a5 a5).symm.trans upd_same; clear e_a5)
    have t5 := t4.trans s5
    refine ⟨_, rfl, _, _, _, _, rfl, .own _, (t5 _ _ ed), FC.u1, ?_⟩
    refine ⟨_, rfl, _, _, _, _, rfl, .own _, (t5 _ _ ed), FC.u2, ?_⟩
    refine ⟨_, rfl, _, _, _, _, rfl, .own _, (t5 _ _ ed), FC.u3, ?_⟩
    refine ⟨Nat.le_of_ble_eq_true rfl, ?_⟩
    (intro a6 na6; generalize e_a6 : upd H5 a6 _ = H6; have s6 : Same H5 H6 := fun b x hb => (congrFun e_a6 b).symm.trans (same_new na6 b x hb); have h6 := (congrFun e_a6 a6).symm.trans upd_same; clear e_a6)
    have t6 := t5.trans s6
    refine ⟨_, rfl, _, _, _, _, rfl, .ty _, (t6 _ _ ed), FC.b1, ?_⟩
    refine ⟨_, rfl, _, _, _, _, rfl, .ty _, (t6 _ _ ed), FC.b2, ?_⟩
    refine ⟨_, rfl, _, _, _, _, rfl, .ty _, (t6 _ _ ed), FC.b3, ?_⟩
    refine ⟨Nat.le_of_ble_eq_true rfl, ?_⟩
    (intro a7 na7; generalize e_a7 : upd H6 a7 _ = H7; have s7 : Same H6 H7 := fun b x hb => (congrFun e_a7 b).symm.trans (same_new na7 b x hb); have h7 := (congrFun e_a7 a7).symm.trans upd_same; clear e_a7)
    have t7 := t6.trans s7
    have e5 := (s7 _ _ (s6 _ _ h5))
    refine ⟨_, rfl, .inl ⟨rfl, _, SqL.lst e5⟩, a5, _, _, rfl, rfl, SqL.lst e5, rfl, fault_flat i, ?_⟩
    rw [fault_cnt i hi]
    refine ⟨rfl, _, rfl, ?_⟩
    refine iteF ?_
    have e6 := s7 _ _ h6
    have q1 := bools_eqv (decide (i < 6)) (decide (i = 6)) (decide (i = 7))
    refine ⟨_, rfl, _, rfl, _, _, .lst (SqL.lst e6) (bools_dp [decide (i < 6), decide (i = 6), decide (i = 7)]), .lst (SqL.lst h7) (bools_dp [decide (i < 6), decide (i = 6), decide (i = 7)]), q1.1, q1.1, ?_⟩
    rw [show PyData.eqv (.list ([decide (i < 6), decide (i = 6), decide (i = 7)].map PyData.bool)) (.list ([decide (i < 6), decide (i = 6), decide (i = 7)].map PyData.bool)) = true from q1.2]
    refine ⟨_, rfl, ?_⟩
    refine iteF ?_
    refine ⟨_, rfl, .inl ⟨rfl, _, SqL.lst e5⟩, a5, _, _, i, _, rfl, rfl, SqL.lst e5, rfl, fault_flat i, fault_at i hi, rfl, fun m z hm hz => fault_low hi hm hz, ?_⟩
    refine ⟨_, rfl, _, rfl, _, _, rfl, rfl, _, rfl, rfl, _, rfl, rfl, Nat.le_of_ble_eq_true rfl, ?_⟩
    (intro a8 na8; generalize e_a8 : upd H7 a8 _ = H8; have s8 : Same H7 H8 := fun b x hb => (congrFun e_a8 b).symm.trans (same_new na8 b x hb); have h8 := (congrFun e_a8 a8).symm.trans upd_same; clear e_a8)
    rw [fault_under i] at h8
    refine ⟨_, _, .lst (SqL.lst (s8 _ _ e6)) (bools_dp [decide (i < 6), decide (i = 6), decide (i = 7)]), .lst (SqL.lst h8) (bools_dp [decide (i < 6), decide (i = 6), decide (i = 7)]), q1.1, q1.1, ?_⟩
    rw [show PyData.eqv (.list ([decide (i < 6), decide (i = 6), decide (i = 7)].map PyData.bool)) (.list ([decide (i < 6), decide (i = 6), decide (i = 7)].map PyData.bool)) = true from q1.2]
    refine ⟨_, rfl, ?_⟩
    refine iteF ?_
    refine ⟨Nat.le_of_ble_eq_true rfl, ?_⟩
    (intro a9 na9; generalize e_a9 : upd H8 a9 _ = H9; have s9 : Same H8 H9 := fun b x hb => (congrFun e_a9 b).symm.trans (same_new na9 b x hb); have h9 := (congrFun e_a9 a9).symm.trans upd_same; clear e_a9)
    refine ⟨_, rfl, a9, _, _, _, rfl, rfl, SqL.lst h9, fault_word hi, ?_⟩
    have t9 : Same H H9 := (t7.trans s8).trans s9
    have ed9 := t9 _ _ ed
    have fno := FC.no
    have fin : ∀ fl, faultField i = fl → ∀ Q' : VK, (∀ t H', Same H H' → H t = none → H' t = some (.tup [.str (faultWord i), y]) → Q' (.ref t) H') → tTup (tCons (tVar 5) (tCons (tXfX K D p.1 dd fl (tVar 0)) tNil)) [some (.ref p.1), some (.ref a5), some (.ref a6), some (.ref a7), some (.int (i : Int)), some (.str (faultWord i))] H9 Q' := fun fl efl Q' kk => by
      rw [← efl]
      refine ⟨_, rfl, _, rfl, rfl, fno, _, y, ed9, by simp [List.lookup], Nat.le_of_ble_eq_true rfl, ?_⟩
      (intro tt ntt; generalize e_tt : upd H9 tt _ = H10; have s10 : Same H9 H10 := fun b x hb => (congrFun e_tt b).symm.trans (same_new ntt b x hb); have h10 := (congrFun e_tt tt).symm.trans upd_same; clear e_tt)
      exact kk tt H10 (t9.trans s10) (t9.free ntt) h10
    refine ⟨_, rfl, rfl, _, rfl, ?_⟩
    refine ifD (fun h5 => ?_) (fun h5 => ?_)
    · have e5' : i = 5 := by injection h5; omega
      exact fin "index" (by rw [e5']; rfl) Q k
    · refine ⟨_, rfl, rfl, _, rfl, ?_⟩
      have n5 : i ≠ 5 := fun z => h5 (by rw [z]; rfl)
      refine ifD (fun h7 => ?_) (fun h7 => ?_)
      · have e7' : i = 7 := by injection h7; omega
        exact fin "limit" (by rw [e7']; rfl) Q k
      · have n7 : i ≠ 7 := fun z => h7 (by rw [z]; rfl)
        exact fin "given" (by unfold faultField; rw [if_neg n5, if_neg n7]) Q k
end
end LM

set_option Elab.async false
set_option linter.all false
set_option maxRecDepth 100000
set_option maxHeartbeats 4000000
set_option pp.maxSteps 600
set_option pp.deepTerms false
/-! _law_tried(lambda: ..) -/
namespace LM
open PySem PySem.Spec PyProof.Rows L2 RZ LamX
local macro_rules | `(tactic| walk_at "hp") => `(tactic| first | assumption | exact upd_same | (rw [upd_ne (by assumption)]; assumption) | (rw [upd_ne (Ne.symm (by assumption))]; assumption) | (rw [upd_ne (by assumption)]; exact upd_same) | (rw [upd_ne (Ne.symm (by assumption))]; exact upd_same))
local macro_rules | `(tactic| walk_at "sq") => `(tactic| first | assumption | exact Or.inl (Or.inl (by assumption)) | exact Or.inl (Or.inl upd_same) | exact Or.inl (Or.inl (by walk_at "hp")))
local macro_rules | `(tactic| walk_at "ixl") => `(tactic| refine ⟨_, _, _, _, rfl, rfl, (by walk_at "sq"), (by rfl), ?_⟩)
local macro_rules | `(tactic| walk_at "setl") => `(tactic| refine ⟨_, _, _, _, rfl, rfl, (by walk_at "hp"), (by rfl), ?_⟩)
local macro_rules | `(tactic| walk_at "side") => `(tactic| refine idP ?_; first | omega | (show (0 : Int) < _; omega) | (show (0 : Int) < _ ∧ _ < _; omega) | (refine Or.inr ?_; show (-(2 ^ 64) : Int) < _ ∧ _ < _; omega) | (refine Or.inl ?_; show (-(2 ^ 64) : Int) < _ ∧ _ < _; omega) | exact divW (by omega) (by omega) _ | (refine ⟨by decide, by decide, ?_⟩; decide))
local macro_rules | `(tactic| walk_at "go1") => `(tactic| first
  | refine ⟨_, rfl, ?_⟩
  | refine ⟨_, _, rfl, rfl, (by walk_at "side"), ?_⟩
  | refine ⟨_, _, rfl, (by walk_at "side"), ?_⟩
  | refine ⟨_, _, rfl, rfl, ?_⟩
  | refine Or.inl ⟨_, rfl, ?_⟩
  | refine ⟨_, _, rfl, Or.inl (by walk_at "sq"), ?_⟩
  | walk_at "ixl"
  | walk_at "setl"
  | refine ⟨_, _, rfl, (by walk_at "sq"), rfl, ?_⟩
  | refine ⟨_, _, rfl, (by walk_at "sq"), ?_⟩
  | refine ⟨_, _, rfl, ?_⟩
  | refine ⟨rfl, ?_⟩
  | refine ⟨small (Nat.le_of_ble_eq_true rfl), ?_⟩)
local macro_rules | `(tactic| walk_at "go") => `(tactic| repeat walk_at "go1")

theorem takes_lenT {X : Cx} {W : WX} (t : Takes X W) : Takes X (fun c d σ H => σ.length = X.N.length → W c d σ H) := fun u s' ⟨a, B, sI, pins, σ, H, cls, d, e, I, nb, up, sky, na, os, ag, w⟩ => t u s' ⟨a, B, sI, pins, σ, H, cls, d, e, I, nb, up, sky, na, os, ag, w I.len⟩
/-- what an act that is tried gives: ('told', v), or the error's word and what it tells -/
def TTf (K : PySem.W.Frag) (c0 c1 c2 c3 c4 c5 c6 c7 w1 w2 w3 : Addr) : (XK → Hp → VK → Prop) → Hp → VK → Prop := fun tl H Q =>
  tl (fun cls d H' => ∃ (D dd : Addr) (i : Nat) (y : V), FaultC K c0 c1 c2 c3 c4 c5 c6 c7 w1 w2 w3 D i ∧ i < 8 ∧ cls = .ref D ∧ d = some dd ∧ H' dd = some (.xd [(faultField i, y)]) ∧ ∀ t H2, Same H' H2 → H' t = none → H2 t = some (.tup [.str (faultWord i), y]) → Q (.ref t) H2) H
    (fun v H' => ∀ t H2, Same H' H2 → H' t = none → H2 t = some (.tup [.str "told", v]) → Q (.ref t) H2)
theorem tried_gives {X : Cx} {c0 c1 c2 c3 c4 c5 c6 c7 w1 w2 w3 gF g : Addr} {fdF : FuncData} {cdg : Value} {q : Str} {k : Nat} (FE : FnE X.prog X.w X.K X.mg X.base 1 gF fdF ["_law_e"] (spFault X.K c0 c1 c2 c3 c4 c5 c6 c7 w1 w2 w3)) (mF : X.mg "_law_fault" = some (.ref gF)) (kF : PySem.W.keepIn X.K (.ref gF) = true) (bF : Binds X.K fdF ["_law_e"] []) (M : Kin X.mg c0 c1 c2 c3 c4 c5 c6 c7 w1 w2 w3) (hr : Room (k + 2) X.A) :
    GivesTo X ["_law_act", "_law_found", "_law_e"] "_law_tried" (defScope s_law_tried) g cdg (defBody s_law_tried) "_law_act" q (TTf X.K c0 c1 c2 c3 c4 c5 c6 c7 w1 w2 w3) := by
  have sc := sc_law_tried
  intro f c' s H Q tl act hc h
  have hrd := hr.deeper (envOfC "_law_tried" (defScope s_law_tried) s.heap.objs.size g cdg)
  have hrE : L2H.RoomH 1 (X.A.deeper (envOfC "_law_tried" (defScope s_law_tried) s.heap.objs.size g cdg)) := ⟨by have := hrd.dp; omega, by have := hrd.un; omega⟩
  refine ⟨_, (pss_cons (ps_try_as3 (X := (cxOf C8.CX0 X.prog X.w X.K X.mg X.base ["_law_act", "_law_found", "_law_e"] "_law_tried" (defScope s_law_tried) g cdg X.A X.stack s H C8.E0).nox) (i := 2)
      (tb := fun W D σ H => ∃ (Ech : XK) (Qv : VK), (∀ cls d σ' H', Ech cls d H' → σ'.length = 3 → W cls d σ' H') ∧ σ[0]? = some (some (.ref f)) ∧ H c' = some (CodeO c' q) ∧ tl Ech H Qv ∧ ∀ v H', Qv v H' → D.nx (σ.set 1 (some v)) H')
      (ts := fun a cls d => fun D σ H => ∀ oe, Zc cls d oe → (∃ vs, oe.data = .fields vs) → tRet (fun σ H Q => tVar 2 σ H fun y H1 => spFault X.K c0 c1 c2 c3 c4 c5 c6 c7 w1 w2 w3 (a, oe) [y] H1 Q C8.E0) D σ H)
      rfl rfl sc.nd rfl rfl (by exact ⟨rfl, by decide, .inl M.WrongValue⟩) (by exact ⟨rfl, by decide, .inl M.WrongState⟩) (by exact ⟨rfl, by decide, .inl M.NoAnswer⟩) L2.takes0 (fun W pn xe tk _ => ?_)
      (fun a oe cls d pn hz hf => ⟨fun pins s' σ H' D I hh => (show PSs (Cx.suite ((cxOf C8.CX0 X.prog X.w X.K X.mg X.base ["_law_act", "_law_found", "_law_e"] "_law_tried" (defScope s_law_tried) g cdg X.A X.stack s H C8.E0).nox) a ((a, oe) :: pn)) _ (tRet (fun σ H Q => tVar 2 σ H fun y H1 => spFault X.K c0 c1 c2 c3 c4 c5 c6 c7 w1 w2 w3 (a, oe) [y] H1 Q C8.E0)) from pss_one (ps_ret (pe_callE (x := "_law_fault") (a := a) (oe := oe) (k := 1) FE ⟨hrE.dp, hrE.un⟩ List.mem_cons_self rfl mF kF bF (pv 2)))).run pins s' σ H' D I (hh oe hz hf)⟩))
      (pss_one (ps_ret (pe_tup (pa_cons pe_str (pa_cons (pv 1) pa_nil)))))), ?_⟩
  · refine ⟨fun pins s' σ H' D I ⟨Ech, Qv, hW, h1, h2, h3, hq⟩ => ?_⟩
    have hp : ∀ p1 p2, PE ((cxOf C8.CX0 X.prog X.w X.K X.mg X.base ["_law_act", "_law_found", "_law_e"] "_law_tried" (defScope s_law_tried) g cdg X.A X.stack s H C8.E0).tr pn xe) (.Call (.Name "_law_act" p1) [] [] p2) (fun σ H Q => σ[0]? = some (some (.ref f)) ∧ H c' = some (CodeO c' q) ∧ tl Ech H Qv ∧ ∀ v H', Qv v H' → Q v H') := fun p1 p2 =>
      ⟨fun pins s σ H Q I ⟨h1, h2, h3, hq⟩ => thn ((act _ pn xe Ech p1 p2 (takes_lenT tk) hW).run pins s σ H Qv I ⟨h1, h2, h3⟩) fun u s1 ⟨v, H1, I1, r, q⟩ => ⟨v, H1, I1, r, hq v H1 q⟩⟩
    exact (pss_one (ps_set (i := 1) sc.nd rfl (Or.inl rfl) (hp _ _))).run pins s' σ H' D I ⟨h1, h2, h3, hq⟩
  · refine ⟨_, _, fun cls d σ' H' hE hl => ?_, rfl, hc, h, fun v H' hv => ?_⟩
    · obtain ⟨D, dd, i, y, FC, hi, rfl, rfl, ed, kk⟩ := hE
      refine ⟨true, FC.tr, fun _ a ha oe hz hf => ?_, (fun z => nomatch z)⟩
      refine ⟨_, by rw [List.getElem?_set_self (by omega)], D, dd, i, y, rfl, hz, hf, FC, hi, ed, fun t H2 s2 n2 e2 => ?_⟩
      exact kk t H2 s2 n2 e2
    · refine ⟨_, rfl, Nat.le_of_ble_eq_true rfl, ?_⟩
      (intro t nt; generalize e_t : upd H' t _ = H2; have s2' : Same H' H2 := fun b x hb => (congrFun e_t b).symm.trans (same_new nt b x hb); have h2' := (congrFun e_t t).symm.trans upd_same; clear e_t)
      exact hv t H2 s2' nt h2'
/-- _law_tried(lambda: body) -/
theorem pe_tried {X : Cx} {c0 c1 c2 c3 c4 c5 c6 c7 w1 w2 w3 gF g c P : Addr} {fdF fdC : FuncData} {T : List (Addr × Str)} {params : Arguments} {body : Expr} {scope : Scope} {t : XK → TE} {p lpos pos : Pos} (FC : Fun X.K "_law_tried" "_law_tried" s_law_tried g fdC) (bC : Binds X.K fdC ["_law_act"] []) (mC : X.mg "_law_tried" = some (.ref g))
    (FE : FnE X.prog X.w X.K X.mg X.base 1 gF fdF ["_law_e"] (spFault X.K c0 c1 c2 c3 c4 c5 c6 c7 w1 w2 w3)) (mF : X.mg "_law_fault" = some (.ref gF)) (kF : PySem.W.keepIn X.K (.ref gF) = true) (bF : Binds X.K fdF ["_law_e"] []) (M : Kin X.mg c0 c1 c2 c3 c4 c5 c6 c7 w1 w2 w3)
    (hg : Gl X "_law_tried") (TB : LamX.TabB X.base X.mg c P) (hcode : X.env.code = .ref c) (hm : (P, X.env.qual ++ "<lambda>") ∈ T) (hun : ∀ p ∈ T, p.1 = P → p.2 = X.env.qual ++ "<lambda>") (hr : Room 12 X.A) (L : LamX.LamS X.env.scope scope) (hdef : defaultsOf params X.env = ([], []))
    (hbind : ∀ (q : Str) (cl : List (Str × Addr)) (pm cv ctv : Value), bindArgs (PySem.W.kla_fn "<lambda>" q params body scope cl pm cv ctv) ⟨[], []⟩ = pure [])
    (hbody : ∀ (A : Around) (outer : List Env) (s : Shared) (H : Hp) (E : XK) (f c' : Addr), Room 10 (A.deeper (LamX.lamEnv X scope s.heap.objs.size f c')) → PE (LamX.lamCx X A outer s H E scope f c') body (t E)) :
    PE X (.Call (.Name "_law_tried" p) [.Lambda params body scope lpos] [] pos) (LamX.tLam T (TTf X.K c0 c1 c2 c3 c4 c5 c6 c7 w1 w2 w3) t) := by
  obtain ⟨oc, od, kV, doc, pm, an, cdv, ct, osl, rfl, lk, hcg⟩ := FC.ex
  exact LamX.pe_lamcall (k := 10) hg mC FC.kp lk hcg bC sc_law_tried rfl (Or.inl rfl) (tried_gives (k := 10) FE mF kF bF M hr) TB hcode hm hun hr L hdef hbind hbody
end LM

set_option Elab.async false
set_option linter.all false
set_option maxRecDepth 100000
set_option maxHeartbeats 4000000
/-! repr of lists and tuples that hold instances -/
namespace LM
open PySem PySem.Spec PyProof.Rows L2 PySem.Builtin
/-! ### what is shown -/
/-- an address within a value -/
inductive Rch (H : Hp) : V → Addr → Prop
  | here {a : Addr} : Rch H (.ref a) a
  | lst {a b : Addr} {xs : List V} {x : V} (h : H a = some (.lst xs)) (m : x ∈ xs) (r : Rch H x b) : Rch H (.ref a) b
  | tup {a b : Addr} {xs : List V} {x : V} (h : H a = some (.tup xs)) (m : x ∈ xs) (r : Rch H x b) : Rch H (.ref a) b
inductive Leaf (ow : Addr → Str → Prop) (H : Hp) : V → Str → Prop
  | non : Leaf ow H .non "None"
  | bl (b : Bool) : Leaf ow H (.bl b) (if b then "True" else "False" : String)
  | int (i : Int) (h : i.natAbs.log2 < 1920) : Leaf ow H (.int i) (toString i)
  | str (x : Str) (h : (reprText x).length ≤ sizeLine) : Leaf ow H (.str x) (reprText x)
  | own {a C dx : Addr} {fs : List (Str × V)} {t : Str} (h : H a = some (.ins C dx fs)) (o : ow a t) : Leaf ow H (.ref a) t
  | nil {a : Addr} (h : H a = some (.lst [])) : Leaf ow H (.ref a) "[]"
  | dic {a : Addr} (h : H a = some (.dK [])) : Leaf ow H (.ref a) "{}"
/-- the value v is shown as t, at most n levels deep -/
def Shw (ow : Addr → Str → Prop) (H : Hp) : Nat → V → Str → Prop
  | 0, v, t => Leaf ow H v t
  | n + 1, v, t => Leaf ow H v t ∨ (∃ a x xs ts, v = .ref a ∧ H a = some (.lst (x :: xs)) ∧ Paired (Shw ow H n) (x :: xs) ts ∧ t = listText ts) ∨ (∃ a xs ts, v = .ref a ∧ H a = some (.tup xs) ∧ Paired (Shw ow H n) xs ts ∧ t = tupleText ts)
theorem pair_mem {α β : Type} {R : α → β → Prop} : ∀ {xs : List α} {ys : List β}, Paired R xs ys → ∀ x ∈ xs, ∃ y, R x y
  | _, _, .nil, _, h => nomatch h
  | _, _, .cons r rs, x, h => by
    rcases List.mem_cons.mp h with rfl | h
    · exact ⟨_, r⟩
    · exact pair_mem rs x h
theorem shw_step {ow : Addr → Str → Prop} {H : Hp} {n : Nat} {a : Addr} {t : Str} {xs : List V} (h : Shw ow H n (.ref a) t) (hx : H a = some (.lst xs) ∨ H a = some (.tup xs)) {x : V} (hm : x ∈ xs) : ∃ m, n = m + 1 ∧ ∃ t', Shw ow H m x t' := by
  have lf : ¬ Leaf ow H (.ref a) t := fun l => by
    cases l with
    | own h' _ => rcases hx with hx | hx <;> (rw [h'] at hx; cases hx)
    | nil h' =>
      rcases hx with hx | hx
      · rw [h'] at hx
        cases hx
        cases hm
      · rw [h'] at hx
        cases hx
    | dic h' => rcases hx with hx | hx <;> (rw [h'] at hx; cases hx)
  cases n with
  | zero => exact absurd h lf
  | succ n =>
    refine ⟨n, rfl, ?_⟩
    rcases h with h | ⟨a', y, ys, ts, e, h1, h2, _⟩ | ⟨a', ys, ts, e, h1, h2, _⟩
    · exact absurd h lf
    · cases e
      rcases hx with hx | hx
      · rw [h1] at hx
        cases hx
        exact pair_mem h2 x hm
      · rw [h1] at hx
        cases hx
    · cases e
      rcases hx with hx | hx
      · rw [h1] at hx
        cases hx
      · rw [h1] at hx
        cases hx
        exact pair_mem h2 x hm
theorem shw_rch {ow : Addr → Str → Prop} {H : Hp} {v : V} {b : Addr} (r : Rch H v b) : ∀ {n : Nat} {t : Str}, Shw ow H n v t → ∃ m, m ≤ n ∧ ∃ t', Shw ow H m (.ref b) t' := by
  induction r with
  | here => exact fun {n t} h => ⟨n, Nat.le_refl _, t, h⟩
  | lst h m _ ih =>
    intro n t hs
    obtain ⟨k, rfl, t', h'⟩ := shw_step hs (.inl h) m
    obtain ⟨j, hj, t2, h2⟩ := ih h'
    exact ⟨j, by omega, t2, h2⟩
  | tup h m _ ih =>
    intro n t hs
    obtain ⟨k, rfl, t', h'⟩ := shw_step hs (.inr h) m
    obtain ⟨j, hj, t2, h2⟩ := ih h'
    exact ⟨j, by omega, t2, h2⟩
/-- nothing lies within itself -/
theorem shw_apart {ow : Addr → Str → Prop} {H : Hp} {a : Addr} {xs : List V} (hx : H a = some (.lst xs) ∨ H a = some (.tup xs)) {x : V} (hm : x ∈ xs) (r : Rch H x a) : ∀ (n : Nat) {t : Str}, Shw ow H n (.ref a) t → False := by
  intro n
  induction n using Nat.strongRecOn with
  | _ n ih =>
    intro t h
    obtain ⟨m, rfl, t', h'⟩ := shw_step h hx hm
    obtain ⟨j, hj, t2, h2⟩ := shw_rch r h'
    exact ih j (by omega) h2
/-! ### how it is shown -/
section
variable (X : Cx) (pins : List (Addr × Obj)) (σ : L2.St)
def RepI (k : Nat) (H : Hp) (x : V) (t : Str) : Prop := ∀ (base : Nat), base + t.length ≤ sizeLine → ∀ (u : Value), RelV x u → ∀ (A : Around) (g : List Code) (E : Value → Shared → Prop) (s : Shared) (Hc : Hp) (Q : Str → Shared → Prop),
  A.guards = some g → (∀ b, Rch H x b → Clear g b) → Room k A → A.frames = some X.stack → Same H Hc → Inv X pins σ Hc s → (∀ H2 s2, Same Hc H2 → Inv X pins σ H2 s2 → Q t s2) → wpAny (model X.prog X.w) A (pyReprUnder base u) Q E s
/-- how an instance shows itself -/
def OwnI (k : Nat) (ow : Addr → Str → Prop) (H : Hp) : Prop := ∀ (a : Addr) (t : Str), ow a t → ∀ (A : Around) (E : Value → Shared → Prop) (s : Shared) (Hc : Hp) (Q : Value → Shared → Prop),
  Room k A → A.frames = some X.stack → Same H Hc → Inv X pins σ Hc s → (∀ H2 s2 u, Same Hc H2 → Inv X pins σ H2 s2 → Q (.str t u) s2) → ∀ base, base + t.length ≤ sizeLine → wpAny (model X.prog X.w) A (pyReprObjUnder base (.ref a)) Q E s
end
section
variable {X : Cx} {pins : List (Addr × Obj)} {σ : L2.St}
theorem under_loop {A : Around} {args : Args} : (A.under (.builtin "list.__repr__.loop" args)).frames = A.frames ∧ (A.under (.builtin "list.__repr__.loop" args)).units = A.units + 1 ∧ (A.under (.builtin "list.__repr__.loop" args)).depth ≤ A.depth + 1 := by
  refine ⟨?_, units_under_list_loop _ _, ?_⟩
  · cases h : A.frames <;> first | rfl | simp [Around.under, Code.envs, Code.isFrame, pushEnvs, h]
  · first | exact Nat.le_refl _ | simp [Around.under, Code.weight, Code.isCreation, Code.isGuard, Code.isCaller, Code.frames, Code.isFrame, guardIds]
theorem under_tup {A : Around} {args : Args} : (A.under (.builtin "tuple.__repr__" args)).frames = A.frames ∧ (A.under (.builtin "tuple.__repr__" args)).units = A.units + 1 ∧ (A.under (.builtin "tuple.__repr__" args)).depth ≤ A.depth + 1 := by
  refine ⟨?_, units_under_tuple_repr _ _, ?_⟩
  · cases h : A.frames <;> first | rfl | simp [Around.under, Code.envs, Code.isFrame, pushEnvs, h]
  · first | exact Nat.le_refl _ | simp [Around.under, Code.weight, Code.isCreation, Code.isGuard, Code.isCaller, Code.frames, Code.isFrame, guardIds]
theorem under_tupU {A : Around} {args : Args} : (A.under (.builtin "tuple.__repr__.under" args)).frames = A.frames ∧ (A.under (.builtin "tuple.__repr__.under" args)).units = A.units + 1 ∧ (A.under (.builtin "tuple.__repr__.under" args)).depth ≤ A.depth + 1 := by
  refine ⟨?_, units_under_tuple_repr_under _ _, ?_⟩
  · cases h : A.frames <;> first | rfl | simp [Around.under, Code.envs, Code.isFrame, pushEnvs, h]
  · first | exact Nat.le_refl _ | simp [Around.under, Code.weight, Code.isCreation, Code.isGuard, Code.isCaller, Code.frames, Code.isFrame, guardIds]
theorem room_up {A A' : Around} {k : Nat} (r : Room (k + 1) A) (hh : A'.handled = A.handled) (hu : A'.units = A.units + 1) (hd : A'.depth ≤ A.depth + 1) : Room k A' := ⟨hh.trans r.hd, by have := r.dp; omega, by have := r.un; omega⟩
theorem RepI.of_is {k : Nat} {H : Hp} {x : V} {t : Str} (h : ∀ u, RelV x u → ReprIs X.prog X.w u t) : RepI X pins σ k H x t := fun base hb u ru A g E s Hc Q _ _ _ _ sm I q => h u ru base hb A E s Q fun tk => q Hc _ (Same.refl _) (I.tok tk)
theorem Inv.dic0 {H : Hp} {s : Shared} {a : Addr} (I : Inv X pins σ H s) (h : H a = some (.dK [])) : ∃ (o : Obj) (n : Nat), s.heap.get? a = some o ∧ o.cls = .type "dict" ∧ o.data = .dict #[] n ∧ (a == sysModules) = false := by
  obtain ⟨_, hs, vs, kv, o, es, ep, ho, hx, hd, _, pr, _⟩ := I.hok a _ h
  cases kv
  have he : es.toList = [] := by
    cases e : es.toList with
    | nil => rfl
    | cons z l =>
      rw [e] at pr
      cases pr
  have : es = #[] := by
    obtain ⟨l⟩ := es
    simp only at he
    rw [he]
  subst this
  exact ⟨o, ep, ho, hx.1, hd, hs⟩
theorem rep_leaf {k : Nat} {ow : Addr → Str → Prop} {H : Hp} (ho : OwnI X pins σ k ow H) {x : V} {t : Str} (h : Leaf ow H x t) : RepI X pins σ k H x t := by
  cases h with
  | non =>
    refine .of_is fun u ru => ?_
    obtain rfl : u = Value.none := ru
    exact ReprIs.none
  | bl b =>
    refine .of_is fun u ru => ?_
    obtain rfl : u = Value.bool b := ru
    have := ReprIs.bool (prog := X.prog) (w := X.w) b
    cases b <;> exact this
  | int i hi =>
    refine .of_is fun u ru => ?_
    obtain ⟨tk, rfl⟩ : ∃ tk, u = Value.int i tk := ru
    exact ReprIs.int tk hi
  | str y hy =>
    refine .of_is fun u ru => ?_
    obtain ⟨tk, rfl⟩ : ∃ tk, u = Value.str y tk := ru
    exact ReprIs.str y tk hy
  | @own a C dx fs t e o =>
    intro base hb u ru A g E s Hc Q hg hcl hr hf sm I q
    obtain rfl : u = Value.ref a := ru
    exact wpAny_pyReprUnder_ref (by omega) (ho a t o A E s Hc _ hr hf sm I (fun H2 s2 u sm2 I2 => ⟨_, _, rfl, q H2 s2 sm2 I2⟩) base hb)
  | @nil a e =>
    intro base hb u ru A g E s Hc Q hg hcl hr hf sm I q
    obtain rfl : u = Value.ref a := ru
    obtain ⟨_, its, n, r, _, e2⟩ := I.lstM (sm _ _ e)
    cases r
    exact wpAny_pyReprUnder_ref (by omega) (wpAny_pyReprObjUnder_list_empty ⟨_, e2, rfl⟩ hr.units0 e2 rfl ⟨_, _, rfl, q Hc _ (Same.refl _) (I.tok _)⟩)
  | @dic a e =>
    intro base hb u ru A g E s Hc Q hg hcl hr hf sm I q
    obtain rfl : u = Value.ref a := ru
    obtain ⟨o, n, e1, e2, e3, e4⟩ := Inv.dic0 I (sm _ _ e)
    have key := ReprK.dict (prog := X.prog) (w := X.w) (as := []) (h₀ := s.heap) (d := 0) (ps := []) e1 e2 e3 e4 (fun z => nomatch z) (by exact .nil)
    have et : dictText [] = ("{}" : Str) := by decide +kernel
    rw [et] at key
    exact key base hb A g E s Q hg (fun b hb => by
      obtain rfl := List.mem_singleton.mp hb
      exact hcl _ .here) (by have := hr.units; omega) (fun _ _ z => z) fun h' tk hk => q Hc _ (Same.refl _) (I.kept hk)
end
end LM

set_option Elab.async false
set_option linter.all false
set_option maxRecDepth 100000
set_option maxHeartbeats 4000000
/-! repr of lists and tuples that hold instances: the two loops -/
namespace LM
open PySem PySem.Spec PyProof.Rows L2 PySem.Builtin PySem.Builtin.List
section
variable {X : Cx} {pins : List (Addr × Obj)} {σ : L2.St}
theorem pair_get {α β : Type} {R : α → β → Prop} : ∀ {xs : List α} {ys : List β} {i : Nat} {x : α}, Paired R xs ys → xs[i]? = some x → ∃ y, ys[i]? = some y ∧ R x y
  | _, _, _, _, .nil, h => by simp at h
  | _, _, 0, _, .cons r _, h => by
    simp at h
    subst h
    exact ⟨_, rfl, r⟩
  | _, _, i + 1, _, .cons _ t, h => by
    obtain ⟨y, h1, h2⟩ := pair_get (i := i) t (by simpa using h)
    exact ⟨y, by simpa using h1, h2⟩
theorem vals_str : ∀ {ts : List Str} {its : List Value}, Vals (ts.map V.str) its → ∃ done : List (Str × Tok), its = strValues done ∧ done.map (·.1) = ts
  | [], _, h => by
    cases h
    exact ⟨[], rfl, rfl⟩
  | t :: ts, _, h => by
    cases h with
    | cons r rs =>
      obtain ⟨tk, rfl⟩ := r
      obtain ⟨d, rfl, e⟩ := vals_str rs
      exact ⟨(t, tk) :: d, rfl, by rw [List.map_cons, e]⟩
/-- the loop of list.__repr__ -/
theorem loopI {H H0 : Hp} {k : Nat} {a P : Addr} {xs : List V} {ts : List Str} {g : List Code} {A : Around} {base : Nat} {R : Result → Shared → Prop} (ha : H a = some (.lst xs)) (sm0 : Same H H0) (hP : H0 P = none) (hg : A.guards = some g) (hcl : ∀ x ∈ xs, ∀ b, Rch H x b → Clear g b ∧ a ≠ b) (hr : Room (k + 1) A) (hf : A.frames = some X.stack)
    (hp : Paired (RepI X pins σ k H) xs ts) (hsz : base + (listText ts).length ≤ sizeLine)
    (hR : ∀ H2 s2 u, Same H0 H2 → Inv X pins σ H2 s2 → R (.ok (.ret (.str (listText ts) u))) s2) :
    ∀ (n i : Nat) (Hc : Hp) (s : Shared), xs.length - i = n → i ≤ xs.length → Same H0 Hc → Inv X pins σ Hc s → Hc P = some (.lst ((ts.take i).map V.str)) →
    codeAny (model X.prog X.w) A (.builtin "list.__repr__.loop" ⟨[.ref a, rawInt i, .ref P, rawInt ((base + piled (ts.take i) : Nat) : Int)], []⟩) R s := by
  have hlen : xs.length = ts.length := Paired.length hp
  have hX : (listText ts).length = (textFrom 0 "[" ts).length + 1 := by
    show (textFrom 0 "[" ts ++ "]").length = _
    rw [strLen_append]; rfl
  have hL := textFrom_len ts 0 "["
  have hsz2 : ∀ t ∈ ts, t.length ≤ sizeLine := fun t ht => by
    have h2 := hL.2.1 t ht
    omega
  have hp3 := piled_le_listText ts
  have hsz1 : ts.length ≤ sizeLine := by
    have h1 := hL.1
    rw [if_neg (Nat.lt_irrefl 0)] at h1
    omega
  intro n
  induction n with
  | zero =>
    intro i Hc s hk hi sm I eP
    have hin : i = xs.length := by omega
    obtain ⟨_, its, na, rv, lv, ea⟩ := I.lstM (sm _ _ (sm0 _ _ ha))
    obtain ⟨_, itp, np, rp, lp, ep⟩ := I.lstM eP
    refine codeAny_builtin F.entry_list_repr_loop ?_
    show wpAny _ _ («list.__repr__.loop» ⟨[.ref a, .int i 0, .ref P, .int ((base + piled (ts.take i) : Nat) : Int) 0], []⟩) _ _ s
    rw [repr_loop_tree]
    refine wpAny_bind (wpAny_listItems ea rfl ?_)
    have hnone : its.toArray[(i : Int).toNat]? = none := by
      rw [hin, lv]
      simp
    simp only [hnone]
    unfold reprEnd
    refine wpAny_bind (wpAny_listItems ep rfl ?_)
    obtain ⟨done, rfl, ed⟩ := vals_str rp
    have e3 : (strValues done).toArray.toList = strValues done := rfl
    rw [e3, repr_fold]
    refine wpAny_bind (wpAny_pure ?_)
    have hall : done.map (·.1) = ts := by rw [ed, hin, hlen, List.take_length]
    rw [hall]
    refine wpAny_bind (wpAny_mkStr (wpAny_pure ?_) (show (listText ts).length ≤ sizeLine by omega))
    exact hR Hc _ _ sm (I.tok _)
  | succ n ih =>
    intro i Hc s hk hi sm I eP
    have hlt : i < xs.length := by omega
    obtain ⟨_, its, na, rv, lv, ea⟩ := I.lstM (sm _ _ (sm0 _ _ ha))
    have ex : xs[i]? = some xs[i] := List.getElem?_eq_getElem hlt
    obtain ⟨t, ht, hrep⟩ := pair_get hp ex
    obtain ⟨u, hu, ru⟩ := Vals.get rv ex
    have hp1 := piled_take_succ ht
    have hp2 := piled_take_le ts (i + 1)
    refine codeAny_builtin F.entry_list_repr_loop ?_
    show wpAny _ _ («list.__repr__.loop» ⟨[.ref a, .int i 0, .ref P, .int ((base + piled (ts.take i) : Nat) : Int) 0], []⟩) _ _ s
    rw [repr_loop_tree]
    refine wpAny_bind (wpAny_listItems ea rfl ?_)
    have hsome : its.toArray[(i : Int).toNat]? = some u := by
      rw [Int.toNat_natCast, List.getElem?_toArray]
      exact hu
    simp only [hsome]
    rw [Int.toNat_natCast]
    have U := under_loop (A := A) (args := ⟨[.ref a, .int i 0, .ref P, .int ((base + piled (ts.take i) : Nat) : Int) 0], []⟩)
    refine wpAny_bind (wpAny_holding (hrep (base + piled (ts.take i) + 1) (by omega) u ru _ _ _ _ Hc _ (guards_under_guard (isGuard_list_loop _) hg) (fun b hb => (hcl _ (List.getElem_mem hlt) b hb).1.cons (a := a) (hcl _ (List.getElem_mem hlt) b hb).2)
      (room_up hr rfl U.2.1 U.2.2) (U.1.trans hf) (sm0.trans sm) I fun H2 s2 sm2 I2 => ?_))
    refine wpAny_bind (wpAny_mkStr ?_ (hsz2 t (List.mem_of_getElem? ht)))
    refine wpAny_bind ?_
    show wpAny _ _ (updateSeq P _) _ _ _
    have eP2 := sm2 _ _ eP
    obtain ⟨zp, itp, np, rp, lp, ep⟩ := I2.lstM eP2
    have hlp : itp.length = i := by
      rw [← lp, List.length_map, List.length_take]
      omega
    refine wpAny_updateSeq ep rfl (wpAny_pure ⟨F.quiet_list_repr_loop _, ?_⟩) (by rw [List.size_toArray]; omega)
    have e1 : ((i : Int) + 1) = ((i + 1 : Nat) : Int) := by omega
    have e2 : base + piled (ts.take i) + (t.length + 2) = base + piled (ts.take (i + 1)) := by omega
    rw [e1, e2]
    have et : (ts.take (i + 1)).map V.str = (ts.take i).map V.str ++ [V.str t] := by rw [List.take_add_one, ht, List.map_append]; rfl
    have I3 := I2.tok (s2.toks + 1)
    refine ih (i + 1) (upd H2 P (.lst ((ts.take (i + 1)).map V.str))) _ (by omega) hlt (fun b o e => ?_) (Inv.lset (its' := itp ++ [.str t s2.toks]) I3 eP2 ep (by simp) (by rw [et]; exact rp.append (.cons ⟨_, rfl⟩ .nil)) (by rw [List.length_map, List.length_take]; omega)) upd_same
    by_cases hb : b = P
    · rw [hb, hP] at e
      cases e
    · rw [upd_ne hb]
      exact sm2 _ _ (sm _ _ e)
/-- list.__repr__ -/
theorem list_atI {H Hc : Hp} {k : Nat} {a : Addr} {x : V} {xs : List V} {ts : List Str} {g : List Code} {A : Around} {base : Nat} {R : Result → Shared → Prop} {s : Shared} (ha : H a = some (.lst (x :: xs))) (hg : A.guards = some g) (hca : Clear g a) (hcl : ∀ y ∈ x :: xs, ∀ b, Rch H y b → Clear g b ∧ a ≠ b)
    (hr : Room (k + 1) A) (hf : A.frames = some X.stack) (hp : Paired (RepI X pins σ k H) (x :: xs) ts) (hsz : base + (listText ts).length ≤ sizeLine) (sm : Same H Hc) (I : Inv X pins σ Hc s)
    (hR : ∀ H2 s2 u, Same Hc H2 → Inv X pins σ H2 s2 → R (.ok (.ret (.str (listText ts) u))) s2) :
    wpAny (model X.prog X.w) A.in1 (Builtin.listReprAt base ⟨[.ref a], []⟩) (fun fin s' => match fin with | .done f => R (.ok f) s' | .again c' => c'.quiet = true ∧ codeAny (model X.prog X.w) A c' R s') (fun e s' => R (.error e) s') s := by
  obtain ⟨_, its, na, rv, lv, ea⟩ := I.lstM (sm _ _ ha)
  cases rv with
  | @cons _ u _ us ru rus =>
    refine wpAny_list_repr_head (A := A.in1) hg (fun v rest kw hm => listSameRef_of_ne (hca _ _ _ _ hm)) ea rfl ?_
    refine wpAny_bind (m := newList []) (wpAny_newObj_type ?_)
    refine wpAny_pure ⟨F.quiet_list_repr_loop _, ?_⟩
    have nP : Hc s.heap.objs.size = none := Inv.fresh I
    refine loopI (H := H) (H0 := Hc) ha sm nP hg hcl hr hf hp hsz hR _ 0 (upd Hc s.heap.objs.size (.lst [])) _ rfl (Nat.zero_le _) (same_new nP) ?_ upd_same
    exact Inv.lnew (its := []) (t' := s.toks) I .nil (Nat.zero_le _)
theorem call_listI {H Hc : Hp} {k : Nat} {a : Addr} {x : V} {xs : List V} {ts : List Str} {g : List Code} {A : Around} {E : Value → Shared → Prop} {Q : Value → Shared → Prop} {s : Shared} (ha : H a = some (.lst (x :: xs))) (hg : A.guards = some g) (hca : Clear g a) (hcl : ∀ y ∈ x :: xs, ∀ b, Rch H y b → Clear g b ∧ a ≠ b)
    (hr : Room (k + 1) A) (hf : A.frames = some X.stack) (hp : Paired (RepI X pins σ k H) (x :: xs) ts) (hsz : (listText ts).length ≤ sizeLine) (sm : Same H Hc) (I : Inv X pins σ Hc s)
    (hQ : ∀ H2 s2 u, Same Hc H2 → Inv X pins σ H2 s2 → Q (.str (listText ts) u) s2) : wpAny (model X.prog X.w) A (call (.builtin "list.__repr__") [.ref a]) Q E s := by
  obtain ⟨_, its, na, rv, lv, ea⟩ := I.lstM (sm _ _ ha)
  exact wpAny_call (codeAny_call_builtin F.slot_list_repr.plain F.entry_list_repr (F.slot_list_repr.check _ _ _ _ _ _ _ _ ⟨_, ea, rfl⟩ (F.args_list_repr_1 _) (list_atI (base := 0) (R := callEnd Q E) ha hg hca hcl hr hf hp (by omega) sm I hQ)))
theorem RepI.lst {H : Hp} {k : Nat} {a : Addr} {x : V} {xs : List V} {ts : List Str} (ha : H a = some (.lst (x :: xs))) (hne : ∀ y ∈ x :: xs, ¬ Rch H y a) (hp : Paired (RepI X pins σ k H) (x :: xs) ts) : RepI X pins σ (k + 1) H (.ref a) (listText ts) := by
  intro base hb u ru A g E s Hc Q hg hcl hr hf sm I q
  obtain rfl : u = Value.ref a := ru
  obtain ⟨_, its, na, rv, lv, ea⟩ := I.lstM (sm _ _ ha)
  refine wpAny_pyReprUnder_ref (by omega) (wpAny_pyReprObjUnder_twin (twin := "list.__repr__.under") ⟨_, ea, rfl⟩ F.slot_list_repr.toG rfl hr.units0 ?_)
  exact call_twin_plain F.plain_list_repr_under F.entry_list_repr_under F.check_list_repr_under ⟨_, ea, rfl⟩ F.slot_list_repr.toG (F.args_list_repr_1 _)
    (list_atI (R := callEnd _ E) ha hg (hcl a .here) (fun y hy b hb => ⟨hcl b (.lst ha hy hb), fun z => hne y hy (z ▸ hb)⟩) hr hf hp hb sm I (fun H2 s2 u sm2 I2 => ⟨⟨_, _, rfl⟩, ⟨_, _, rfl, q H2 s2 sm2 I2⟩⟩))
/-! ### tuples -/
theorem tupFoldI {H : Hp} {k : Nat} {g : List Code} {A : Around} {E : Value → Shared → Prop} (hg : A.guards = some g) (hr : Room k A) (hf : A.frames = some X.stack) : ∀ (xs : List V) (ts : List Str) (l : List Value) (acc : Array Str) (n : Nat) (Hc : Hp) (s : Shared) (Q : (Array Str × Nat) → Shared → Prop), Vals xs l → Paired (RepI X pins σ k H) xs ts → (∀ x ∈ xs, ∀ b, Rch H x b → Clear g b) → n + piled ts ≤ sizeLine → Same H Hc → Inv X pins σ Hc s →
    (∀ H2 s2, Same Hc H2 → Inv X pins σ H2 s2 → Q ⟨acc ++ ts.toArray, n + piled ts⟩ s2) → wpAny (model X.prog X.w) A (forIn l (⟨acc, n⟩ : (Array Str × Nat)) tupBody) Q E s := by
  intro xs
  induction xs with
  | nil =>
    intro ts l acc n Hc s Q rv hp _ _ _ I h
    cases rv
    cases hp
    have h0 := h Hc s (Same.refl _) I
    simp only [List.forIn_nil]
    exact wpAny_pure (by simpa [piled] using h0)
  | cons x xs ih =>
    intro ts l acc n Hc s Q rv hp hcl hn sm I h
    cases rv with
    | @cons _ u _ us ru rus =>
      cases hp with
      | @cons _ t _ ts' hx hl =>
        rw [piled_cons] at hn
        rw [List.forIn_cons]
        refine wpAny_bind (wpAny_bind (hx (n + 1) (by omega) u ru _ _ _ _ Hc _ hg (hcl x List.mem_cons_self) hr hf sm I fun H2 s2 sm2 I2 => wpAny_pure ?_))
        refine ih ts' us (acc.push t) (n + (t.length + 2)) H2 _ Q rus hl (fun y hy => hcl y (List.mem_cons_of_mem _ hy)) (by omega) (sm.trans sm2) I2 fun H3 s3 sm3 I3 => ?_
        have h1 := h H3 s3 (sm2.trans sm3) I3
        have e : n + piled (t :: ts') = n + (t.length + 2) + piled ts' := by rw [piled_cons]; omega
        rw [e] at h1
        simpa using h1
theorem tup_atI {H Hc : Hp} {k : Nat} {a : Addr} {xs : List V} {ts : List Str} {g : List Code} {A : Around} {base : Nat} {id : String} {rest : List Value} {R : Result → Shared → Prop} {s : Shared} (ha : H a = some (.tup xs)) (hcg : (Code.builtin id ⟨.ref a :: rest, []⟩).isGuard = true)
    (hg : A.guards = some g) (hca : Clear g a) (hcl : ∀ y ∈ xs, ∀ b, Rch H y b → Clear g b ∧ a ≠ b) (hr : Room k (A.under (.builtin id ⟨.ref a :: rest, []⟩))) (hf : (A.under (.builtin id ⟨.ref a :: rest, []⟩)).frames = some X.stack) (hp : Paired (RepI X pins σ k H) xs ts) (hsz : base + (tupleText ts).length ≤ sizeLine) (sm : Same H Hc) (I : Inv X pins σ Hc s)
    (hR : ∀ H2 s2 u, Same Hc H2 → Inv X pins σ H2 s2 → R (.ok (.ret (.str (tupleText ts) u))) s2) :
    wpOwn (model X.prog X.w) A (.builtin id ⟨.ref a :: rest, []⟩) (Builtin.tupleReprAt base ⟨[.ref a], []⟩) (fun fin s' => match fin with | .done f => R (.ok f) s' | .again c' => c'.quiet = true ∧ codeAny (model X.prog X.w) A c' R s') (fun e s' => R (.error e) s') s := by
  obtain ⟨_, its, rv, ⟨o, eo, ec, na, ed⟩⟩ := I.hok a _ (sm _ _ ha)
  have hlen : ts.length = its.toArray.size := by
    rw [List.size_toArray, ← Paired.length hp, rv.length]
  have hpl := piled_le_tupleText ts
  have hsz0 : (tupleText ts).length ≤ sizeLine := by omega
  rw [tuple_repr_tree, tupleReprUnderWay_eq]
  refine wpOwn_bind (wpOwn_stackTailAny hg (tupGuardF_off _) (tupGuardF_pos _) ?_)
  have hn : (g.any fun c => tupGuardF (.ref a) (c, default)) = false := by
    rw [List.any_eq_false]
    intro c hcm
    rw [tupGuardF_of_clear hca c hcm]
    exact Bool.false_ne_true
  rw [hn]
  refine wpOwn_of_wpAny ?_
  show wpAny _ _ (tupleReprRest base (.ref a)) _ _ s
  unfold tupleReprRest Builtin.Tuple.tupleItemsOf
  refine wpAny_bind (wpAny_bind (wpAny_seqItems eo ed (wpAny_pure ?_)))
  rw [← Array.forIn_toList]
  refine wpAny_bind (tupFoldI (H := H) (guards_under_guard hcg hg) hr hf xs ts _ _ _ Hc _ _ rv hp (fun y hy b hb => (hcl y hy b hb).1.cons (a := a) (hcl y hy b hb).2) (by omega) sm I fun H2 s2 sm2 I2 => ?_)
  refine wpAny_bind (wpAny_mkStr (wpAny_pure ?_) (by simpa [tupleText, hlen] using hsz0))
  have h1 := hR H2 _ s2.toks sm2 (I2.tok (s2.toks + 1))
  simpa [tupleText, hlen] using h1
theorem call_tupI {H Hc : Hp} {k : Nat} {a : Addr} {xs : List V} {ts : List Str} {g : List Code} {A : Around} {E : Value → Shared → Prop} {Q : Value → Shared → Prop} {s : Shared} (ha : H a = some (.tup xs)) (hg : A.guards = some g) (hca : Clear g a) (hcl : ∀ y ∈ xs, ∀ b, Rch H y b → Clear g b ∧ a ≠ b)
    (hr : Room (k + 1) A) (hf : A.frames = some X.stack) (hp : Paired (RepI X pins σ k H) xs ts) (hsz : (tupleText ts).length ≤ sizeLine) (sm : Same H Hc) (I : Inv X pins σ Hc s)
    (hQ : ∀ H2 s2 u, Same Hc H2 → Inv X pins σ H2 s2 → Q (.str (tupleText ts) u) s2) : wpAny (model X.prog X.w) A (call (.builtin "tuple.__repr__") [.ref a]) Q E s := by
  obtain ⟨_, its, rv, ⟨o, eo, ec, na, ed⟩⟩ := I.hok a _ (sm _ _ ha)
  have U := under_tup (A := A) (args := ⟨[.ref a], []⟩)
  exact wpAny_call (codeAny_call_builtin_own (Code.quiet_builtin _ (by decide +kernel)) F.entry_tuple_repr (F.slot_tuple_repr.check _ _ _ _ _ _ _ _ ⟨o, eo, ec⟩ (F.args_tuple_repr_1 _)
    (tup_atI (base := 0) (R := callEnd Q E) ha (isGuard_tuple_repr _) hg hca hcl (room_up hr rfl U.2.1 U.2.2) (U.1.trans hf) hp (by omega) sm I hQ)))
theorem RepI.tup {H : Hp} {k : Nat} {a : Addr} {xs : List V} {ts : List Str} (ha : H a = some (.tup xs)) (hne : ∀ y ∈ xs, ¬ Rch H y a) (hp : Paired (RepI X pins σ k H) xs ts) : RepI X pins σ (k + 1) H (.ref a) (tupleText ts) := by
  intro base hb u ru A g E s Hc Q hg hcl hr hf sm I q
  obtain rfl : u = Value.ref a := ru
  obtain ⟨_, its, rv, ⟨o, eo, ec, na, ed⟩⟩ := I.hok a _ (sm _ _ ha)
  have U := under_tupU (A := A) (args := ⟨[.ref a, rawInt base], []⟩)
  refine wpAny_pyReprUnder_ref (by omega) (wpAny_pyReprObjUnder_twin (twin := "tuple.__repr__.under") ⟨o, eo, ec⟩ F.slot_tuple_repr rfl hr.units0 ?_)
  exact call_twin_own (F.quiet_tuple_repr_under _) F.entry_tuple_repr_under F.check_tuple_repr_under ⟨o, eo, ec⟩ F.slot_tuple_repr (F.args_tuple_repr_1 _)
    (tup_atI (R := callEnd _ E) ha (isGuard_tuple_repr_under _) hg (hcl a .here) (fun y hy b hb => ⟨hcl b (.tup ha hy hb), fun z => hne y hy (z ▸ hb)⟩) (room_up hr rfl U.2.1 U.2.2) (U.1.trans hf) hp hb sm I (fun H2 s2 u sm2 I2 => ⟨⟨_, _, rfl⟩, ⟨_, _, rfl, q H2 s2 sm2 I2⟩⟩))
theorem RepI.mono {H : Hp} {j k : Nat} {x : V} {t : Str} (h : RepI X pins σ j H x t) (hj : j ≤ k) : RepI X pins σ k H x t := fun base hb u ru A g E s Hc Q hg hcl hr => h base hb u ru A g E s Hc Q hg hcl (hr.mono hj)
theorem pair_imp {α β : Type} {R S : α → β → Prop} : ∀ {xs : List α} {ys : List β}, Paired R xs ys → (∀ x y, x ∈ xs → R x y → S x y) → Paired S xs ys
  | _, _, .nil, _ => .nil
  | _, _, .cons r rs, f => .cons (f _ _ List.mem_cons_self r) (pair_imp rs fun x y h => f x y (List.mem_cons_of_mem _ h))
/-- all that is shown -/
theorem rep_shw {k : Nat} {ow : Addr → Str → Prop} {H : Hp} (ho : OwnI X pins σ k ow H) : ∀ (n : Nat) {x : V} {t : Str}, Shw ow H n x t → RepI X pins σ (k + n) H x t
  | 0, _, _, h => rep_leaf ho h
  | n + 1, x, t, h => by
    have hx := h
    rcases h with h | ⟨a, y, ys, ts, rfl, h1, h2, rfl⟩ | ⟨a, ys, ts, rfl, h1, h2, rfl⟩
    · exact (rep_leaf ho h).mono (by omega)
    · exact RepI.lst h1 (fun y hy r => shw_apart (.inl h1) hy r _ hx) (pair_imp h2 fun _ _ _ q => rep_shw ho n q)
    · exact RepI.tup h1 (fun y hy r => shw_apart (.inr h1) hy r _ hx) (pair_imp h2 fun _ _ _ q => rep_shw ho n q)
end
end LM

set_option Elab.async false
set_option linter.all false
set_option maxRecDepth 100000
set_option maxHeartbeats 4000000
/-! repr(v), whatever it holds -/
namespace LM
open PySem PySem.Spec PyProof.Rows L2 PySem.Builtin PySem.Builtin.List
section
variable {prog : Program} {w : World} {A : Around} {E : Value → Shared → Prop} {s : Shared} {K : PySem.W.Frag} {x C f : Addr} {ox : Obj} {od : Option Obj} {name : Str}
theorem boundBy {M : Model} {last : Value → List Value → Sem Value} {Q : Option Value → Shared → Prop} (X : K.In s.heap) (I : PySem.W.InstAt s.heap x ox C od) (hs : PySem.W.findIn K (.ref C) name = some (some (.ref f))) (hf : PySem.W.isFn K (.ref f) = true)
    (h : wpAny M A (last (.ref f) [.ref x]) (fun v => Q (some v)) E s) : wpAny M A (callSpecialIfBoundBy? last (.ref x) name) Q E s := by
  simp only [callSpecialIfBoundBy?, bindSpecialIfBound?]
  refine wpAny_holding (wpAny_bind (wpAny_bind (wpAny_bind (I.type.here ((PySem.W.looks_findIn X hs).here ?_)))))
  refine wpAny_bind (wpAny_askSetting (wpAny_ite ?_))
  have fin : wpAny M A (last (.ref f) [.ref x] >>= fun v => pure (some v)) Q E s := wpAny_bind (wpAny_mono h (fun v s' h' => wpAny_pure h') fun _ _ h' => h')
  split
  · exact wpAny_bind ((PySem.W.bind_fn X _ (beq_iff_eq.mp hf)).here (wpAny_pure (by exact fin)))
  · exact wpAny_tryCatch (wpAny_bind ((PySem.W.bind_fn X _ (beq_iff_eq.mp hf)).here (wpAny_pure (by exact fin))))
theorem under_own {Q : Value → Shared → Prop} {base : Nat} (hu : A.units < cLine) (X : K.In s.heap) (I : PySem.W.InstAt s.heap x ox C od) (hs : PySem.W.findIn K (.ref C) "__repr__" = some (some (.ref f))) (hf : PySem.W.isFn K (.ref f) = true)
    (h : wpAny (model prog w) A (call (.ref f) [.ref x]) (fun r s' => ∃ z t, r = .str z t ∧ Q (.str z t) s') E s) : wpAny (model prog w) A (pyReprObjUnder base (.ref x)) Q E s := by
  unfold pyReprObjUnder pyReprObjBy
  refine wpAny_bind (wpAny_cRoomFor hu ?_)
  refine wpAny_bind (wpAny_bind (I.type.here ((PySem.W.looks_findIn X hs).here ?_)))
  show wpAny _ _ (if (some (Value.ref f)).isNone = true then _ else _) _ _ _
  rw [if_neg (by simp)]
  refine wpAny_bind (boundBy X I hs hf ?_)
  show wpAny _ _ (call (.ref f) [.ref x]) _ _ _
  refine wpAny_mono h (fun v s' hv => ?_) fun _ _ z => z
  obtain ⟨z, t, rfl, q⟩ := hv
  refine wpAny_bind (wpAny_isInstance (typeIs_str _ _ _) isSubtype_str_str ?_)
  first
    | exact wpAny_pure q
    | (rw [if_pos rfl]; exact wpAny_pure q)
    | (simp only [if_true]; exact wpAny_pure q)
end
section
variable {X : Cx} {CX : CXT} {kf : Nat} {C f : Addr} {fd : FuncData} {ps : List Str} {sp : Sp} {E : XK}
/-- instances of a class with its own __repr__ -/
theorem ownI_of {pins : List (Addr × Obj)} {σ : L2.St} {H : Hp} {ow : Addr → Str → Prop} (hs : PySem.W.findIn X.K (.ref C) "__repr__" = some (some (.ref f))) (hf : PySem.W.isFn X.K (.ref f) = true) (F : FnOk X.prog X.w X.K X.mg X.base CX kf f fd ps sp) (hb : Binds X.K fd ps []) (hx : Passes CX X.nox E)
    (how : ∀ a t, ow a t → ∃ dx fs, H a = some (.ins C dx fs) ∧ ∀ Hc, Same H Hc → ∀ Q : VK, (∀ H2, Same Hc H2 → Q (.str t) H2) → sp [.ref a] Hc Q E) : OwnI X pins σ kf ow H := by
  intro a t o A E' s Hc Q hr hfr sm I q base hbase
  obtain ⟨dx, fs, ea, hsp⟩ := how a t o
  obtain ⟨mA, J, _⟩ := ins_get I.hok (sm _ _ ea)
  obtain ⟨od, J, _⟩ := J.look
  have h := hsp Hc sm (fun v H' => v = .str t ∧ Same Hc H') (fun H2 s2 => ⟨rfl, s2⟩)
  have hl := F.len _ _ _ _ h
  refine under_own hr.units0 I.kIn J hs hf ?_
  refine wpAny_call (codeAny_mono (F.run A X.stack s Hc ⟨[.ref a], []⟩ [.ref a] [.ref a] _ E hr ⟨hfr, I.env0.mod, I.env0.bs, I.env0.bsz, I.env0.funs, I.env0.frf, I.env0.hok, I.env0.bare⟩ (by
    have := hb s [.ref a] I.kIn (by simpa using hl)
    simpa using this) (.cons rfl .nil) h) fun r s' hq => ?_)
  cases r with
  | error er => exact False.elim (hx pins σ Hc s er s' (I.wish _) hq)
  | ok fl =>
    cases fl with
    | ret w =>
      obtain ⟨v', H', I', rw_, rfl, sm'⟩ := I.after hq
      obtain ⟨tk, rfl⟩ := rw_
      exact ⟨t, tk, rfl, q H' s' tk sm' I'⟩
    | next => exact False.elim hq
    | brk => exact False.elim hq
    | cont => exact False.elim hq
/-- two classes -/
theorem OwnI.or {pins : List (Addr × Obj)} {σ : L2.St} {H : Hp} {ow ow' : Addr → Str → Prop} {k : Nat} (h : OwnI X pins σ k ow H) (h' : OwnI X pins σ k ow' H) : OwnI X pins σ k (fun a t => ow a t ∨ ow' a t) H := fun a t o => o.elim (h a t) (h' a t)
theorem OwnI.up {pins : List (Addr × Obj)} {σ : L2.St} {H : Hp} {ow : Addr → Str → Prop} {j k : Nat} (h : OwnI X pins σ j ow H) (hj : j ≤ k) : OwnI X pins σ k ow H := fun a t o A E s Hc Q hr => h a t o A E s Hc Q (hr.mono hj)
/-- repr(v): v is shown as t -/
def rReprT (ow : Hp → Addr → Str → Prop) : List V → Hp → VK → Prop := fun xs H Q => ∃ (y : V) (n : Nat) (t : Str), xs = [y] ∧ n ≤ 8 ∧ (∀ a C dx fs, y = .ref a → H a ≠ some (.ins C dx fs)) ∧ Shw (ow H) H n y t ∧ t.length ≤ sizeLine ∧ ∀ H2, Same H H2 → Q (.str t) H2
theorem call_reprT {k : Nat} {ow : Hp → Addr → Str → Prop} (hgd : X.A.guards = some []) (hr : Room (k + 10) X.A) (ho : ∀ pins σ H, OwnI X pins σ k (ow H) H) : CallR X (.builtin "repr") (rReprT ow) := by
  intro pins s σ H xs us Q I va ⟨y, n, t, ex, hn, hni, hs, hz, q⟩
  subst ex
  obtain ⟨u, rfl, ru⟩ := vals1 va
  have hr1 : Room (k + 9) X.A.in1 := hr.in1
  have hu := hr1.units0
  have hu' : X.A.units + 1 < cLine := hr.in1.units0
  have hf : X.A.in1.frames = some X.stack := I.ok.frames
  have hgd1 : X.A.in1.guards = some [] := hgd
  have fin : ∀ H2 s2 (tk : Tok), Same H H2 → Inv X pins σ H2 s2 → EP X pins σ Q (.str t tk) s2 := fun H2 s2 tk sm I2 => ⟨.str t, H2, I2, ⟨tk, rfl⟩, q H2 sm⟩
  have leaf : Leaf (ow H) H y t → wpAny (model X.prog X.w) X.A (call (.builtin "repr") [u]) (EP X pins σ Q) X.xe s := fun l => by
    cases l with
    | non =>
      obtain rfl : u = Value.none := ru
      exact PySem.P.repr_of_none (fin H _ _ (Same.refl _) (I.tok _))
    | bl b =>
      obtain rfl : u = Value.bool b := ru
      exact PySem.P.repr_of_bool (by cases b <;> exact fin H _ _ (Same.refl _) (I.tok _))
    | int i hi =>
      obtain ⟨tk, rfl⟩ : ∃ tk, u = Value.int i tk := ru
      exact PySem.P.repr_of_int hi (fin H _ _ (Same.refl _) (I.tok _))
    | str x hx =>
      obtain ⟨tk, rfl⟩ : ∃ tk, u = Value.str x tk := ru
      exact PySem.P.repr_of_str (fin H _ _ (Same.refl _) (I.tok _)) hx
    | @own a C dx fs t e o => exact (hni a C dx fs rfl e).elim
    | @nil a e =>
      obtain rfl : u = Value.ref a := ru
      obtain ⟨_, its, n', r, _, e2⟩ := I.lstM e
      cases r
      exact call_repr_slot hu' ⟨_, e2, rfl⟩ PySem.F.slot_list_repr.toG (call_list_repr_empty ⟨_, e2, rfl⟩ e2 rfl ⟨_, _, rfl, fin H _ _ (Same.refl _) (I.tok _)⟩)
    | @dic a e =>
      obtain rfl : u = Value.ref a := ru
      obtain ⟨o, n', e1, e2, e3, e4⟩ := Inv.dic0 I e
      have et : dictText [] = ("{}" : Str) := by decide +kernel
      refine call_repr_slot hu' ⟨o, e1, e2⟩ PySem.F.slot_dict_repr (call_dict_reprK (as := []) (h₀ := s.heap) (d := 0) (ps := []) e1 e2 e3 e4 (fun z => nomatch z) (by exact .nil) hgd1 (fun b _ => Clear.nil b) (by have := hr1.units; omega) (fun _ _ z => z) (fun h' u tk hk => ?_) (by decide +kernel))
      rw [et]
      exact ⟨_, _, rfl, fin H _ _ (Same.refl _) (I.kept hk)⟩
  cases n with
  | zero => exact leaf hs
  | succ n =>
    have hs' := hs
    rcases hs with h | ⟨a, x, xs, ts, rfl, h1, h2, rfl⟩ | ⟨a, xs, ts, rfl, h1, h2, rfl⟩
    · exact leaf h
    · obtain rfl : u = Value.ref a := ru
      obtain ⟨_, its, na, rv, lv, ea⟩ := I.lstM h1
      exact call_repr_slot hu' ⟨_, ea, rfl⟩ PySem.F.slot_list_repr.toG (call_listI (X := X) (k := k + n) h1 hgd1 (Clear.nil a) (fun z hz b hb => ⟨Clear.nil b, fun e => shw_apart (.inl h1) hz (e ▸ hb) _ hs'⟩) (hr1.mono (by omega)) hf (pair_imp h2 fun _ _ _ q => rep_shw (ho pins σ H) n q) hz (Same.refl _) I (fun H2 s2 u sm I2 => ⟨_, _, rfl, fin H2 s2 u sm I2⟩))
    · obtain rfl : u = Value.ref a := ru
      obtain ⟨_, its, rv, ⟨o, eo, ec, na, ed⟩⟩ := I.hok a _ h1
      exact call_repr_slot hu' ⟨o, eo, ec⟩ PySem.F.slot_tuple_repr (call_tupI (X := X) (k := k + n) h1 hgd1 (Clear.nil a) (fun z hz b hb => ⟨Clear.nil b, fun e => shw_apart (.inr h1) hz (e ▸ hb) _ hs'⟩) (hr1.mono (by omega)) hf (pair_imp h2 fun _ _ _ q => rep_shw (ho pins σ H) n q) hz (Same.refl _) I (fun H2 s2 u sm I2 => ⟨_, _, rfl, fin H2 s2 u sm I2⟩))
end
end LM

set_option Elab.async false
set_option linter.all false
set_option maxRecDepth 100000
set_option maxHeartbeats 4000000
set_option pp.maxSteps 600
set_option pp.deepTerms false
/-! what is told of acts that are tried, and what is due -/
namespace LM
open PySem PySem.Spec PyProof.Rows L2 RZ
local macro_rules | `(tactic| walk_at "hp") => `(tactic| first | assumption | exact upd_same | (rw [upd_ne (by assumption)]; assumption) | (rw [upd_ne (Ne.symm (by assumption))]; assumption) | (rw [upd_ne (by assumption)]; exact upd_same) | (rw [upd_ne (Ne.symm (by assumption))]; exact upd_same))
local macro_rules | `(tactic| walk_at "sq") => `(tactic| first | assumption | exact Or.inl (Or.inl (by assumption)) | exact Or.inl (Or.inl upd_same) | exact Or.inl (Or.inl (by walk_at "hp")))
local macro_rules | `(tactic| walk_at "ixl") => `(tactic| refine ⟨_, _, _, _, rfl, rfl, (by walk_at "sq"), (by rfl), ?_⟩)
local macro_rules | `(tactic| walk_at "setl") => `(tactic| refine ⟨_, _, _, _, rfl, rfl, (by walk_at "hp"), (by rfl), ?_⟩)
local macro_rules | `(tactic| walk_at "side") => `(tactic| refine idP ?_; first | omega | (show (0 : Int) < _; omega) | (show (0 : Int) < _ ∧ _ < _; omega) | (refine Or.inr ?_; show (-(2 ^ 64) : Int) < _ ∧ _ < _; omega) | (refine Or.inl ?_; show (-(2 ^ 64) : Int) < _ ∧ _ < _; omega) | exact divW (by omega) (by omega) _ | (refine ⟨by decide, by decide, ?_⟩; decide))
local macro_rules | `(tactic| walk_at "go1") => `(tactic| first
  | refine ⟨_, rfl, ?_⟩
  | refine ⟨_, _, rfl, rfl, (by walk_at "side"), ?_⟩
  | refine ⟨_, _, rfl, (by walk_at "side"), ?_⟩
  | refine ⟨_, _, rfl, rfl, ?_⟩
  | refine Or.inl ⟨_, rfl, ?_⟩
  | refine ⟨_, _, rfl, Or.inl (by walk_at "sq"), ?_⟩
  | walk_at "ixl"
  | walk_at "setl"
  | refine ⟨_, _, rfl, (by walk_at "sq"), rfl, ?_⟩
  | refine ⟨_, _, rfl, (by walk_at "sq"), ?_⟩
  | refine ⟨_, _, rfl, ?_⟩
  | refine ⟨rfl, ?_⟩
  | refine ⟨small (Nat.le_of_ble_eq_true rfl), ?_⟩)
local macro_rules | `(tactic| walk_at "go") => `(tactic| repeat walk_at "go1")

abbrev x_law_same : Stmt := topS 77
theorem xsc_law_same : FnScope ["_law_told", "_law_due"] ["_law_told", "_law_due"] (defScope x_law_same) := ⟨rfl, rfl, rfl, by decide +kernel, rfl, by decide +kernel, by decide +kernel⟩
/-- a def of the text that may raise, at its name -/
structure DefX (P : Program) (w : World) (K : PySem.W.Frag) (mg : Str → Option Value) (base : Heap) (x : Str) (ps : List Str) (k : Nat) (sp : Sp) : Prop where
  all : ∃ (f : Addr) (fd : FuncData), FnOk P w K mg base (L2.CX P w) k f fd ps sp ∧ mg x = some (.ref f) ∧ PySem.W.keepIn K (.ref f) = true ∧ Binds K fd ps []
theorem pe_dX {X : Cx} {x : Str} {p pos : Pos} {e : Expr} {es : List Expr} {t : TA} {ps : List Str} {k : Nat} {sp : Sp} {E : XK} (D : DefX X.prog X.w X.K X.mg X.base x ps k sp) (hr : Room k X.A) (hg : Gl X x) (hx : Passes (L2.CX X.prog X.w) X E) (ha : PA X (e :: es) t)
    (hdb : (x == ("__debug__" : Str)) = false := by decide) (he : starEach (e :: es) X.env = (false, eval e X.env) :: starEach es X.env := by rfl) (hpl : (backTo pos (starEach es X.env)).any (·.1) = false := by rfl) :
    PE X (.Call (.Name x p) (e :: es) [] pos) (tCall sp [] E t) := by
  obtain ⟨f, fd, F, hm, hk, hb⟩ := D.all
  exact pe_call F hr hg hm hk hb .nil hx ha hdb he hpl
/-- the same in every heap that goes on from H -/
def Ever (F : Hp → Prop) (H : Hp) : Prop := ∀ H', LamX.ExtN H H' → F H'
theorem Ever.at {F : Hp → Prop} {H : Hp} (h : Ever F H) : F H := h H (LamX.ExtN.refl H)
theorem Ever.on {F : Hp → Prop} {H H' : Hp} (h : Ever F H) (e : LamX.ExtN H H') : Ever F H' := fun H2 e2 => h H2 (e.trans e2)
def ElseN (p : Addr) (H H' : Hp) : Prop := ∀ b o, b ≠ p → H b = some o → (∀ ps, o ≠ .tbl ps) → H' b = some o
theorem ElseN.trans {p : Addr} {H H1 H2 : Hp} (a : ElseN p H H1) (b : ElseN p H1 H2) : ElseN p H H2 := fun q o n h t => b q o n (a q o n h t) t
theorem ElseN.ext {p : Addr} {H H' : Hp} (e : LamX.ExtN H H') : ElseN p H H' := fun q o _ h t => e q o h t
theorem ElseN.els {p : Addr} {H H' : Hp} (e : Else p H H') : ElseN p H H' := fun q o n h _ => e q o n h
theorem ElseN.refl {p : Addr} {H : Hp} : ElseN p H H := fun _ _ _ h _ => h
/-- the same in every heap that goes on from H, but for what stands at p -/
def EverP (p : Addr) (F : Hp → Prop) (H : Hp) : Prop := ∀ H', ElseN p H H' → F H'
theorem EverP.at {p : Addr} {F : Hp → Prop} {H : Hp} (h : EverP p F H) : F H := h H ElseN.refl
theorem EverP.on {p : Addr} {F : Hp → Prop} {H H' : Hp} (h : EverP p F H) (e : ElseN p H H') : EverP p F H' := fun H2 e2 => h H2 (e.trans e2)
theorem EverP.ever {p : Addr} {F : Hp → Prop} {H : Hp} (h : EverP p F H) : Ever F H := fun H2 e2 => h H2 (.ext e2)
theorem ext_mut {H0 H : Hp} {D : Addr} {o : HO} (e : LamX.ExtN H0 H) (n : ∀ o', H0 D = some o' → (∀ ps, o' ≠ .tbl ps) → False) : LamX.ExtN H0 (upd H D o) := fun b o' hb hn => by
  by_cases hbD : b = D
  · exact (n o' (hbD ▸ hb) hn).elim
  · rw [upd_ne hbD]
    exact e b o' hb hn
theorem ext_new {H0 H : Hp} {D : Addr} (e : LamX.ExtN H0 H) (n : H D = none) : ∀ o', H0 D = some o' → (∀ ps, o' ≠ .tbl ps) → False := fun o' hb hn => by
  have := e D o' hb hn
  rw [n] at this
  cases this
theorem tabs_els {T : List (Addr × Str)} {H H' : Hp} {p : Addr} {ys : List V} (hp : H p = some (.lst ys)) (t : LamX.Tabs T H) (e : Else p H H') : LamX.Tabs T H' := by
  intro q hq
  obtain ⟨ps, h1, h2, h3⟩ := t q hq
  refine ⟨ps, e _ _ (fun z => by rw [z, hp] at h1; cases h1) h1, h2, fun pos cv hc => ?_⟩
  obtain ⟨c, e1, e2⟩ := h3 pos cv hc
  exact ⟨c, e1, e _ _ (fun z => by rw [z, hp] at e2; cases e2) e2⟩
/-! ### acts -/
/-- a list at D of what was told: words, each with a value -/
structure ToldV (H0 H : Hp) (T : List (Addr × Str)) (D : Addr) (ts : List Addr) (ws : List (Str × V)) : Prop where
  e : LamX.ExtN H0 H
  t : LamX.Tabs T H
  d : H D = some (.lst (ts.map V.ref))
  m : Paired (fun t (w : Str × V) => H t = some (.tup [.str w.1, w.2])) ts ws
  n : ∀ o', H0 D = some o' → (∀ ps, o' ≠ .tbl ps) → False
/-- what an act that is tried comes to, from H0 on -/
def ActsV (H0 : Hp) (T : List (Addr × Str)) (te : TE) (σ : L2.St) (a : Str) (y : V) : Prop := ∀ (H : Hp) (Q : VK), LamX.ExtN H0 H → LamX.Tabs T H → (∀ tt H', LamX.ExtN H H' → LamX.Tabs T H' → H' tt = some (.tup [.str a, y]) → Q (.ref tt) H') → te σ H Q
theorem pair_snoc {α β : Type} {F : α → β → Prop} : ∀ {as : List α} {bs : List β} {a : α} {b : β}, Paired F as bs → F a b → Paired F (as ++ [a]) (bs ++ [b])
  | _, _, _, _, .nil, h => .cons h .nil
  | _, _, _, _, .cons r t, h => .cons r (pair_snoc t h)
section
variable {K : PySem.W.Frag} {T : List (Addr × Str)} {H0 H : Hp} {σ : L2.St} {te : TE} {a : Str} {y : V} {i : Nat} {rest : TS} {Dd : Ends} {c0 c1 c2 c3 c4 c5 c6 c7 w1 w2 w3 : Addr}
theorem toldV_first (e : LamX.ExtN H0 H) (hT : LamX.Tabs T H) (ac : ActsV H0 T te σ a y) (k : ∀ (D t1 : Addr) H', ToldV H0 H' T D [t1] [(a, y)] → rest Dd (σ.set i (some (.ref D))) H') : tSeq (tAsg (tLst (tCons te tNil)) (gName i)) rest Dd σ H := by
  refine ac H _ e hT (fun tt H' e1 T1 h1 => ?_)
  refine ⟨Nat.le_of_ble_eq_true rfl, ?_⟩
  intro D nD
  have sD : Same H' (upd H' D (.lst [.ref tt])) := same_new nD
  exact k D tt _ ⟨(e.trans e1).trans (ExtN.same sD), T1.ext fun b o h => sD b o h, upd_same, .cons (sD _ _ h1) .nil, ext_new (e.trans e1) nD⟩
theorem toldV_more {D : Addr} {ts : List Addr} {ws : List (Str × V)} (w : ToldV H0 H T D ts ws) (hl : ts.length < 100) (hσ : σ[i]? = some (some (.ref D))) (ac : ActsV H0 T te σ a y) (k : ∀ (t1 : Addr) H', ToldV H0 H' T D (ts ++ [t1]) (ws ++ [(a, y)]) → rest Dd σ H') : tSeq (tDrop (tBM K "list" rAppend (tVar i) (tCons te tNil))) rest Dd σ H := by
  refine ⟨_, hσ, .inl ⟨rfl, _, SqL.lst w.d⟩, ?_⟩
  refine ac H _ w.e w.t (fun tt H' e1 T1 h1 => ?_)
  have d1 := e1 _ _ w.d (fun ps z => nomatch z)
  refine ⟨D, _, _, rfl, rfl, d1, smallLt (by rw [List.length_map]; omega), ?_⟩
  have nt : ∀ {b : Addr} {xs : List V}, H' b = some (.tup xs) → b ≠ D := fun hb z => by rw [z, d1] at hb; cases hb
  refine k tt _ ⟨ext_mut (w.e.trans e1) w.n, Tabs.mut d1 T1, ?_, pair_snoc (pair_imp w.m fun u v _ h => ?_) ?_, w.n⟩
  · rw [upd_same, List.map_append]
    rfl
  · have h2 := e1 _ _ h (fun ps z => nomatch z)
    rw [upd_ne (nt h2)]
    exact h2
  · rw [upd_ne (nt h1)]
    exact h1
theorem actsV_raise {t : XK → TE} {C : Addr} {j : Nat} (FC : FaultC K c0 c1 c2 c3 c4 c5 c6 c7 w1 w2 w3 C j) (hj : j < 8) (ea : a = faultWord j) (hb : ∀ H1, LamX.ExtN H0 H1 → ∀ (E : XK) (Q' : VK), RaiseQ C (faultField j) y H1 E → t E σ H1 Q') : ActsV H0 T (LamX.tLam T (TTf K c0 c1 c2 c3 c4 c5 c6 c7 w1 w2 w3) t) σ a y := fun H Q e hT k => by
  subst ea
  exact ⟨hT, fun H1 e1 T1 => hb H1 (e.trans e1) _ _ fun d H2 s2 n2 ed => ⟨C, d, j, y, FC, hj, rfl, rfl, ed, fun tt H3 s3 n3 e3 => k tt H3 (e1.trans (ExtN.same (s2.trans s3))) (T1.ext fun b o h => (s2.trans s3) b o h) e3⟩⟩
theorem actsV_told {t : XK → TE} (ea : a = "told") (hb : ∀ H1, LamX.ExtN H0 H1 → ∀ (E : XK) (Q' : VK), (∀ H', Same H1 H' → Q' y H') → t E σ H1 Q') : ActsV H0 T (LamX.tLam T (TTf K c0 c1 c2 c3 c4 c5 c6 c7 w1 w2 w3) t) σ a y := fun H Q e hT k => by
  subst ea
  exact ⟨hT, fun H1 e1 T1 => hb H1 (e.trans e1) _ _ fun H2 s2 tt H3 s3 n3 h3 => k tt H3 (e1.trans (ExtN.same (s2.trans s3))) (T1.ext fun b o h => (s2.trans s3) b o h) h3⟩
end
/-! ### the same, by their texts -/
theorem listText_len : ∀ ts : List Str, (listText ts).length ≤ piled ts + 2
  | [] => by decide
  | t :: r => by
    have h := textFrom_length_pos r 1 (("[" : Str) ++ (if (0 : Nat) > 0 then ", " else "" : String) ++ t) (Nat.succ_pos 0)
    have e : ((("[" : Str) ++ (if (0 : Nat) > 0 then ", " else "" : String) ++ t)).length = 1 + t.length := by
      rw [strLen_append, strLen_append]; rfl
    show (textFrom 1 (("[" : Str) ++ (if (0 : Nat) > 0 then ", " else "" : String) ++ t) r ++ "]").length ≤ _
    rw [strLen_append, h, e, piled_cons]
    have : ((("]" : String)) : Str).length = 1 := rfl
    omega
theorem pairText_len (a b : Str) : (tupleText [a, b]).length = a.length + b.length + 4 := by
  show ((("(" : Str) ++ (a ++ ", " ++ b)) ++ ")").length = _
  rw [strLen_append, strLen_append, strLen_append, strLen_append]
  have h1 : ((("(" : String)) : Str).length = 1 := rfl
  have h2 : (((", " : String)) : Str).length = 2 := rfl
  have h3 : (((")" : String)) : Str).length = 1 := rfl
  omega
def rowText (ws : List (Str × V)) (tx : List Str) : List Str := List.zipWith (fun w t => tupleText [reprText w.1, t]) ws tx
/-- words, each with a value that is shown -/
def ShwAll (ow : Addr → Str → Prop) (H : Hp) (ws : List (Str × V)) (tx : List Str) : Prop := Paired (fun (w : Str × V) t => Shw ow H 6 w.2 t ∧ t.length ≤ 2000 ∧ (reprText w.1).length ≤ 100) ws tx
theorem rowText_piled {ow : Addr → Str → Prop} {H : Hp} : ∀ {ws : List (Str × V)} {tx : List Str}, ShwAll ow H ws tx → piled (rowText ws tx) ≤ 2200 * ws.length
  | _, _, .nil => Nat.le_refl _
  | w :: ws, t :: tx, .cons h hs => by
    have ih := rowText_piled hs
    show piled (tupleText [reprText w.1, t] :: rowText ws tx) ≤ _
    rw [piled_cons, pairText_len, List.length_cons]
    obtain ⟨_, h1, h2⟩ := h
    omega
theorem shw_rows {ow : Addr → Str → Prop} {H : Hp} : ∀ {ts : List Addr} {ws : List (Str × V)} {tx : List Str}, Paired (fun t (w : Str × V) => H t = some (.tup [.str w.1, w.2])) ts ws → ShwAll ow H ws tx → Paired (Shw ow H 7) (ts.map V.ref) (rowText ws tx)
  | _, _, _, .nil, .nil => .nil
  | t :: ts, w :: ws, x :: tx, .cons m ms, .cons h hs => by
    refine .cons (.inr (.inr ⟨t, _, _, rfl, m, .cons ?_ (.cons h.1 .nil), rfl⟩)) (shw_rows ms hs)
    refine .inl (.str w.1 ?_)
    have := h.2.2
    exact Nat.le_trans this (by decide)
theorem shw_list {ow : Addr → Str → Prop} {H : Hp} {D : Addr} {ts : List Addr} {ws : List (Str × V)} {tx : List Str} (d : H D = some (.lst (ts.map V.ref))) (m : Paired (fun t (w : Str × V) => H t = some (.tup [.str w.1, w.2])) ts ws) (h : ShwAll ow H ws tx) (hn : ts ≠ []) : Shw ow H 8 (.ref D) (listText (rowText ws tx)) := by
  have := shw_rows m h
  cases ts with
  | nil => exact absurd rfl hn
  | cons t ts => exact .inr (.inl ⟨D, _, _, _, rfl, d, this, rfl⟩)
theorem rowText_size {ow : Addr → Str → Prop} {H : Hp} {ws : List (Str × V)} {tx : List Str} (h : ShwAll ow H ws tx) (hl : ws.length ≤ 40) : (listText (rowText ws tx)).length ≤ sizeLine := by
  have h1 := listText_len (rowText ws tx)
  have h2 := rowText_piled h
  refine Nat.le_trans h1 (Nat.le_trans (show _ ≤ 90000 by omega) (by decide))
/-- two values with the same text -/
def spSameT (ow : Hp → Addr → Str → Prop) : Sp := fun vs H Q _ => ∃ (y z : V) (n : Nat) (t : Str), vs = [y, z] ∧ n ≤ 8 ∧ (∀ a C dx fs, y = .ref a → H a ≠ some (.ins C dx fs)) ∧ (∀ H', Same H H' → ∀ a C dx fs, z = .ref a → H' a ≠ some (.ins C dx fs)) ∧ Shw (ow H) H n y t ∧ (∀ H', Same H H' → Shw (ow H') H' n z t) ∧ t.length ≤ sizeLine ∧ (∀ H', Same H H' → Q (.bl true) H')
section
variable {P : Program} {w : World} {K : PySem.W.Frag} {mg : Str → Option Value} {base : Heap}
theorem ok_sameT {f : Addr} {fd : FuncData} {k : Nat} {ow : Hp → Addr → Str → Prop} (F : Fun K "_law_same" "_law_same" x_law_same f fd) (N : Names mg) (ho : ∀ X : Cx, X.prog = P → X.w = w → X.K = K → X.mg = mg → X.base = base → ∀ pins σ H, OwnI X pins σ k (ow H) H) : FnG P w K mg base (k + 11) f fd ["_law_told", "_law_due"] (spSameT ow) := by
  have sc := xsc_law_same
  refine funG_ok F sc (fun vs H Q E h => ?_) (fun cdv A outer s H vs Q E hgd hr h => ?_)
  · obtain ⟨y, z, n, t, rfl, _⟩ := h
    rfl
  · obtain ⟨y, z, n, t, rfl, hn, hi, hj, hy, hz, hl, k'⟩ := h
    refine ⟨_, (pss_one (ps_ret (pe_cmpR op_eq (pe_callB (show CallR _ (.builtin "repr") (rReprT ow) from call_reprT hgd hr (ho _ rfl rfl rfl rfl rfl)) (by rfl) N.repr (by decide +kernel) (pa_cons (pv 0) pa_nil)) (pe_callB (show CallR _ (.builtin "repr") (rReprT ow) from call_reprT hgd hr (ho _ rfl rfl rfl rfl rfl)) (by rfl) N.repr (by decide +kernel) (pa_cons (pv 1) pa_nil)) (nomark _)))), ?_⟩
    refine ⟨_, rfl, y, n, t, rfl, hn, hi, hy, hl, fun H1 s1 => ?_⟩
    refine ⟨_, rfl, z, n, t, rfl, hn, hj H1 s1, hz H1 s1, hl, fun H2 s2 => ?_⟩
    refine ⟨rfl, ?_⟩
    rw [decide_eq_true rfl]
    exact k' H2 (s1.trans s2)
end
end LM

set_option Elab.async false
set_option linter.all false
set_option maxRecDepth 100000
set_option maxHeartbeats 4000000
namespace LM
open PySem PySem.Spec PyProof.Rows L2
/-! ### texts of houses -/
theorem join_free (c : Nat) (sep : Str) (hs : c ∉ sg sep) : ∀ ws : List Str, (∀ w ∈ ws, c ∉ sg w) → c ∉ sg (Str.join sep ws)
  | [], _ => by
    show c ∉ sg Str.empty
    exact fun z => nomatch z
  | [x], h => h x (List.mem_singleton.mpr rfl)
  | x :: y :: r, h => by
    show c ∉ sg (x ++ sep ++ Str.join sep (y :: r))
    rw [sg_app, sg_app]
    intro z
    rcases List.mem_append.mp z with z | z
    · rcases List.mem_append.mp z with z | z
      · exact h x List.mem_cons_self z
      · exact hs z
    · exact join_free c sep hs (y :: r) (fun w hw => h w (List.mem_cons_of_mem _ hw)) z
theorem sp_eq : (" " : Str) = ⟨#[32]⟩ := by decide
theorem nl_eq : ("\n" : Str) = ⟨#[10]⟩ := by decide
theorem num_free {x : Int} (h : 0 ≤ x) {c : Nat} (hc : c < 48 ∨ 57 < c) : c ∉ sg (numS x) := by
  obtain ⟨m, rfl⟩ := Int.eq_ofNat_of_zero_le h
  exact fig_free (num_fig m) hc
theorem spaced_free {ns : List Int} (h : ∀ x ∈ ns, 0 ≤ x) {c : Nat} (hc : c < 48 ∨ 57 < c) (h32 : c ≠ 32) : c ∉ sg (spacedS ns) := by
  unfold spacedS
  rw [join_glued]
  refine join_free c _ ?_ _ fun w hw => ?_
  · rw [sp_eq]
    intro z
    exact h32 (List.mem_singleton.mp z)
  · obtain ⟨x, hx, rfl⟩ := List.mem_map.mp hw
    exact num_free (h x hx) hc
theorem empty_app (x : Str) : Str.empty ++ x = x := sg_inj (by rw [sg_app]; rfl)
/-- a line of a house: a word, and numbers behind it -/
theorem line_join (a : Str) : ∀ {ns : List Int}, ns ≠ [] → Str.empty ++ (a ++ " ") ++ spacedS ns = Txt.join " " (a :: ns.map numS)
  | [], h => absurd rfl h
  | n :: ns, _ => by
    unfold spacedS
    rw [join_glued, join_glued, empty_app]
    rfl
theorem line_split (a : Str) {ns : List Int} (h0 : ns ≠ []) (h : ∀ x ∈ ns, 0 ≤ x) (ha : 32 ∉ sg a) : Txt.split (Str.empty ++ (a ++ " ") ++ spacedS ns) " " = a :: ns.map numS := by
  rw [line_join a h0, sp_eq]
  refine split_join 32 _ (List.cons_ne_nil _ _) fun p hp => ?_
  rcases List.mem_cons.mp hp with rfl | hp
  · exact ha
  · obtain ⟨x, hx, rfl⟩ := List.mem_map.mp hp
    exact num_free (h x hx) (.inl (by decide))
theorem house_word : ("house " : Str) = "house" ++ " " := by decide
theorem skip_word : ("skip " : Str) = "skip" ++ " " := by decide
def headS (bs : List Int) : Str := Str.empty ++ "house " ++ spacedS bs
theorem head_split {bs : List Int} (h0 : bs ≠ []) (h : ∀ x ∈ bs, 0 ≤ x) : Txt.split (headS bs) " " = ("house" : Str) :: bs.map numS := by
  unfold headS
  rw [house_word]
  exact line_split ("house" : Str) h0 h (by decide)
theorem row_split {x : R3} (h : 0 ≤ x.1 ∧ 0 ≤ x.2.1 ∧ 0 ≤ x.2.2) : Txt.split (rowS x) " " = ("skip" : Str) :: [x.1, x.2.1, x.2.2].map numS := by
  unfold rowS
  rw [skip_word]
  refine line_split ("skip" : Str) (List.cons_ne_nil _ _) (fun y hy => ?_) (by decide)
  simp at hy
  rcases hy with rfl | rfl | rfl
  · exact h.1
  · exact h.2.1
  · exact h.2.2
theorem house_split {bs : List Int} {rows : List R3} (h : ∀ x ∈ bs, 0 ≤ x) (hr : ∀ x ∈ rows, 0 ≤ x.1 ∧ 0 ≤ x.2.1 ∧ 0 ≤ x.2.2) : Txt.split (houseS bs rows) "\n" = headS bs :: rows.map rowS := by
  have e : houseS bs rows = Txt.join "\n" (headS bs :: rows.map rowS) := rfl
  have fr : ∀ (a : Str) (ns : List Int), 10 ∉ sg a → (∀ x ∈ ns, 0 ≤ x) → 10 ∉ sg (Str.empty ++ a ++ spacedS ns) := fun a ns ha hn z => by
    rw [sg_app, sg_app] at z
    rcases List.mem_append.mp z with z | z
    · rcases List.mem_append.mp z with z | z
      · exact nomatch z
      · exact ha z
    · exact spaced_free hn (.inl (by decide)) (by decide) z
  rw [e, nl_eq]
  refine split_join 10 _ (List.cons_ne_nil _ _) fun p hp => ?_
  rcases List.mem_cons.mp hp with rfl | hp
  · exact fr _ _ (by decide) h
  · obtain ⟨x, hx, rfl⟩ := List.mem_map.mp hp
    refine fr _ _ (by decide) fun y hy => ?_
    simp at hy
    have := hr x hx
    rcases hy with rfl | rfl | rfl
    · exact this.1
    · exact this.2.1
    · exact this.2.2
/-- the text of a house, as the law writes it -/
def statedStep (s : Str) (x : R3) : Str := s ++ "\nskip " ++ spacedS [x.1, x.2.1, x.2.2]
def statedL (bs : List Int) (rows : List R3) : Str := rows.foldl statedStep ("house " ++ spacedS bs)
theorem stated_eq (bs : List Int) (rows : List R3) : statedL bs rows = houseS bs rows := by
  have e : houseS bs rows = Txt.join "\n" (headS bs :: rows.map rowS) := rfl
  have e2 : headS bs = "house " ++ spacedS bs := by
    unfold headS
    rw [empty_app]
  have e3 : ("\nskip " : Str) = "\n" ++ "skip " := by decide
  unfold statedL
  rw [e, join_glued, join_fold, List.foldl_map, e2]
  clear e e2
  generalize ("house " : Str) ++ spacedS bs = s
  induction rows generalizing s with
  | nil => rfl
  | cons x rows ih =>
    rw [List.foldl_cons, List.foldl_cons]
    have e4 : statedStep s x = s ++ "\n" ++ rowS x := by
      unfold statedStep rowS
      rw [empty_app, e3]
      exact sg_inj (by simp only [sg_app, List.append_assoc])
    rw [e4]
    exact ih _
theorem house_len {bs : List Int} {rows : List R3} (h3 : bs.length ≤ 3) (hb : ∀ x ∈ bs, 0 ≤ x ∧ x ≤ 60) (h6 : rows.length ≤ 6) (hr : ∀ x ∈ rows, (0 ≤ x.1 ∧ x.1 ≤ 60) ∧ (0 ≤ x.2.1 ∧ x.2.1 ≤ 60) ∧ 0 ≤ x.2.2 ∧ x.2.2 ≤ 60) : (houseS bs rows).length ≤ 3000 ∧ (headS bs).length ≤ 300 ∧ ∀ x ∈ rows, (rowS x).length ≤ 300 := by
  have l0 : (Str.empty ++ "house " : Str).length = 6 := by decide
  have l1 : (Str.empty ++ "skip " : Str).length = 5 := by decide
  have hh : (headS bs).length ≤ 300 := by
    have := spaced_len h3 hb
    unfold headS
    rw [Str.length_append, l0]
    omega
  have hw : ∀ x ∈ rows, (rowS x).length ≤ 300 := fun x hx => by
    have h := hr x hx
    have := spaced_len (ns := [x.1, x.2.1, x.2.2]) (Nat.le_refl 3) (fun z hz => by
      simp at hz
      rcases hz with rfl | rfl | rfl
      · exact h.1
      · exact h.2.1
      · exact h.2.2)
    unfold rowS
    rw [Str.length_append, l1]
    omega
  refine ⟨?_, hh, hw⟩
  have e : houseS bs rows = Txt.join "\n" (headS bs :: rows.map rowS) := rfl
  rw [e]
  refine Nat.le_trans (join_len _ _ 300 fun y hy => ?_) ?_
  · rcases List.mem_cons.mp hy with rfl | hy
    · exact hh
    · obtain ⟨x, hx, rfl⟩ := List.mem_map.mp hy
      exact hw x hx
  · have e : (("\n" : Str)).length = 1 := by decide
    rw [List.length_cons, List.length_map, e]
    refine Nat.le_trans (Nat.mul_le_mul_right _ (show rows.length + 1 ≤ 7 by omega)) (by decide)
end LM

set_option Elab.async false
set_option linter.all false
set_option maxRecDepth 100000
set_option maxHeartbeats 4000000
set_option pp.maxSteps 600
set_option pp.deepTerms false
namespace LM
open PySem PySem.Spec PyProof.Rows L2 RZ
local macro_rules | `(tactic| walk_at "hp") => `(tactic| first | assumption | exact upd_same | (rw [upd_ne (by assumption)]; assumption) | (rw [upd_ne (Ne.symm (by assumption))]; assumption) | (rw [upd_ne (by assumption)]; exact upd_same) | (rw [upd_ne (Ne.symm (by assumption))]; exact upd_same))
local macro_rules | `(tactic| walk_at "sq") => `(tactic| first | assumption | exact Or.inl (Or.inl (by assumption)) | exact Or.inl (Or.inl upd_same) | exact Or.inl (Or.inl (by walk_at "hp")))
local macro_rules | `(tactic| walk_at "ixl") => `(tactic| refine ⟨_, _, _, _, rfl, rfl, (by walk_at "sq"), (by rfl), ?_⟩)
local macro_rules | `(tactic| walk_at "setl") => `(tactic| refine ⟨_, _, _, _, rfl, rfl, (by walk_at "hp"), (by rfl), ?_⟩)
local macro_rules | `(tactic| walk_at "side") => `(tactic| refine idP ?_; first | omega | (show (0 : Int) < _; omega) | (show (0 : Int) < _ ∧ _ < _; omega) | (refine Or.inr ?_; show (-(2 ^ 64) : Int) < _ ∧ _ < _; omega) | (refine Or.inl ?_; show (-(2 ^ 64) : Int) < _ ∧ _ < _; omega) | exact divW (by omega) (by omega) _ | (refine ⟨by decide, by decide, ?_⟩; decide))
local macro_rules | `(tactic| walk_at "go1") => `(tactic| first
  | refine ⟨_, rfl, ?_⟩
  | refine ⟨_, _, rfl, rfl, (by walk_at "side"), ?_⟩
  | refine ⟨_, _, rfl, (by walk_at "side"), ?_⟩
  | refine ⟨_, _, rfl, rfl, ?_⟩
  | refine Or.inl ⟨_, rfl, ?_⟩
  | refine ⟨_, _, rfl, Or.inl (by walk_at "sq"), ?_⟩
  | walk_at "ixl"
  | walk_at "setl"
  | refine ⟨_, _, rfl, (by walk_at "sq"), rfl, ?_⟩
  | refine ⟨_, _, rfl, (by walk_at "sq"), ?_⟩
  | refine ⟨_, _, rfl, ?_⟩
  | refine ⟨rfl, ?_⟩
  | refine ⟨small (Nat.le_of_ble_eq_true rfl), ?_⟩)
local macro_rules | `(tactic| walk_at "go") => `(tactic| repeat walk_at "go1")

abbrev sHouse_read : Stmt := inClass (topS 57) 1
theorem scHouse_read : FnScope ["cls", "text", "first", "others", "bases", "rows", "line"] ["cls", "text"] (defScope sHouse_read) := ⟨rfl, rfl, rfl, by decide +kernel, rfl, by decide +kernel, by decide +kernel⟩
abbrev sHouse__eq_ : Stmt := inClass (topS 57) 16
theorem scHouse__eq_ : FnScope ["self", "other"] ["self", "other"] (defScope sHouse__eq_) := ⟨rfl, rfl, rfl, by decide +kernel, rfl, by decide +kernel, by decide +kernel⟩
abbrev sHouse__str_ : Stmt := inClass (topS 57) 17
theorem scHouse__str_ : FnScope ["self"] ["self"] (defScope sHouse__str_) := ⟨rfl, rfl, rfl, by decide +kernel, rfl, by decide +kernel, by decide +kernel⟩
abbrev sHouse__repr_ : Stmt := inClass (topS 57) 18
theorem scHouse__repr_ : FnScope ["self"] ["self"] (defScope sHouse__repr_) := ⟨rfl, rfl, rfl, by decide +kernel, rfl, by decide +kernel, by decide +kernel⟩
theorem Other.tup {K : PySem.W.Frag} {C : Addr} {H : Hp} (o : Other K C) {a : Addr} {xs : List V} (h : SqT K H a xs) : Alien K C H (.ref a) := ⟨_, tyT h, o.tup1, o.tup2⟩
theorem hf_text (b r sk ah rd : Addr) (t : Str) : (hf b r sk ah rd t).lookup ("_text" : Str) = some (.str t) := by
  unfold hf
  rw [lookup_putF, if_neg (by decide +kernel), lookup_putF, if_neg (by decide +kernel), lookup_putF, if_neg (by decide +kernel), lookup_putF, if_pos rfl]
theorem hf_rows (b r sk ah rd : Addr) (t : Str) : (hf b r sk ah rd t).lookup ("_rows" : Str) = some (.ref r) := by
  unfold hf
  rw [lookup_putF, if_neg (by decide +kernel), lookup_putF, if_neg (by decide +kernel), lookup_putF, if_neg (by decide +kernel), lookup_putF, if_neg (by decide +kernel), lookup_putF, if_pos rfl]
/-- an instance of the class with this text -/
def TextAt (C : Addr) (H : Hp) (p : Addr) (z : Str) : Prop := ∃ dx fs, H p = some (.ins C dx fs) ∧ fs.lookup ("_text" : Str) = some (.str z)
theorem HouseAt.text {K : PySem.W.Frag} {C : Addr} {old : Addr → Prop} {H : Hp} {p b r : Addr} {bs : List Int} {rows : List R3} {cs : List Int} (h : HouseAt K C old H p b r bs rows cs) : TextAt C H p (houseS bs rows) := by
  obtain ⟨⟨dx, sk, ah, rd, e1, _⟩, _⟩ := h
  exact ⟨dx, _, e1, hf_text _ _ _ _ _ _⟩
theorem TextAt.same {C : Addr} {H H' : Hp} {p : Addr} {z : Str} (h : TextAt C H p z) (s : Same H H') : TextAt C H' p z := by
  obtain ⟨dx, fs, e1, e2⟩ := h
  exact ⟨dx, fs, s _ _ e1, e2⟩
def spEq (K : PySem.W.Frag) (C : Addr) : Sp := fun vs H Q _ => ∃ (p : Addr) (y : V) (z : Str), vs = [.ref p, y] ∧ TextAt C H p z ∧ ((∃ q z', y = .ref q ∧ TextAt C H q z' ∧ Q (.bl (decide (z = z'))) H) ∨ (Alien K C H y ∧ Q (.bl false) H))
def spStr (C : Addr) : Sp := fun vs H Q _ => ∃ (p : Addr) (z : Str), vs = [.ref p] ∧ TextAt C H p z ∧ Q (.str z) H
def reprS (bs : List Int) (rows : List R3) : Str := Str.empty ++ "House(" ++ spacedS bs ++ ", " ++ numS rows.length ++ " rows)"
def spRepr (K : PySem.W.Frag) (C : Addr) : Sp := fun vs H Q _ => ∃ (old : Addr → Prop) (p b r : Addr) (bs : List Int) (rows : List R3) (cs : List Int), vs = [.ref p] ∧ HouseAt K C old H p b r bs rows cs ∧ ∀ H', Same H H' → Q (.str (reprS bs rows)) H'
def spRead (K : PySem.W.Frag) (C : Addr) : Sp := fun vs H Q _ => ∃ (bs : List Int) (rows : List R3), vs = [.ref C, .str (houseS bs rows)] ∧ Fair bs rows ∧
  ∀ (p b r : Addr) (cs : List Int) H', Same H H' → H p = none → HouseAt K C (fun q => H q ≠ none) H' p b r bs rows cs → Q (.ref p) H'
section
variable {P : Program} {w : World} {K : PySem.W.Frag} {mg : Str → Option Value} {base : Heap}
theorem ok_eq {f C : Addr} {fd : FuncData} (F : Fun K "__eq__" "House.__eq__" sHouse__eq_ f fd) (T : HouseTxt K mg C) (N : Names mg) (O : Other K C) (W : OwnT K C) : FnOk P w K mg base CX0 1 f fd ["self", "other"] (spEq K C) := by
  have sc := scHouse__eq_
  refine F.ok sc (fun vs H Q E h => ?_) (fun cdv A outer s H vs Q E hr h => ?_)
  · obtain ⟨p, y, z, rfl, _⟩ := h
    rfl
  · obtain ⟨p, y, z, rfl, ⟨dx, fs, e1, l1⟩, h⟩ := h
    refine ⟨_, (pss_one (ps_ret (pe_and (pe_callB call_isi (by rfl) N.isinstance (by decide +kernel) (pa_cons (pv 1) (pa_cons (pe_glob (v := .ref C) rfl T.mgC rfl) pa_nil))) (pe_one (pe_cmpR op_eq (pe_fld (pv 0) rfl) (pe_fld (pv 1) rfl) (nomark _)))))), ?_⟩
    rcases h with ⟨q, z', rfl, ⟨dx', fs', e2, l2⟩, k⟩ | ⟨⟨t, ty, n1, n2⟩, k⟩
    · refine ⟨_, rfl, _, _, _, _, _, rfl, .own _, W.ty T.cl e2, O.own2, _, rfl, ?_⟩
      refine iteT ?_
      refine ⟨_, rfl, p, C, dx, _, _, rfl, e1, T.cl, T.nT, l1, _, rfl, q, C, dx', _, _, rfl, e2, T.cl, T.nT, l2, rfl, ?_⟩
      have e : decide (V.str z = V.str z') = decide (z = z') := by
        by_cases h : z = z'
        · rw [decide_eq_true h, decide_eq_true (congrArg V.str h)]
        · rw [decide_eq_false h, decide_eq_false (fun q => h (V.str.inj q))]
      rw [e]
      exact k
    · refine ⟨_, rfl, _, _, _, _, _, rfl, .own _, ty, n2, _, rfl, ?_⟩
      exact iteF k
theorem ok_str {f C : Addr} {fd : FuncData} (F : Fun K "__str__" "House.__str__" sHouse__str_ f fd) (T : HouseTxt K mg C) (N : Names mg) : FnOk P w K mg base CX0 1 f fd ["self"] (spStr C) := by
  have sc := scHouse__str_
  refine F.ok sc (fun vs H Q E h => ?_) (fun cdv A outer s H vs Q E hr h => ?_)
  · obtain ⟨p, z, rfl, _⟩ := h
    rfl
  · obtain ⟨p, z, rfl, ⟨dx, fs, e1, l1⟩, k⟩ := h
    refine ⟨_, (pss_one (ps_ret (pe_callTy (T := "str") SkE.call_str_str (by rfl) N.str (by decide +kernel) (pa_cons (pe_fld (pv 0) rfl) pa_nil)))), ?_⟩
    exact ⟨_, rfl, p, C, dx, _, _, rfl, e1, T.cl, T.nT, l1, z, rfl, k⟩
theorem ok_repr {f C : Addr} {fd : FuncData} (F : Fun K "__repr__" "House.__repr__" sHouse__repr_ f fd) (T : HouseTxt K mg C) (N : Names mg) (Dspaced : DefK P w K mg base "spaced" ["parts"] 1 (spSpaced K)) : FnOk P w K mg base CX0 2 f fd ["self"] (spRepr K C) := by
  have sc := scHouse__repr_
  refine F.ok sc (fun vs H Q E h => ?_) (fun cdv A outer s H vs Q E hr h => ?_)
  · obtain ⟨old, p, b, r, bs, rows, cs, rfl, _⟩ := h
    rfl
  · obtain ⟨old, p, b, r, bs, rows, cs, rfl, hA, k⟩ := h
    refine ⟨_, (pss_one (ps_ret (pe_joined (.cons pe_str (.cons (pe_fmt (pe_d Dspaced (hr.mono (by decide)) rfl (pa_cons (pe_fld (pv 0) rfl) pa_nil))) (.cons pe_str (.cons (pe_fmt (pe_callB call_len_seq (by rfl) N.len (by decide +kernel) (pa_cons (pe_fld (pv 0) rfl) pa_nil))) (.cons pe_str .nil)))))))), ?_⟩
    obtain ⟨⟨dx, sk, ah, rd, e1, e2, e3, e4, _, _⟩, hb, hrt, fr, _⟩ := hA
    obtain ⟨as, hrt, pr⟩ := hrt
    have hpl := pr.length
    have hb' : ∀ x ∈ bs, 0 ≤ x ∧ x ≤ 60 := fun x hx => ⟨by have := (fr.bb x hx).1; omega, (fr.bb x hx).2⟩
    have hls := spaced_len fr.b3 hb'
    have l0 : (Str.empty ++ ("House(" : Str)).length = 6 := by decide
    have l1 : (", " : Str).length = 2 := by decide
    have l2 : (" rows)" : Str).length = 6 := by decide
    have r6 := fr.r6
    have ln := numS_len (n := ((rows.length : Nat) : Int)) (by omega) (by omega)
    refine ⟨_, rfl, small (by rw [l0]; omega), _, rfl, p, C, dx, _, _, rfl, e1, T.cl, T.nB, hf_bases _ _ _ _ _ _, b, bs, rfl, hb, fr.b3, hb', fun H1 s1 => ?_⟩
    refine .inl ⟨_, rfl, small (by omega), _, rfl, small (by rw [Str.length_append, l0]; omega), ?_⟩
    have e1' := s1 _ _ e1
    have ln' : (toString (((as.map V.ref).length : Nat) : Int) : Str).length ≤ 62 := by
      rw [List.length_map, hpl]
      exact ln
    have hlog : ((((as.map V.ref).length : Nat) : Int)).natAbs.log2 < 1920 := by
      rw [List.length_map, hpl, Int.natAbs_natCast]
      rcases Nat.eq_zero_or_pos rows.length with z | z
      · rw [z]; decide
      · exact Nat.lt_trans ((Nat.log2_lt (by omega)).mpr (show rows.length < 2 ^ 6 by omega)) (by decide)
    refine ⟨_, rfl, small (by rw [Str.length_append, Str.length_append, l0, l1]; omega), _, rfl, p, C, dx, _, _, rfl, e1', T.cl, T.nR, hf_rows _ _ _ _ _ _, r, _, rfl, .inr (Same.seqT s1 hrt), ?_⟩
    refine .inr ⟨_, rfl, hlog, _, rfl, small (by rw [Str.length_append, Str.length_append, Str.length_append, l0, l1]; omega), ?_⟩
    refine ⟨_, rfl, small (by rw [Str.length_append, Str.length_append, Str.length_append, Str.length_append, l0, l1, l2]; omega), ?_⟩
    have := k H1 s1
    unfold reprS at this
    rw [List.length_map, hpl]
    exact this
theorem ok_read {f C fI : Addr} {fd fdI : FuncData} (F : Fun K "read" "House.read" sHouse_read f fd) (T : HouseTxt K mg C) (N : Names mg) (MK : Mk K C fI) (GI : FnOk P w K mg base CX0 5 fI fdI ["self", "bases", "rows"] (spInit K C)) (bI : Binds K fdI ["self", "bases", "rows"] [])
    (Dnumbers_behind : DefK P w K mg base "numbers_behind" ["word", "line"] 3 spBehind) : FnOk P w K mg base CX0 7 f fd ["cls", "text"] (spRead K C) := by
  have sc := scHouse_read
  refine F.ok sc (fun vs H Q E h => ?_) (fun cdv A outer s H vs Q E hr h => ?_)
  · obtain ⟨bs, rows, rfl, _⟩ := h
    rfl
  · obtain ⟨bs, rows, rfl, fr, k⟩ := h
    refine ⟨_, (pss_cons (ps_if (pt_not (pt_val (pe_callB call_isi (by rfl) N.isinstance (by decide +kernel) (pa_cons (pv 1) (pa_cons (pe_ty "str" rfl N.str (by decide +kernel)) pa_nil))))) (pss_one ps_never) pss_nil)
      (pss_cons (ps_asg (pe_split (pv 1) pe_str) (pg_star1 rfl (pgs_cons (pg_name (i := 2) sc.nd rfl (Or.inl rfl)) (pgs_star (pg_name (i := 3) sc.nd rfl (Or.inl rfl)) pgs_nil))))
      (pss_cons (ps_set (i := 4) sc.nd rfl (Or.inl rfl) (pe_d Dnumbers_behind (hr.mono (by decide)) rfl (pa_cons pe_str (pa_cons (pv 2) pa_nil))))
      (pss_cons (ps_set (i := 5) sc.nd rfl (Or.inl rfl) (pe_callTy (T := "tuple") call_tuple_of (by rfl) N.tuple (by decide +kernel) (pa_cons (pe_lc (own := [("line", 6)]) rfl sc.nd (pi_list (pv 3)) (blkOk_by (own := [("line", 6)]) (N := ["cls", "text", "first", "others", "bases", "rows", "line"]) (sc := defScope (inClass (topS 57) 1)) (by decide +kernel)) (fun _ _ _ _ _ => (pg_name (i := 6) sc.nd rfl (Or.inl rfl))) (fun _ _ _ _ _ => pts_nil) (fun _ _ _ _ _ => (pe_d Dnumbers_behind (hr.mono (by decide)) rfl (pa_cons pe_str (pa_cons (pv 6) pa_nil))))) pa_nil)))
      (pss_one (ps_try_thru0 (pss_one (ps_ret (pe_makeV (i := 0) MK GI hr rfl (Or.inl rfl) bI .nil pass0 (pa_cons (pv 4) (pa_cons (pv 5) pa_nil))))))))))), ?_⟩
    have hb0 : ∀ x ∈ bs, 0 ≤ x := fun x hx => by have := (fr.bb x hx).1; omega
    have hb' : ∀ x ∈ bs, 0 ≤ x ∧ x ≤ 60 := fun x hx => ⟨hb0 x hx, (fr.bb x hx).2⟩
    have hro : ∀ x ∈ rows, (0 ≤ x.1 ∧ x.1 ≤ 60) ∧ (0 ≤ x.2.1 ∧ x.2.1 ≤ 60) ∧ 0 ≤ x.2.2 ∧ x.2.2 ≤ 60 := fun x hx => by
      have o := fr.ro x hx
      have h1 := o.1; have h2 := o.2.1; have h3 := o.2.2.1; have h4 := o.2.2.2.1; have h5 := o.2.2.2.2.1; have h6 := o.2.2.2.2.2
      have hl := (fr.bb _ (lastD_mem fr.b0)).2
      have h3 := fr.b3
      exact ⟨⟨h1, by omega⟩, ⟨by omega, h4⟩, h5, by omega⟩
    obtain ⟨t1, t2, t3⟩ := house_len fr.b3 hb' fr.r6 hro
    refine ⟨_, rfl, _, _, _, _, _, rfl, .ty _, .base (.str _), kit_ty (r := true) (by decide +kernel), _, rfl, ?_⟩
    refine iteF ?_
    refine ⟨_, rfl, ⟨_, rfl⟩, _, _, rfl, rfl, (by decide), Nat.le_trans (show (houseS bs rows).length + 2 ≤ 3002 by omega) (by decide), ?_⟩
    (intro q nq; generalize e_q : upd H q _ = H1; have s1 : Same H H1 := fun b x hb => (congrFun e_q b).symm.trans (same_new nq b x hb); have h1 := (congrFun e_q q).symm.trans upd_same; clear e_q)
    rw [house_split hb0 fun x hx => ⟨(hro x hx).1.1, (hro x hx).2.1.1, (hro x hx).2.2.1⟩] at h1
    refine ⟨q, _, _, rfl, SqL.lst h1, ?_⟩
    (intro o no; generalize e_o : upd H1 o _ = H2; have s2 : Same H1 H2 := fun b x hb => (congrFun e_o b).symm.trans (same_new no b x hb); have h2 := (congrFun e_o o).symm.trans upd_same; clear e_o)
    have s02 := s1.trans s2
    refine ⟨_, _, rfl, _, _, rfl, rfl, ?_⟩
    have hb0' : bs ≠ [] := fun z => by have := fr.b0; rw [z] at this; exact absurd this (by decide)
    refine ⟨_, rfl, _, _, _, _, rfl, by omega, head_split hb0' hb0, fun _ b H3 s3 nb eb => ?_, fun h => absurd rfl h⟩
    have eb' : H3 b = some (.tup (bs.map V.int)) := by
      rw [eb, List.map_map]
      refine congrArg (fun l => some (HO.tup l)) (List.map_congr_left fun x hx => ?_)
      show readV (readN (numS x)) = V.int x
      rw [read_num (hb' x hx).1 (hb' x hx).2]
      rfl
    have s03 := s02.trans s3
    have h3 := s3 _ _ h2
    refine ⟨_, rfl, o, rfl, ⟨_, SqL.lst h3⟩, ?_⟩
    intro D nD
    refine lc_list (K := K) (xs := (rows.map rowS).map V.str) (fun i H' => ∃ ts : List Addr, Same H3 H' ∧ H' D = some (.lst (ts.map V.ref)) ∧ Paired (fun a (x : R3) => H' a = some (.tup [.int x.1, .int x.2.1, .int x.2.2])) ts (rows.take i)) ⟨[], same_new nD, upd_same, .nil⟩ (fun i H' _ ⟨_, s, _⟩ => SqL.lst (s _ _ h3)) ?_ ?_
    · rintro i x H' hx ⟨ts, sm, eD, pt⟩
      obtain ⟨y, hy, rfl⟩ : ∃ b, rows[i]? = some b ∧ x = V.str (rowS b) := by
        rw [List.map_map, List.getElem?_map] at hx
        obtain ⟨z, hz, e⟩ := Option.map_eq_some_iff.mp hx
        exact ⟨z, hz, e.symm⟩
      have hym := List.mem_of_getElem? hy
      have hry := hro y hym
      refine ⟨rfl, ?_⟩
      refine ⟨_, rfl, _, _, _, _, rfl, by have := t3 y hym; omega, row_split ⟨hry.1.1, hry.2.1.1, hry.2.2.1⟩, fun _ t H4 s4 nt et => ?_, fun h => absurd rfl h⟩
      have et' : H4 t = some (.tup [.int y.1, .int y.2.1, .int y.2.2]) := by
        rw [et]
        refine congrArg (fun l => some (HO.tup l)) ?_
        show [readV (readN (numS y.1)), readV (readN (numS y.2.1)), readV (readN (numS y.2.2))] = _
        rw [read_num hry.1.1 hry.1.2, read_num hry.2.1.1 hry.2.1.2, read_num hry.2.2.1 hry.2.2.2]
        rfl
      have eD4 := s4 _ _ eD
      have hpt := pt.length
      refine ⟨_, eD4, smallLt (by have := fr.r6; rw [List.length_map, hpt, List.length_take]; omega), ts ++ [t], same_mut (sm.trans s4) nD, ?_, ?_⟩
      · rw [upd_same, List.map_append]
        rfl
      · rw [List.take_add_one, hy]
        have ntD : t ≠ D := fun z => by rw [z, eD] at nt; cases nt
        refine paired_app (paired_imp pt fun c hc y hy => ?_) ?_
        · have hy2 := s4 _ _ hy
          rw [upd_ne (fun z => by rw [z, eD4] at hy2; cases hy2)]
          exact hy2
        · rw [upd_ne ntD]
          exact et'
    rintro H4 ⟨ts, s4, eD, pt⟩
    rw [List.take_of_length_le (by rw [List.length_map, List.length_map]; exact Nat.le_refl _)] at pt
    refine ⟨D, _, rfl, .inl ⟨SqL.lst eD, ?_⟩⟩
    (intro r nr; generalize e_r : upd H4 r _ = H5; have s5 : Same H4 H5 := fun b x hb => (congrFun e_r b).symm.trans (same_new nr b x hb); have h5 := (congrFun e_r r).symm.trans upd_same; clear e_r)
    refine ⟨rfl, _, rfl, _, rfl, ?_⟩
    intro p dx np ndx ndp
    generalize e6 : upd (upd H5 dx (.own p)) p _ = H6
    have s6 : Same H5 H6 := fun c o h => (congrFun e6 c).symm.trans (by rw [upd_ne (ne_of_none h np), upd_ne (ne_of_none h ndx)]; exact h)
    have hp6 : H6 p = some (.ins C dx []) := (congrFun e6 p).symm.trans upd_same
    have s35 := s4.trans s5
    have s05 := s03.trans s35
    refine ⟨p, dx, b, r, bs, rows, rfl, hp6, SqT.tup (s6 _ _ (s35 _ _ eb')), ⟨ts, SqT.tup (s6 _ _ h5), paired_imp pt fun a _ x q => SqT.tup (s6 _ _ (s5 _ _ q))⟩, fr, fun cs H7 hh e7 => ⟨rfl, k p b r cs H7 ?_ (s05.free np) (hh.weak fun q hq z => ?_)⟩⟩
    rotate_left
    · cases e : H q with
      | none => exact hq e
      | some o =>
        have := s6 _ _ (s05 _ _ e)
        rw [z] at this
        cases this
    exact fun c o h => e7 _ _ (ne_of_none (s05 _ _ h) np) (s6 _ _ (s05 _ _ h))
end
end LM

set_option Elab.async false
set_option linter.all false
set_option maxRecDepth 100000
set_option maxHeartbeats 4000000
set_option pp.maxSteps 600
set_option pp.deepTerms false
namespace LM
open PySem PySem.Spec PyProof.Rows L2 RZ
local macro_rules | `(tactic| walk_at "hp") => `(tactic| first | assumption | exact upd_same | (rw [upd_ne (by assumption)]; assumption) | (rw [upd_ne (Ne.symm (by assumption))]; assumption) | (rw [upd_ne (by assumption)]; exact upd_same) | (rw [upd_ne (Ne.symm (by assumption))]; exact upd_same))
local macro_rules | `(tactic| walk_at "sq") => `(tactic| first | assumption | exact Or.inl (Or.inl (by assumption)) | exact Or.inl (Or.inl upd_same) | exact Or.inl (Or.inl (by walk_at "hp")))
local macro_rules | `(tactic| walk_at "ixl") => `(tactic| refine ⟨_, _, _, _, rfl, rfl, (by walk_at "sq"), (by rfl), ?_⟩)
local macro_rules | `(tactic| walk_at "setl") => `(tactic| refine ⟨_, _, _, _, rfl, rfl, (by walk_at "hp"), (by rfl), ?_⟩)
local macro_rules | `(tactic| walk_at "side") => `(tactic| refine idP ?_; first | omega | (show (0 : Int) < _; omega) | (show (0 : Int) < _ ∧ _ < _; omega) | (refine Or.inr ?_; show (-(2 ^ 64) : Int) < _ ∧ _ < _; omega) | (refine Or.inl ?_; show (-(2 ^ 64) : Int) < _ ∧ _ < _; omega) | exact divW (by omega) (by omega) _ | (refine ⟨by decide, by decide, ?_⟩; decide))
local macro_rules | `(tactic| walk_at "go1") => `(tactic| first
  | refine ⟨_, rfl, ?_⟩
  | refine ⟨_, _, rfl, rfl, (by walk_at "side"), ?_⟩
  | refine ⟨_, _, rfl, (by walk_at "side"), ?_⟩
  | refine ⟨_, _, rfl, rfl, ?_⟩
  | refine Or.inl ⟨_, rfl, ?_⟩
  | refine ⟨_, _, rfl, Or.inl (by walk_at "sq"), ?_⟩
  | walk_at "ixl"
  | walk_at "setl"
  | refine ⟨_, _, rfl, (by walk_at "sq"), rfl, ?_⟩
  | refine ⟨_, _, rfl, (by walk_at "sq"), ?_⟩
  | refine ⟨_, _, rfl, ?_⟩
  | refine ⟨rfl, ?_⟩
  | refine ⟨small (Nat.le_of_ble_eq_true rfl), ?_⟩)
local macro_rules | `(tactic| walk_at "go") => `(tactic| repeat walk_at "go1")

abbrev x_check_house : Stmt := topS 58
theorem xsc_check_house : FnScope ["given"] ["given"] (defScope x_check_house) := ⟨rfl, rfl, rfl, by decide +kernel, rfl, by decide +kernel, by decide +kernel⟩
abbrev sNotAHouse__init_ : Stmt := inClass (topS 4) 0
theorem scNotAHouse__init_ : FnScope ["self", "given"] ["self", "given"] (defScope sNotAHouse__init_) := ⟨rfl, rfl, rfl, by decide +kernel, rfl, by decide +kernel, by decide +kernel⟩
/-- no value of a kind is a house -/
def HouseNot (K : PySem.W.Frag) (C : Addr) : Prop := ∀ T ∈ kindsL, PySem.W.kitOne K (.type T) (.ref C) = some false
theorem HouseNot.mk {K : PySem.W.Frag} {C : Addr} (a1 : PySem.W.kitOne K (.type "int") (.ref C) = some false) (a2 : PySem.W.kitOne K (.type "bool") (.ref C) = some false) (a3 : PySem.W.kitOne K (.type "str") (.ref C) = some false) (a4 : PySem.W.kitOne K (.type "NoneType") (.ref C) = some false) (a5 : PySem.W.kitOne K (.type "list") (.ref C) = some false) (a6 : PySem.W.kitOne K (.type "tuple") (.ref C) = some false) (a7 : PySem.W.kitOne K (.type "dict") (.ref C) = some false) : HouseNot K C := by
  intro T h
  simp only [kindsL, List.mem_cons, List.not_mem_nil, or_false] at h
  rcases h with rfl | rfl | rfl | rfl | rfl | rfl | rfl <;> assumption
/-- how a house shows itself -/
def owHouse (K : PySem.W.Frag) (C : Addr) : Hp → Addr → Str → Prop := fun H a t => ∃ (old : Addr → Prop) (b r : Addr) (bs : List Int) (rows : List R3) (cs : List Int), HouseAt K C old H a b r bs rows cs ∧ t = reprS bs rows
/-- a house, or a value of a kind -/
def spChkHouseG (K : PySem.W.Frag) (C CH : Addr) : Sp := fun vs H Q E => ∃ y, vs = [y] ∧ ((∃ (p dx : Addr) (fs : List (Str × V)), y = .ref p ∧ H p = some (.ins C dx fs) ∧ Q .non H) ∨ ((∃ T, Kind K H y T) ∧ RaiseQ CH "given" y H E))
section
variable {P : Program} {w : World} {K : PySem.W.Frag} {mg : Str → Option Value} {base : Heap}
theorem ok_ehouse {f C W : Addr} {fd : FuncData} (F : Fun K "__init__" "NotAHouse.__init__" sNotAHouse__init_ f fd) (B : BaseC K W) (gW : mg "WrongValue" = some (.ref W)) (T : OexC K C) (no : PySem.W.findIn K (.ref C) "given" = some none) : FnOk P w K mg base CX0 1 f fd ["self", "given"] (spExI K C "given") := by
  have sc := scNotAHouse__init_
  refine F.ok sc (fun vs H Q E h => exi_read h) (fun cdv A outer s H vs Q E hr h => ?_)
  obtain ⟨a, y, rfl, ha, k⟩ := h
  refine ⟨_, (pss_cons (ps_expr (pe_cinit B rfl gW (pa_cons (pv 0) (pa_cons pe_str pa_nil)))) (pss_one (ps_ost (pv 0) (pv 1)))), ?_⟩
  refine ⟨_, rfl, a, C, _, rfl, Nat.le_of_ble_eq_true rfl, T, ha, ?_⟩
  exact ⟨_, rfl, _, rfl, a, C, rfl, T, no, .inl ⟨ha, k⟩⟩
theorem own_house {f C : Addr} {fd : FuncData} (hs : PySem.W.findIn K (.ref C) "__repr__" = some (some (.ref f))) (hf : PySem.W.isFn K (.ref f) = true) (F : FnOk P w K mg base CX0 2 f fd ["self"] (spRepr K C)) (hb : Binds K fd ["self"] []) (X : Cx) (e1 : X.prog = P) (e2 : X.w = w) (e3 : X.K = K) (e4 : X.mg = mg) (e5 : X.base = base) (pins : List (Addr × Obj)) (σ : L2.St) (H : Hp) : OwnI X pins σ 2 (owHouse K C H) H := by
  subst e1 e2 e3 e4 e5
  refine ownI_of (E := E0) hs hf F hb pass0 fun a t ⟨old, b, r, bs, rows, cs, hA, et⟩ => ?_
  obtain ⟨dx, sk, ah, rd, q1, _⟩ := id hA.ob
  refine ⟨dx, _, q1, fun Hc s Q k => ?_⟩
  subst et
  exact ⟨old, a, b, r, bs, rows, cs, rfl, hA.same s, fun H2 s2 => k H2 s2⟩
theorem ok_chkhouseG {f C CH : Addr} {fd : FuncData} (F : Fun K "check_house" "check_house" x_check_house f fd) (T : HouseTxt K mg C) (N : Names mg) (O : Other K C) (W : OwnT K C) (NH : HouseNot K C) (EH : ErrC P w K mg base "NotAHouse" CH "given") : FnOk P w K mg base (L2.CX P w) 3 f fd ["given"] (spChkHouseG K C CH) := by
  have sc := xsc_check_house
  refine F.okX sc (fun vs H Q E h => ?_) (fun cdv A outer s H vs Q E hr h => ?_)
  · obtain ⟨y, rfl, _⟩ := h
    rfl
  · obtain ⟨y, rfl, h⟩ := h
    refine ⟨_, (pss_one (ps_if (pt_not (pt_val (pe_callB call_isi (by rfl) N.isinstance (by decide +kernel) (pa_cons (pv 0) (pa_cons (pe_glob (v := .ref C) rfl T.mgC rfl) pa_nil))))) (pss_one (ps_raise rfl (takes_of rfl rfl rfl rfl) (pmk_err EH (hr.mono (by decide)) rfl (pv 0)))) pss_nil)), ?_⟩
    rcases h with ⟨p, dx, fs, rfl, e, k⟩ | ⟨⟨T', hk⟩, k⟩
    · refine ⟨_, rfl, _, _, _, _, _, rfl, .own _, W.ty T.cl e, O.own2, _, rfl, ?_⟩
      exact iteF k
    · refine ⟨_, rfl, _, _, _, _, _, rfl, .own _, hk.1, NH _ hk.2, _, rfl, ?_⟩
      refine iteT ?_
      exact ⟨_, rfl, Nat.le_of_ble_eq_true rfl, fun a ha => made_read (fun d H' s n e => k d H' s n e) a ha⟩
end
end LM

set_option Elab.async false
set_option linter.all false
set_option maxRecDepth 100000
set_option maxHeartbeats 4000000
set_option pp.maxSteps 600
set_option pp.deepTerms false
namespace LM
open PySem PySem.Spec PyProof.Rows L2 RZ
local macro_rules | `(tactic| walk_at "hp") => `(tactic| first | assumption | exact upd_same | (rw [upd_ne (by assumption)]; assumption) | (rw [upd_ne (Ne.symm (by assumption))]; assumption) | (rw [upd_ne (by assumption)]; exact upd_same) | (rw [upd_ne (Ne.symm (by assumption))]; exact upd_same))
local macro_rules | `(tactic| walk_at "sq") => `(tactic| first | assumption | exact Or.inl (Or.inl (by assumption)) | exact Or.inl (Or.inl upd_same) | exact Or.inl (Or.inl (by walk_at "hp")))
local macro_rules | `(tactic| walk_at "ixl") => `(tactic| refine ⟨_, _, _, _, rfl, rfl, (by walk_at "sq"), (by rfl), ?_⟩)
local macro_rules | `(tactic| walk_at "setl") => `(tactic| refine ⟨_, _, _, _, rfl, rfl, (by walk_at "hp"), (by rfl), ?_⟩)
local macro_rules | `(tactic| walk_at "side") => `(tactic| refine idP ?_; first | omega | (show (0 : Int) < _; omega) | (show (0 : Int) < _ ∧ _ < _; omega) | (refine Or.inr ?_; show (-(2 ^ 64) : Int) < _ ∧ _ < _; omega) | (refine Or.inl ?_; show (-(2 ^ 64) : Int) < _ ∧ _ < _; omega) | exact divW (by omega) (by omega) _ | (refine ⟨by decide, by decide, ?_⟩; decide))
local macro_rules | `(tactic| walk_at "go1") => `(tactic| first
  | refine ⟨_, rfl, ?_⟩
  | refine ⟨_, _, rfl, rfl, (by walk_at "side"), ?_⟩
  | refine ⟨_, _, rfl, (by walk_at "side"), ?_⟩
  | refine ⟨_, _, rfl, rfl, ?_⟩
  | refine Or.inl ⟨_, rfl, ?_⟩
  | refine ⟨_, _, rfl, Or.inl (by walk_at "sq"), ?_⟩
  | walk_at "ixl"
  | walk_at "setl"
  | refine ⟨_, _, rfl, (by walk_at "sq"), rfl, ?_⟩
  | refine ⟨_, _, rfl, (by walk_at "sq"), ?_⟩
  | refine ⟨_, _, rfl, ?_⟩
  | refine ⟨rfl, ?_⟩
  | refine ⟨small (Nat.le_of_ble_eq_true rfl), ?_⟩)
local macro_rules | `(tactic| walk_at "go") => `(tactic| repeat walk_at "go1")

abbrev sHouse_frames_at : Stmt := inClass (topS 57) 12
theorem scHouse_frames_at : FnScope ["self", "places", "way", "base", "frames", "first", "borne", "behind", "place", "group"] ["self", "places", "way"] (defScope sHouse_frames_at) := ⟨rfl, rfl, rfl, by decide +kernel, rfl, by decide +kernel, by decide +kernel⟩
theorem natL_snoc (l : List Nat) (k : Nat) : natL (l ++ [k]) = natL l ++ [V.int (k : Int)] := List.map_append
theorem seq_joinC {t1 t2 : TS} {D : Ends} {σ : L2.St} {H : Hp} (J : L2.St → Hp → Prop) (h1 : ∀ D' : Ends, (∀ σ' H', J σ' H' → D'.nx σ' H') → t1 D' σ H) (h2 : ∀ σ' H', J σ' H' → t2 D σ' H') : tSeq t1 t2 D σ H := h1 _ h2
theorem g_nx {i : Nat} {v : V} {σ : L2.St} {H : Hp} {D : L2.St → Hp → Prop} (h : D (σ.set i (some v)) H) : gName i v σ H D := h
theorem near_at {B : Nat} {c : Nat → Nat} (hB : 0 < B) (hc : ∀ g, c g ≤ B) (s : Nat) (nx : Bool) : nearI B c s nx = if (s / B * B + c (s / B) : Nat) ≤ s then ((sumC B c (s / B) : Nat) : Int) + (s : Int) - ((s / B * B + c (s / B) : Nat) : Int) else if nx = true then ((sumC B c (s / B) : Nat) : Int) else ((sumC B c (s / B) : Nat) : Int) - 1 := by
  have h := bel_at hB hc s
  have hd := Nat.div_add_mod' s B
  unfold nearI bor
  by_cases hk : c (s / B) ≤ s % B
  · rw [if_pos (Or.inr (decide_eq_true hk)), if_pos (by omega)]
    omega
  · rw [if_neg (show ¬ (s / B * B + c (s / B) ≤ s) by omega)]
    have e : bel B c s = sumC B c (s / B) := by omega
    rw [e]
    cases nx with
    | true => rw [if_pos (Or.inl rfl), if_pos rfl]
    | false => rw [if_neg (fun z => by rcases z with z | z; exact Bool.false_ne_true z; exact hk (of_decide_eq_true z)), if_neg Bool.false_ne_true]
/-- the group that was looked up last -/
def Looked (B : Nat) (c : Nat → Nat) (rest : List Nat) (fi bo be : Int) : Prop := be = 0 ∨ ∃ G : Nat, fi = ((sumC B c G : Nat) : Int) ∧ bo = ((G * B + c G : Nat) : Int) ∧ be = (((G + 1) * B : Nat) : Int) ∧ ∀ s ∈ rest, G * B ≤ s
/-- the values for places -/
def nearL (B : Nat) (c : Nat → Nat) (nx : Bool) (ss : List Nat) : List V := (ss.map fun s => nearI B c s nx).map V.int
def spFramesAt (K : PySem.W.Frag) (C : Addr) : Sp := fun vs H Q _ => ∃ (old : Addr → Prop) (p b r l : Addr) (bs : List Int) (rows : List R3) (cs : List Int) (B : Nat) (c : Nat → Nat) (L : Nat) (ss : List Nat) (nx : Bool), vs = [.ref p, .ref l, .str (wayS nx)] ∧ HouseBy K C old H p b r bs rows cs B c L ∧ SqL K H l (natL ss) ∧ ss.Pairwise (· ≤ ·) ∧ ss.length ≤ 30000 ∧
  ∀ q H', Same H H' → H q = none → H' q = some (.lst (nearL B c nx ss)) → Q (.ref q) H'
section
variable {P : Program} {w : World} {K : PySem.W.Frag} {mg : Str → Option Value} {base : Heap}
theorem ok_framesat {f C fF : Addr} {fd fdF : FuncData} (F : Fun K "frames_at" "House.frames_at" sHouse_frames_at f fd) (T : HouseTxt K mg C) (N : Names mg)
    (mF : Meth K C "_first_frame" fF) (GF : FnOk P w K mg base CX0 1 fF fdF ["self", "group"] (spFirst K C)) (bF : Binds K fdF ["self", "group"] []) : FnOk P w K mg base CX0 2 f fd ["self", "places", "way"] (spFramesAt K C) := by
  have sc := scHouse_frames_at
  refine F.ok sc (fun vs H Q E h => ?_) (fun cdv A outer s H vs Q E hr h => ?_)
  · obtain ⟨old, p, b, r, l, bs, rows, cs, B, c, L, ss, nx, rfl, _⟩ := h
    rfl
  · obtain ⟨old, p, b, r, l, bs, rows, cs, B, c, L, ss, nx, rfl, hB, hl, hpw, hln, k⟩ := h
    refine ⟨_, (pss_cons (ps_set (i := 3) sc.nd rfl (Or.inl rfl) (pe_ix ix_tup (pe_fld (pv 0) rfl) (pe_un un_neg pe_int) (fun _ _ => rfl)))
      (pss_cons (ps_set (i := 4) sc.nd rfl (Or.inl rfl) (pe_lst pa_nil))
      (pss_cons (ps_asg3 pe_int (pg_name (i := 5) sc.nd rfl (Or.inl rfl)) (pg_name (i := 6) sc.nd rfl (Or.inl rfl)) (pg_name (i := 7) sc.nd rfl (Or.inl rfl)))
      (pss_cons (ps_for PassesOwn.never rfl (pi_list (pv 1)) (pg_name (i := 8) sc.nd rfl (Or.inl rfl)) (pss_cons (ps_if (pt_cmpR op_ge (pv 8) (pv 7) (nomark _)) (pss_cons (ps_set (i := 9) sc.nd rfl (Or.inl rfl) (pe_op op_fdiv (pv 8) (pv 3)))
      (pss_cons (ps_set (i := 5) sc.nd rfl (Or.inl rfl) (pe_meth (pv 0) T.cl mF GF (hr.mono (by decide)) bF .nil pass0 (pa_cons (pv 9) pa_nil)))
      (pss_cons (ps_set (i := 6) sc.nd rfl (Or.inl rfl) (pe_op op_add (pe_op op_mul (pv 9) (pv 3)) (pe_ix ix_list (pe_fld (pv 0) rfl) (pe_op op_mod (pv 9) (pe_ix ix_tup (pe_fld (pv 0) rfl) pe_int (fun _ _ => rfl))) (fun _ _ => rfl))))
      (pss_one (ps_set (i := 7) sc.nd rfl (Or.inl rfl) (pe_op op_mul (pe_op op_add (pv 9) pe_int) (pv 3))))))) pss_nil)
      (pss_one (ps_if (pt_cmpR op_ge (pv 8) (pv 6) (nomark _)) (pss_one (ps_expr (pe_bm PySem.F.plainAttrs_list PySem.F.slot_list_append PySem.F.type_list_append mt_append (pv 4) (pa_cons (pe_op op_sub (pe_op op_add (pv 5) (pv 8)) (pv 6)) pa_nil)))) (pss_one (ps_expr (pe_bm PySem.F.plainAttrs_list PySem.F.slot_list_append PySem.F.type_list_append mt_append (pv 4) (pa_cons (pe_ifExp (pt_cmpR op_eq (pv 2) pe_str (nomark _)) (pv 5) (pe_op op_sub (pv 5) pe_int)) pa_nil))))))))
      (pss_one (ps_ret (pv 4))))))), ?_⟩
    obtain ⟨hA, ct⟩ := id hB
    obtain ⟨⟨dx, sk, ah, rd, e1, e2, e3, e4, _, _⟩, bt, rt, fr, _⟩ := id hA
    rw [ct.total, ct.len] at e4
    have hL := ct.hL
    have hL7 := ct.hL7
    have hB2 := ct.hB
    have hB6 := ct.hB6
    refine ⟨_, rfl, p, C, dx, _, _, rfl, e1, T.cl, T.nB, hf_bases _ _ _ _ _ _, _, rfl, b, _, _, _, rfl, rfl, bt, getLastD_map bs fr.b0, ?_⟩
    rw [ct.last]
    refine ⟨Nat.le_of_ble_eq_true rfl, ?_⟩
    (intro q nq; generalize e_q : upd H q _ = H1; have s1 : Same H H1 := fun b x hb => (congrFun e_q b).symm.trans (same_new nq b x hb); have h1 := (congrFun e_q q).symm.trans upd_same; clear e_q)
    refine ⟨_, rfl, l, rfl, ⟨_, s1.seq hl⟩, for_list (K := K) (xs := natL ss) (fun i σ H' => ∃ (fi bo be : Int) (v8 v9 : Option V), σ = [some (.ref p), some (.ref l), some (.str (wayS nx)), some (.int (B : Int)), some (.ref q), some (.int fi), some (.int bo), some (.int be), v8, v9] ∧ Same H H' ∧ H' q = some (.lst (nearL B c nx (ss.take i))) ∧ Looked B c (ss.drop i) fi bo be)
      ⟨0, 0, 0, _, _, rfl, s1, h1, .inl rfl⟩ (fun i σ H' _ ⟨_, _, _, _, _, _, sm, _⟩ => sm.seq hl) ?_ ?_⟩
    · rintro i x σ H2 hx ⟨fi, bo, be, v8, v9, rfl, s2, hq, lk⟩
      obtain ⟨s, hs, rfl⟩ : ∃ s, ss[i]? = some s ∧ x = V.int (s : Int) := by
        unfold natL at hx
        rw [List.getElem?_map] at hx
        obtain ⟨z, hz, e⟩ := Option.map_eq_some_iff.mp hx
        exact ⟨z, hz, e.symm⟩
      obtain ⟨hil, hse⟩ := List.getElem?_eq_some_iff.mp hs
      have hdrop : ss.drop i = s :: ss.drop (i + 1) := by rw [List.drop_eq_getElem_cons hil, hse]
      have hafter : ∀ t ∈ ss.drop (i + 1), s ≤ t := by
        have h := hpw.sublist (List.drop_sublist i ss)
        rw [hdrop] at h
        exact (List.pairwise_cons.mp h).1
      refine g_nx ?_
      dsimp only
      refine seq_joinC (fun σ' H' => ∃ (v9 : Option V), σ' = [some (.ref p), some (.ref l), some (.str (wayS nx)), some (.int (B : Int)), some (.ref q), some (.int ((sumC B c (s / B) : Nat) : Int)), some (.int ((s / B * B + c (s / B) : Nat) : Int)), some (.int (((s / B + 1) * B : Nat) : Int)), some (.int (s : Int)), v9] ∧ Same H H' ∧ H' q = some (.lst (nearL B c nx (ss.take i)))) (fun D' kj => ?_) (fun σ' H' hj => ?_)
      · refine ⟨_, rfl, _, rfl, _, _, rfl, rfl, _, rfl, ?_⟩
        refine ifD (fun hd => ?_) (fun hd => ?_)
        · have e1' := s2 _ _ e1
          have e2' := s2 _ _ e2
          have e4' := s2 _ _ e4
          have hm : s / B % L < L := Nat.mod_lt _ hL
          have hsk : atI (cs.map V.int) ((s : Int) / (B : Int) % (L : Int)) = some (V.int ((c (s / B) : Nat) : Int)) := by
            have h1 := c_mul ct.per (s / B / L) (s / B % L)
            rw [Nat.mod_add_div] at h1
            rw [← Int.natCast_ediv, ← Int.natCast_emod, atI_getD (by omega) (by rw [ct.len]; omega), Int.toNat_natCast, ct.skipped hm, h1]
          refine ⟨_, rfl, _, rfl, _, _, rfl, rfl, ⟨by omega, by omega⟩, ?_⟩
          refine ⟨_, rfl, p, dx, _, rfl, e1', hf_ff _ _ _ _ _ _, _, rfl, old, p, b, r, bs, rows, cs, B, c, L, s / B, (by rw [Int.natCast_ediv]; rfl), ⟨hA.same s2, ct⟩, fun H3 s3 => ?_⟩
          have s23 := s2.trans s3
          have e1'' := s23 _ _ e1
          refine ⟨_, rfl, _, rfl, _, _, rfl, rfl, .inr ⟨by omega, by omega⟩, ?_⟩
          refine ⟨_, rfl, p, C, dx, _, _, rfl, e1'', T.cl, T.nS, hf_skipped _ _ _ _ _ _, _, rfl, _, rfl, p, C, dx, _, _, rfl, e1'', T.cl, T.nD, hf_round _ _ _ _ _ _, rd, _, _, _, rfl, rfl, SqT.tup (s23 _ _ e4), rfl, _, _, rfl, rfl, (by show (0 : Int) < _; omega), sk, _, _, _, rfl, rfl, SqL.lst (s23 _ _ e2), hsk, _, _, rfl, rfl, ?_⟩
          refine ⟨_, rfl, _, _, rfl, rfl, _, rfl, _, _, rfl, rfl, .inr ⟨by omega, by omega⟩, ?_⟩
          refine kj _ _ ⟨some (.int ((s : Int) / (B : Int))), ?_, s23, s3 _ _ hq⟩
          have x1 : (s : Int) / (B : Int) * (B : Int) + ((c (s / B) : Nat) : Int) = ((s / B * B + c (s / B) : Nat) : Int) := by
            rw [Int.natCast_add, Int.natCast_mul, Int.natCast_ediv]
          have x2 : ((s : Int) / (B : Int) + 1) * (B : Int) = (((s / B + 1) * B : Nat) : Int) := by
            rw [Int.natCast_mul, Int.natCast_add, Int.natCast_ediv]
            rfl
          rw [← x1, ← x2]
          rfl
        · rcases lk with h0 | ⟨G, g1, g2, g3, g4⟩
          · exact absurd (by omega) hd
          · have hG := g4 s (by rw [hdrop]; exact List.mem_cons_self)
            have eG : s / B = G := by
              have : s < (G + 1) * B := by omega
              refine Nat.div_eq_of_lt_le hG this
            rw [g1, g2, g3, ← eG]
            exact kj _ _ ⟨_, rfl, s2, hq⟩
      · obtain ⟨v9, rfl, s3, hq3⟩ := hj
        have nr := near_at (B := B) (c := c) (by omega) (fun g => Nat.le_of_lt (ct.lt g)) s nx
        have hlk : Looked B c (ss.drop (i + 1)) ((sumC B c (s / B) : Nat) : Int) ((s / B * B + c (s / B) : Nat) : Int) (((s / B + 1) * B : Nat) : Int) := .inr ⟨s / B, rfl, rfl, rfl, fun t ht => Nat.le_trans (Nat.div_mul_le_self s B) (hafter t ht)⟩
        have hnl : ∀ y : Int, y = nearI B c s nx → nearL B c nx (ss.take i) ++ [V.int y] = nearL B c nx (ss.take (i + 1)) := by
          rintro y rfl
          unfold nearL
          rw [List.take_add_one, hs, List.map_append, List.map_append]
          rfl
        have hz : (nearL B c nx (ss.take i)).length < sizeLine := smallLt (by unfold nearL; rw [List.length_map, List.length_map, List.length_take]; omega)
        refine ⟨_, rfl, _, rfl, _, _, rfl, rfl, _, rfl, ?_⟩
        refine ifD (fun hd => ?_) (fun hd => ?_)
        · rw [if_pos (by omega)] at nr
          refine ⟨_, rfl, .inl ⟨rfl, _, SqL.lst hq3⟩, _, rfl, _, rfl, _, _, rfl, rfl, _, rfl, _, _, rfl, rfl, q, _, _, rfl, rfl, hq3, hz, ?_⟩
          refine ⟨_, _, _, _, _, rfl, same_mut s3 nq, ?_, hlk⟩
          rw [upd_same]
          exact congrArg (fun z => some (HO.lst z)) (hnl _ nr.symm)
        · rw [if_neg (by omega)] at nr
          refine ⟨_, rfl, .inl ⟨rfl, _, SqL.lst hq3⟩, _, rfl, rfl, _, rfl, ?_⟩
          cases nx with
          | true =>
            rw [if_pos rfl] at nr
            refine ifD (fun _ => ⟨_, rfl, q, _, _, rfl, rfl, hq3, hz, ?_⟩) (fun hd => absurd rfl hd)
            refine ⟨_, _, _, _, _, rfl, same_mut s3 nq, ?_, hlk⟩
            rw [upd_same]
            exact congrArg (fun z => some (HO.lst z)) (hnl _ nr.symm)
          | false =>
            rw [if_neg Bool.false_ne_true] at nr
            refine ifD (fun hd => absurd (V.str.inj hd) (by decide +kernel)) (fun _ => ⟨_, rfl, _, _, rfl, rfl, q, _, _, rfl, rfl, hq3, hz, ?_⟩)
            refine ⟨_, _, _, _, _, rfl, same_mut s3 nq, ?_, hlk⟩
            rw [upd_same]
            exact congrArg (fun z => some (HO.lst z)) (hnl _ nr.symm)
    · rintro σ H' ⟨fi, bo, be, v8, v9, rfl, s2, hq, _⟩
      unfold natL at hq
      rw [List.length_map, List.take_of_length_le (Nat.le_refl _)] at hq
      exact ⟨_, rfl, k q H' s2 nq hq⟩
end
end LM

set_option Elab.async false
set_option linter.all false
set_option maxRecDepth 100000
set_option maxHeartbeats 4000000
set_option pp.maxSteps 600
set_option pp.deepTerms false
namespace LM
open PySem PySem.Spec PyProof.Rows L2
local macro_rules | `(tactic| walk_at "hp") => `(tactic| first | assumption | exact upd_same | (rw [upd_ne (by assumption)]; assumption) | (rw [upd_ne (Ne.symm (by assumption))]; assumption) | (rw [upd_ne (by assumption)]; exact upd_same) | (rw [upd_ne (Ne.symm (by assumption))]; exact upd_same))
local macro_rules | `(tactic| walk_at "sq") => `(tactic| first | assumption | exact Or.inl (Or.inl (by assumption)) | exact Or.inl (Or.inl upd_same) | exact Or.inl (Or.inl (by walk_at "hp")))
local macro_rules | `(tactic| walk_at "ixl") => `(tactic| refine ⟨_, _, _, _, rfl, rfl, (by walk_at "sq"), (by rfl), ?_⟩)
local macro_rules | `(tactic| walk_at "setl") => `(tactic| refine ⟨_, _, _, _, rfl, rfl, (by walk_at "hp"), (by rfl), ?_⟩)
local macro_rules | `(tactic| walk_at "side") => `(tactic| refine idP ?_; first | omega | (show (0 : Int) < _; omega) | (show (0 : Int) < _ ∧ _ < _; omega) | (refine Or.inr ?_; show (-(2 ^ 64) : Int) < _ ∧ _ < _; omega) | (refine Or.inl ?_; show (-(2 ^ 64) : Int) < _ ∧ _ < _; omega) | exact divW (by omega) (by omega) _ | (refine ⟨by decide, by decide, ?_⟩; decide))
local macro_rules | `(tactic| walk_at "go1") => `(tactic| first
  | refine ⟨_, rfl, ?_⟩
  | refine ⟨_, _, rfl, rfl, (by walk_at "side"), ?_⟩
  | refine ⟨_, _, rfl, (by walk_at "side"), ?_⟩
  | refine ⟨_, _, rfl, rfl, ?_⟩
  | refine Or.inl ⟨_, rfl, ?_⟩
  | refine ⟨_, _, rfl, Or.inl (by walk_at "sq"), ?_⟩
  | walk_at "ixl"
  | walk_at "setl"
  | refine ⟨_, _, rfl, (by walk_at "sq"), rfl, ?_⟩
  | refine ⟨_, _, rfl, (by walk_at "sq"), ?_⟩
  | refine ⟨_, _, rfl, ?_⟩
  | refine ⟨rfl, ?_⟩
  | refine ⟨small (Nat.le_of_ble_eq_true rfl), ?_⟩)
local macro_rules | `(tactic| walk_at "go") => `(tactic| repeat walk_at "go1")

/-- a house with the bases at g -/
def spHouseL (K : PySem.W.Frag) : Sp := fun vs H Q _ => ∃ (p g : Addr) (gs : List Int), vs = [.ref p, .ref g] ∧ VaseAt H p ∧ g ≠ p ∧ SqL K H g (gs.map V.int) ∧ 1 ≤ gs.length ∧ gs.length ≤ 3 ∧ (∀ x ∈ gs, 2 ≤ x ∧ x ≤ 60) ∧ unitL gs ≤ 600 ∧
  ∀ (d l : Addr) (rows : List R3) (H' : Hp), H d = none → SqL K H' g (gs.map V.int) → LanesIn K H' l rows → HomeAt (fun q => q = p) H' d g l gs rows → Fair gs rows → everyL rows ≤ 12 → VaseAt H' p → Else p H H' → Q (.ref d) H'
def orH (a b : Sp) : Sp := fun vs H Q E => a vs H Q E ∨ b vs H Q E
theorem FnOk.orh {P : Program} {w : World} {K : PySem.W.Frag} {mg : Str → Option Value} {base : Heap} {CX : CXT} {k : Nat} {f : Addr} {fd : FuncData} {ps : List Str} {a b : Sp} (A : FnOk P w K mg base CX k f fd ps a) (B : FnOk P w K mg base CX k f fd ps b) : FnOk P w K mg base CX k f fd ps (orH a b) := by
  constructor
  · exact fun vs H Q E h => h.elim (A.len _ _ _ _) (B.len _ _ _ _)
  · exact fun Ar outer s H ag us vs Q E hr e0 hb r h => h.elim (A.run Ar outer s H ag us vs Q E hr e0 hb r) (B.run Ar outer s H ag us vs Q E hr e0 hb r)
theorem fair_of {gs : List Int} {rows : List R3} (g0 : 1 ≤ gs.length) (g3 : gs.length ≤ 3) (gb : ∀ x ∈ gs, 2 ≤ x ∧ x ≤ 60) (hU : unitL gs ≤ 600) (hrl : rows.length ≤ 3) (hro : ∀ r ∈ rows, RowOk 4 gs r) : Fair gs rows := by
  have hE : everyL rows ≤ 12 := every_12' fun r hm => ⟨(hro r hm).2.2.1, (hro r hm).2.2.2.1⟩
  exact ⟨g0, g3, gb, by omega, fun x hx => ⟨(hro x hx).1, (hro x hx).2.1, (hro x hx).2.2.1, by have := (hro x hx).2.2.2.1; omega, (hro x hx).2.2.2.2⟩, Nat.le_trans (Nat.mul_le_mul hU hE) (by decide)⟩
/-- the law's own house, by its counts, the groups told -/
def HomeC (old : Addr → Prop) (H : Hp) (d g l : Addr) (B : Nat) (c : Nat → Nat) (L : Nat) : Prop := ∃ (sp be : Addr), H d = some (.dK [(Sum.inr "ground", .ref g), (Sum.inr "lanes", .ref l), (Sum.inr "groups", .int (L : Int)), (Sum.inr "spots", .ref sp), (Sum.inr "below", .ref be)]) ∧
  H sp = some (.lst (natL ((List.range (L * B)).filter (bor B c)))) ∧ H be = some (.lst (natL ((List.range (L * B)).map (bel B c)))) ∧ ¬ old sp ∧ ¬ old be
theorem HomeC.by {old : Addr → Prop} {H : Hp} {d g l : Addr} {B : Nat} {c : Nat → Nat} {L : Nat} (h : HomeC old H d g l B c L) : HomeBy old H d g l B c L := by
  obtain ⟨sp, be, h⟩ := h
  exact ⟨_, sp, be, h⟩
theorem HomeAt.cby {old : Addr → Prop} {H : Hp} {d g l : Addr} {gs : List Int} {rows : List R3} {cs : List Int} {B : Nat} {c : Nat → Nat} {L : Nat} (h : HomeAt old H d g l gs rows) (k : Cnt gs rows cs B c L) (fr : Fair gs rows) : HomeC old H d g l B c L := by
  obtain ⟨s, b, cs', n, e1, e2, e3, e4, e5, e6, e7⟩ := h
  have eb : (gs.getLastD 1).toNat = B := by have := k.last; omega
  have e3' : cs' = gapsL gs rows (groupsP gs rows) := by rw [e3, e2]; rfl
  rw [e3', (k.size fr).1] at e1
  rw [eb, e3', (k.size fr).1] at e4 e5
  rw [k.spots fr (Nat.le_refl _)] at e4
  rw [k.below fr] at e5
  exact ⟨s, b, e1, e4, e5, e6, e7⟩
theorem HomeC.same {old : Addr → Prop} {H H' : Hp} {d g l : Addr} {B : Nat} {c : Nat → Nat} {L : Nat} (h : HomeC old H d g l B c L) (s : Same H H') : HomeC old H' d g l B c L := by
  obtain ⟨sp, be, e1, e2, e3, e4, e5⟩ := h
  exact ⟨sp, be, s _ _ e1, s _ _ e2, s _ _ e3, e4, e5⟩
theorem HomeC.els {old : Addr → Prop} {H H' : Hp} {d g l q : Addr} {B : Nat} {c : Nat → Nat} {L : Nat} (h : HomeC old H d g l B c L) (hd : d ≠ q) (hq : old q) (e : Else q H H') : HomeC old H' d g l B c L := by
  obtain ⟨sp, be, e1, e2, e3, e4, e5⟩ := h
  exact ⟨sp, be, e _ _ hd e1, e _ _ (fun z => e4 (z ▸ hq)) e2, e _ _ (fun z => e5 (z ▸ hq)) e3, e4, e5⟩
theorem VaseAt.here {H : Hp} {p : Addr} (h : VaseAt H p) : H p ≠ none := by
  obtain ⟨_, _, _, _, _, _, q⟩ := h
  rw [q]
  exact fun z => nomatch z
def spClockHome (K : PySem.W.Frag) : Sp := fun vs H Q _ => ∃ (p : Addr), vs = [.ref p] ∧ VaseAt H p ∧
  ∀ (d g l : Addr) (gs : List Int) (rows : List R3) (H' : Hp), d ≠ p → g ≠ p → SqL K H' g (gs.map V.int) → LanesIn K H' l rows → HomeAt (fun q => q = p) H' d g l gs rows → Fair gs rows → unitL gs * (gs.getLastD 1).toNat * everyL rows ≤ 1200 → VaseAt H' p → Else p H H' → Q (.ref d) H'
section
variable {P : Program} {w : World} {K : PySem.W.Frag} {mg : Str → Option Value} {base : Heap}
end
end LM

set_option Elab.async false
set_option linter.all false
set_option maxRecDepth 100000
set_option maxHeartbeats 4000000
set_option pp.maxSteps 600
set_option pp.deepTerms false
namespace LM
open PySem PySem.Spec PyProof.Rows L2 RZ
local macro_rules | `(tactic| walk_at "hp") => `(tactic| first | assumption | exact upd_same | (rw [upd_ne (by assumption)]; assumption) | (rw [upd_ne (Ne.symm (by assumption))]; assumption) | (rw [upd_ne (by assumption)]; exact upd_same) | (rw [upd_ne (Ne.symm (by assumption))]; exact upd_same))
local macro_rules | `(tactic| walk_at "sq") => `(tactic| first | assumption | exact Or.inl (Or.inl (by assumption)) | exact Or.inl (Or.inl upd_same) | exact Or.inl (Or.inl (by walk_at "hp")))
local macro_rules | `(tactic| walk_at "ixl") => `(tactic| refine ⟨_, _, _, _, rfl, rfl, (by walk_at "sq"), (by rfl), ?_⟩)
local macro_rules | `(tactic| walk_at "setl") => `(tactic| refine ⟨_, _, _, _, rfl, rfl, (by walk_at "hp"), (by rfl), ?_⟩)
local macro_rules | `(tactic| walk_at "side") => `(tactic| refine idP ?_; first | omega | (show (0 : Int) < _; omega) | (show (0 : Int) < _ ∧ _ < _; omega) | (refine Or.inr ?_; show (-(2 ^ 64) : Int) < _ ∧ _ < _; omega) | (refine Or.inl ?_; show (-(2 ^ 64) : Int) < _ ∧ _ < _; omega) | exact divW (by omega) (by omega) _ | (refine ⟨by decide, by decide, ?_⟩; decide))
local macro_rules | `(tactic| walk_at "go1") => `(tactic| first
  | refine ⟨_, rfl, ?_⟩
  | refine ⟨_, _, rfl, rfl, (by walk_at "side"), ?_⟩
  | refine ⟨_, _, rfl, (by walk_at "side"), ?_⟩
  | refine ⟨_, _, rfl, rfl, ?_⟩
  | refine Or.inl ⟨_, rfl, ?_⟩
  | refine ⟨_, _, rfl, Or.inl (by walk_at "sq"), ?_⟩
  | walk_at "ixl"
  | walk_at "setl"
  | refine ⟨_, _, rfl, (by walk_at "sq"), rfl, ?_⟩
  | refine ⟨_, _, rfl, (by walk_at "sq"), ?_⟩
  | refine ⟨_, _, rfl, ?_⟩
  | refine ⟨rfl, ?_⟩
  | refine ⟨small (Nat.le_of_ble_eq_true rfl), ?_⟩)
local macro_rules | `(tactic| walk_at "go") => `(tactic| repeat walk_at "go1")

abbrev scheck_house : Stmt := topS 58
theorem sccheck_house : FnScope ["given"] ["given"] (defScope scheck_house) := ⟨rfl, rfl, rfl, by decide +kernel, rfl, by decide +kernel, by decide +kernel⟩
abbrev scheck_pace : Stmt := topS 63
theorem sccheck_pace : FnScope ["given", "number"] ["given"] (defScope scheck_pace) := ⟨rfl, rfl, rfl, by decide +kernel, rfl, by decide +kernel, by decide +kernel⟩
abbrev sgap_at : Stmt := topS 65
theorem scgap_at : FnScope ["house", "pace", "frame", "frames", "seconds"] ["house", "pace", "frame"] (defScope sgap_at) := ⟨rfl, rfl, rfl, by decide +kernel, rfl, by decide +kernel, by decide +kernel⟩
abbrev sdrift_of_gap : Stmt := topS 67
theorem scdrift_of_gap : FnScope ["house", "pace", "gap", "whole", "common"] ["house", "pace", "gap"] (defScope sdrift_of_gap) := ⟨rfl, rfl, rfl, by decide +kernel, rfl, by decide +kernel, by decide +kernel⟩
abbrev sdrift : Stmt := topS 69
theorem scdrift : FnScope ["house", "pace", "frame"] ["house", "pace", "frame"] (defScope sdrift) := ⟨rfl, rfl, rfl, by decide +kernel, rfl, by decide +kernel, by decide +kernel⟩
theorem hf_plc (b r sk ah rd : Addr) (t : Str) : (hf b r sk ah rd t).lookup ("place" : Str) = none := hf_no _ _ _ _ _ _ (by decide +kernel) (by decide +kernel) (by decide +kernel) (by decide +kernel) (by decide +kernel) (by decide +kernel)
def spChkHouse (C : Addr) : Sp := fun vs H Q _ => ∃ (p : Addr) (dx : Addr) (fs : List (Str × V)), vs = [.ref p] ∧ H p = some (.ins C dx fs) ∧ Q .non H
def PaceAt (K : PySem.W.Frag) (H : Hp) (q : Addr) (a b : Int) : Prop := SqT K H q [.int a, .int b] ∧ 1 ≤ a ∧ a ≤ 1000000 ∧ 1 ≤ b ∧ b ≤ 1000000
theorem PaceAt.same {K : PySem.W.Frag} {H H' : Hp} {q : Addr} {a b : Int} (h : PaceAt K H q a b) (s : Same H H') : PaceAt K H' q a b := ⟨Same.seqT s h.1, h.2⟩
def spChkPace (K : PySem.W.Frag) : Sp := fun vs H Q _ => ∃ (q : Addr) (a b : Int), vs = [.ref q] ∧ PaceAt K H q a b ∧ ∀ H', Same H H' → Q .non H'
def gapI (bs cs : List Int) (a b n : Int) : Int := placeP bs cs n * a - n * b * bs.getLastD 1
def spGapAt (K : PySem.W.Frag) (C : Addr) : Sp := fun vs H Q _ => ∃ (old : Addr → Prop) (p b r q : Addr) (bs : List Int) (rows : List R3) (cs : List Int) (x y n : Int), vs = [.ref p, .ref q, .int n] ∧ HouseAt K C old H p b r bs rows cs ∧ PaceAt K H q x y ∧ 0 ≤ n ∧ ∀ H', Same H H' → Q (.int (gapI bs cs x y n)) H'
def fracV (z w : Int) : List V := [.int (z / ((Nat.gcd z.natAbs w.natAbs : Nat) : Int)), .int (w / ((Nat.gcd z.natAbs w.natAbs : Nat) : Int))]
def spDriftOf (K : PySem.W.Frag) (C : Addr) : Sp := fun vs H Q _ => ∃ (old : Addr → Prop) (p b r q : Addr) (bs : List Int) (rows : List R3) (cs : List Int) (x y z : Int), vs = [.ref p, .ref q, .int z] ∧ HouseAt K C old H p b r bs rows cs ∧ PaceAt K H q x y ∧
  ∀ t H', Same H H' → H t = none → H' t = some (.tup (fracV z (bs.getLastD 1 * x))) → Q (.ref t) H'
def spDrift (K : PySem.W.Frag) (C : Addr) : Sp := fun vs H Q _ => ∃ (old : Addr → Prop) (p b r q : Addr) (bs : List Int) (rows : List R3) (cs : List Int) (x y n : Int), vs = [.ref p, .ref q, .int n] ∧ HouseAt K C old H p b r bs rows cs ∧ PaceAt K H q x y ∧ 0 ≤ n ∧
  ∀ t H', Same H H' → H t = none → H' t = some (.tup (fracV (gapI bs cs x y n) (bs.getLastD 1 * x))) → Q (.ref t) H'
section
variable {P : Program} {w : World} {K : PySem.W.Frag} {mg : Str → Option Value} {base : Heap}
theorem ok_chkhouse {f C : Addr} {fd : FuncData} (F : Fun K "check_house" "check_house" scheck_house f fd) (T : HouseTxt K mg C) (N : Names mg) (O : Other K C) (W : OwnT K C) : FnOk P w K mg base CX0 1 f fd ["given"] (spChkHouse C) := by
  have sc := sccheck_house
  refine F.ok sc (fun vs H Q E h => ?_) (fun cdv A outer s H vs Q E hr h => ?_)
  · obtain ⟨p, dx, fs, rfl, _⟩ := h
    rfl
  · obtain ⟨p, dx, fs, rfl, e, k⟩ := h
    refine ⟨_, (pss_one (ps_if (pt_not (pt_val (pe_callB call_isi (by rfl) N.isinstance (by decide +kernel) (pa_cons (pv 0) (pa_cons (pe_glob (v := .ref C) rfl T.mgC rfl) pa_nil))))) (pss_one ps_never) pss_nil)), ?_⟩
    refine ⟨_, rfl, _, _, _, _, _, rfl, .own _, W.ty T.cl e, O.own2, _, rfl, ?_⟩
    exact iteF k
theorem ok_chkpace {f : Addr} {fd : FuncData} (F : Fun K "check_pace" "check_pace" scheck_pace f fd) (N : Names mg) (hc : ∃ t, mg "GREATEST_IN_PACE" = some (.int 1000000 t)) (Dis_integer_within : DefK P w K mg base "is_integer_within" ["value", "low", "high"] 2 spWithin) : FnOk P w K mg base CX0 3 f fd ["given"] (spChkPace K) := by
  have sc := sccheck_pace
  refine F.ok sc (fun vs H Q E h => ?_) (fun cdv A outer s H vs Q E hr h => ?_)
  · obtain ⟨q, a, b, rfl, _⟩ := h
    rfl
  · obtain ⟨q, a, b, rfl, ⟨hq, a0, a1, b0, b1⟩, k⟩ := h
    refine ⟨_, (pss_cons (ps_if (PW.pt (pw_or (pt_not (pt_val (pe_callB call_isi (by rfl) N.isinstance (by decide +kernel) (pa_cons (pv 0) (pa_cons (pe_ty "tuple" rfl N.tuple (by decide +kernel)) pa_nil))))) (pw_or1 (pt_cmpR op_ne (pe_callB call_len_seq (by rfl) N.len (by decide +kernel) (pa_cons (pv 0) pa_nil)) pe_int (nomark _))))) (pss_one ps_never) pss_nil)
      (pss_one (ps_if (pt_not (pt_val (pe_callB (cr_all rfl) (by rfl) N.all (by decide +kernel) (pa_cons (pe_lc (own := [("number", 1)]) rfl sc.nd (pi_tup (pv 0)) (blkOk_by (own := [("number", 1)]) (N := ["given", "number"]) (sc := defScope (topS 63)) (by decide +kernel)) (fun _ _ _ _ _ => (pg_name (i := 1) sc.nd rfl (Or.inl rfl))) (fun _ _ _ _ _ => pts_nil) (fun _ _ _ _ _ => (pe_d Dis_integer_within (hr.mono (by decide)) rfl (pa_cons (pv 1) (pa_cons pe_int (pa_cons (pe_const rfl hc) pa_nil)))))) pa_nil)))) (pss_one ps_never) pss_nil))), ?_⟩
    refine ⟨_, rfl, _, _, _, _, _, rfl, .ty _, tyT hq, kit_ty (r := true) (by decide +kernel), _, rfl, ?_⟩
    refine iteF ?_
    refine ⟨_, rfl, q, _, rfl, .inr hq, rfl, _, rfl, ?_⟩
    refine ifN (fun hd' => absurd rfl hd') (fun _ => ?_)
    refine ⟨_, rfl, q, rfl, ⟨_, hq⟩, ?_⟩
    intro D nD
    refine lc_tup (K := K) (xs := ([a, b] : List Int).map V.int) (fun i H' => Same H H' ∧ H' D = some (.lst ((List.replicate i true).map V.bl))) ⟨same_new nD, upd_same⟩ (fun i H' _ ⟨s, _⟩ => Same.seqT s hq) ?_ ?_
    · rintro i x H' hx ⟨sm, eD⟩
      obtain ⟨n, hn, rfl⟩ : ∃ b_1, [a, b][i]? = some b_1 ∧ x = V.int b_1 := by
        rw [List.getElem?_map] at hx
        obtain ⟨z, hz, e⟩ := Option.map_eq_some_iff.mp hx
        exact ⟨z, hz, e.symm⟩
      have hm := List.mem_of_getElem? hn
      have hil : i < 2 := (List.getElem?_eq_some_iff.mp hn).1
      have hn2 : 1 ≤ n ∧ n ≤ 1000000 := by
        simp only [List.mem_cons, List.not_mem_nil, or_false] at hm
        rcases hm with rfl | rfl
        · exact ⟨a0, a1⟩
        · exact ⟨b0, b1⟩
      refine ⟨rfl, ?_⟩
      refine ⟨_, rfl, n, 1, 1000000, rfl, _, eD, smallLt (by rw [List.length_map, List.length_replicate]; omega), same_mut sm nD, ?_⟩
      rw [upd_same, decide_eq_true hn2.1, decide_eq_true hn2.2, List.replicate_succ', List.map_append]
      rfl
    · rintro H' ⟨sm, eD⟩
      refine ⟨D, _, rfl, SqL.lst eD, ?_⟩
      have e : (List.replicate (([a, b] : List Int).map V.int).length true).all id = true := by simp
      rw [e]
      exact ⟨_, rfl, iteF (k H' sm)⟩
theorem ok_gapat {f C fPl fBs pBs : Addr} {fd fdPl fdBs : FuncData} (F : Fun K "gap_at" "gap_at" sgap_at f fd) (T : HouseTxt K mg C)
    (mPl : Meth K C "place" fPl) (GPl : FnOk P w K mg base CX0 4 fPl fdPl ["self", "frame"] (spPlaceM K C)) (bPl : Binds K fdPl ["self", "frame"] [])
    (qBs : PropOf K C "bases" pBs fBs) (GBs : FnOk P w K mg base CX0 1 fBs fdBs ["self"] (getSp C "_bases")) (bBs : Binds K fdBs ["self"] []) : FnOk P w K mg base CX0 5 f fd ["house", "pace", "frame"] (spGapAt K C) := by
  have sc := scgap_at
  refine F.ok sc (fun vs H Q E h => ?_) (fun cdv A outer s H vs Q E hr h => ?_)
  · obtain ⟨old, p, b, r, q, bs, rows, cs, x, y, n, rfl, _⟩ := h
    rfl
  · obtain ⟨old, p, b, r, q, bs, rows, cs, x, y, n, rfl, hA, ⟨hq, x0, x1, y0, y1⟩, hn, k⟩ := h
    refine ⟨_, (pss_cons (ps_asg (pv 1) (pg_tup rfl (pgs_cons (pg_name (i := 3) sc.nd rfl (Or.inl rfl)) (pgs_cons (pg_name (i := 4) sc.nd rfl (Or.inl rfl)) pgs_nil))))
      (pss_one (ps_ret (pe_op op_sub (pe_op op_mul (pe_meth (pv 0) T.cl mPl GPl (hr.mono (by decide)) bPl .nil pass0 (pa_cons (pv 2) pa_nil)) (pv 3)) (pe_op op_mul (pe_op op_mul (pv 2) (pv 4)) (pe_ix ix_tup (pe_prop (pv 0) T.cl qBs GBs (hr.mono (by decide)) bBs .nil pass0 rfl) (pe_un un_neg pe_int) (fun _ _ => rfl))))))), ?_⟩
    obtain ⟨dx, sk, ah, rd, e1, _⟩ := id hA.ob
    have hlast := hA.fair.bb _ (lastD_mem hA.fair.b0)
    refine ⟨_, rfl, q, _, rfl, hq, rfl, _, _, rfl, _, _, rfl, rfl, ?_⟩
    refine ⟨_, rfl, p, dx, _, rfl, e1, hf_plc _ _ _ _ _ _, _, rfl, old, p, b, r, bs, rows, cs, n, rfl, hA, hn, fun H1 s1 => ?_⟩
    refine ⟨_, rfl, _, _, rfl, rfl, .inr ⟨by omega, by omega⟩, ?_⟩
    refine ⟨_, rfl, _, rfl, _, _, rfl, rfl, .inr ⟨by omega, by omega⟩, ?_⟩
    refine ⟨_, rfl, p, dx, _, rfl, s1 _ _ e1, p, dx, _, _, rfl, s1 _ _ e1, hf_bases _ _ _ _ _ _, _, rfl, b, _, _, _, rfl, rfl, Same.seqT s1 hA.bt, getLastD_map bs hA.fair.b0, ?_⟩
    exact ⟨_, _, rfl, rfl, .inr ⟨by omega, by omega⟩, _, _, rfl, rfl, k _ s1⟩
theorem ok_driftof {f C fBs pBs : Addr} {fd fdBs : FuncData} (F : Fun K "drift_of_gap" "drift_of_gap" sdrift_of_gap f fd) (T : HouseTxt K mg C) (hgc : mg "gcd" = some (.builtin "math.gcd"))
    (qBs : PropOf K C "bases" pBs fBs) (GBs : FnOk P w K mg base CX0 1 fBs fdBs ["self"] (getSp C "_bases")) (bBs : Binds K fdBs ["self"] []) : FnOk P w K mg base CX0 3 f fd ["house", "pace", "gap"] (spDriftOf K C) := by
  have sc := scdrift_of_gap
  refine F.ok sc (fun vs H Q E h => ?_) (fun cdv A outer s H vs Q E hr h => ?_)
  · obtain ⟨old, p, b, r, q, bs, rows, cs, x, y, z, rfl, _⟩ := h
    rfl
  · obtain ⟨old, p, b, r, q, bs, rows, cs, x, y, z, rfl, hA, ⟨hq, x0, x1, y0, y1⟩, k⟩ := h
    refine ⟨_, (pss_cons (ps_set (i := 3) sc.nd rfl (Or.inl rfl) (pe_op op_mul (pe_ix ix_tup (pe_prop (pv 0) T.cl qBs GBs (hr.mono (by decide)) bBs .nil pass0 rfl) (pe_un un_neg pe_int) (fun _ _ => rfl)) (pe_ix ix_tup (pv 1) pe_int (fun _ _ => rfl))))
      (pss_cons (ps_set (i := 4) sc.nd rfl (Or.inl rfl) (pe_callBfun cr_gcd (by rfl) hgc (pa_cons (pv 2) (pa_cons (pv 3) pa_nil))))
      (pss_one (ps_ret (pe_tup (pa_cons (pe_op op_fdiv (pv 2) (pv 4)) (pa_cons (pe_op op_fdiv (pv 3) (pv 4)) pa_nil))))))), ?_⟩
    obtain ⟨dx, sk, ah, rd, e1, _⟩ := id hA.ob
    have hlast := hA.fair.bb _ (lastD_mem hA.fair.b0)
    refine ⟨_, rfl, p, dx, _, rfl, e1, p, dx, _, _, rfl, e1, hf_bases _ _ _ _ _ _, _, rfl, b, _, _, _, rfl, rfl, hA.bt, getLastD_map bs hA.fair.b0, ?_⟩
    refine ⟨_, rfl, q, _, _, _, rfl, rfl, hq, rfl, _, _, rfl, rfl, .inr ⟨by omega, by omega⟩, ?_⟩
    have hw0 : 0 < bs.getLastD 1 * x := Int.mul_pos (by omega) (by omega)
    have hw1 : bs.getLastD 1 * x ≤ 60 * 1000000 := Int.mul_le_mul hlast.2 x1 (by omega) (by decide)
    refine ⟨_, rfl, _, rfl, z, bs.getLastD 1 * x, rfl, ?_⟩
    have hg0 : 0 < Nat.gcd z.natAbs (bs.getLastD 1 * x).natAbs := Nat.gcd_pos_of_pos_right _ (by omega)
    have hg1 : Nat.gcd z.natAbs (bs.getLastD 1 * x).natAbs ≤ (bs.getLastD 1 * x).natAbs := Nat.gcd_le_right _ (by omega)
    unfold fracV at k
    generalize Nat.gcd z.natAbs (bs.getLastD 1 * x).natAbs = G at hg0 hg1 k ⊢
    refine ⟨_, rfl, _, rfl, _, _, rfl, rfl, ⟨by omega, by omega⟩, _, rfl, _, rfl, _, _, rfl, rfl, ⟨by omega, by omega⟩, Nat.le_of_ble_eq_true rfl, ?_⟩
    (intro t nt; generalize e_t : upd H t _ = H1; have s1 : Same H H1 := fun b x hb => (congrFun e_t b).symm.trans (same_new nt b x hb); have h1 := (congrFun e_t t).symm.trans upd_same; clear e_t)
    exact k t H1 s1 nt h1
theorem ok_drift {f C : Addr} {fd : FuncData} (F : Fun K "drift" "drift" sdrift f fd) (T : HouseTxt K mg C)
    (Dcheck_house : DefK P w K mg base "check_house" ["given"] 1 (spChkHouse C)) (Dcheck_pace : DefK P w K mg base "check_pace" ["given"] 3 (spChkPace K)) (Dcheck_number : DefK P w K mg base "check_number" ["given"] 3 spChkNum)
    (Dgap_at : DefK P w K mg base "gap_at" ["house", "pace", "frame"] 5 (spGapAt K C)) (Ddrift_of_gap : DefK P w K mg base "drift_of_gap" ["house", "pace", "gap"] 3 (spDriftOf K C)) : FnOk P w K mg base CX0 6 f fd ["house", "pace", "frame"] (spDrift K C) := by
  have sc := scdrift
  refine F.ok sc (fun vs H Q E h => ?_) (fun cdv A outer s H vs Q E hr h => ?_)
  · obtain ⟨old, p, b, r, q, bs, rows, cs, x, y, n, rfl, _⟩ := h
    rfl
  · obtain ⟨old, p, b, r, q, bs, rows, cs, x, y, n, rfl, hA, hp, hn, k⟩ := h
    refine ⟨_, (pss_cons (ps_expr (pe_d Dcheck_house (hr.mono (by decide)) rfl (pa_cons (pv 0) pa_nil)))
      (pss_cons (ps_expr (pe_d Dcheck_pace (hr.mono (by decide)) rfl (pa_cons (pv 1) pa_nil)))
      (pss_cons (ps_expr (pe_d Dcheck_number (hr.mono (by decide)) rfl (pa_cons (pv 2) pa_nil)))
      (pss_one (ps_ret (pe_d Ddrift_of_gap (hr.mono (by decide)) rfl (pa_cons (pv 0) (pa_cons (pv 1) (pa_cons (pe_d Dgap_at (hr.mono (by decide)) rfl (pa_cons (pv 0) (pa_cons (pv 1) (pa_cons (pv 2) pa_nil)))) pa_nil))))))))), ?_⟩
    obtain ⟨dx, sk, ah, rd, e1, _⟩ := id hA.ob
    refine ⟨_, rfl, p, _, _, rfl, e1, ?_⟩
    refine ⟨_, rfl, q, x, y, rfl, hp, fun H1 s1 => ?_⟩
    refine ⟨_, rfl, n, rfl, hn, ?_⟩
    refine ⟨_, rfl, _, rfl, _, rfl, _, rfl, _, rfl, old, p, b, r, q, bs, rows, cs, x, y, n, rfl, hA.same s1, hp.same s1, hn, fun H2 s2 => ?_⟩
    exact ⟨old, p, b, r, q, bs, rows, cs, x, y, _, rfl, hA.same (s1.trans s2), hp.same (s1.trans s2), fun t H3 s3 nt et => k t H3 ((s1.trans s2).trans s3) ((s1.trans s2).free nt) et⟩
end
end LM

set_option Elab.async false
set_option linter.all false
set_option maxRecDepth 100000
set_option maxHeartbeats 4000000
namespace LM
open PySem PySem.Spec PyProof.Rows L2
/-! ### ranges of any size -/
theorem turn_wide {P : Program} {w : World} {K : PySem.W.Frag} {tg : Expr} (it : Addr) (lo : Int) (n : Nat) :
    Turn P w K tg (Itr lo n) [it] it (fun i h => IsLongIter h it (lo + ((i : Nat) : Int) * 1) (((n : Nat) : Int) - ((i : Nat) : Int)) 1) := by
  refine ⟨by simp, fun i h st b hb => ?_, fun i h h' st k => k it (by simp) _ st, ?_, ?_, fun _ _ _ _ _ st h => wpAny_pyIter_longiter st h⟩
  · rw [List.mem_singleton.mp hb]
    exact ⟨_, st, fun v z => nomatch z⟩
  · intro X e1 e2 e3 hc i pins s σ H E I hf st hg
    subst e1 e2 e3
    obtain ⟨f0, f1, f2, f3, f4, f5⟩ := hf it List.mem_cons_self
    refine (Walks.longrange (prog := X.prog) (w := X.w) (I.ok.hd hc) it lo 1 n).item i s _ _ hg st fun v h' tk hv st' kk => ?_
    obtain ⟨t, rfl⟩ := hv
    refine ⟨_, rfl, go_of (s := { s with heap := h', toks := tk }) (n := "longrange_iterator") st' rfl rfl (by decide) ⟨.int (lo + i), H, I.turned (fun b o hb e => kk b o (by simpa using hb) e) f0 f1 f3 f4 f5, ⟨t, by rw [Int.mul_one]⟩, ⟨rfl, rfl⟩, st', fun b hb => (hf b hb).1⟩⟩
  · intro X e1 e2 e3 hc i pins s σ H E I hf st hg
    subst e1 e2 e3
    obtain ⟨f0, f1, f2, f3, f4, f5⟩ := hf it List.mem_cons_self
    have hn : n ≤ i := hg
    exact wpAny_pyNext_long_end (I.ok.hd hc) st (by omega) fun h' eb => ⟨rfl, I.turned (t' := s.toks) (fun b o hb e => eb b o hb e) f0 f1 f3 f4 f5⟩
theorem size_int (a b : Int) : Builtin.Range.rangeSize a b 1 = (((b - a).toNat : Nat) : Int) := by
  rw [rangeSize_one]
  split <;> omega
section
variable {X : Cx} {tg : Expr}
theorem wide_it {pins : List (Addr × Obj)} {σ : L2.St} {H : Hp} {s : Shared} {R : It → Hp → Prop} {E : Value → Shared → Prop} {lo hi : Int} {t u v : Tok} {tk : Nat} (I : Inv X pins σ H s) (hs : Builtin.Range.small lo hi 1 = false) (q : R (Itr lo (hi - lo).toNat) H) :
    wpAny (model X.prog X.w) X.A (pyIter (.ref s.heap.objs.size)) (PIE X pins σ tg R) E { s with heap := s.heap.push { cls := .type "range", data := .fields #[.int lo t, .int hi u, .int 1 v] }, toks := tk } := by
  refine wpAny_pyIter_longrange (IsRange.new ..) hs ?_
  have I1 : Inv X pins σ H { s with heap := s.heap.push { cls := .type "range", data := .fields #[.int lo t, .int hi u, .int 1 v] }, toks := tk } := I.kept fun b o e => Heap.get?_push_of_some _ e
  generalize s.heap.push { cls := .type "range", data := .fields #[.int lo t, .int hi u, .int 1 v] } = hp at I1 ⊢
  refine ⟨hp.objs.size, [hp.objs.size], _, _, H, rfl, I1.kept (t' := tk) fun b o e => Heap.get?_push_of_some _ e, turn_wide _ lo (hi - lo).toNat, ?_, fun b hb => ?_, q⟩
  · have e1 : lo + ((0 : Nat) : Int) * 1 = lo := by simp
    have e2 : (((hi - lo).toNat : Nat) : Int) - ((0 : Nat) : Int) = Builtin.Range.rangeSize lo hi 1 := by rw [size_int]; omega
    show IsLongIter _ _ (lo + ((0 : Nat) : Int) * 1) ((((hi - lo).toNat : Nat) : Int) - ((0 : Nat) : Int)) 1
    rw [e1, e2]
    exact Heap.get?_push_size _ rfl
  · rw [List.mem_singleton.mp hb]
    exact I1.fpOk (Nat.le_refl _) (I1.hok.fresh (Nat.le_refl _))
theorem small_it {pins : List (Addr × Obj)} {σ : L2.St} {H : Hp} {s : Shared} {R : It → Hp → Prop} {E : Value → Shared → Prop} {lo hi : Int} {t u v : Tok} {tk : Nat} (I : Inv X pins σ H s) (hs : Builtin.Range.small lo hi 1 = true) (q : R (Itr lo (hi - lo).toNat) H) :
    wpAny (model X.prog X.w) X.A (pyIter (.ref s.heap.objs.size)) (PIE X pins σ tg R) E { s with heap := s.heap.push { cls := .type "range", data := .fields #[.int lo t, .int hi u, .int 1 v] }, toks := tk } := by
  refine wpAny_pyIter_range (IsRange.new ..) hs ?_
  have I1 : Inv X pins σ H { s with heap := s.heap.push { cls := .type "range", data := .fields #[.int lo t, .int hi u, .int 1 v] }, toks := tk } := I.kept fun b o e => Heap.get?_push_of_some _ e
  generalize s.heap.push { cls := .type "range", data := .fields #[.int lo t, .int hi u, .int 1 v] } = hp at I1 ⊢
  refine ⟨hp.objs.size, [hp.objs.size], _, _, H, rfl, I1.kept (t' := tk) fun b o e => Heap.get?_push_of_some _ e, turn_range _ lo (hi - lo).toNat, ?_, fun b hb => ?_, q⟩
  · have e1 : lo + ((0 : Nat) : Int) * 1 = lo := by simp
    have e2 : (((hi - lo).toNat : Nat) : Int) - ((0 : Nat) : Int) = Builtin.Range.rangeSize lo hi 1 := by rw [size_int]; omega
    show IsRangeIter _ _ (lo + ((0 : Nat) : Int) * 1) ((((hi - lo).toNat : Nat) : Int) - ((0 : Nat) : Int)) 1
    rw [e1, e2]
    exact Heap.get?_push_size _ rfl
  · rw [List.mem_singleton.mp hb]
    exact I1.fpOk (Nat.le_refl _) (I1.hok.fresh (Nat.le_refl _))
/-- range(i, j) of any size -/
def iRngW (ta : TA) : TI := fun σ H R => ta σ H fun vs H1 => ∃ i j : Int, vs = [.int i, .int j] ∧ R (Itr i (j - i).toNat) H1
theorem pi_range2W {a b : Expr} {ta : TA} {p pos : Pos} (hg : Gl X "range") (hm : X.mg "range" = none) (ha : PA X [a, b] ta) (hs : starEach [a, b] X.env = [(false, eval a X.env), (false, eval b X.env)] := by rfl) (hs2 : starEach [b] X.env = [(false, eval b X.env)] := by rfl) :
    PI X tg (.Call (.Name "range" p) [a, b] [] pos) (iRngW ta) := by
  refine ⟨fun pins s σ H R I h => Call_ (ld_blt I hg hm boot_range (PyProof.Rows.callWith_type1 (thn (ha.run pos pins s σ H _ I h) fun us s1 ⟨vs, H1, I1, r1, q1⟩ => ?_) (by rw [hs, hs2]) (by rw [hs2]; rfl)))⟩
  obtain ⟨i, j, rfl, q⟩ := q1
  obtain ⟨u, v, rfl, ru, rv⟩ := vals2 r1
  obtain ⟨t, rfl⟩ := ru
  obtain ⟨t', rfl⟩ := rv
  cases hz : Builtin.Range.small i j 1 with
  | true => exact call_range_2 (small_it I1 hz q)
  | false => exact call_range_2 (wide_it I1 hz q)
end
section
variable {prog : Program} {w : World} {A : Around} {E : Value → Shared → Prop} {s : Shared}
/-- list(range(..)) of any size: the items come from a long iterator -/
theorem fill_wide {R : Result → Shared → Prop} {r : Addr} {a b c : Int} {t u v : Tok} {n : Nat} (hh : A.handled = none) (hr : IsRange s.heap r a b c t u v) (big : Builtin.Range.small a b c = false) (hn : Builtin.Range.rangeSize a b c = n) (hlen : n ≤ 2 ^ 24)
    (S : Addr) (res : Value) (c₀ : Nat) (hS : s.heap.get? S = some { cls := .type "list", data := .seq #[] c₀ })
    (hR : ∀ h' tk acc' c', (∀ b o, b ≠ S → s.heap.get? b = some o → h'.get? b = some o) → h'.get? S = some { cls := .type "list", dict := none, data := .seq acc' c', slots := #[] } → ItemsOf (fun i v => ∃ t, v = .int (a + i * c) t) acc' n → R (.ok (.ret res)) { s with heap := h', toks := tk }) :
    wpAny (model prog w) A.in1 (Builtin.List.listExtendWith (.ref S) (.ref r) res) (fun fin s' => match fin with | .done f => R (.ok f) s' | .again c' => c'.quiet = true ∧ codeAny (model prog w) A c' R s') (fun e s' => R (.error e) s') s := by
  have ne1 : S ≠ r := fun e => by rw [e, hr] at hS; simp at hS
  have lt1 : S < s.heap.objs.size := Heap.lt_size hS
  have ne2 : S ≠ s.heap.objs.size := Nat.ne_of_lt lt1
  have ne3 : S ∉ [s.heap.objs.size] := fun hm => ne2 (List.mem_singleton.mp hm)
  have W := (Walks.longrange (prog := prog) (w := w) (A := A.in1) hh s.heap.objs.size a c n).toS
  have key : ∀ (h : Heap) (c₁ tk : Nat), IsLongIter h s.heap.objs.size (a + ((0 : Nat) : Int) * c) ((n : Int) - ((0 : Nat) : Int)) c → (∀ b o, b ≠ S → s.heap.get? b = some o → h.get? b = some o) → h.get? S = some { cls := .type "list", data := .seq #[] c₁ } →
      codeAny (model prog w) A (.builtin "list.extend.loop" ⟨[.ref S, .ref s.heap.objs.size, res], []⟩) R { s with heap := h, toks := tk } := by
    intro h c₁ tk hit hk h1
    refine codeAny_extend_loopS W (by rw [sizeLine_eq]; omega) S ne3 res n 0 _ #[] c₁ rfl (Nat.zero_le _) hit h1 (ItemsOf.nil _) fun s' acc' c' hm hS' hacc => ?_
    rw [Moved.eq_with hm]
    refine hR s'.heap s'.toks acc' c' (fun b o hb e => hm.heap b o (fun hmem => (List.mem_cons.mp hmem).elim hb fun z => ?_) (hk b o hb e)) hS' hacc
    exact Nat.lt_irrefl _ (List.mem_singleton.mp z ▸ Heap.lt_size e)
  unfold Builtin.List.listExtendWith
  refine wpAny_bind (wpAny_typeOf (T := "range") ⟨_, hr, rfl⟩ ?_)
  simp only [show Builtin.List.listSameRef (.ref S) (.ref r) = false by simp [Builtin.List.listSameRef, ne1], show (Value.type "range" == Value.type "list") = false by decide, show (Value.type "range" == Value.type "tuple") = false by decide, Bool.or_false, Bool.false_eq_true, if_false]
  refine wpAny_bind (wpAny_pyIter_longrange hr big ?_)
  refine wpAny_bind (wpAny_holding (wpAny_hint_range (n := n) (Heap.get?_push_of_some _ hr) hn hlen ?_))
  have g0 : IsLongIter (s.heap.push { cls := .type "longrange_iterator", data := .fields #[rawInt a, rawInt (Builtin.Range.rangeSize a b c), rawInt c] }) s.heap.objs.size (a + ((0 : Nat) : Int) * c) ((n : Int) - ((0 : Nat) : Int)) c := by
    show IsLongIter _ _ _ _ _
    rw [hn]
    simpa using Heap.get?_push_size _ rfl
  have z1 := Heap.get?_push_of_some { cls := .type "longrange_iterator", data := .fields #[rawInt a, rawInt (Builtin.Range.rangeSize a b c), rawInt c] } hS
  refine wpAny_ite_split (fun _ => ?_) (fun _ => wpAny_pure ⟨plainId_quiet F.plain_extend_loop _, key _ c₀ _ g0 (fun b o _ e => Heap.get?_push_of_some _ e) z1⟩)
  refine wpAny_bind (wpAny_rule (wpAny_bind ?_))
  show wpAny _ _ (updateSeq S (·.push .none) >>= fun _ => updateSeq S (·.pop)) _ _ _
  refine wpAny_bind (wpAny_updateSeq z1 rfl ?_)
  have z2 := Heap.get?_update_self (Obj.mapSeq (·.push Value.none)) z1 rfl
  refine wpAny_updateSeq (hz := by seq_fits) z2 rfl ?_
  have z3 := Heap.get?_update_self (Obj.mapSeq (·.pop)) z2 rfl
  refine wpAny_pure ⟨plainId_quiet F.plain_extend_loop _, key _ _ _ ?_ (fun b o hb e => ?_) z3⟩
  · exact (Heap.get?_update_other _ _ ne2).trans ((Heap.get?_update_other _ _ ne2).trans g0)
  · exact (Heap.get?_update_other _ _ (Ne.symm hb)).trans ((Heap.get?_update_other _ _ (Ne.symm hb)).trans (Heap.get?_push_of_some _ e))
theorem init_wide {R : Result → Shared → Prop} {r : Addr} {a b c : Int} {t u v : Tok} {n : Nat} (hh : A.handled = none) (hr : IsRange s.heap r a b c t u v) (big : Builtin.Range.small a b c = false) (hn : Builtin.Range.rangeSize a b c = n) (hlen : n ≤ 2 ^ 24)
    (S : Addr) (hS : s.heap.get? S = some { cls := .type "list", data := .seq #[] })
    (hR : ∀ h' tk acc' c', (∀ b o, b ≠ S → s.heap.get? b = some o → h'.get? b = some o) → h'.get? S = some { cls := .type "list", dict := none, data := .seq acc' c', slots := #[] } → ItemsOf (fun i v => ∃ t, v = .int (a + i * c) t) acc' n → R (.ok (.ret .none)) { s with heap := h', toks := tk }) :
    wpAny (model prog w) A.in1 (Builtin.«list.__init__» ⟨[.ref S, .ref r], []⟩) (fun fin s' => match fin with | .done f => R (.ok f) s' | .again c' => c'.quiet = true ∧ codeAny (model prog w) A c' R s') (fun e s' => R (.error e) s') s := by
  have ne1 : S ≠ r := fun e => by rw [e, hr] at hS; simp at hS
  show wpAny _ _ (do let old ← Builtin.List.listItems (.ref S); Builtin.List.listUpdate (.ref S) (fun _ => #[]); letGo old.toList.reverse; Builtin.List.listExtendWith (.ref S) (.ref r) .none) _ _ s
  refine wpAny_bind ?_
  unfold Builtin.List.listItems
  refine wpAny_bind (wpAny_seqItems hS rfl (wpAny_pure ?_))
  show wpAny _ _ (updateSeq S (fun _ => #[]) >>= fun _ => letGo (#[] : Array Value).toList.reverse >>= fun _ => Builtin.List.listExtendWith (.ref S) (.ref r) .none) _ _ s
  refine wpAny_bind (wpAny_updateSeq hS rfl ?_)
  have z2 := Heap.get?_update_self (Obj.mapSeq (fun _ => (#[] : Array Value))) hS rfl
  have oth : ∀ b o, b ≠ S → s.heap.get? b = some o → (s.heap.update S (Obj.mapSeq (fun _ => (#[] : Array Value)))).get? b = some o := fun b o hb e => (Heap.get?_update_other _ _ (Ne.symm hb)).trans e
  refine wpAny_bind (wpAny_letGo ?_)
  exact fill_wide hh (oth r _ (Ne.symm ne1) hr) big hn hlen S .none _ z2 fun h' tk acc' c' hk hS' hacc => hR h' tk acc' c' (fun b o hb e => hk b o hb (oth b o hb e)) hS' hacc
theorem list_wide {Q : Value → Shared → Prop} {r : Addr} {a b c : Int} {t u v : Tok} {n : Nat} (hh : A.handled = none) (hr : IsRange s.heap r a b c t u v) (hn : Builtin.Range.rangeSize a b c = n) (hlen : n ≤ 2 ^ 24)
    (hQ : ∀ h' tk acc' c', (∀ b o, s.heap.get? b = some o → h'.get? b = some o) → h'.get? s.heap.objs.size = some { cls := .type "list", dict := none, data := .seq acc' c', slots := #[] } → ItemsOf (fun i v => ∃ t, v = .int (a + i * c) t) acc' n → Q (.ref s.heap.objs.size) { s with heap := h', toks := tk }) :
    wpAny (model prog w) A (call (.type "list") [.ref r]) Q E s := by
  cases hz : Builtin.Range.small a b c with
  | true => exact call_list_range hh hr hz hn hlen hQ
  | false =>
    refine callType_codes (Q₁ := fun obj s₁ => obj = .ref s.heap.objs.size ∧ s₁ = { s with heap := s.heap.push { cls := .type "list", data := .seq #[] } }) F.called_list (F.typeCall_list_1 _) F.entry_list_init (code_list_new _ ⟨rfl, rfl⟩) fun obj s₁ h₁ => ?_
    obtain ⟨rfl, rfl⟩ := h₁
    have hS : (s.heap.push { cls := .type "list", data := .seq #[] }).get? s.heap.objs.size = some { cls := .type "list", data := .seq #[] } := Heap.get?_push_size _ rfl
    refine ⟨⟨_, hS, rfl⟩, F.args_list_init_2 _ _, init_wide (A := A.in1) hh (Heap.get?_push_of_some _ hr) hz hn hlen _ hS fun h' tk acc' c' hk hS' hacc => ?_⟩
    exact ⟨rfl, hQ h' tk acc' c' (fun b o e => hk b o (Nat.ne_of_lt (Heap.lt_size e)) (Heap.get?_push_of_some _ e)) hS' hacc⟩
end
section
variable {X : Cx} {e : Expr} {te : L2.St → Hp → (Int → Int → Hp → Prop) → Prop}
def tLstW (te : L2.St → Hp → (Int → Int → Hp → Prop) → Prop) : TE := fun σ H Q => te σ H fun a b H1 => (b - a).toNat ≤ 2 ^ 24 ∧ ∀ q, H1 q = none → Q (.ref q) (upd H1 q (.lst (rgV a b)))
theorem pe_listRgW {p pos : Pos} (hc : X.calm = true) (hg : Gl X "list") (hm : X.mg "list" = none) (he : PRg X e te) (na : starEach [e] X.env = (false, eval e X.env) :: starEach [] X.env := by rfl) : PE X (.Call (.Name "list" p) [e] [] pos) (tLstW te) := by
  refine ⟨fun pins s σ H Q I h => Call_ (ld_blt I hg hm boot_list (PyProof.Rows.callWith_type1 (args_cons (thn (he pins s σ H _ I h) fun x s1 ⟨r, a, b, t, u, v, H1, ex, hr, I1, ok, q⟩ => args_nil ?_) na) na))⟩
  subst ex
  refine list_wide (n := (b - a).toNat) (I1.ok.hd hc) hr (size_int a b) ok fun h' tk acc c' hk e' hi => ?_
  refine ⟨.ref s1.heap.objs.size, upd H1 s1.heap.objs.size (.lst (rgV a b)), I1.laid hk (Nat.le_refl _) (show ObjOk X.prog X.w _ _ _ (.lst (rgV a b)) from ⟨?_, acc.toList, c', vals_rg hi, ?_⟩), rfl, q _ (I1.hok.fresh (Nat.le_refl _))⟩
  · rw [rgV_length, sizeLine_eq]
    omega
  · rw [Array.toArray_toList]
    exact e'
end
end LM

set_option Elab.async false
set_option linter.all false
set_option maxRecDepth 100000
set_option maxHeartbeats 4000000
set_option pp.maxSteps 600
set_option pp.deepTerms false
namespace LM
open PySem PySem.Spec PyProof.Rows L2 RZ
local macro_rules | `(tactic| walk_at "hp") => `(tactic| first | assumption | exact upd_same | (rw [upd_ne (by assumption)]; assumption) | (rw [upd_ne (Ne.symm (by assumption))]; assumption) | (rw [upd_ne (by assumption)]; exact upd_same) | (rw [upd_ne (Ne.symm (by assumption))]; exact upd_same))
local macro_rules | `(tactic| walk_at "sq") => `(tactic| first | assumption | exact Or.inl (Or.inl (by assumption)) | exact Or.inl (Or.inl upd_same) | exact Or.inl (Or.inl (by walk_at "hp")))
local macro_rules | `(tactic| walk_at "ixl") => `(tactic| refine ⟨_, _, _, _, rfl, rfl, (by walk_at "sq"), (by rfl), ?_⟩)
local macro_rules | `(tactic| walk_at "setl") => `(tactic| refine ⟨_, _, _, _, rfl, rfl, (by walk_at "hp"), (by rfl), ?_⟩)
local macro_rules | `(tactic| walk_at "side") => `(tactic| refine idP ?_; first | omega | (show (0 : Int) < _; omega) | (show (0 : Int) < _ ∧ _ < _; omega) | (refine Or.inr ?_; show (-(2 ^ 64) : Int) < _ ∧ _ < _; omega) | (refine Or.inl ?_; show (-(2 ^ 64) : Int) < _ ∧ _ < _; omega) | exact divW (by omega) (by omega) _ | (refine ⟨by decide, by decide, ?_⟩; decide))
local macro_rules | `(tactic| walk_at "go1") => `(tactic| first
  | refine ⟨_, rfl, ?_⟩
  | refine ⟨_, _, rfl, rfl, (by walk_at "side"), ?_⟩
  | refine ⟨_, _, rfl, (by walk_at "side"), ?_⟩
  | refine ⟨_, _, rfl, rfl, ?_⟩
  | refine Or.inl ⟨_, rfl, ?_⟩
  | refine ⟨_, _, rfl, Or.inl (by walk_at "sq"), ?_⟩
  | walk_at "ixl"
  | walk_at "setl"
  | refine ⟨_, _, rfl, (by walk_at "sq"), rfl, ?_⟩
  | refine ⟨_, _, rfl, (by walk_at "sq"), ?_⟩
  | refine ⟨_, _, rfl, ?_⟩
  | refine ⟨rfl, ?_⟩
  | refine ⟨small (Nat.le_of_ble_eq_true rfl), ?_⟩)
local macro_rules | `(tactic| walk_at "go") => `(tactic| repeat walk_at "go1")

abbrev sgap_of_round : Stmt := topS 66
theorem scgap_of_round : FnScope ["house", "pace", "groups", "many", "frames", "seconds"] ["house", "pace"] (defScope sgap_of_round) := ⟨rfl, rfl, rfl, by decide +kernel, rfl, by decide +kernel, by decide +kernel⟩
abbrev sends_of_groups : Stmt := topS 68
theorem scends_of_groups : FnScope ["house", "base", "starts", "start", "behind"] ["house"] (defScope sends_of_groups) := ⟨rfl, rfl, rfl, by decide +kernel, rfl, by decide +kernel, by decide +kernel⟩
def spGapRound (K : PySem.W.Frag) (C : Addr) : Sp := fun vs H Q _ => ∃ (old : Addr → Prop) (p b r q : Addr) (bs : List Int) (rows : List R3) (cs : List Int) (B : Nat) (c : Nat → Nat) (L : Nat) (x y : Int), vs = [.ref p, .ref q] ∧ HouseBy K C old H p b r bs rows cs B c L ∧ PaceAt K H q x y ∧ Q (.int (((L : Int) * x - ((sumC B c L : Nat) : Int) * y) * (B : Int))) H
/-- the ends of the groups -/
def EndsAt (B : Nat) (c : Nat → Nat) (H : Hp) (es : List Addr) (n : Nat) : Prop := Paired (fun a (g : Nat) => H a = some (.tup [.int ((sumC B c g : Nat) : Int), .int (((sumC B c (g + 1) : Nat) : Int) - 1)])) es (List.range n)
def spEnds (K : PySem.W.Frag) (C : Addr) : Sp := fun vs H Q _ => ∃ (old : Addr → Prop) (p b r : Addr) (bs : List Int) (rows : List R3) (cs : List Int) (B : Nat) (c : Nat → Nat) (L : Nat), vs = [.ref p] ∧ HouseBy K C old H p b r bs rows cs B c L ∧
  ∀ q es H', Same H H' → H q = none → H' q = some (.lst (es.map V.ref)) → EndsAt B c H' es L → Q (.ref q) H'
theorem hf_fat (b r sk ah rd : Addr) (t : Str) : (hf b r sk ah rd t).lookup ("frames_at" : Str) = none := hf_no _ _ _ _ _ _ (by decide +kernel) (by decide +kernel) (by decide +kernel) (by decide +kernel) (by decide +kernel) (by decide +kernel)
theorem near_mul {gs : List Int} {rows : List R3} {cs : List Int} {B : Nat} {c : Nat → Nat} {L : Nat} (ct : Cnt gs rows cs B c L) (g : Nat) : nearI B c (g * B) true = ((sumC B c g : Nat) : Int) := by
  have hB := ct.hB
  unfold nearI
  rw [if_pos (Or.inl rfl)]
  have h := bel_eq (B := B) (c := c) (by omega) (fun g => Nat.le_of_lt (ct.lt g)) g 0 (Nat.zero_le _)
  rw [Nat.add_zero, Nat.zero_sub, Nat.add_zero] at h
  rw [h]
section
variable {P : Program} {w : World} {K : PySem.W.Frag} {mg : Str → Option Value} {base : Heap}
theorem ok_gapround {f C fBs pBs fRo pRo : Addr} {fd fdBs fdRo : FuncData} (F : Fun K "gap_of_round" "gap_of_round" sgap_of_round f fd) (T : HouseTxt K mg C)
    (qBs : PropOf K C "bases" pBs fBs) (GBs : FnOk P w K mg base CX0 1 fBs fdBs ["self"] (getSp C "_bases")) (bBs : Binds K fdBs ["self"] [])
    (qRo : PropOf K C "round" pRo fRo) (GRo : FnOk P w K mg base CX0 1 fRo fdRo ["self"] (getSp C "_round")) (bRo : Binds K fdRo ["self"] []) : FnOk P w K mg base CX0 3 f fd ["house", "pace"] (spGapRound K C) := by
  have sc := scgap_of_round
  refine F.ok sc (fun vs H Q E h => ?_) (fun cdv A outer s H vs Q E hr h => ?_)
  · obtain ⟨old, p, b, r, q, bs, rows, cs, B, c, L, x, y, rfl, _⟩ := h
    rfl
  · obtain ⟨old, p, b, r, q, bs, rows, cs, B, c, L, x, y, rfl, ⟨hA, ct⟩, ⟨hq, x0, x1, y0, y1⟩, k⟩ := h
    refine ⟨_, (pss_cons (ps_asg (pe_prop (pv 0) T.cl qRo GRo (hr.mono (by decide)) bRo .nil pass0 rfl) (pg_tup rfl (pgs_cons (pg_name (i := 2) sc.nd rfl (Or.inl rfl)) (pgs_cons (pg_name (i := 3) sc.nd rfl (Or.inl rfl)) pgs_nil))))
      (pss_cons (ps_asg (pv 1) (pg_tup rfl (pgs_cons (pg_name (i := 4) sc.nd rfl (Or.inl rfl)) (pgs_cons (pg_name (i := 5) sc.nd rfl (Or.inl rfl)) pgs_nil))))
      (pss_one (ps_ret (pe_op op_mul (pe_op op_sub (pe_op op_mul (pv 2) (pv 4)) (pe_op op_mul (pv 3) (pv 5))) (pe_ix ix_tup (pe_prop (pv 0) T.cl qBs GBs (hr.mono (by decide)) bBs .nil pass0 rfl) (pe_un un_neg pe_int) (fun _ _ => rfl))))))), ?_⟩
    obtain ⟨⟨dx, sk, ah, rd, e1, e2, e3, e4, _, _⟩, bt, rt, fr, _⟩ := id hA
    rw [ct.total, ct.len] at e4
    have hB6 := ct.hB6
    have hL7 := ct.hL7
    have htop := ct.top
    have hLB : L * B ≤ 7200 * 60 := Nat.mul_le_mul ct.hL7 ct.hB6
    refine ⟨_, rfl, p, dx, _, rfl, e1, p, dx, _, _, rfl, e1, hf_round _ _ _ _ _ _, rd, _, rfl, SqT.tup e4, rfl, _, _, rfl, _, _, rfl, rfl, ?_⟩
    refine ⟨_, rfl, q, _, rfl, hq, rfl, _, _, rfl, _, _, rfl, rfl, ?_⟩
    refine ⟨_, rfl, _, rfl, _, _, rfl, rfl, .inr ⟨by omega, by omega⟩, _, rfl, _, rfl, _, _, rfl, rfl, .inr ⟨by omega, by omega⟩, _, _, rfl, rfl, ?_⟩
    refine ⟨_, rfl, p, dx, _, rfl, e1, p, dx, _, _, rfl, e1, hf_bases _ _ _ _ _ _, _, rfl, b, _, _, _, rfl, rfl, bt, getLastD_map bs fr.b0, ?_⟩
    rw [ct.last]
    exact ⟨_, _, rfl, rfl, .inr ⟨by omega, by omega⟩, k⟩
theorem ok_ends {f C fBs pBs fRo pRo fFa : Addr} {fd fdBs fdRo fdFa : FuncData} (F : Fun K "ends_of_groups" "ends_of_groups" sends_of_groups f fd) (T : HouseTxt K mg C) (N : Names mg)
    (qBs : PropOf K C "bases" pBs fBs) (GBs : FnOk P w K mg base CX0 1 fBs fdBs ["self"] (getSp C "_bases")) (bBs : Binds K fdBs ["self"] [])
    (qRo : PropOf K C "round" pRo fRo) (GRo : FnOk P w K mg base CX0 1 fRo fdRo ["self"] (getSp C "_round")) (bRo : Binds K fdRo ["self"] [])
    (mFa : Meth K C "frames_at" fFa) (GFa : FnOk P w K mg base CX0 2 fFa fdFa ["self", "places", "way"] (spFramesAt K C)) (bFa : Binds K fdFa ["self", "places", "way"] []) : FnOk P w K mg base CX0 3 f fd ["house"] (spEnds K C) := by
  have sc := scends_of_groups
  refine F.ok sc (fun vs H Q E h => ?_) (fun cdv A outer s H vs Q E hr h => ?_)
  · obtain ⟨old, p, b, r, bs, rows, cs, B, c, L, rfl, _⟩ := h
    rfl
  · obtain ⟨old, p, b, r, bs, rows, cs, B, c, L, rfl, ⟨hA, ct⟩, k⟩ := h
    refine ⟨_, (pss_cons (ps_set (i := 1) sc.nd rfl (Or.inl rfl) (pe_ix ix_tup (pe_prop (pv 0) T.cl qBs GBs (hr.mono (by decide)) bBs .nil pass0 rfl) (pe_un un_neg pe_int) (fun _ _ => rfl)))
      (pss_cons (ps_set (i := 2) sc.nd rfl (Or.inl rfl) (pe_meth (pv 0) T.cl mFa GFa (hr.mono (by decide)) bFa .nil pass0 (pa_cons (pe_listRg3 rfl (by rfl) N.list (by rfl) N.range (pa_cons pe_int (pa_cons (pe_op op_mul (pe_op op_add (pe_ix ix_tup (pe_prop (pv 0) T.cl qRo GRo (hr.mono (by decide)) bRo .nil pass0 rfl) pe_int (fun _ _ => rfl)) pe_int) (pv 1)) (pa_cons (pv 1) pa_nil)))) (pa_cons pe_str pa_nil))))
      (pss_one (ps_ret (pe_lc (own := [("start", 3), ("behind", 4)]) (g := gTup K 2 (gCons (gName 3) (gCons (gName 4) gNil))) rfl sc.nd (pi_zipM true true rfl N.zip (pa_cons (pv 2) (pa_cons (pe_slice sl_list (pv 2) (po_some pe_int) po_none) pa_nil))) (blkOk_by (own := [("start", 3), ("behind", 4)]) (N := ["house", "base", "starts", "start", "behind"]) (sc := defScope (topS 68)) (by decide +kernel)) (fun _ _ _ _ _ => (pg_tup rfl (pgs_cons (pg_name (i := 3) sc.nd rfl (Or.inl rfl) (Or.inr rfl)) (pgs_cons (pg_name (i := 4) sc.nd rfl (Or.inl rfl) (Or.inr rfl)) pgs_nil)))) (fun _ _ _ _ _ => pts_nil) (fun _ _ _ _ _ => (pe_tup (pa_cons (pv 3) (pa_cons (pe_op op_sub (pv 4) pe_int) pa_nil))))))))), ?_⟩
    obtain ⟨⟨dx, sk, ah, rd, e1, e2, e3, e4, _, _⟩, bt, rt, fr, _⟩ := id hA
    rw [ct.total, ct.len] at e4
    have hB2 := ct.hB
    have hB6 := ct.hB6
    have hL := ct.hL
    have hL7 := ct.hL7
    have hLB : (L + 1) * B ≤ 7201 * 60 := Nat.mul_le_mul (by omega) ct.hB6
    refine ⟨_, rfl, p, dx, _, rfl, e1, p, dx, _, _, rfl, e1, hf_bases _ _ _ _ _ _, _, rfl, b, _, _, _, rfl, rfl, bt, getLastD_map bs fr.b0, ?_⟩
    rw [ct.last]
    refine g_nx ?_
    dsimp only
    have hdv : B ∣ (L + 1) * B := Nat.dvd_mul_left _ _
    have hn1 : 1 ≤ (L + 1) * B := Nat.mul_pos (by omega) (by omega)
    have hcnt := rg_count hn1 hdv
    have hrn : rgN 0 (((L + 1) * B : Nat) : Int) (B : Int) = L + 1 := Nat.eq_of_mul_eq_mul_right (show 0 < B by omega) hcnt
    have hgcd : RgC 0 (((L + 1) * B : Nat) : Int) (B : Int) (rgN 0 (((L + 1) * B : Nat) : Int) (B : Int)) := RgC.pos (by omega) (by omega) (by omega) (by omega) (by omega)
    rw [hrn] at hgcd
    refine ⟨_, rfl, p, dx, _, rfl, e1, hf_fat _ _ _ _ _ _, ?_⟩
    refine ⟨_, rfl, p, dx, _, rfl, e1, p, dx, _, _, rfl, e1, hf_round _ _ _ _ _ _, rd, _, _, _, rfl, rfl, SqT.tup e4, rfl, _, _, rfl, rfl, _, rfl, _, _, rfl, rfl, .inr ⟨by omega, by omega⟩, _, rfl, ?_⟩
    refine ⟨0, (((L + 1) * B : Nat) : Int), (B : Int), L + 1, (by rw [Int.natCast_mul, Int.natCast_add]; rfl), hgcd, by omega, ?_⟩
    (intro l nl; generalize e_l : upd H l _ = H1; have s1 : Same H H1 := fun b x hb => (congrFun e_l b).symm.trans (same_new nl b x hb); have h1 := (congrFun e_l l).symm.trans upd_same; clear e_l)
    have h1' : H1 l = some (.lst (natL ((List.range (L + 1)).map (· * B)))) := by
      rw [h1]
      refine congrArg (fun z => some (HO.lst z)) ?_
      unfold rg3V natL
      rw [List.map_map]
      refine List.map_congr_left fun k _ => ?_
      show V.int (0 + ((k : Nat) : Int) * (B : Int)) = V.int ((k * B : Nat) : Int)
      rw [Int.zero_add, Int.natCast_mul]
    refine ⟨old, p, b, r, l, bs, rows, cs, B, c, L, _, true, rfl, ⟨hA.same s1, ct⟩, SqL.lst h1', ?_, (by rw [List.length_map, List.length_range]; omega), fun st H2 s2 nst est => ?_⟩
    · rw [List.pairwise_map]
      exact List.Pairwise.imp (fun h => Nat.mul_le_mul_right _ (Nat.le_of_lt h)) List.pairwise_lt_range
    have est' : H2 st = some (.lst ((List.range (L + 1)).map fun g => V.int ((sumC B c g : Nat) : Int))) := by
      rw [est]
      refine congrArg (fun z => some (HO.lst z)) ?_
      unfold nearL
      rw [List.map_map, List.map_map]
      refine List.map_congr_left fun g _ => ?_
      show V.int (nearI B c (g * B) true) = _
      rw [near_mul ct]
    have s02 := s1.trans s2
    refine g_nx ?_
    dsimp only
    refine ⟨_, rfl, _, rfl, _, rfl, st, _, rfl, SqL.lst est', ?_⟩
    (intro t2 nt2; generalize e_t2 : upd H2 t2 _ = H3; have s3 : Same H2 H3 := fun b x hb => (congrFun e_t2 b).symm.trans (same_new nt2 b x hb); have h3 := (congrFun e_t2 t2).symm.trans upd_same; clear e_t2)
    have h3' : H3 t2 = some (.lst ((List.range L).map fun g => V.int ((sumC B c (g + 1) : Nat) : Int))) := by
      rw [h3]
      refine congrArg (fun z => some (HO.lst z)) ?_
      have e := cut_from ((List.range (L + 1)).map fun g => V.int ((sumC B c g : Nat) : Int)) 1
      have e2 : cutV ((List.range (L + 1)).map fun g => V.int ((sumC B c g : Nat) : Int)) (some 1) none = ((List.range (L + 1)).map fun g => V.int ((sumC B c g : Nat) : Int)).drop 1 := e
      refine e2.trans ?_
      rw [List.range_succ_eq_map, List.map_cons, List.drop_one, List.tail_cons, List.map_map]
      rfl
    have s03 := s02.trans s3
    refine ⟨st, t2, _, _, rfl, SqL.lst (s3 _ _ est'), SqL.lst h3', ?_⟩
    intro D nD
    have nD0 : H D = none := s03.free nD
    refine lc_it (walk_zipM (m := true) (n := true) (k := L) (by rw [List.length_map, List.length_map, List.length_range, List.length_range]; omega)) (fun i H' => Same H3 H' ∧ ∃ es, H' D = some (.lst (es.map V.ref)) ∧ EndsAt B c H' es i) ⟨same_new nD, [], upd_same, .nil⟩ (fun i H' _ ⟨sm, _⟩ => ⟨SqL.lst (sm _ _ (s3 _ _ est')), SqL.lst (sm _ _ h3')⟩) ?_ ?_
    · rintro i x H5 H6 hi ⟨sm, es, eD, hes⟩ ⟨U, x1, x2, rfl, nU, rfl, g1, g2⟩
      have g1' : x1 = V.int ((sumC B c i : Nat) : Int) := by
        dsimp only at g1
        rw [List.getElem?_map, List.getElem?_range (by omega)] at g1
        exact (Option.some.inj g1).symm
      have g2' : x2 = V.int ((sumC B c (i + 1) : Nat) : Int) := by
        dsimp only at g2
        rw [List.getElem?_map, List.getElem?_range hi] at g2
        exact (Option.some.inj g2).symm
      subst g1' g2'
      refine ⟨U, _, rfl, SqT.tup upd_same, rfl, _, _, rfl, _, _, rfl, rfl, rfl, ?_⟩
      have sU : Same H5 (upd H5 U (HO.tup [V.int ((sumC B c i : Nat) : Int), V.int ((sumC B c (i + 1) : Nat) : Int)])) := same_new nU
      refine ⟨_, rfl, _, rfl, _, _, rfl, rfl, Nat.le_of_ble_eq_true rfl, ?_⟩
      generalize upd H5 U (HO.tup [V.int ((sumC B c i : Nat) : Int), V.int ((sumC B c (i + 1) : Nat) : Int)]) = H7 at sU ⊢
      (intro t nt; generalize e_t : upd H7 t _ = H8; have s8 : Same H7 H8 := fun b x hb => (congrFun e_t b).symm.trans (same_new nt b x hb); have h8 := (congrFun e_t t).symm.trans upd_same; clear e_t)
      have eD8 := s8 _ _ (sU _ _ eD)
      have hl := hes.length
      have ntD : t ≠ D := fun z => by rw [z, sU _ _ eD] at nt; cases nt
      refine ⟨_, eD8, smallLt (by rw [List.length_map, hl, List.length_range]; omega), same_mut (sm.trans (sU.trans s8)) nD, es ++ [t], ?_, ?_⟩
      · rw [upd_same, List.map_append]
        rfl
      · unfold EndsAt
        rw [List.range_succ]
        refine paired_app (paired_imp hes fun a ha g q => ?_) ?_
        · have q8 := s8 _ _ (sU _ _ q)
          rw [upd_ne (fun z => by rw [z, eD8] at q8; cases q8)]
          exact q8
        · rw [upd_ne ntD]
          exact h8
    rintro H5 ⟨sm, es, eD, hes⟩
    exact k D es H5 (s03.trans sm) nD0 eD hes
end
end LM

set_option Elab.async false
set_option linter.all false
set_option maxRecDepth 100000
set_option maxHeartbeats 4000000
set_option pp.maxSteps 600
set_option pp.deepTerms false
namespace LM
open PySem PySem.Spec PyProof.Rows L2 RZ
local macro_rules | `(tactic| walk_at "hp") => `(tactic| first | assumption | exact upd_same | (rw [upd_ne (by assumption)]; assumption) | (rw [upd_ne (Ne.symm (by assumption))]; assumption) | (rw [upd_ne (by assumption)]; exact upd_same) | (rw [upd_ne (Ne.symm (by assumption))]; exact upd_same))
local macro_rules | `(tactic| walk_at "sq") => `(tactic| first | assumption | exact Or.inl (Or.inl (by assumption)) | exact Or.inl (Or.inl upd_same) | exact Or.inl (Or.inl (by walk_at "hp")))
local macro_rules | `(tactic| walk_at "ixl") => `(tactic| refine ⟨_, _, _, _, rfl, rfl, (by walk_at "sq"), (by rfl), ?_⟩)
local macro_rules | `(tactic| walk_at "setl") => `(tactic| refine ⟨_, _, _, _, rfl, rfl, (by walk_at "hp"), (by rfl), ?_⟩)
local macro_rules | `(tactic| walk_at "side") => `(tactic| refine idP ?_; first | omega | (show (0 : Int) < _; omega) | (show (0 : Int) < _ ∧ _ < _; omega) | (refine Or.inr ?_; show (-(2 ^ 64) : Int) < _ ∧ _ < _; omega) | (refine Or.inl ?_; show (-(2 ^ 64) : Int) < _ ∧ _ < _; omega) | exact divW (by omega) (by omega) _ | (refine ⟨by decide, by decide, ?_⟩; decide))
local macro_rules | `(tactic| walk_at "go1") => `(tactic| first
  | refine ⟨_, rfl, ?_⟩
  | refine ⟨_, _, rfl, rfl, (by walk_at "side"), ?_⟩
  | refine ⟨_, _, rfl, (by walk_at "side"), ?_⟩
  | refine ⟨_, _, rfl, rfl, ?_⟩
  | refine Or.inl ⟨_, rfl, ?_⟩
  | refine ⟨_, _, rfl, Or.inl (by walk_at "sq"), ?_⟩
  | walk_at "ixl"
  | walk_at "setl"
  | refine ⟨_, _, rfl, (by walk_at "sq"), rfl, ?_⟩
  | refine ⟨_, _, rfl, (by walk_at "sq"), ?_⟩
  | refine ⟨_, _, rfl, ?_⟩
  | refine ⟨rfl, ?_⟩
  | refine ⟨small (Nat.le_of_ble_eq_true rfl), ?_⟩)
local macro_rules | `(tactic| walk_at "go") => `(tactic| repeat walk_at "go1")

abbrev sswing : Stmt := topS 70
theorem scswing : FnScope ["house", "pace", "frames", "gaps", "least", "greatest", "ends", "frame"] ["house", "pace"] (defScope sswing) := ⟨rfl, rfl, rfl, by decide +kernel, rfl, by decide +kernel, by decide +kernel⟩
/-- a comprehension with two `for`, the outer one over a list -/
theorem lc2_list {K : PySem.W.Frag} {a : Addr} {xs : List V} {wi1 : TI} {g g1 : TG} {tt tt1 : TT} {te : TE} {vs vs1 : List Nat} {σ : L2.St} {H1 : Hp} {D : Addr} {Qd : Hp → Prop} (Pv : Nat → Hp → Prop) (h0 : Pv 0 (upd H1 D (.lst []))) (hl : ∀ i H, i ≤ xs.length → Pv i H → SqL K H a xs)
    (hs : ∀ i x H, xs[i]? = some x → Pv i H → g x (wipe σ vs) H fun σ2 H2 => wipe σ2 vs = wipe σ vs ∧ tt σ2 H2 fun b H3 =>
      if b = true then wi1 σ2 H3 fun J1 H4 => ∃ W1 : Nat → Nat → Hp → Prop, (∃ m, W1 0 m H4) ∧ ∀ j k H, W1 j k H →
        (J1.stop j H ∧ Pv (i + 1) H) ∨ (J1.go j H ∧ ∃ Nx1 : Hp → Prop, (∀ H', Nx1 H' → ∃ k', k' < k ∧ W1 (j + 1) k' H') ∧ ∀ x H', J1.yld j H x H' → g1 x (wipe σ2 vs1) H' fun σ3 H5 => wipe σ3 vs1 = wipe σ2 vs1 ∧ tt1 σ3 H5 fun b H6 =>
          if b = true then te σ3 H6 fun y H7 => ∃ acc, H7 D = some (.lst acc) ∧ acc.length < sizeLine ∧ Nx1 (upd H7 D (.lst (acc ++ [y]))) else Nx1 H6)
      else Pv (i + 1) H3) (hd : ∀ H, Pv xs.length H → Qd H) :
    ∃ W : Nat → Nat → Hp → Prop, (∃ m, W 0 m (upd H1 D (.lst []))) ∧ ∀ i m H, W i m H →
      ((Itl K a).stop i H ∧ Qd H) ∨ ((Itl K a).go i H ∧ ∃ Nx : Hp → Prop, (∀ H', Nx H' → ∃ m', m' < m ∧ W (i + 1) m' H') ∧ ∀ x H', (Itl K a).yld i H x H' → g x (wipe σ vs) H' fun σ2 H2 => wipe σ2 vs = wipe σ vs ∧ tt σ2 H2 fun b H3 =>
        if b = true then wi1 σ2 H3 fun J1 H4 => ∃ W1 : Nat → Nat → Hp → Prop, (∃ m, W1 0 m H4) ∧ ∀ j k H, W1 j k H →
          (J1.stop j H ∧ Nx H) ∨ (J1.go j H ∧ ∃ Nx1 : Hp → Prop, (∀ H', Nx1 H' → ∃ k', k' < k ∧ W1 (j + 1) k' H') ∧ ∀ x H', J1.yld j H x H' → g1 x (wipe σ2 vs1) H' fun σ3 H5 => wipe σ3 vs1 = wipe σ2 vs1 ∧ tt1 σ3 H5 fun b H6 =>
            if b = true then te σ3 H6 fun y H7 => ∃ acc, H7 D = some (.lst acc) ∧ acc.length < sizeLine ∧ Nx1 (upd H7 D (.lst (acc ++ [y]))) else Nx1 H6)
        else Nx H3) := by
  refine ⟨fun i m H => m = xs.length - i ∧ i ≤ xs.length ∧ Pv i H, ⟨xs.length, by simp, Nat.zero_le _, h0⟩, ?_⟩
  rintro i m H ⟨rfl, hi, p⟩
  have q := hl i H hi p
  by_cases hlt : i < xs.length
  · refine .inr ⟨⟨xs, xs[i], q, by simp [hlt]⟩, Pv (i + 1), fun H' p' => ⟨xs.length - (i + 1), by omega, rfl, hlt, p'⟩, fun x H' y => ?_⟩
    obtain ⟨e, y⟩ := y
    subst e
    exact hs i x _ (y xs q) p
  · have e : i = xs.length := by omega
    subst e
    exact .inl ⟨⟨xs, q, Nat.le_refl _⟩, hd H p⟩
/-- its inner one over a tuple -/
theorem lc2_tup {K : PySem.W.Frag} {a : Addr} {xs : List V} {g1 : TG} {tt1 : TT} {te : TE} {vs1 : List Nat} {σ2 : L2.St} {H4 : Hp} {D : Addr} {Nx : Hp → Prop} (Pv : Nat → Hp → Prop) (h0 : Pv 0 H4) (hl : ∀ i H, i ≤ xs.length → Pv i H → SqT K H a xs)
    (hs : ∀ j x H, xs[j]? = some x → Pv j H → g1 x (wipe σ2 vs1) H fun σ3 H5 => wipe σ3 vs1 = wipe σ2 vs1 ∧ tt1 σ3 H5 fun b H6 =>
          if b = true then te σ3 H6 fun y H7 => ∃ acc, H7 D = some (.lst acc) ∧ acc.length < sizeLine ∧ Pv (j + 1) (upd H7 D (.lst (acc ++ [y]))) else Pv (j + 1) H6) (hd : ∀ H, Pv xs.length H → Nx H) :
    ∃ W1 : Nat → Nat → Hp → Prop, (∃ m, W1 0 m H4) ∧ ∀ j k H, W1 j k H →
        ((Itt K a).stop j H ∧ Nx H) ∨ ((Itt K a).go j H ∧ ∃ Nx1 : Hp → Prop, (∀ H', Nx1 H' → ∃ k', k' < k ∧ W1 (j + 1) k' H') ∧ ∀ x H', (Itt K a).yld j H x H' → g1 x (wipe σ2 vs1) H' fun σ3 H5 => wipe σ3 vs1 = wipe σ2 vs1 ∧ tt1 σ3 H5 fun b H6 =>
          if b = true then te σ3 H6 fun y H7 => ∃ acc, H7 D = some (.lst acc) ∧ acc.length < sizeLine ∧ Nx1 (upd H7 D (.lst (acc ++ [y]))) else Nx1 H6) := by
  refine ⟨fun i m H => m = xs.length - i ∧ i ≤ xs.length ∧ Pv i H, ⟨xs.length, by simp, Nat.zero_le _, h0⟩, ?_⟩
  rintro i m H ⟨rfl, hi, p⟩
  have q := hl i H hi p
  by_cases hlt : i < xs.length
  · refine .inr ⟨⟨xs, xs[i], q, by simp [hlt]⟩, Pv (i + 1), fun H' p' => ⟨xs.length - (i + 1), by omega, rfl, hlt, p'⟩, fun x H' y => ?_⟩
    obtain ⟨e, y⟩ := y
    subst e
    exact hs i x _ (y xs q) p
  · have e : i = xs.length := by omega
    subst e
    exact .inl ⟨⟨xs, q, Nat.le_refl _⟩, hd H p⟩
/-- the frames at the ends, one behind another -/
def endsI (B : Nat) (c : Nat → Nat) (n : Nat) : List Int := ((List.range n).map fun g => [((sumC B c g : Nat) : Int), ((sumC B c (g + 1) : Nat) : Int) - 1]).flatten
theorem endsI_succ (B : Nat) (c : Nat → Nat) (n : Nat) : endsI B c (n + 1) = endsI B c n ++ [((sumC B c n : Nat) : Int), ((sumC B c (n + 1) : Nat) : Int) - 1] := by
  unfold endsI
  rw [List.range_succ, List.map_append, List.flatten_append]
  rfl
theorem endsI_len (B : Nat) (c : Nat → Nat) : ∀ n, (endsI B c n).length = 2 * n
  | 0 => rfl
  | n + 1 => by
    rw [endsI_succ, List.length_append, endsI_len B c n]
    show 2 * n + 2 = _
    omega
/-- m at i is the least value of a round, i the least frame with it -/
def LeastAt (G : Nat → Int) (F : Nat) (m : Int) (i : Nat) : Prop := i < F ∧ G i = m ∧ (∀ n, n < F → m ≤ G n) ∧ ∀ n, n < i → G n ≠ m
def endE (B : Nat) (c : Nat → Nat) (k : Nat) : Int := if k % 2 = 0 then ((sumC B c (k / 2) : Nat) : Int) else ((sumC B c (k / 2 + 1) : Nat) : Int) - 1
theorem endsI_get (B : Nat) (c : Nat → Nat) : ∀ n k, k < 2 * n → (endsI B c n)[k]? = some (endE B c k)
  | 0, k, h => by omega
  | n + 1, k, h => by
    rw [endsI_succ]
    by_cases hk : k < 2 * n
    · rw [List.getElem?_append_left (by rw [endsI_len]; exact hk)]
      exact endsI_get B c n k hk
    · rw [List.getElem?_append_right (by rw [endsI_len]; omega), endsI_len]
      have h2 : k = 2 * n ∨ k = 2 * n + 1 := by omega
      rcases h2 with rfl | rfl
      · rw [Nat.sub_self]
        unfold endE
        rw [if_pos (by omega), show 2 * n / 2 = n by omega]
        rfl
      · rw [show 2 * n + 1 - 2 * n = 1 by omega]
        unfold endE
        rw [if_neg (by omega), show (2 * n + 1) / 2 = n by omega]
        rfl
section
variable {gs : List Int} {rows : List R3} {cs : List Int} {B : Nat} {c : Nat → Nat} {L : Nat}
theorem Cnt.up (ct : Cnt gs rows cs B c L) (g : Nat) : sumC B c g < sumC B c (g + 1) := by
  have h := ct.lt g
  show sumC B c g < sumC B c g + (B - c g)
  omega
theorem Cnt.endE_succ (ct : Cnt gs rows cs B c L) (k : Nat) : endE B c k ≤ endE B c (k + 1) := by
  unfold endE
  have h := ct.up (k / 2)
  by_cases hk : k % 2 = 0
  · rw [if_pos hk, if_neg (by omega), show (k + 1) / 2 = k / 2 by omega]
    omega
  · rw [if_neg hk, if_pos (by omega), show (k + 1) / 2 = k / 2 + 1 by omega]
    omega
theorem Cnt.endE_mono (ct : Cnt gs rows cs B c L) {i j : Nat} (h : i ≤ j) : endE B c i ≤ endE B c j := by
  induction j with
  | zero => rw [Nat.le_zero.mp h]; exact Int.le_refl _
  | succ j ih =>
    rcases Nat.lt_or_eq_of_le h with z | z
    · exact Int.le_trans (ih (by omega)) (ct.endE_succ j)
    · rw [z]; exact Int.le_refl _
theorem Cnt.group (ct : Cnt gs rows cs B c L) {t : Nat} : ∀ n, t < sumC B c n → ∃ g, g < n ∧ sumC B c g ≤ t ∧ t < sumC B c (g + 1)
  | 0, h => absurd h (Nat.not_lt_zero t)
  | n + 1, h => by
    by_cases hn : t < sumC B c n
    · obtain ⟨g, h1, h2⟩ := ct.group n hn
      exact ⟨g, by omega, h2⟩
    · exact ⟨n, by omega, by omega, h⟩
theorem Cnt.endE_pos (ct : Cnt gs rows cs B c L) (k : Nat) : 0 ≤ endE B c k := by
  have h := ct.up (k / 2)
  unfold endE
  split <;> omega
theorem Cnt.endE_lt (ct : Cnt gs rows cs B c L) {k n : Nat} (h : k < 2 * n) : endE B c k < ((sumC B c n : Nat) : Int) := by
  have h1 := ct.up (k / 2)
  have h2 := sumC_mono (B := B) (c := c) (show k / 2 + 1 ≤ n by omega)
  unfold endE
  split <;> omega
/-- the place of a frame of a group -/
theorem Cnt.place_in (ct : Cnt gs rows cs B c L) {g n : Nat} (h1 : sumC B c g ≤ n) (h2 : n < sumC B c (g + 1)) : placeP gs cs (n : Int) = ((g * B + c g : Nat) : Int) + ((n : Int) - ((sumC B c g : Nat) : Int)) := by
  obtain ⟨s, p1, b1, f1, _⟩ := ct.at n
  have hB := ct.hB
  have h2' : n < sumC B c g + (B - c g) := h2
  have e : bel B c (g * B + (c g + (n - sumC B c g))) = n := by
    rw [bel_eq (by omega) (fun g => Nat.le_of_lt (ct.lt g)) _ _ (by omega)]
    omega
  have b2 : bor B c (g * B + (c g + (n - sumC B c g))) = true := by
    unfold bor
    rw [Nat.mul_comm, Nat.mul_add_div (by omega), Nat.div_eq_of_lt (by omega), Nat.mul_add_mod, Nat.mod_eq_of_lt (by omega), Nat.add_zero]
    exact decide_eq_true (by omega)
  have hs := bel_inj b1 b2 (f1.trans e.symm)
  rw [p1, hs]
  omega
theorem Cnt.gap_in (ct : Cnt gs rows cs B c L) (x y : Int) {g n : Nat} (h1 : sumC B c g ≤ n) (h2 : n < sumC B c (g + 1)) : gapI gs cs x y (n : Int) = gapI gs cs x y ((sumC B c g : Nat) : Int) + ((n : Int) - ((sumC B c g : Nat) : Int)) * (x - y * (B : Int)) := by
  unfold gapI
  rw [ct.place_in h1 h2, ct.place_in (Nat.le_refl _) (ct.up g), ct.last]
  generalize ((g * B + c g : Nat) : Int) = u
  generalize ((sumC B c g : Nat) : Int) = v
  generalize (B : Int) = w
  generalize (n : Int) = m
  rw [Int.sub_self, Int.add_zero, Int.add_mul, Int.mul_sub, Int.sub_mul, Int.sub_mul, ← Int.mul_assoc, ← Int.mul_assoc]
  omega
/-- the least one of the ends is the least one of the round -/
theorem Cnt.least_ends (ct : Cnt gs rows cs B c L) {G : Nat → Int} {d : Int} (lin : ∀ g n, sumC B c g ≤ n → n < sumC B c (g + 1) → G n = G (sumC B c g) + ((n : Int) - ((sumC B c g : Nat) : Int)) * d)
    {m : Int} {j : Nat} (hle : ∀ k, k < 2 * L → m ≤ G (endE B c k).toNat) (hj : j < 2 * L) (hm : G (endE B c j).toNat = m) (hf : ∀ k, k < j → G (endE B c k).toNat ≠ m) : LeastAt G (sumC B c L) m (endE B c j).toNat := by
  have e0 : ∀ g, endE B c (2 * g) = ((sumC B c g : Nat) : Int) := fun g => by
    unfold endE
    rw [if_pos (by omega), show 2 * g / 2 = g by omega]
  have e1 : ∀ g, endE B c (2 * g + 1) = ((sumC B c (g + 1) : Nat) : Int) - 1 := fun g => by
    unfold endE
    rw [if_neg (by omega), show (2 * g + 1) / 2 = g by omega]
  have hjp := ct.endE_pos j
  have hjl := ct.endE_lt hj
  have key : ∀ t, t < sumC B c L → ∃ g, g < L ∧ sumC B c g ≤ t ∧ t < sumC B c (g + 1) ∧ m ≤ G (sumC B c g) ∧ m ≤ G (sumC B c (g + 1) - 1) ∧ G t = G (sumC B c g) + ((t : Int) - ((sumC B c g : Nat) : Int)) * d ∧ G (sumC B c (g + 1) - 1) = G t + (((sumC B c (g + 1) - 1 : Nat) : Int) - (t : Int)) * d := by
    intro t ht
    obtain ⟨g, g1, g2, g3⟩ := ct.group L ht
    have up := ct.up g
    have a1 := hle (2 * g) (by omega)
    have a2 := hle (2 * g + 1) (by omega)
    rw [e0, Int.toNat_natCast] at a1
    rw [e1, show (((sumC B c (g + 1) : Nat) : Int) - 1).toNat = sumC B c (g + 1) - 1 by omega] at a2
    have l1 := lin g t g2 g3
    have l2 := lin g (sumC B c (g + 1) - 1) (by omega) (by omega)
    refine ⟨g, g1, g2, g3, a1, a2, l1, ?_⟩
    rw [l2, l1, Int.sub_mul, Int.sub_mul, Int.sub_mul]
    omega
  refine ⟨by omega, hm, fun t ht => ?_, fun t ht he => ?_⟩
  · obtain ⟨g, g1, g2, g3, a1, a2, l1, l2⟩ := key t ht
    rcases Int.le_total 0 d with hd | hd
    · have : 0 ≤ ((t : Int) - ((sumC B c g : Nat) : Int)) * d := Int.mul_nonneg (by omega) hd
      omega
    · have : (((sumC B c (g + 1) - 1 : Nat) : Int) - (t : Int)) * d ≤ 0 := Int.mul_nonpos_of_nonneg_of_nonpos (by omega) hd
      omega
  · obtain ⟨g, g1, g2, g3, a1, a2, l1, l2⟩ := key t (by omega)
    have up := ct.up g
    have low : ∀ k, k < 2 * L → endE B c k = (t : Int) → False := by
      intro k hk ek
      have hkj : k < j := by
        rcases Nat.lt_or_ge k j with z | z
        · exact z
        · have := ct.endE_mono z
          omega
      refine hf k hkj ?_
      rw [ek, Int.toNat_natCast]
      exact he
    have fst : t ≠ sumC B c g := fun z => low (2 * g) (by omega) (by rw [e0, z])
    have snd : t ≠ sumC B c (g + 1) - 1 := fun z => low (2 * g + 1) (by omega) (by rw [e1, z]; omega)
    rcases Int.lt_trichotomy d 0 with hd | hd | hd
    · have : (((sumC B c (g + 1) - 1 : Nat) : Int) - (t : Int)) * d < 0 := Int.mul_neg_of_pos_of_neg (by omega) hd
      omega
    · rw [hd, Int.mul_zero, Int.add_zero] at l1
      have hkj : 2 * g < j := by
        rcases Nat.lt_or_ge (2 * g) j with z | z
        · exact z
        · have := ct.endE_mono z
          rw [e0] at this
          omega
      refine hf _ hkj ?_
      rw [e0, Int.toNat_natCast]
      omega
    · have : 0 < ((t : Int) - ((sumC B c g : Nat) : Int)) * d := Int.mul_pos (by omega) hd
      omega
end
theorem first_ix {m : Int} : ∀ {ns : List Int}, m ∈ ns → ∃ j : Nat, ns[j]? = some m ∧ ∀ k : Nat, k < j → ∀ z, ns[k]? = some z → z ≠ m
  | n :: ns, h => by
    by_cases e : n = m
    · exact ⟨0, by rw [e]; rfl, fun k hk => absurd hk (Nat.not_lt_zero k)⟩
    · obtain ⟨j, h1, h2⟩ := first_ix (List.mem_of_ne_of_mem (fun z => e z.symm) h)
      refine ⟨j + 1, h1, fun k hk z hz => ?_⟩
      cases k with
      | zero => rw [← Option.some.inj hz]; exact e
      | succ k => exact h2 k (by omega) z hz
theorem ints_flatP : ∀ ns : List Int, (ns.map V.int).all flatV = true
  | [] => rfl
  | _ :: ns => ints_flatP ns
def spSwing (K : PySem.W.Frag) (C : Addr) : Sp := fun vs H Q _ => ∃ (old : Addr → Prop) (p b r q : Addr) (bs : List Int) (rows : List R3) (cs : List Int) (B : Nat) (c : Nat → Nat) (L : Nat) (x y : Int), vs = [.ref p, .ref q] ∧ HouseBy K C old H p b r bs rows cs B c L ∧ PaceAt K H q x y ∧
  (((L : Int) * x - ((sumC B c L : Nat) : Int) * y) * (B : Int) ≠ 0 → ∀ H', Same H H' → Q .non H') ∧
  (((L : Int) * x - ((sumC B c L : Nat) : Int) * y) * (B : Int) = 0 → ∀ (m1 m2 : Int) (i1 i2 : Nat) (t d1 d2 : Addr) H', Same H H' → LeastAt (fun n => gapI bs cs x y (n : Int)) (sumC B c L) m1 i1 → LeastAt (fun n => - gapI bs cs x y (n : Int)) (sumC B c L) (-m2) i2 →
    H' t = some (.tup [.ref d1, .int (i1 : Int), .ref d2, .int (i2 : Int)]) → H' d1 = some (.tup (fracV m1 (bs.getLastD 1 * x))) → H' d2 = some (.tup (fracV m2 (bs.getLastD 1 * x))) → Q (.ref t) H')
section
variable {P : Program} {w : World} {K : PySem.W.Frag} {mg : Str → Option Value} {base : Heap}
theorem ok_swing {f C : Addr} {fd : FuncData} (F : Fun K "swing" "swing" sswing f fd) (T : HouseTxt K mg C) (N : Names mg)
    (Dcheck_house : DefK P w K mg base "check_house" ["given"] 1 (spChkHouse C)) (Dcheck_pace : DefK P w K mg base "check_pace" ["given"] 3 (spChkPace K))
    (Dgap_of_round : DefK P w K mg base "gap_of_round" ["house", "pace"] 3 (spGapRound K C)) (Dends_of_groups : DefK P w K mg base "ends_of_groups" ["house"] 3 (spEnds K C))
    (Dgap_at : DefK P w K mg base "gap_at" ["house", "pace", "frame"] 5 (spGapAt K C)) (Ddrift_of_gap : DefK P w K mg base "drift_of_gap" ["house", "pace", "gap"] 3 (spDriftOf K C)) : FnOk P w K mg base CX0 6 f fd ["house", "pace"] (spSwing K C) := by
  have sc := scswing
  refine F.ok sc (fun vs H Q E h => ?_) (fun cdv A outer s H vs Q E hr h => ?_)
  · obtain ⟨old, p, b, r, q, bs, rows, cs, B, c, L, x, y, rfl, _⟩ := h
    rfl
  · obtain ⟨old, p, b, r, q, bs, rows, cs, B, c, L, x, y, rfl, ⟨hA, ct⟩, hp, k1, k2⟩ := h
    refine ⟨_, (pss_cons (ps_expr (pe_d Dcheck_house (hr.mono (by decide)) rfl (pa_cons (pv 0) pa_nil)))
      (pss_cons (ps_expr (pe_d Dcheck_pace (hr.mono (by decide)) rfl (pa_cons (pv 1) pa_nil)))
      (pss_cons (ps_if (pt_cmpR op_ne (pe_d Dgap_of_round (hr.mono (by decide)) rfl (pa_cons (pv 0) (pa_cons (pv 1) pa_nil))) pe_int (nomark _)) (pss_one (ps_ret pe_non)) pss_nil)
      (pss_cons (ps_setLc2 (i := 2) (own := [("ends", 6), ("frame", 7)]) (vs1 := [7]) rfl sc.nd rfl rfl (sw_true rfl rfl rfl (by decide +kernel)) (pi_list (pe_d Dends_of_groups (hr.mono (by decide)) rfl (pa_cons (pv 0) pa_nil))) (blkOk_by (own := [("ends", 6), ("frame", 7)]) (N := ["house", "pace", "frames", "gaps", "least", "greatest", "ends", "frame"]) (sc := defScope (topS 70)) (by decide +kernel)) (by decide) (fun _ _ _ _ _ => (pg_name (i := 6) sc.nd rfl (Or.inl rfl))) (fun _ _ _ _ _ => pts_nil) (fun _ _ _ _ _ => (show PI _ _ _ (iTup K _) from (pi_tup (pv 6)))) (fun _ _ _ _ _ => (pg_name (i := 7) sc.nd rfl (Or.inl rfl))) (fun _ _ _ _ _ => pts_nil) (fun _ _ _ _ _ => (pv 7)))
      (pss_cons (ps_setLc (i := 3) (own := [("frame", 7)]) rfl sc.nd rfl rfl (sw_true rfl rfl rfl (by decide +kernel)) (pi_list (pv 2)) (blkOk_by (own := [("frame", 7)]) (N := ["house", "pace", "frames", "gaps", "least", "greatest", "ends", "frame"]) (sc := defScope (topS 70)) (by decide +kernel)) (fun _ _ _ _ _ => (pg_name (i := 7) sc.nd rfl (Or.inl rfl))) (fun _ _ _ _ _ => pts_nil) (fun _ _ _ _ _ => (pe_d Dgap_at (hr.mono (by decide)) rfl (pa_cons (pv 0) (pa_cons (pv 1) (pa_cons (pv 7) pa_nil))))))
      (pss_cons (ps_par (i := 4) (j := 5) rfl sc.nd rfl rfl (by decide) rfl rfl (pa_cons (pe_callB (cr_min rfl) (by rfl) N.min (by decide +kernel) (pa_cons (pv 3) pa_nil)) (pa_cons (pe_callB (cr_max rfl) (by rfl) N.max (by decide +kernel) (pa_cons (pv 3) pa_nil)) pa_nil)) (by rfl))
      (pss_one (ps_ret (pe_tup (pa_cons (pe_d Ddrift_of_gap (hr.mono (by decide)) rfl (pa_cons (pv 0) (pa_cons (pv 1) (pa_cons (pv 4) pa_nil)))) (pa_cons (pe_ix ix_list (pv 2) (pe_bm PySem.F.plainAttrs_list PySem.F.slot_list_index PySem.F.type_list_index mt_index (pv 3) (pa_cons (pv 4) pa_nil)) (fun _ _ => rfl)) (pa_cons (pe_d Ddrift_of_gap (hr.mono (by decide)) rfl (pa_cons (pv 0) (pa_cons (pv 1) (pa_cons (pv 5) pa_nil)))) (pa_cons (pe_ix ix_list (pv 2) (pe_bm PySem.F.plainAttrs_list PySem.F.slot_list_index PySem.F.type_list_index mt_index (pv 3) (pa_cons (pv 5) pa_nil)) (fun _ _ => rfl)) pa_nil))))))))))))), ?_⟩
    obtain ⟨dx, sk, ah, rd, e1, _⟩ := id hA.ob
    refine ⟨_, rfl, p, _, _, rfl, e1, ?_⟩
    refine ⟨_, rfl, q, x, y, rfl, hp, fun H1 s1 => ?_⟩
    refine ⟨_, rfl, _, rfl, old, p, b, r, q, bs, rows, cs, B, c, L, x, y, rfl, ⟨hA.same s1, ct⟩, hp.same s1, ?_⟩
    refine ⟨rfl, _, rfl, ?_⟩
    refine ifN (fun hd => ?_) (fun hd => ?_)
    · refine k1 (fun z => hd (congrArg V.int z)) H1 s1
    have k2 := k2 (V.int.inj hd)
    clear k1
    have hA1 := hA.same s1
    have hp1 := hp.same s1
    refine ⟨_, rfl, old, p, b, r, bs, rows, cs, B, c, L, rfl, ⟨hA1, ct⟩, fun eq es H2 s2 neq eeq hes => ?_⟩
    refine ⟨eq, rfl, ⟨_, SqL.lst eeq⟩, ?_⟩
    intro D nD
    have hel := hes.length
    rw [List.length_range] at hel
    have s12 := s1.trans s2
    have nD0 := s12.free nD
    have hpair : ∀ {i : Nat} {a : Addr}, es[i]? = some a → i < L ∧ H2 a = some (.tup [.int ((sumC B c i : Nat) : Int), .int (((sumC B c (i + 1) : Nat) : Int) - 1)]) := by
      intro i a ha
      obtain ⟨g, hg, q⟩ := paired_at hes ha
      obtain ⟨hi, _⟩ := List.getElem?_eq_some_iff.mp hg
      rw [List.length_range] at hi
      rw [List.getElem?_range hi] at hg
      obtain rfl := Option.some.inj hg
      exact ⟨hi, q⟩
    have hL7 := ct.hL7
    refine lc2_list (K := K) (xs := es.map V.ref) (fun i H' => Same H2 H' ∧ H' D = some (.lst ((endsI B c i).map V.int))) ⟨same_new nD, upd_same⟩ (fun i H' _ ⟨sm, _⟩ => SqL.lst (sm _ _ eeq)) ?_ ?_
    · rintro i x H3 hx ⟨sm, eD⟩
      obtain ⟨a, ha, rfl⟩ : ∃ b, es[i]? = some b ∧ x = V.ref b := by
        rw [List.getElem?_map] at hx
        obtain ⟨z, hz, e⟩ := Option.map_eq_some_iff.mp hx
        exact ⟨z, hz, e.symm⟩
      obtain ⟨hi, hga⟩ := hpair ha
      refine ⟨rfl, ?_⟩
      refine ⟨_, rfl, a, rfl, ⟨_, SqT.tup (sm _ _ hga)⟩, ?_⟩
      refine lc2_tup (K := K) (xs := ([((sumC B c i : Nat) : Int), ((sumC B c (i + 1) : Nat) : Int) - 1] : List Int).map V.int) (fun j H' => Same H2 H' ∧ H' D = some (.lst ((endsI B c i ++ ([((sumC B c i : Nat) : Int), ((sumC B c (i + 1) : Nat) : Int) - 1] : List Int).take j).map V.int))) ⟨sm, by rw [List.take_zero, List.append_nil]; exact eD⟩ (fun i H' _ ⟨sm, _⟩ => SqT.tup (sm _ _ hga)) ?_ ?_
      · rintro j x H4 hx ⟨sm4, eD4⟩
        generalize hfr : ([((sumC B c i : Nat) : Int), ((sumC B c (i + 1) : Nat) : Int) - 1] : List Int) = fr at hx eD4
        have hfl : fr.length = 2 := by rw [← hfr]; rfl
        obtain ⟨n, hn, rfl⟩ : ∃ b, fr[j]? = some b ∧ x = V.int b := by
          rw [List.getElem?_map] at hx
          obtain ⟨z, hz, e⟩ := Option.map_eq_some_iff.mp hx
          exact ⟨z, hz, e.symm⟩
        refine ⟨rfl, ?_⟩
        refine ⟨_, rfl, _, eD4, smallLt (by rw [List.length_map, List.length_append, endsI_len, List.length_take]; omega), same_mut sm4 nD, ?_⟩
        rw [upd_same, List.take_add_one, hn, ← List.append_assoc, List.map_append (l₂ := (some n).toList)]
        rfl
      · rintro H4 ⟨sm4, eD4⟩
        refine ⟨sm4, ?_⟩
        rw [eD4, endsI_succ]
        rfl
    rintro H3 ⟨s3, eD⟩
    rw [List.length_map, hel] at eD
    have s13 := s12.trans s3
    clear eeq hes hpair
    generalize hfrs : endsI B c L = frs at eD
    have hfl : frs.length = 2 * L := by rw [← hfrs, endsI_len]
    have hfg : ∀ k, k < 2 * L → frs[k]? = some (endE B c k) := fun k hk => by rw [← hfrs]; exact endsI_get B c L k hk
    refine ⟨_, rfl, D, rfl, ⟨_, SqL.lst eD⟩, ?_⟩
    intro D2 nD2
    refine lc_list (K := K) (xs := frs.map V.int) (fun i H' => Same H3 H' ∧ H' D2 = some (.lst (((frs.take i).map fun n => gapI bs cs x y n).map V.int))) ⟨same_new nD2, upd_same⟩ (fun i H' _ ⟨sm, _⟩ => SqL.lst (sm _ _ eD)) ?_ ?_
    · rintro i z H4 hx ⟨sm, eD2⟩
      obtain ⟨n, hn, rfl⟩ : ∃ b, frs[i]? = some b ∧ z = V.int b := by
        rw [List.getElem?_map] at hx
        obtain ⟨z, hz, e⟩ := Option.map_eq_some_iff.mp hx
        exact ⟨z, hz, e.symm⟩
      have hn0 : 0 ≤ n := by
        obtain ⟨hi, _⟩ := List.getElem?_eq_some_iff.mp hn
        rw [hfl] at hi
        rw [hfg i hi] at hn
        rw [← Option.some.inj hn]
        exact ct.endE_pos i
      have s14 := (s2.trans s3).trans sm
      refine ⟨rfl, ?_⟩
      refine ⟨_, rfl, _, rfl, _, rfl, old, p, b, r, q, bs, rows, cs, x, y, n, rfl, hA1.same s14, hp1.same s14, hn0, fun H5 s5 => ?_⟩
      refine ⟨_, s5 _ _ eD2, smallLt (by rw [List.length_map, List.length_map, List.length_take]; omega), same_mut (sm.trans s5) nD2, ?_⟩
      rw [upd_same, List.take_add_one, hn, List.map_append, List.map_append]
      rfl
    rintro H4 ⟨s4, eD2⟩
    rw [List.length_map, List.take_of_length_le (Nat.le_refl _)] at eD2
    have s14 := (s2.trans s3).trans s4
    have eD4 := s4 _ _ eD
    have nsl : ((frs.map fun n => gapI bs cs x y n)).length = 2 * L := by rw [List.length_map, hfl]
    have hL := ct.hL
    have ngs : ∀ k, k < 2 * L → (frs.map fun n => gapI bs cs x y n)[k]? = some (gapI bs cs x y (endE B c k)) := fun k hk => by
      rw [List.getElem?_map, hfg k hk]
      rfl
    generalize hns : (frs.map fun n => gapI bs cs x y n) = ns at eD2 nsl ngs
    clear hfrs hns
    refine ⟨_, rfl, D2, ns, rfl, SqL.lst eD2, by omega, fun m1 hm1 hle1 => ?_⟩
    refine ⟨_, rfl, D2, ns, rfl, SqL.lst eD2, by omega, fun m2 hm2 hle2 => ?_⟩
    obtain ⟨j1, hj1, hf1⟩ := first_ix hm1
    obtain ⟨j2, hj2, hf2⟩ := first_ix hm2
    have hl1 := (List.getElem?_eq_some_iff.mp hj1).1
    have hl2 := (List.getElem?_eq_some_iff.mp hj2).1
    rw [nsl] at hl1 hl2
    have nat : ∀ k, endE B c k = (((endE B c k).toNat : Nat) : Int) := fun k => (Int.toNat_of_nonneg (ct.endE_pos k)).symm
    have L1 := ct.least_ends (G := fun n => gapI bs cs x y (n : Int)) (d := x - y * (B : Int)) (fun g n h1 h2 => ct.gap_in x y h1 h2) (m := m1) (j := j1)
      (fun k hk => hle1 _ (by rw [← nat k]; exact List.mem_of_getElem? (ngs k hk))) hl1 (by rw [← nat j1]; rw [ngs j1 hl1] at hj1; exact Option.some.inj hj1)
      (fun k hk => by rw [← nat k]; exact hf1 k hk _ (ngs k (by omega)))
    have L2' := ct.least_ends (G := fun n => - gapI bs cs x y (n : Int)) (d := - (x - y * (B : Int))) (fun g n h1 h2 => by
        rw [ct.gap_in x y h1 h2, Int.neg_add, Int.mul_neg]) (m := -m2) (j := j2)
      (fun k hk => Int.neg_le_neg (hle2 _ (by rw [← nat k]; exact List.mem_of_getElem? (ngs k hk)))) hl2 (by rw [← nat j2]; rw [ngs j2 hl2] at hj2; exact congrArg (fun z => - z) (Option.some.inj hj2))
      (fun k hk => by rw [← nat k]; exact fun z => hf2 k hk _ (ngs k (by omega)) (Int.neg_inj.mp z))
    refine ⟨_, _, rfl, ?_⟩
    dsimp only
    have i1 : ∀ {i : Nat} {m : Int}, ns[i]? = some m → (ns.map V.int)[i]? = some (V.int m) := fun h => by rw [List.getElem?_map, h]; rfl
    have ix : ∀ {j : Nat} {m : Int}, (∀ k, k < j → ∀ z, ns[k]? = some z → z ≠ m) → ∀ (k : Nat) (z' : V), k < j → (ns.map V.int)[k]? = some z' → eqV z' (V.int m) = false := by
      intro j m hf k z' hk hz
      rw [List.getElem?_map] at hz
      obtain ⟨z, hz1, rfl⟩ := Option.map_eq_some_iff.mp hz
      have := hf k hk z hz1
      simp [eqV, this]
    have frg : ∀ {j : Nat}, j < 2 * L → (frs.map V.int)[j]? = some (V.int (((endE B c j).toNat : Nat) : Int)) := fun h => by
      rw [List.getElem?_map, hfg _ h, ← nat]
      rfl
    refine ⟨_, rfl, _, rfl, _, rfl, old, p, b, r, q, bs, rows, cs, x, y, m1, rfl, hA1.same s14, hp1.same s14, fun d1 H5 s5 nd1 ed1 => ?_⟩
    refine ⟨_, rfl, _, rfl, .inl ⟨rfl, _, SqL.lst (s5 _ _ eD2)⟩, _, rfl, D2, _, V.int m1, j1, V.int m1, rfl, rfl, SqL.lst (s5 _ _ eD2), rfl, ints_flatP ns, i1 hj1, (by simp [eqV]), ix hf1, ?_⟩
    refine ⟨D, _, _, _, rfl, rfl, SqL.lst (s5 _ _ eD4), atI_nat (frg hl1), ?_⟩
    refine ⟨_, rfl, _, rfl, _, rfl, old, p, b, r, q, bs, rows, cs, x, y, m2, rfl, hA1.same (s14.trans s5), hp1.same (s14.trans s5), fun d2 H6 s6 nd2 ed2 => ?_⟩
    have s56 := s5.trans s6
    refine ⟨_, rfl, _, rfl, .inl ⟨rfl, _, SqL.lst (s56 _ _ eD2)⟩, _, rfl, D2, _, V.int m2, j2, V.int m2, rfl, rfl, SqL.lst (s56 _ _ eD2), rfl, ints_flatP ns, i1 hj2, (by simp [eqV]), ix hf2, ?_⟩
    refine ⟨D, _, _, _, rfl, rfl, SqL.lst (s56 _ _ eD4), atI_nat (frg hl2), Nat.le_of_ble_eq_true rfl, ?_⟩
    (intro t nt; generalize e_t : upd H6 t _ = H7; have s7 : Same H6 H7 := fun b x hb => (congrFun e_t b).symm.trans (same_new nt b x hb); have h7 := (congrFun e_t t).symm.trans upd_same; clear e_t)
    exact k2 m1 m2 _ _ t d1 d2 H7 (((s1.trans s14).trans s56).trans s7) L1 L2' h7 ((s6.trans s7) _ _ ed1) (s7 _ _ ed2)
end
end LM

set_option Elab.async false
set_option linter.all false
set_option maxRecDepth 100000
set_option maxHeartbeats 4000000
set_option pp.maxSteps 600
set_option pp.deepTerms false
namespace LM
open PySem PySem.Spec PyProof.Rows L2 RZ
local macro_rules | `(tactic| walk_at "hp") => `(tactic| first | assumption | exact upd_same | (rw [upd_ne (by assumption)]; assumption) | (rw [upd_ne (Ne.symm (by assumption))]; assumption) | (rw [upd_ne (by assumption)]; exact upd_same) | (rw [upd_ne (Ne.symm (by assumption))]; exact upd_same))
local macro_rules | `(tactic| walk_at "sq") => `(tactic| first | assumption | exact Or.inl (Or.inl (by assumption)) | exact Or.inl (Or.inl upd_same) | exact Or.inl (Or.inl (by walk_at "hp")))
local macro_rules | `(tactic| walk_at "ixl") => `(tactic| refine ⟨_, _, _, _, rfl, rfl, (by walk_at "sq"), (by rfl), ?_⟩)
local macro_rules | `(tactic| walk_at "setl") => `(tactic| refine ⟨_, _, _, _, rfl, rfl, (by walk_at "hp"), (by rfl), ?_⟩)
local macro_rules | `(tactic| walk_at "side") => `(tactic| refine idP ?_; first | omega | (show (0 : Int) < _; omega) | (show (0 : Int) < _ ∧ _ < _; omega) | (refine Or.inr ?_; show (-(2 ^ 64) : Int) < _ ∧ _ < _; omega) | (refine Or.inl ?_; show (-(2 ^ 64) : Int) < _ ∧ _ < _; omega) | exact divW (by omega) (by omega) _ | (refine ⟨by decide, by decide, ?_⟩; decide))
local macro_rules | `(tactic| walk_at "go1") => `(tactic| first
  | refine ⟨_, rfl, ?_⟩
  | refine ⟨_, _, rfl, rfl, (by walk_at "side"), ?_⟩
  | refine ⟨_, _, rfl, (by walk_at "side"), ?_⟩
  | refine ⟨_, _, rfl, rfl, ?_⟩
  | refine Or.inl ⟨_, rfl, ?_⟩
  | refine ⟨_, _, rfl, Or.inl (by walk_at "sq"), ?_⟩
  | walk_at "ixl"
  | walk_at "setl"
  | refine ⟨_, _, rfl, (by walk_at "sq"), rfl, ?_⟩
  | refine ⟨_, _, rfl, (by walk_at "sq"), ?_⟩
  | refine ⟨_, _, rfl, ?_⟩
  | refine ⟨rfl, ?_⟩
  | refine ⟨small (Nat.le_of_ble_eq_true rfl), ?_⟩)
local macro_rules | `(tactic| walk_at "go") => `(tactic| repeat walk_at "go1")

abbrev s_law_same : Stmt := topS 77
theorem sc_law_same : FnScope ["_law_told", "_law_due"] ["_law_told", "_law_due"] (defScope s_law_same) := ⟨rfl, rfl, rfl, by decide +kernel, rfl, by decide +kernel, by decide +kernel⟩
/-- two values whose data are the same -/
def spSame (K : PySem.W.Frag) : Sp := fun vs H Q _ => ∃ (y z : V) (d : PyData), vs = [y, z] ∧ Dv K H y d ∧ Dv K H z d ∧ d.showable = true ∧ d.depth ≤ 20 ∧ d.shown.length ≤ sizeLine ∧ Q (.bl true) H
def spRatio (K : PySem.W.Frag) : Sp := fun vs H Q _ => ∃ (z w : Int), vs = [.int z, .int w] ∧ 0 < w ∧ w < 1073741824 ∧ ∀ t H', Same H H' → H t = none → H' t = some (.tup (fracV z w)) → Q (.ref t) H'
def spTop (K : PySem.W.Frag) : Sp := fun vs H Q _ => ∃ (old : Addr → Prop) (d g l q : Addr) (gs : List Int) (rows : List R3) (cs : List Int) (B : Nat) (c : Nat → Nat) (L s : Nat) (x y : Int), vs = [.ref d, .ref q, .int ((bel B c s : Nat) : Int)] ∧ HomeBy old H d g l B c L ∧ SqL K H g (gs.map V.int) ∧ Cnt gs rows cs B c L ∧ Fair gs rows ∧ bor B c s = true ∧ PaceAt K H q x y ∧
  ∀ H', Same H H' → Q (.int ((s : Int) * x - ((bel B c s : Nat) : Int) * y * gs.getLastD 1)) H'
section
variable {P : Program} {w : World} {K : PySem.W.Frag} {mg : Str → Option Value} {base : Heap}
theorem ok_same {f : Addr} {fd : FuncData} (F : Fun K "_law_same" "_law_same" s_law_same f fd) (N : Names mg) : FnG P w K mg base 2 f fd ["_law_told", "_law_due"] (spSame K) := by
  have sc := sc_law_same
  refine funG_ok F sc (fun vs H Q E h => ?_) (fun cdv A outer s H vs Q E hgd hr h => ?_)
  · obtain ⟨y, z, d, rfl, _⟩ := h
    rfl
  · obtain ⟨y, z, d, rfl, hy, hz, d1, d2, d3, k⟩ := h
    have hu := hu_of hr
    refine ⟨_, (pss_one (ps_ret (pe_cmpR op_eq (pe_callB (show CallR _ (.builtin "repr") (rReprV K) from call_reprV hgd (hu64 hr)) (by rfl) N.repr (by decide +kernel) (pa_cons (pv 0) pa_nil)) (pe_callB (show CallR _ (.builtin "repr") (rReprV K) from call_reprV hgd (hu64 hr)) (by rfl) N.repr (by decide +kernel) (pa_cons (pv 1) pa_nil)) (nomark _)))), ?_⟩
    refine ⟨_, rfl, y, d, rfl, hy, d1, d2, d3, ?_⟩
    refine ⟨_, rfl, z, d, rfl, hz, d1, d2, d3, ?_⟩
    refine ⟨rfl, ?_⟩
    rw [decide_eq_true rfl]
    exact k
end
end LM

set_option Elab.async false
set_option linter.all false
set_option maxRecDepth 100000
set_option maxHeartbeats 4000000
set_option pp.maxSteps 600
set_option pp.deepTerms false
namespace LM
open PySem PySem.Spec PyProof.Rows L2 RZ
local macro_rules | `(tactic| walk_at "hp") => `(tactic| first | assumption | exact upd_same | (rw [upd_ne (by assumption)]; assumption) | (rw [upd_ne (Ne.symm (by assumption))]; assumption) | (rw [upd_ne (by assumption)]; exact upd_same) | (rw [upd_ne (Ne.symm (by assumption))]; exact upd_same))
local macro_rules | `(tactic| walk_at "sq") => `(tactic| first | assumption | exact Or.inl (Or.inl (by assumption)) | exact Or.inl (Or.inl upd_same) | exact Or.inl (Or.inl (by walk_at "hp")))
local macro_rules | `(tactic| walk_at "ixl") => `(tactic| refine ⟨_, _, _, _, rfl, rfl, (by walk_at "sq"), (by rfl), ?_⟩)
local macro_rules | `(tactic| walk_at "setl") => `(tactic| refine ⟨_, _, _, _, rfl, rfl, (by walk_at "hp"), (by rfl), ?_⟩)
local macro_rules | `(tactic| walk_at "side") => `(tactic| refine idP ?_; first | omega | (show (0 : Int) < _; omega) | (show (0 : Int) < _ ∧ _ < _; omega) | (refine Or.inr ?_; show (-(2 ^ 64) : Int) < _ ∧ _ < _; omega) | (refine Or.inl ?_; show (-(2 ^ 64) : Int) < _ ∧ _ < _; omega) | exact divW (by omega) (by omega) _ | (refine ⟨by decide, by decide, ?_⟩; decide))
local macro_rules | `(tactic| walk_at "go1") => `(tactic| first
  | refine ⟨_, rfl, ?_⟩
  | refine ⟨_, _, rfl, rfl, (by walk_at "side"), ?_⟩
  | refine ⟨_, _, rfl, (by walk_at "side"), ?_⟩
  | refine ⟨_, _, rfl, rfl, ?_⟩
  | refine Or.inl ⟨_, rfl, ?_⟩
  | refine ⟨_, _, rfl, Or.inl (by walk_at "sq"), ?_⟩
  | walk_at "ixl"
  | walk_at "setl"
  | refine ⟨_, _, rfl, (by walk_at "sq"), rfl, ?_⟩
  | refine ⟨_, _, rfl, (by walk_at "sq"), ?_⟩
  | refine ⟨_, _, rfl, ?_⟩
  | refine ⟨rfl, ?_⟩
  | refine ⟨small (Nat.le_of_ble_eq_true rfl), ?_⟩)
local macro_rules | `(tactic| walk_at "go") => `(tactic| repeat walk_at "go1")

theorem ints_showP : ∀ (ns : List Int), (∀ n ∈ ns, n.natAbs.log2 < 1920) → PyData.showableAll (ns.map PyData.int) = true ∧ PyData.hasDictAll (ns.map PyData.int) = false ∧ PyData.depthAll (ns.map PyData.int) = 0
  | [], _ => by simp [PyData.showableAll, PyData.hasDictAll, PyData.depthAll]
  | n :: ns, h => by
    obtain ⟨h1, h2, h3⟩ := ints_showP ns fun m hm => h m (List.mem_cons_of_mem _ hm)
    have hn := h n List.mem_cons_self
    simp only [List.map_cons, PyData.showableAll, PyData.hasDictAll, PyData.depthAll, PyData.showable, PyData.hasDict, PyData.depth, h1, h2, h3]
    simp [hn]
/-- two pairs of numbers in a list -/
def twoD (a b : List Int) : PyData := .list [.tuple (a.map PyData.int), .tuple (b.map PyData.int)]
theorem two_facts {a b : List Int} (ha : ∀ n ∈ a, n.natAbs.log2 < 1920) (hb : ∀ n ∈ b, n.natAbs.log2 < 1920) (la : a.length ≤ 4) (lb : b.length ≤ 4) :
    (twoD a b).showable = true ∧ (twoD a b).hasDict = false ∧ (twoD a b).depth ≤ 20 ∧ (twoD a b).shown.length ≤ sizeLine := by
  obtain ⟨a1, a2, a3⟩ := ints_showP a ha
  obtain ⟨b1, b2, b3⟩ := ints_showP b hb
  have i1 : ∀ m : Int, m.natAbs.log2 < 1920 → (PyData.int m).shown.length ≤ 2000 := fun m hm => by
    have := int_text_length_le (k := 1920) (by decide) hm
    simp only [PyData.shown]
    rw [PySem.ofString_length]
    omega
  have i2 : ∀ ns : List Int, (∀ n ∈ ns, n.natAbs.log2 < 1920) → ns.length ≤ 4 → (PyData.tuple (ns.map PyData.int)).shown.length ≤ 9000 := fun ns h1 hl => by
    have := shown_tuple_le (m := 2000) (ds := ns.map PyData.int) fun d hd => by
      obtain ⟨m, hm, rfl⟩ := List.mem_map.mp hd
      exact i1 m (h1 m hm)
    rw [List.length_map] at this
    omega
  refine ⟨?_, ?_, ?_, ?_⟩
  · simp [twoD, PyData.showable, PyData.showableAll, a1, b1]
  · simp [twoD, PyData.hasDict, PyData.hasDictAll, a2, b2]
  · simp only [twoD, PyData.depth, PyData.depthAll, a3, b3]
    decide
  · have := shown_list_le (m := 9000) (ds := [PyData.tuple (a.map PyData.int), .tuple (b.map PyData.int)]) fun d hd => by
      simp only [List.mem_cons, List.not_mem_nil, or_false] at hd
      rcases hd with rfl | rfl
      · exact i2 a ha la
      · exact i2 b hb lb
    exact Nat.le_trans this (show 2 * (9000 + 2) + 2 ≤ sizeLine by decide)
theorem two_dv {K : PySem.W.Frag} {H : Hp} {l s t : Addr} {a b : List Int} (h : H l = some (.lst [.ref s, .ref t])) (hs : H s = some (.tup (a.map V.int))) (ht : H t = some (.tup (b.map V.int))) (nd : (twoD a b).hasDict = false) : Dv K H (.ref l) (twoD a b) :=
  .dp (.lst (SqL.lst h) (.cons (.tup (SqT.tup hs) (dpAll_ints a)) (.cons (.tup (SqT.tup ht) (dpAll_ints b)) .nil))) nd
def fracI (z w : Int) : List Int := [z / ((Nat.gcd z.natAbs w.natAbs : Nat) : Int), w / ((Nat.gcd z.natAbs w.natAbs : Nat) : Int)]
theorem frac_map (z w : Int) : fracV z w = (fracI z w).map V.int := rfl
theorem log_of {n : Int} (h : n.natAbs < 2 ^ 200) : n.natAbs.log2 < 1920 := by
  rcases Nat.eq_zero_or_pos n.natAbs with z | z
  · rw [z]; decide
  · exact Nat.lt_trans ((Nat.log2_lt (by omega)).mpr h) (by decide)
theorem frac_log {z w : Int} (hz : z.natAbs < 2 ^ 200) (hw : w.natAbs < 2 ^ 200) : ∀ n ∈ fracI z w, n.natAbs.log2 < 1920 := by
  intro n hn
  simp only [fracI, List.mem_cons, List.not_mem_nil, or_false] at hn
  rcases hn with rfl | rfl
  · exact log_of (Nat.lt_of_le_of_lt (Int.natAbs_ediv_le_natAbs _ _) hz)
  · exact log_of (Nat.lt_of_le_of_lt (Int.natAbs_ediv_le_natAbs _ _) hw)
theorem VaseAt.isL {H : Hp} {p : Addr} (h : VaseAt H p) : ∃ ys, H p = some (.lst ys) := by
  obtain ⟨_, _, _, _, _, _, q⟩ := h
  exact ⟨_, q⟩
theorem gap_bound {s x m y l : Int} (s0 : 0 ≤ s) (s1 : s ≤ 10 ^ 40) (m0 : 0 ≤ m) (m1 : m ≤ 10 ^ 40) (x0 : 1 ≤ x) (x1 : x ≤ 1000000) (y0 : 1 ≤ y) (y1 : y ≤ 1000000) (l0 : 2 ≤ l) (l1 : l ≤ 60) : (s * x - m * y * l).natAbs < 2 ^ 200 := by
  have a1 : 0 ≤ s * x := Int.mul_nonneg s0 (by omega)
  have a2 : s * x ≤ 10 ^ 40 * 1000000 := Int.mul_le_mul s1 x1 (by omega) (by decide)
  have b1 : 0 ≤ m * y := Int.mul_nonneg m0 (by omega)
  have b2 : m * y ≤ 10 ^ 40 * 1000000 := Int.mul_le_mul m1 y1 (by omega) (by decide)
  have c1 : 0 ≤ m * y * l := Int.mul_nonneg b1 (by omega)
  have c2 : m * y * l ≤ 10 ^ 40 * 1000000 * 60 := Int.mul_le_mul b2 l1 (by omega) (by decide)
  have e : (s * x - m * y * l).natAbs ≤ 10 ^ 40 * 1000000 * 60 := by
    generalize s * x = u at *
    generalize m * y * l = v at *
    clear b1 b2
    have h1 : (10 : Int) ^ 40 * 1000000 = ((10 ^ 40 * 1000000 : Nat) : Int) := by decide
    have h2 : (10 : Int) ^ 40 * 1000000 * 60 = ((10 ^ 40 * 1000000 * 60 : Nat) : Int) := by decide
    have h3 : (10 ^ 40 * 1000000 : Nat) ≤ 10 ^ 40 * 1000000 * 60 := by decide
    omega
  exact Nat.lt_of_le_of_lt e (by decide)
end LM

set_option Elab.async false
set_option linter.all false
set_option maxRecDepth 100000
set_option maxHeartbeats 4000000
namespace LM
open PySem PySem.Spec PyProof.Rows L2
/-! ### min of a list of pairs, min with default= -/
def pairD (p : Int × Int) : PyData := .tuple [.int p.1, .int p.2]
def lexP (p q : Int × Int) : Bool := decide (p.1 < q.1) || (decide (p.1 = q.1) && decide (p.2 < q.2))
theorem lt_pair (p q : Int × Int) : PySem.W.dataLt (pairD p) (pairD q) = lexP p q := by
  have ha : PySem.W.alike (.int p.1) (.int q.1) = true := by simp only [PySem.W.alike]
  have hb : PySem.W.alike (.int p.2) (.int q.2) = true := by simp only [PySem.W.alike]
  unfold pairD lexP
  rw [PySem.W.dataLt_tuple]
  by_cases e : p.1 = q.1
  · rw [PySem.W.dataLt_all_yes ha (by simp [PyData.eqv, e]), decide_eq_true e, decide_eq_false (show ¬ p.1 < q.1 by omega), Bool.false_or, Bool.true_and]
    by_cases e2 : p.2 = q.2
    · rw [PySem.W.dataLt_all_yes hb (by simp [PyData.eqv, e2]), decide_eq_false (show ¬ p.2 < q.2 by omega)]
      exact PySem.W.dataLt_tuple [] [] ▸ (by rw [PySem.W.dataLt_self])
    · rw [PySem.W.dataLt_all_no hb (by simp [PyData.eqv, e2]), PySem.W.dataLt_int]
  · rw [PySem.W.dataLt_all_no ha (by simp [PyData.eqv, e]), PySem.W.dataLt_int, decide_eq_false e, Bool.false_and, Bool.or_false]
theorem min_pairs (p : Int × Int) : ∀ ps : List (Int × Int), ∃ m, m ∈ p :: ps ∧ PySem.W.minD (pairD p) (ps.map pairD) = pairD m ∧ ∀ q ∈ p :: ps, m.1 ≤ q.1 := by
  intro ps
  unfold PySem.W.minD
  induction ps generalizing p with
  | nil => exact ⟨p, List.mem_cons_self, rfl, fun q hq => by rw [List.mem_singleton.mp hq]; exact Int.le_refl _⟩
  | cons r ps ih =>
    rw [List.map_cons, List.foldl_cons, lt_pair]
    cases h : lexP r p with
    | true =>
      obtain ⟨m, m1, m2, m3⟩ := ih r
      refine ⟨m, List.mem_cons_of_mem _ m1, m2, fun q hq => ?_⟩
      rcases List.mem_cons.mp hq with rfl | hq
      · have h1 := m3 r List.mem_cons_self
        unfold lexP at h
        simp only [Bool.or_eq_true, Bool.and_eq_true, decide_eq_true_eq] at h
        omega
      · exact m3 q hq
    | false =>
      obtain ⟨m, m1, m2, m3⟩ := ih p
      refine ⟨m, ?_, m2, fun q hq => ?_⟩
      · rcases List.mem_cons.mp m1 with rfl | m1
        · exact List.mem_cons_self
        · exact List.mem_cons_of_mem _ (List.mem_cons_of_mem _ m1)
      · rcases List.mem_cons.mp hq with rfl | hq
        · exact m3 _ List.mem_cons_self
        · rcases List.mem_cons.mp hq with rfl | hq
          · have h1 := m3 p List.mem_cons_self
            unfold lexP at h
            simp only [Bool.or_eq_false_iff, Bool.and_eq_false_iff, decide_eq_false_iff_not] at h
            omega
          · exact m3 q (List.mem_cons_of_mem _ hq)
theorem pairs_alike (ps : List (Int × Int)) : PySem.W.AlikeAll (ps.map pairD) := by
  refine ⟨fun x hx y hy => ?_, fun x hx => ?_⟩
  · obtain ⟨p, _, rfl⟩ := List.mem_map.mp hx
    obtain ⟨q, _, rfl⟩ := List.mem_map.mp hy
    simp [pairD, PySem.W.alike, PySem.W.alikeAll]
  · obtain ⟨p, _, rfl⟩ := List.mem_map.mp hx
    exact fun z => nomatch z
theorem pairs_depth : ∀ ps : List (Int × Int), PyData.depthAll (ps.map pairD) ≤ 1
  | [] => by simp [PyData.depthAll]
  | p :: ps => by
    have := pairs_depth ps
    simp only [List.map_cons, PyData.depthAll, pairD, PyData.depth]
    omega
theorem ints_alike (ns : List Int) : PySem.W.AlikeAll (ns.map PyData.int) := by
  refine ⟨fun x hx y hy => ?_, fun x hx => ?_⟩
  · obtain ⟨p, _, rfl⟩ := List.mem_map.mp hx
    obtain ⟨q, _, rfl⟩ := List.mem_map.mp hy
    simp [PySem.W.alike]
  · obtain ⟨p, _, rfl⟩ := List.mem_map.mp hx
    exact fun z => nomatch z
theorem ints_depth : ∀ ns : List Int, PyData.depthAll (ns.map PyData.int) = 0
  | [] => by simp [PyData.depthAll]
  | p :: ps => by
    have := ints_depth ps
    simp only [List.map_cons, PyData.depthAll, PyData.depth]
    omega
theorem foldl_min (n : Int) : ∀ ns : List Int, ns.foldl min n ∈ n :: ns ∧ ∀ y ∈ n :: ns, ns.foldl min n ≤ y := by
  intro ns
  induction ns generalizing n with
  | nil => exact ⟨List.mem_cons_self, fun y hy => by rw [List.mem_singleton.mp hy]; exact Int.le_refl _⟩
  | cons k r ih =>
    obtain ⟨h1, h2⟩ := ih (min n k)
    rw [List.foldl_cons]
    have h3 := h2 _ List.mem_cons_self
    refine ⟨?_, fun y hy => ?_⟩
    · rcases List.mem_cons.mp h1 with e | h1
      · rcases Int.le_total n k with z | z
        · rw [e, Int.min_eq_left z]; exact List.mem_cons_self
        · rw [e, Int.min_eq_right z]; exact List.mem_cons_of_mem _ List.mem_cons_self
      · exact List.mem_cons_of_mem _ (List.mem_cons_of_mem _ h1)
    · rcases List.mem_cons.mp hy with rfl | hy
      · omega
      · rcases List.mem_cons.mp hy with rfl | hy
        · omega
        · exact h2 y (List.mem_cons_of_mem _ hy)
/-- min of a list of pairs -/
def rMinP (K : PySem.W.Frag) : List V → Hp → VK → Prop := fun vs H Q => ∃ (a : Addr) (ts : List Addr) (ps : List (Int × Int)), vs = [V.ref a] ∧ SqL K H a (ts.map V.ref) ∧ Paired (fun t (p : Int × Int) => SqT K H t [.int p.1, .int p.2]) ts ps ∧ 0 < ps.length ∧
  ∀ (t : Addr) (m : Int × Int), SqT K H t [.int m.1, .int m.2] → m ∈ ps → (∀ q ∈ ps, m.1 ≤ q.1) → Q (.ref t) H
theorem dpAll_pairs {K : PySem.W.Frag} {H : Hp} : ∀ {ts : List Addr} {ps : List (Int × Int)}, Paired (fun t (p : Int × Int) => SqT K H t [.int p.1, .int p.2]) ts ps → DpAll K H (ts.map V.ref) (ps.map pairD)
  | _, _, .nil => .nil
  | _, _, .cons r h => .cons (.tup r (.cons (.int _) (.cons (.int _) .nil))) (dpAll_pairs h)
theorem cr_minP {X : Cx} (hc : X.calm = true) (hu : X.A.units + 64 < cLine) : CallR X (.builtin "min") (rMinP X.K) := by
  intro pins s σ H vs us Q I r h
  obtain ⟨a, ts, ps, rfl, hs, hp, hne, q⟩ := h
  obtain ⟨its, rv, hl, _⟩ := I.list hs
  rw [Vals.ref1 r]
  have hlen := hp.length
  obtain ⟨as, hr⟩ := Dp.readsAll I (ps.map pairD) _ its (dpAll_pairs hp) rv
  cases ps with
  | nil => exact absurd hne (Nat.lt_irrefl 0)
  | cons p ps =>
    have hdp := pairs_depth (p :: ps)
    refine PySem.W.min_list_data (vs := its.toArray) (x := pairD p) (xs := ps.map pairD) (I.ok.hd hc) hl.isList (by rw [List.toList_toArray]; exact hr) (pairs_alike (p :: ps)) (by show X.A.units + 1 + PyData.depthAll ((p :: ps).map pairD) < _; omega) fun i v h' tk bs hv hb hk => ?_
    obtain ⟨m, m1, m2, m3⟩ := min_pairs p ps
    rw [m2] at hb
    rw [List.getElem?_toArray] at hv
    obtain ⟨cs, c1, c2, c3, _⟩ := PySem.W.readsAll_at hr i v hv
    have hil : i < its.length := (List.getElem?_eq_some_iff.mp hv).1
    have e2 : ∃ qq, (p :: ps)[i]? = some qq ∧ ((p :: ps).map pairD).getD i .none = pairD qq := by
      have hi2 : i < (p :: ps).length := by
        have h2 : i < (pairD p :: ps.map pairD).length := c2
        rw [List.length_cons, List.length_map] at h2
        exact h2
      refine ⟨(p :: ps)[i], List.getElem?_eq_getElem hi2, ?_⟩
      rw [List.getD_eq_getElem?_getD, List.getElem?_map, List.getElem?_eq_getElem hi2]
      rfl
    obtain ⟨qq, q1, q2⟩ := e2
    have hcl : (pairD m).canLay0 = true := by simp [pairD, PyData.canLay0, PyData.canLayAll0]
    have e3 : pairD m = ((p :: ps).map pairD).getD i .none := (PySem.Reads.unique hb _ _ (PySem.W.reads_keeps hk c1)).1
    have e4 : m = qq := by
      rw [q2] at e3
      unfold pairD at e3
      injection e3 with e3
      injection e3 with e5 e6
      injection e5 with e5
      injection e6 with e6 _
      injection e6 with e6
      exact Prod.ext e5 e6
    subst e4
    have hti : i < ts.length := by rw [hlen]; exact (List.getElem?_eq_some_iff.mp q1).1
    have ht : (ts.map V.ref)[i]? = some (V.ref ts[i]) := by rw [List.getElem?_map, List.getElem?_eq_getElem hti]; rfl
    obtain ⟨u, hu', ru⟩ := rv.get ht
    have eu : u = v := by
      rw [hv] at hu'
      exact (Option.some.inj hu').symm
    subst eu
    have eu2 : u = Value.ref ts[i] := ru
    obtain ⟨pp, hpp, hsq⟩ := paired_at hp (List.getElem?_eq_getElem hti)
    rw [q1] at hpp
    obtain rfl := Option.some.inj hpp
    exact ⟨.ref ts[i], H, I.kept hk, eu2, q _ _ hsq m1 m3⟩
/-- min of a list of ints, with default=None -/
def rMinDf (K : PySem.W.Frag) : List V → List V → Hp → VK → Prop := fun vs zs H Q => ∃ (a : Addr) (ns : List Int), vs = [V.ref a] ∧ zs = [V.non] ∧ SqL K H a (ns.map V.int) ∧ (ns = [] → Q .non H) ∧ ∀ m, m ∈ ns → (∀ y ∈ ns, m ≤ y) → Q (.int m) H
theorem crk_minDf {X : Cx} (hc : X.calm = true) (hu : X.A.units + 64 < cLine) : CallRK X (.builtin "min") ["default"] (rMinDf X.K) := by
  intro pins s σ H xs zs us ws Q I r1 r2 h
  obtain ⟨a, ns, rfl, rfl, hs, k0, k1⟩ := h
  obtain ⟨its, rv, hl, _⟩ := I.list hs
  rw [Vals.ref1 r1]
  cases r2 with
  | cons ra rb =>
    cases rb
    cases ra
    obtain ⟨as, hr⟩ := Dp.readsAll I (ns.map PyData.int) _ its (dpAll_ints ns) rv
    have hdp := ints_depth ns
    refine PySem.W.min_list_default (vs := its.toArray) (xs := ns.map PyData.int) (I.ok.hd hc) hl.isList (by rw [List.toList_toArray]; exact hr) (ints_alike ns) (by rw [hdp]; omega) (fun e h' tk hk => ?_) fun y ys i v h' tk bs e hv hb hk => ?_
    · have e' : ns = [] := by cases ns with | nil => rfl | cons _ _ => cases e
      exact ⟨.non, H, I.kept hk, rfl, k0 e'⟩
    · cases ns with
      | nil => cases e
      | cons n ns =>
        rw [List.map_cons] at e
        injection e with e1 e2
        subst e1
        subst e2
        rw [PySem.W.minD_ints] at hb
        obtain ⟨f1, f2⟩ := foldl_min n ns
        cases hb with
        | int _ t => exact ⟨.int _, H, I.kept hk, ⟨_, rfl⟩, k1 _ f1 f2⟩
end LM

set_option Elab.async false
set_option linter.all false
set_option maxRecDepth 100000
set_option maxHeartbeats 4000000
set_option pp.maxSteps 600
set_option pp.deepTerms false
namespace LM
open PySem PySem.Spec PyProof.Rows L2 RZ
local macro_rules | `(tactic| walk_at "hp") => `(tactic| first | assumption | exact upd_same | (rw [upd_ne (by assumption)]; assumption) | (rw [upd_ne (Ne.symm (by assumption))]; assumption) | (rw [upd_ne (by assumption)]; exact upd_same) | (rw [upd_ne (Ne.symm (by assumption))]; exact upd_same))
local macro_rules | `(tactic| walk_at "sq") => `(tactic| first | assumption | exact Or.inl (Or.inl (by assumption)) | exact Or.inl (Or.inl upd_same) | exact Or.inl (Or.inl (by walk_at "hp")))
local macro_rules | `(tactic| walk_at "ixl") => `(tactic| refine ⟨_, _, _, _, rfl, rfl, (by walk_at "sq"), (by rfl), ?_⟩)
local macro_rules | `(tactic| walk_at "setl") => `(tactic| refine ⟨_, _, _, _, rfl, rfl, (by walk_at "hp"), (by rfl), ?_⟩)
local macro_rules | `(tactic| walk_at "side") => `(tactic| refine idP ?_; first | omega | (show (0 : Int) < _; omega) | (show (0 : Int) < _ ∧ _ < _; omega) | (refine Or.inr ?_; show (-(2 ^ 64) : Int) < _ ∧ _ < _; omega) | (refine Or.inl ?_; show (-(2 ^ 64) : Int) < _ ∧ _ < _; omega) | exact divW (by omega) (by omega) _ | (refine ⟨by decide, by decide, ?_⟩; decide))
local macro_rules | `(tactic| walk_at "go1") => `(tactic| first
  | refine ⟨_, rfl, ?_⟩
  | refine ⟨_, _, rfl, rfl, (by walk_at "side"), ?_⟩
  | refine ⟨_, _, rfl, (by walk_at "side"), ?_⟩
  | refine ⟨_, _, rfl, rfl, ?_⟩
  | refine Or.inl ⟨_, rfl, ?_⟩
  | refine ⟨_, _, rfl, Or.inl (by walk_at "sq"), ?_⟩
  | walk_at "ixl"
  | walk_at "setl"
  | refine ⟨_, _, rfl, (by walk_at "sq"), rfl, ?_⟩
  | refine ⟨_, _, rfl, (by walk_at "sq"), ?_⟩
  | refine ⟨_, _, rfl, ?_⟩
  | refine ⟨rfl, ?_⟩
  | refine ⟨small (Nat.le_of_ble_eq_true rfl), ?_⟩)
local macro_rules | `(tactic| walk_at "go") => `(tactic| repeat walk_at "go1")

abbrev scheck_bound : Stmt := topS 64
theorem sccheck_bound : FnScope ["given", "number", "parts"] ["given"] (defScope scheck_bound) := ⟨rfl, rfl, rfl, by decide +kernel, rfl, by decide +kernel, by decide +kernel⟩
abbrev srounds_until_above : Stmt := topS 60
theorem scrounds_until_above : FnScope ["number", "growth", "bound"] ["number", "growth", "bound"] (defScope srounds_until_above) := ⟨rfl, rfl, rfl, by decide +kernel, rfl, by decide +kernel, by decide +kernel⟩
abbrev sfirst_above : Stmt := topS 71
theorem scfirst_above : FnScope ["house", "pace", "sign", "bound", "growth", "found", "first", "last", "peak", "rounds", "ahead", "frame"] ["house", "pace", "sign", "bound"] (defScope sfirst_above) := ⟨rfl, rfl, rfl, by decide +kernel, rfl, by decide +kernel, by decide +kernel⟩
def roundsO (a g b : Int) : Option Int := if b < a then some 0 else if g ≤ 0 then none else some ((b - a) / g + 1)
theorem rounds_some {a g b r : Int} (h : roundsO a g b = some r) : 0 ≤ r ∧ b < a + r * g ∧ ∀ k, 0 ≤ k → k < r → a + k * g ≤ b := by
  unfold roundsO at h
  split at h
  · obtain rfl := Option.some.inj h
    rename_i hb
    exact ⟨Int.le_refl 0, by rw [Int.zero_mul]; omega, fun k k0 k1 => by omega⟩
  · split at h
    · cases h
    · obtain rfl := Option.some.inj h
      rename_i hb hg
      have hg0 : 0 < g := by omega
      have h0 : 0 ≤ (b - a) / g := Int.ediv_nonneg (by omega) (by omega)
      refine ⟨by omega, ?_, fun k k0 k1 => ?_⟩
      · have := Int.lt_ediv_add_one_mul_self (b - a) hg0
        omega
      · have h1 : k ≤ (b - a) / g := by omega
        have h2 := (Int.le_ediv_iff_mul_le hg0).mp h1
        omega
theorem rounds_none {a g b : Int} (h : roundsO a g b = none) : ∀ k, 0 ≤ k → a + k * g ≤ b := by
  unfold roundsO at h
  split at h
  · cases h
  · split at h
    · rename_i hb hg
      intro k hk
      have := Int.mul_nonpos_of_nonneg_of_nonpos hk hg
      omega
    · cases h
def maxI (i j : Int) : Int := if j > i then j else i
theorem maxI_le (i j : Int) : i ≤ maxI i j ∧ j ≤ maxI i j ∧ (maxI i j = i ∨ maxI i j = j) := by
  unfold maxI
  split <;> omega
/-- what is found for a group -/
def foundO (F : Nat) (B : Nat) (c : Nat → Nat) (S : Nat → Int) (gr bd : Int) (g : Nat) : Option (Int × Int) :=
  (roundsO (maxI (S (sumC B c g)) (S (sumC B c (g + 1) - 1))) gr bd).map fun r => (r * (F : Int) + ((sumC B c g : Nat) : Int), r * (F : Int) + (((sumC B c (g + 1) : Nat) : Int) - 1))
def foundL (F : Nat) (B : Nat) (c : Nat → Nat) (S : Nat → Int) (gr bd : Int) (n : Nat) : List (Int × Int) := (List.range n).filterMap (foundO F B c S gr bd)
section
variable {gs : List Int} {rows : List R3} {cs : List Int} {B : Nat} {c : Nat → Nat} {L : Nat}
theorem perS_mul {S : Nat → Int} {F : Nat} {gr : Int} (per : ∀ n, S (n + F) = S n + gr) (n : Nat) : ∀ t : Nat, S (n + F * t) = S n + (t : Int) * gr
  | 0 => by rw [Nat.mul_zero, Nat.add_zero, Int.natCast_zero, Int.zero_mul, Int.add_zero]
  | t + 1 => by
    rw [Nat.mul_succ, ← Nat.add_assoc, per, perS_mul per n t, Int.natCast_add, Int.add_mul]
    omega
theorem Cnt.in_group (ct : Cnt gs rows cs B c L) {S : Nat → Int} {gr d : Int} (per : ∀ n, S (n + sumC B c L) = S n + gr) (lin : ∀ g n, sumC B c g ≤ n → n < sumC B c (g + 1) → S n = S (sumC B c g) + ((n : Int) - ((sumC B c g : Nat) : Int)) * d) (n : Nat) :
    ∃ g t : Nat, g < L ∧ t * sumC B c L + sumC B c g ≤ n ∧ S n ≤ maxI (S (sumC B c g)) (S (sumC B c (g + 1) - 1)) + (t : Int) * gr := by
  have hpos := ct.pos
  have hm := Nat.mod_lt n (show 0 < sumC B c L by omega)
  have hd := Nat.mod_add_div n (sumC B c L)
  obtain ⟨g, g1, g2, g3⟩ := ct.group L hm
  have up := ct.up g
  refine ⟨g, n / sumC B c L, g1, by rw [Nat.mul_comm] at hd; omega, ?_⟩
  have e := perS_mul per (n % sumC B c L) (n / sumC B c L)
  rw [hd] at e
  rw [e]
  obtain ⟨m1, m2, _⟩ := maxI_le (S (sumC B c g)) (S (sumC B c (g + 1) - 1))
  have l1 := lin g _ g2 g3
  have l2 := lin g (sumC B c (g + 1) - 1) (by omega) (by omega)
  rcases Int.le_total 0 d with hd0 | hd0
  · have h3 : ((n % sumC B c L : Nat) : Int) - ((sumC B c g : Nat) : Int) ≤ ((sumC B c (g + 1) - 1 : Nat) : Int) - ((sumC B c g : Nat) : Int) := by omega
    have := Int.mul_le_mul_of_nonneg_right h3 hd0
    omega
  · have : (((n % sumC B c L : Nat) : Int) - ((sumC B c g : Nat) : Int)) * d ≤ 0 := Int.mul_nonpos_of_nonneg_of_nonpos (by omega) hd0
    omega
theorem Cnt.found_le (ct : Cnt gs rows cs B c L) {S : Nat → Int} {gr d bd : Int} (per : ∀ n, S (n + sumC B c L) = S n + gr) (lin : ∀ g n, sumC B c g ≤ n → n < sumC B c (g + 1) → S n = S (sumC B c g) + ((n : Int) - ((sumC B c g : Nat) : Int)) * d) {n : Nat} (h : bd < S n) :
    ∃ m ∈ foundL (sumC B c L) B c S gr bd L, m.1 ≤ (n : Int) := by
  obtain ⟨g, t, g1, g2, g3⟩ := ct.in_group per lin n
  cases hr : roundsO (maxI (S (sumC B c g)) (S (sumC B c (g + 1) - 1))) gr bd with
  | none =>
    have := rounds_none hr (t : Int) (by omega)
    omega
  | some r =>
    obtain ⟨r0, _, r2⟩ := rounds_some hr
    have hrt : r ≤ (t : Int) := by
      rcases Int.lt_or_le (t : Int) r with z | z
      · have := r2 (t : Int) (by omega) z
        omega
      · exact z
    refine ⟨(r * ((sumC B c L : Nat) : Int) + ((sumC B c g : Nat) : Int), r * ((sumC B c L : Nat) : Int) + (((sumC B c (g + 1) : Nat) : Int) - 1)), ?_, ?_⟩
    · refine List.mem_filterMap.mpr ⟨g, List.mem_range.mpr g1, ?_⟩
      unfold foundO
      rw [hr]
      rfl
    · have h1 : r * ((sumC B c L : Nat) : Int) ≤ (t : Int) * ((sumC B c L : Nat) : Int) := Int.mul_le_mul_of_nonneg_right hrt (by omega)
      have h2 : ((t * sumC B c L + sumC B c g : Nat) : Int) ≤ (n : Int) := by omega
      rw [Int.natCast_add, Int.natCast_mul] at h2
      show r * ((sumC B c L : Nat) : Int) + ((sumC B c g : Nat) : Int) ≤ (n : Int)
      omega
/-- a lot that is found: frames of one group, of which one is above -/
theorem Cnt.found_has (ct : Cnt gs rows cs B c L) {S : Nat → Int} {gr bd : Int} (per : ∀ n, S (n + sumC B c L) = S n + gr) {m : Int × Int} (hm : m ∈ foundL (sumC B c L) B c S gr bd L) :
    ∃ a b n : Nat, m = ((a : Int), (b : Int)) ∧ a ≤ n ∧ n ≤ b ∧ b ≤ a + 60 ∧ bd < S n := by
  obtain ⟨g, g1, hg⟩ := List.mem_filterMap.mp hm
  unfold foundO at hg
  obtain ⟨r, hr, rfl⟩ := Option.map_eq_some_iff.mp hg
  obtain ⟨r0, r1, _⟩ := rounds_some hr
  obtain ⟨t, rfl⟩ := nat_of r0
  have up := ct.up g
  have hB := ct.hB6
  have hlast : sumC B c (g + 1) ≤ sumC B c g + 60 := by
    show sumC B c g + (B - c g) ≤ _
    omega
  obtain ⟨_, _, m3⟩ := maxI_le (S (sumC B c g)) (S (sumC B c (g + 1) - 1))
  have e1 : (t : Int) * ((sumC B c L : Nat) : Int) = ((sumC B c L * t : Nat) : Int) := by rw [Int.natCast_mul, Int.mul_comm]
  rw [e1]
  rcases m3 with z | z
  · refine ⟨sumC B c g + sumC B c L * t, sumC B c (g + 1) - 1 + sumC B c L * t, sumC B c g + sumC B c L * t, ?_, by omega, by omega, by omega, ?_⟩
    · refine Prod.ext ?_ ?_ <;> dsimp only <;> omega
    · rw [perS_mul per, ← z]
      exact r1
  · refine ⟨sumC B c g + sumC B c L * t, sumC B c (g + 1) - 1 + sumC B c L * t, sumC B c (g + 1) - 1 + sumC B c L * t, ?_, by omega, by omega, by omega, ?_⟩
    · refine Prod.ext ?_ ?_ <;> dsimp only <;> omega
    · rw [perS_mul per, ← z]
      exact r1
end
end LM

set_option Elab.async false
set_option linter.all false
set_option maxRecDepth 100000
set_option maxHeartbeats 4000000
set_option pp.maxSteps 600
set_option pp.deepTerms false
namespace LM
open PySem PySem.Spec PyProof.Rows L2 RZ
local macro_rules | `(tactic| walk_at "hp") => `(tactic| first | assumption | exact upd_same | (rw [upd_ne (by assumption)]; assumption) | (rw [upd_ne (Ne.symm (by assumption))]; assumption) | (rw [upd_ne (by assumption)]; exact upd_same) | (rw [upd_ne (Ne.symm (by assumption))]; exact upd_same))
local macro_rules | `(tactic| walk_at "sq") => `(tactic| first | assumption | exact Or.inl (Or.inl (by assumption)) | exact Or.inl (Or.inl upd_same) | exact Or.inl (Or.inl (by walk_at "hp")))
local macro_rules | `(tactic| walk_at "ixl") => `(tactic| refine ⟨_, _, _, _, rfl, rfl, (by walk_at "sq"), (by rfl), ?_⟩)
local macro_rules | `(tactic| walk_at "setl") => `(tactic| refine ⟨_, _, _, _, rfl, rfl, (by walk_at "hp"), (by rfl), ?_⟩)
local macro_rules | `(tactic| walk_at "side") => `(tactic| refine idP ?_; first | omega | (show (0 : Int) < _; omega) | (show (0 : Int) < _ ∧ _ < _; omega) | (refine Or.inr ?_; show (-(2 ^ 64) : Int) < _ ∧ _ < _; omega) | (refine Or.inl ?_; show (-(2 ^ 64) : Int) < _ ∧ _ < _; omega) | exact divW (by omega) (by omega) _ | (refine ⟨by decide, by decide, ?_⟩; decide))
local macro_rules | `(tactic| walk_at "go1") => `(tactic| first
  | refine ⟨_, rfl, ?_⟩
  | refine ⟨_, _, rfl, rfl, (by walk_at "side"), ?_⟩
  | refine ⟨_, _, rfl, (by walk_at "side"), ?_⟩
  | refine ⟨_, _, rfl, rfl, ?_⟩
  | refine Or.inl ⟨_, rfl, ?_⟩
  | refine ⟨_, _, rfl, Or.inl (by walk_at "sq"), ?_⟩
  | walk_at "ixl"
  | walk_at "setl"
  | refine ⟨_, _, rfl, (by walk_at "sq"), rfl, ?_⟩
  | refine ⟨_, _, rfl, (by walk_at "sq"), ?_⟩
  | refine ⟨_, _, rfl, ?_⟩
  | refine ⟨rfl, ?_⟩
  | refine ⟨small (Nat.le_of_ble_eq_true rfl), ?_⟩)
local macro_rules | `(tactic| walk_at "go") => `(tactic| repeat walk_at "go1")

def BoundAt (K : PySem.W.Frag) (H : Hp) (q : Addr) (u v : Int) : Prop := SqT K H q [.int u, .int v] ∧ 0 ≤ u ∧ 1 ≤ v ∧ v < 2 ^ 60 ∧ Nat.gcd u.natAbs v.natAbs ≤ 1
theorem BoundAt.same {K : PySem.W.Frag} {H H' : Hp} {q : Addr} {a b : Int} (h : BoundAt K H q a b) (s : Same H H') : BoundAt K H' q a b := ⟨Same.seqT s h.1, h.2⟩
def spChkBound (K : PySem.W.Frag) : Sp := fun vs H Q _ => ∃ (q : Addr) (u v : Int), vs = [.ref q] ∧ BoundAt K H q u v ∧ Q .non H
def spRounds : Sp := fun vs H Q _ => ∃ (a g b : Int), vs = [.int a, .int g, .int b] ∧ g < 2 ^ 80 ∧ Q (optV (roundsO a g b)) H
def spAbove (K : PySem.W.Frag) (C : Addr) : Sp := fun vs H Q _ => ∃ (old : Addr → Prop) (p b r q : Addr) (bs : List Int) (rows : List R3) (cs : List Int) (B : Nat) (c : Nat → Nat) (L : Nat) (x y sg bd : Int), vs = [.ref p, .ref q, .int sg, .int bd] ∧ (sg = 1 ∨ sg = -1) ∧ HouseBy K C old H p b r bs rows cs B c L ∧ PaceAt K H q x y ∧
  ((∀ n : Nat, ¬ bd < sg * gapI bs cs x y (n : Int)) → ∀ H', Same H H' → Q .non H') ∧ (∀ n : Nat, bd < sg * gapI bs cs x y (n : Int) → (∀ m : Nat, m < n → ¬ bd < sg * gapI bs cs x y (m : Int)) → ∀ H', Same H H' → Q (.int (n : Int)) H')
section
variable {gs : List Int} {rows : List R3} {cs : List Int} {B : Nat} {c : Nat → Nat} {L : Nat}
theorem Cnt.place_perA (ct : Cnt gs rows cs B c L) (n : Nat) : placeP gs cs (n : Int) = placeP gs cs ((n % sumC B c L : Nat) : Int) + ((n / sumC B c L : Nat) : Int) * ((L : Int) * (B : Int)) := by
  have hpos := ct.pos
  unfold placeP
  rw [ct.total, ct.last, ct.len, ← Int.natCast_ediv, ← Int.natCast_emod, ← Int.natCast_ediv, ← Int.natCast_emod, Nat.mod_mod, Nat.div_eq_of_lt (Nat.mod_lt n (by omega))]
  rw [Int.add_mul, Int.add_mul, Int.mul_assoc ((n / sumC B c L : Nat) : Int)]
  show _ = ((((0 : Nat) : Int) * (L : Int)) * (B : Int) + _ + _) + _
  rw [Int.natCast_zero, Int.zero_mul, Int.zero_mul]
  omega
theorem Cnt.gap_add (ct : Cnt gs rows cs B c L) (x y : Int) (n : Nat) : gapI gs cs x y ((n + sumC B c L : Nat) : Int) = gapI gs cs x y (n : Int) + ((L : Int) * x - ((sumC B c L : Nat) : Int) * y) * (B : Int) := by
  have hpos := ct.pos
  unfold gapI
  rw [ct.place_perA (n + sumC B c L), ct.place_perA n, Nat.add_mod_right, Nat.add_div_right _ (by omega), ct.last]
  generalize placeP gs cs ((n % sumC B c L : Nat) : Int) = u
  have e0 : ((n / sumC B c L + 1 : Nat) : Int) = ((n / sumC B c L : Nat) : Int) + 1 := rfl
  have e9 : ((n + sumC B c L : Nat) : Int) = (n : Int) + ((sumC B c L : Nat) : Int) := Int.natCast_add _ _
  rw [e0, e9]
  generalize ((n / sumC B c L : Nat) : Int) = t
  generalize ((sumC B c L : Nat) : Int) = F
  generalize (n : Int) = m
  have e1 : (t + 1) * ((L : Int) * (B : Int)) = t * ((L : Int) * (B : Int)) + (L : Int) * (B : Int) := by rw [Int.add_mul, Int.one_mul]
  rw [e1, ← Int.add_assoc, Int.add_mul (u + t * ((L : Int) * (B : Int))), Int.sub_mul ((L : Int) * x), Int.add_mul m, Int.add_mul (m * y)]
  have e2 : (L : Int) * (B : Int) * x = (L : Int) * x * (B : Int) := Int.mul_right_comm _ _ _
  rw [e2]
  omega
end
theorem foundL_succ (F B : Nat) (c : Nat → Nat) (S : Nat → Int) (gr bd : Int) (n : Nat) : foundL F B c S gr bd (n + 1) = foundL F B c S gr bd n ++ (foundO F B c S gr bd n).toList := by
  unfold foundL
  rw [List.range_succ, List.filterMap_append]
  cases h : foundO F B c S gr bd n with
  | none => simp [h]
  | some z => simp [h]
/-- the frames from a on, so many, that are above -/
def aboveL (S : Nat → Int) (bd : Int) (a n : Nat) : List Int := (((List.range n).filter fun k => decide (bd < S (a + k))).map fun k => ((a + k : Nat) : Int))
theorem aboveL_succ (S : Nat → Int) (bd : Int) (a n : Nat) : aboveL S bd a (n + 1) = aboveL S bd a n ++ (if bd < S (a + n) then [((a + n : Nat) : Int)] else []) := by
  unfold aboveL
  rw [List.range_succ, List.filter_append, List.map_append]
  by_cases h : bd < S (a + n)
  · simp [h]
  · simp [h]
theorem aboveL_mem {S : Nat → Int} {bd : Int} {a n : Nat} {z : Int} : z ∈ aboveL S bd a n ↔ ∃ k, k < n ∧ bd < S (a + k) ∧ z = ((a + k : Nat) : Int) := by
  unfold aboveL
  rw [List.mem_map]
  constructor
  · rintro ⟨k, hk, rfl⟩
    obtain ⟨h1, h2⟩ := List.mem_filter.mp hk
    exact ⟨k, List.mem_range.mp h1, of_decide_eq_true h2, rfl⟩
  · rintro ⟨k, h1, h2, rfl⟩
    exact ⟨k, List.mem_filter.mpr ⟨List.mem_range.mpr h1, decide_eq_true h2⟩, rfl⟩
theorem aboveL_len (S : Nat → Int) (bd : Int) (a n : Nat) : (aboveL S bd a n).length ≤ n := by
  unfold aboveL
  rw [List.length_map]
  exact Nat.le_trans (List.length_filter_le _ _) (by rw [List.length_range]; exact Nat.le_refl _)
section
variable {P : Program} {w : World} {K : PySem.W.Frag} {mg : Str → Option Value} {base : Heap}
theorem ok_chkbound {f : Addr} {fd : FuncData} (F : Fun K "check_bound" "check_bound" scheck_bound f fd) (N : Names mg) (hgc : mg "gcd" = some (.builtin "math.gcd")) (Dis_integer : DefK P w K mg base "is_integer" ["value"] 1 spIsInt) (Dis_number : DefK P w K mg base "is_number" ["value"] 2 spIsNum) : FnOk P w K mg base CX0 3 f fd ["given"] (spChkBound K) := by
  have sc := sccheck_bound
  refine F.ok sc (fun vs H Q E h => ?_) (fun cdv A outer s H vs Q E hr h => ?_)
  · obtain ⟨q, u, v, rfl, _⟩ := h
    rfl
  · obtain ⟨q, u, v, rfl, ⟨hq, u0, v0, v1, hg⟩, k⟩ := h
    refine ⟨_, (pss_cons (ps_if (PW.pt (pw_or (pt_not (pt_val (pe_callB call_isi (by rfl) N.isinstance (by decide +kernel) (pa_cons (pv 0) (pa_cons (pe_ty "tuple" rfl N.tuple (by decide +kernel)) pa_nil))))) (pw_or1 (pt_cmpR op_ne (pe_callB call_len_seq (by rfl) N.len (by decide +kernel) (pa_cons (pv 0) pa_nil)) pe_int (nomark _))))) (pss_one ps_never) pss_nil)
      (pss_cons (ps_asg (pv 0) (pg_tup rfl (pgs_cons (pg_name (i := 1) sc.nd rfl (Or.inl rfl)) (pgs_cons (pg_name (i := 2) sc.nd rfl (Or.inl rfl)) pgs_nil))))
      (pss_one (ps_if (PW.pt (pw_or (pt_not (pt_val (pe_d Dis_number (hr.mono (by decide)) rfl (pa_cons (pv 1) pa_nil)))) (pw_or (pt_not (pt_val (pe_d Dis_integer (hr.mono (by decide)) rfl (pa_cons (pv 2) pa_nil)))) (pw_or (pt_cmpR op_lt (pv 2) pe_int (nomark _)) (pw_or1 (pt_cmpR op_gt (pe_callBfun cr_gcd (by rfl) hgc (pa_cons (pv 1) (pa_cons (pv 2) pa_nil))) pe_int (nomark _))))))) (pss_one ps_never) pss_nil)))), ?_⟩
    refine ⟨_, rfl, _, _, _, _, _, rfl, .ty _, tyT hq, kit_ty (r := true) (by decide +kernel), _, rfl, ?_⟩
    refine iteF ?_
    refine ⟨_, rfl, q, _, rfl, .inr hq, rfl, _, rfl, ?_⟩
    refine ifN (fun hd' => absurd rfl hd') (fun _ => ?_)
    refine ⟨_, rfl, q, _, rfl, hq, rfl, _, _, rfl, _, _, rfl, rfl, ?_⟩
    refine ⟨_, rfl, u, rfl, _, rfl, ?_⟩
    refine ifN (fun hd => absurd u0 hd) (fun _ => ?_)
    refine ⟨_, rfl, v, rfl, _, rfl, ?_⟩
    refine iteF ?_
    refine ⟨_, rfl, _, _, rfl, rfl, _, rfl, ?_⟩
    refine ifD (fun hd => absurd hd (by omega)) (fun _ => ?_)
    refine ⟨_, rfl, _, rfl, u, v, rfl, _, _, rfl, rfl, _, rfl, ?_⟩
    exact ifD (fun hd => absurd hd (by omega)) (fun _ => k)
theorem ok_rounds {f : Addr} {fd : FuncData} (F : Fun K "rounds_until_above" "rounds_until_above" srounds_until_above f fd) : FnOk P w K mg base CX0 1 f fd ["number", "growth", "bound"] spRounds := by
  have sc := scrounds_until_above
  refine F.ok sc (fun vs H Q E h => ?_) (fun cdv A outer s H vs Q E hr h => ?_)
  · obtain ⟨a, g, b, rfl, _⟩ := h
    rfl
  · obtain ⟨a, g, b, rfl, hg, k⟩ := h
    refine ⟨_, (pss_cons (ps_if (pt_cmpR op_gt (pv 0) (pv 2) (nomark _)) (pss_one (ps_ret pe_int)) pss_nil)
      (pss_cons (ps_if (pt_cmpR op_le (pv 1) pe_int (nomark _)) (pss_one (ps_ret pe_non)) pss_nil)
      (pss_one (ps_ret (pe_op op_add (pe_op op_fdivW (pe_op op_sub (pv 2) (pv 0)) (pv 1)) pe_int))))), ?_⟩
    refine ⟨_, rfl, _, rfl, _, _, rfl, rfl, _, rfl, ?_⟩
    unfold roundsO at k
    refine ifD (fun hd => ?_) (fun hd => ?_)
    · rw [if_pos hd] at k
      exact k
    rw [if_neg hd] at k
    refine ⟨_, rfl, _, _, rfl, rfl, _, rfl, ?_⟩
    refine ifD (fun hd2 => ?_) (fun hd2 => ?_)
    · rw [if_pos hd2] at k
      exact k
    rw [if_neg hd2] at k
    refine ⟨_, rfl, _, rfl, _, _, rfl, rfl, _, rfl, _, _, rfl, rfl, wide_div (b := 80) (by omega) (by omega) (by decide) (by decide), _, _, rfl, rfl, ?_⟩
    exact k
theorem ok_above {f C fRo pRo : Addr} {fd fdRo : FuncData} (F : Fun K "first_above" "first_above" sfirst_above f fd) (T : HouseTxt K mg C) (N : Names mg)
    (qRo : PropOf K C "round" pRo fRo) (GRo : FnOk P w K mg base CX0 1 fRo fdRo ["self"] (getSp C "_round")) (bRo : Binds K fdRo ["self"] [])
    (Dgap_of_round : DefK P w K mg base "gap_of_round" ["house", "pace"] 3 (spGapRound K C)) (Dends_of_groups : DefK P w K mg base "ends_of_groups" ["house"] 3 (spEnds K C))
    (Dgap_at : DefK P w K mg base "gap_at" ["house", "pace", "frame"] 5 (spGapAt K C)) (Drounds_until_above : DefK P w K mg base "rounds_until_above" ["number", "growth", "bound"] 1 spRounds) : FnOk P w K mg base CX0 6 f fd ["house", "pace", "sign", "bound"] (spAbove K C) := by
  have sc := scfirst_above
  refine F.ok sc (fun vs H Q E h => ?_) (fun cdv A outer s H vs Q E hr h => ?_)
  · obtain ⟨old, p, b, r, q, bs, rows, cs, B, c, L, x, y, sg, bd, rfl, _⟩ := h
    rfl
  · obtain ⟨old, p, b, r, q, bs, rows, cs, B, c, L, x, y, sg, bd, rfl, hsg, ⟨hA, ct⟩, hp, k1, k2⟩ := h
    have hu := hu_of hr
    refine ⟨_, (pss_cons (ps_set (i := 4) sc.nd rfl (Or.inl rfl) (pe_op op_mul (pv 2) (pe_d Dgap_of_round (hr.mono (by decide)) rfl (pa_cons (pv 0) (pa_cons (pv 1) pa_nil)))))
      (pss_cons (ps_set (i := 5) sc.nd rfl (Or.inl rfl) (pe_lst pa_nil))
      (pss_cons (ps_for PassesOwn.never rfl (pi_list (pe_d Dends_of_groups (hr.mono (by decide)) rfl (pa_cons (pv 0) pa_nil))) (pg_tup rfl (pgs_cons (pg_name (i := 6) sc.nd rfl (Or.inl rfl)) (pgs_cons (pg_name (i := 7) sc.nd rfl (Or.inl rfl)) pgs_nil))) (pss_cons (ps_set (i := 8) sc.nd rfl (Or.inl rfl) (pe_callB (call_max2 rfl) (by rfl) N.max (by decide +kernel) (pa_cons (pe_op op_mul (pv 2) (pe_d Dgap_at (hr.mono (by decide)) rfl (pa_cons (pv 0) (pa_cons (pv 1) (pa_cons (pv 6) pa_nil))))) (pa_cons (pe_op op_mul (pv 2) (pe_d Dgap_at (hr.mono (by decide)) rfl (pa_cons (pv 0) (pa_cons (pv 1) (pa_cons (pv 7) pa_nil))))) pa_nil))))
      (pss_cons (ps_set (i := 9) sc.nd rfl (Or.inl rfl) (pe_d Drounds_until_above (hr.mono (by decide)) rfl (pa_cons (pv 8) (pa_cons (pv 4) (pa_cons (pv 3) pa_nil)))))
      (pss_one (ps_if (pt_cmpR op_notN (pv 9) pe_non (nomark _)) (pss_cons (ps_set (i := 10) sc.nd rfl (Or.inl rfl) (pe_op op_mul (pv 9) (pe_ix ix_tup (pe_prop (pv 0) T.cl qRo GRo (hr.mono (by decide)) bRo .nil pass0 rfl) pe_int (fun _ _ => rfl))))
      (pss_one (ps_expr (pe_bm PySem.F.plainAttrs_list PySem.F.slot_list_append PySem.F.type_list_append mt_append (pv 5) (pa_cons (pe_tup (pa_cons (pe_op op_add (pv 10) (pv 6)) (pa_cons (pe_op op_add (pv 10) (pv 7)) pa_nil))) pa_nil))))) pss_nil)))))
      (pss_cons (ps_if (pt_not (pt_truth (pv 5) (fun _ => rfl))) (pss_one (ps_ret pe_non)) pss_nil)
      (pss_cons (ps_asg (pe_callB (cr_minP rfl (hu64 hr)) (by rfl) N.min (by decide +kernel) (pa_cons (pv 5) pa_nil)) (pg_tup rfl (pgs_cons (pg_name (i := 6) sc.nd rfl (Or.inl rfl)) (pgs_cons (pg_name (i := 7) sc.nd rfl (Or.inl rfl)) pgs_nil))))
      (pss_one (ps_ret (pe_callB (cr_min rfl) (by rfl) N.min (by decide +kernel) (pa_cons (pe_lc (own := [("frame", 11)]) rfl sc.nd (pi_range2W rfl N.range (pa_cons (pv 6) (pa_cons (pe_op op_add (pv 7) pe_int) pa_nil))) (blkOk_by (own := [("frame", 11)]) (N := ["house", "pace", "sign", "bound", "growth", "found", "first", "last", "peak", "rounds", "ahead", "frame"]) (sc := defScope (topS 71)) (by decide +kernel)) (fun _ _ _ _ _ => (pg_name (i := 11) sc.nd rfl (Or.inl rfl))) (fun _ _ _ _ _ => (pts_one (pt_cmpR op_gt (pe_op op_mul (pv 2) (pe_d Dgap_at (hr.mono (by decide)) rfl (pa_cons (pv 0) (pa_cons (pv 1) (pa_cons (pv 11) pa_nil))))) (pv 3) (nomark _)))) (fun _ _ _ _ _ => (pv 11))) pa_nil))))))))), ?_⟩
    obtain ⟨⟨dx, sk, ah, rd, e1, e2, e3, e4, _, _⟩, bt, rt, fr, _⟩ := id hA
    rw [ct.total, ct.len] at e4
    refine ⟨_, rfl, _, rfl, _, rfl, old, p, b, r, q, bs, rows, cs, B, c, L, x, y, rfl, ⟨hA, ct⟩, hp, ?_⟩
    have hB2 := ct.hB
    have hB6 := ct.hB6
    have hL := ct.hL
    have hL7 := ct.hL7
    have htop := ct.top
    have hLB : L * B ≤ 7200 * 60 := Nat.mul_le_mul hL7 hB6
    obtain ⟨hq, x0, x1, y0, y1⟩ := id hp
    have hgrb : sg * (((L : Int) * x - ((sumC B c L : Nat) : Int) * y) * (B : Int)) < 2 ^ 80 := by
      have a1 : (L : Int) * x ≤ 7200 * 1000000 := Int.mul_le_mul (by omega) x1 (by omega) (by decide)
      have a0 : 0 ≤ (L : Int) * x := Int.mul_nonneg (by omega) (by omega)
      have b1 : ((sumC B c L : Nat) : Int) * y ≤ 432000 * 1000000 := Int.mul_le_mul (by omega) y1 (by omega) (by decide)
      have b0 : 0 ≤ ((sumC B c L : Nat) : Int) * y := Int.mul_nonneg (by omega) (by omega)
      have z1 : (L : Int) * x - ((sumC B c L : Nat) : Int) * y ≤ 432000000000 := by omega
      have z2 : -432000000000 ≤ (L : Int) * x - ((sumC B c L : Nat) : Int) * y := by omega
      generalize (L : Int) * x - ((sumC B c L : Nat) : Int) * y = z at z1 z2 ⊢
      have h1 : z * (B : Int) ≤ 432000000000 * 60 := by
        rcases Int.le_total 0 z with h | h
        · exact Int.mul_le_mul (by omega) (by omega) (by omega) (by decide)
        · have := Int.mul_nonpos_of_nonpos_of_nonneg h (show 0 ≤ (B : Int) by omega)
          omega
      have h2 : -(432000000000 * 60) ≤ z * (B : Int) := by
        rcases Int.le_total 0 z with h | h
        · have := Int.mul_nonneg h (show 0 ≤ (B : Int) by omega)
          omega
        · have h3 : (-z) * (B : Int) ≤ 432000000000 * 60 := Int.mul_le_mul (by omega) (by omega) (by omega) (by decide)
          rw [Int.neg_mul] at h3
          omega
      rcases hsg with rfl | rfl
      · rw [Int.one_mul]; omega
      · rw [Int.neg_mul, Int.one_mul]; omega
    have hper : ∀ n : Nat, sg * gapI bs cs x y ((n + sumC B c L : Nat) : Int) = sg * gapI bs cs x y (n : Int) + sg * (((L : Int) * x - ((sumC B c L : Nat) : Int) * y) * (B : Int)) := fun n => by rw [ct.gap_add, Int.mul_add]
    have hlin : ∀ g n : Nat, sumC B c g ≤ n → n < sumC B c (g + 1) → sg * gapI bs cs x y (n : Int) = sg * gapI bs cs x y ((sumC B c g : Nat) : Int) + ((n : Int) - ((sumC B c g : Nat) : Int)) * (sg * (x - y * (B : Int))) := fun g n h1 h2 => by
      rw [ct.gap_in x y h1 h2, Int.mul_add, Int.mul_left_comm]
    generalize hgr : sg * (((L : Int) * x - ((sumC B c L : Nat) : Int) * y) * (B : Int)) = gr at hgrb hper
    have hsgm : ∀ z : Int, CMul sg z := fun z => .inl (by rcases hsg with rfl | rfl <;> decide)
    generalize hS : (fun n : Nat => sg * gapI bs cs x y (n : Int)) = S
    have hSe : ∀ n : Nat, sg * gapI bs cs x y (n : Int) = S n := fun n => congrFun hS n
    have per : ∀ n, S (n + sumC B c L) = S n + gr := fun n => by rw [← hSe, ← hSe]; exact hper n
    have lin : ∀ g n, sumC B c g ≤ n → n < sumC B c (g + 1) → S n = S (sumC B c g) + ((n : Int) - ((sumC B c g : Nat) : Int)) * (sg * (x - y * (B : Int))) := fun g n h1 h2 => by rw [← hSe, ← hSe]; exact hlin g n h1 h2
    refine ⟨_, _, rfl, rfl, hsgm _, ?_⟩
    dsimp only
    rw [hgr]
    refine ⟨Nat.le_of_ble_eq_true rfl, ?_⟩
    (intro fo nfo; generalize e_fo : upd H fo _ = H1; have s1 : Same H H1 := fun b x hb => (congrFun e_fo b).symm.trans (same_new nfo b x hb); have h1 := (congrFun e_fo fo).symm.trans upd_same; clear e_fo)
    refine g_nx ?_
    dsimp only
    refine ⟨_, rfl, old, p, b, r, bs, rows, cs, B, c, L, rfl, ⟨hA.same s1, ct⟩, fun eq es H2 s2 neq eeq hes => ?_⟩
    have hel := hes.length
    rw [List.length_range] at hel
    have s12 := s1.trans s2
    have hfo2 := s2 _ _ h1
    have hpair : ∀ {i : Nat} {a : Addr}, es[i]? = some a → i < L ∧ H2 a = some (.tup [.int ((sumC B c i : Nat) : Int), .int (((sumC B c (i + 1) : Nat) : Int) - 1)]) := by
      intro i a ha
      obtain ⟨g, hg, q⟩ := paired_at hes ha
      obtain ⟨hi, _⟩ := List.getElem?_eq_some_iff.mp hg
      rw [List.length_range] at hi
      rw [List.getElem?_range hi] at hg
      obtain rfl := Option.some.inj hg
      exact ⟨hi, q⟩
    have nef : eq ≠ fo := fun z => by rw [z] at neq; rw [neq] at h1; cases h1
    refine ⟨eq, rfl, ⟨_, SqL.lst eeq⟩, for_list (K := K) (xs := es.map V.ref) (fun i σ H' => ∃ (v6 v7 v8 v9 v10 v11 : Option V) (ts : List Addr), σ = [some (.ref p), some (.ref q), some (.int sg), some (.int bd), some (.int gr), some (.ref fo), v6, v7, v8, v9, v10, v11] ∧ Same H H' ∧ Else fo H2 H' ∧ H' fo = some (.lst (ts.map V.ref)) ∧ Paired (fun t (z : Int × Int) => H' t = some (.tup [.int z.1, .int z.2])) ts (foundL (sumC B c L) B c S gr bd i))
      ⟨_, _, _, _, _, _, [], rfl, s12, Else.refl _ _, hfo2, .nil⟩ (fun i σ H' _ ⟨_, _, _, _, _, _, _, _, _, sm, _⟩ => SqL.lst (sm _ _ nef eeq)) ?_ ?_⟩
    · rintro i z σ H3 hx ⟨v6, v7, v8, v9, v10, v11, ts, rfl, sm, el, efo, hts⟩
      obtain ⟨a, ha, rfl⟩ : ∃ b, es[i]? = some b ∧ z = V.ref b := by
        rw [List.getElem?_map] at hx
        obtain ⟨z, hz, e⟩ := Option.map_eq_some_iff.mp hx
        exact ⟨z, hz, e.symm⟩
      obtain ⟨hi, hga⟩ := hpair ha
      have naf : a ≠ fo := fun z => by rw [z, hfo2] at hga; cases hga
      have up := ct.up i
      have eL : ((sumC B c (i + 1) : Nat) : Int) - 1 = ((sumC B c (i + 1) - 1 : Nat) : Int) := by omega
      refine ⟨a, _, rfl, SqT.tup (el _ _ naf hga), rfl, _, _, rfl, _, _, rfl, rfl, ?_⟩
      refine ⟨_, rfl, _, rfl, _, rfl, _, rfl, old, p, b, r, q, bs, rows, cs, x, y, _, rfl, hA.same sm, hp.same sm, by omega, fun H4 s4 => ?_⟩
      refine ⟨_, _, rfl, rfl, hsgm _, ?_⟩
      refine ⟨_, rfl, _, rfl, _, rfl, _, rfl, old, p, b, r, q, bs, rows, cs, x, y, ((sumC B c (i + 1) - 1 : Nat) : Int), (by rw [eL]; rfl), hA.same (sm.trans s4), hp.same (sm.trans s4), by omega, fun H5 s5 => ?_⟩
      refine ⟨_, _, rfl, rfl, hsgm _, _, _, rfl, ?_⟩
      refine g_nx ?_
      dsimp only
      rw [hSe, hSe]
      have s5' := sm.trans (s4.trans s5)
      have efo5 := (s4.trans s5) _ _ efo
      have el5 : Else fo H2 H5 := el.trans (Same.els (s4.trans s5))
      have hts5 := paired_imp hts fun t _ z q => (s4.trans s5) _ _ q
      have htl := hts.length
      have hfl : (foundL (sumC B c L) B c S gr bd i).length ≤ i := by
        unfold foundL
        exact Nat.le_trans (List.length_filterMap_le _ _) (by rw [List.length_range]; exact Nat.le_refl _)
      refine ⟨_, rfl, _, rfl, _, rfl, maxI (S (sumC B c i)) (S (sumC B c (i + 1) - 1)), gr, bd, rfl, hgrb, ?_⟩
      refine g_nx ?_
      dsimp only
      cases hro : roundsO (maxI (S (sumC B c i)) (S (sumC B c (i + 1) - 1))) gr bd with
      | none =>
        refine ⟨_, rfl, rfl, _, rfl, ?_⟩
        refine ifN (fun hd => absurd rfl hd) (fun _ => ?_)
        refine ⟨_, _, _, _, _, _, ts, rfl, s5', el5, efo5, ?_⟩
        have e0 : foundO (sumC B c L) B c S gr bd i = none := by
          unfold foundO
          rw [hro]
          rfl
        rw [foundL_succ, e0]
        show Paired _ ts (foundL (sumC B c L) B c S gr bd i ++ [])
        rw [List.append_nil]
        exact hts5
      | some rr =>
        refine ⟨_, rfl, rfl, _, rfl, ?_⟩
        refine ifN (fun _ => ?_) (fun hd => nomatch hd)
        have e15 := s5' _ _ e1
        have e45 := s5' _ _ e4
        refine ⟨_, rfl, _, rfl, p, dx, _, rfl, e15, p, dx, _, _, rfl, e15, hf_round _ _ _ _ _ _, rd, _, _, _, rfl, rfl, SqT.tup e45, rfl, _, _, rfl, rfl, .inr ⟨by omega, by omega⟩, ?_⟩
        refine g_nx ?_
        dsimp only
        refine ⟨_, rfl, .inl ⟨rfl, _, SqL.lst efo5⟩, _, rfl, _, rfl, _, _, rfl, rfl, _, rfl, _, rfl, _, _, rfl, rfl, Nat.le_of_ble_eq_true rfl, ?_⟩
        (intro t nt; generalize e_t : upd H5 t _ = H6; have s6 : Same H5 H6 := fun b x hb => (congrFun e_t b).symm.trans (same_new nt b x hb); have h6 := (congrFun e_t t).symm.trans upd_same; clear e_t)
        have efo6 := s6 _ _ efo5
        have ntf : t ≠ fo := fun z => by rw [z, efo5] at nt; cases nt
        refine ⟨fo, _, _, rfl, rfl, efo6, smallLt (by rw [List.length_map]; omega), ?_⟩
        refine ⟨_, _, _, _, _, _, ts ++ [t], rfl, same_mut (s5'.trans s6) nfo, (el5.trans (Same.els s6)).trans els_upd, ?_, ?_⟩
        · rw [upd_same, List.map_append]
          rfl
        · have e0 : foundO (sumC B c L) B c S gr bd i = some (rr * ((sumC B c L : Nat) : Int) + ((sumC B c i : Nat) : Int), rr * ((sumC B c L : Nat) : Int) + (((sumC B c (i + 1) : Nat) : Int) - 1)) := by
            unfold foundO
            rw [hro]
            rfl
          rw [foundL_succ, e0]
          refine paired_app (paired_imp hts5 fun a ha g q => ?_) ?_
          · have q6 := s6 _ _ q
            rw [upd_ne (fun z => by rw [z, efo6] at q6; cases q6)]
            exact q6
          · rw [upd_ne ntf]
            exact h6
    · rintro σ H3 ⟨v6, v7, v8, v9, v10, v11, ts, rfl, sm, el, efo, hts⟩
      rw [List.length_map, hel] at hts
      dsimp only
      refine ⟨_, rfl, (!(ts.map V.ref).isEmpty), .inl ⟨_, SqL.lst efo, rfl⟩, ?_⟩
      have flw : ∀ {n : Nat}, bd < S n → ∃ m ∈ foundL (sumC B c L) B c S gr bd L, m.1 ≤ (n : Int) := fun h => ct.found_le per lin h
      have fhs : ∀ {m : Int × Int}, m ∈ foundL (sumC B c L) B c S gr bd L → ∃ a b n : Nat, m = ((a : Int), (b : Int)) ∧ a ≤ n ∧ n ≤ b ∧ b ≤ a + 60 ∧ bd < S n := fun h => ct.found_has per h
      generalize hfd : foundL (sumC B c L) B c S gr bd L = fd at hts flw fhs
      clear hfd
      cases hts with
      | nil =>
        refine iteT ?_
        refine k1 (fun n hn => ?_) H3 sm
        rw [hSe] at hn
        obtain ⟨m, hm, _⟩ := flw hn
        cases hm
      | @cons t0 p0 ts ps hp0 hts =>
        refine iteF ?_
        refine ⟨_, rfl, fo, t0 :: ts, p0 :: ps, rfl, SqL.lst efo, .cons (SqT.tup hp0) (paired_imp hts fun t _ z q => SqT.tup q), Nat.succ_pos _, fun t m ht hm hmin => ?_⟩
        obtain ⟨a, b, n, rfl, an, nb, ba, hSn⟩ := fhs hm
        refine ⟨t, _, rfl, ht, rfl, _, _, rfl, _, _, rfl, rfl, ?_⟩
        refine ⟨_, rfl, _, rfl, _, _, rfl, rfl, _, _, rfl, ?_⟩
        rw [show ((b : Int) + 1 - (a : Int)).toNat = b + 1 - a by omega]
        intro D nD
        refine lc_range (n := b + 1 - a) (fun i H' => Same H3 H' ∧ H' D = some (.lst ((aboveL S bd a i).map V.int))) ⟨same_new nD, upd_same⟩ ?_ ?_
        · rintro i H4 hi ⟨sm4, eD⟩
          have s14 := sm.trans sm4
          refine ⟨rfl, ?_⟩
          refine ⟨_, rfl, _, rfl, _, rfl, _, rfl, old, p, _, r, q, bs, rows, cs, x, y, ((a + i : Nat) : Int), (by rw [Int.natCast_add]; rfl), hA.same s14, hp.same s14, by omega, fun H5 s5 => ?_⟩
          refine ⟨_, _, rfl, rfl, hsgm _, _, rfl, _, _, rfl, rfl, _, rfl, ?_⟩
          rw [hSe]
          have eD5 := s5 _ _ eD
          refine ifD (fun hd => ?_) (fun hd => ?_)
          · refine ⟨_, rfl, _, eD5, smallLt (by have := aboveL_len S bd a i; rw [List.length_map]; omega), same_mut (sm4.trans s5) nD, ?_⟩
            rw [upd_same, aboveL_succ, if_pos hd, List.map_append, Int.natCast_add]
            rfl
          · refine ⟨sm4.trans s5, ?_⟩
            rw [aboveL_succ, if_neg hd, List.append_nil]
            exact eD5
        · rintro H4 ⟨sm4, eD⟩
          have hmem : ((n : Nat) : Int) ∈ aboveL S bd a (b + 1 - a) := aboveL_mem.mpr ⟨n - a, by omega, by rw [show a + (n - a) = n by omega]; exact hSn, by rw [show a + (n - a) = n by omega]⟩
          refine ⟨D, _, rfl, SqL.lst eD, List.length_pos_of_mem hmem, fun z hz hle => ?_⟩
          obtain ⟨k, k0, kS, rfl⟩ := aboveL_mem.mp hz
          refine k2 (a + k) (by rw [hSe]; exact kS) (fun m hmk hm2 => ?_) H4 (sm.trans sm4)
          rw [hSe] at hm2
          obtain ⟨z, z1, z2⟩ := flw hm2
          have z3 := hmin z z1
          dsimp only at z3
          have ham : a ≤ m := by omega
          have := hle (m : Int) (aboveL_mem.mpr ⟨m - a, by omega, by rw [show a + (m - a) = m by omega]; exact hm2, by rw [show a + (m - a) = m by omega]⟩)
          omega
end
end LM

set_option Elab.async false
set_option linter.all false
set_option maxRecDepth 100000
set_option maxHeartbeats 4000000
set_option pp.maxSteps 600
set_option pp.deepTerms false
namespace LM
open PySem PySem.Spec PyProof.Rows L2 RZ
local macro_rules | `(tactic| walk_at "hp") => `(tactic| first | assumption | exact upd_same | (rw [upd_ne (by assumption)]; assumption) | (rw [upd_ne (Ne.symm (by assumption))]; assumption) | (rw [upd_ne (by assumption)]; exact upd_same) | (rw [upd_ne (Ne.symm (by assumption))]; exact upd_same))
local macro_rules | `(tactic| walk_at "sq") => `(tactic| first | assumption | exact Or.inl (Or.inl (by assumption)) | exact Or.inl (Or.inl upd_same) | exact Or.inl (Or.inl (by walk_at "hp")))
local macro_rules | `(tactic| walk_at "ixl") => `(tactic| refine ⟨_, _, _, _, rfl, rfl, (by walk_at "sq"), (by rfl), ?_⟩)
local macro_rules | `(tactic| walk_at "setl") => `(tactic| refine ⟨_, _, _, _, rfl, rfl, (by walk_at "hp"), (by rfl), ?_⟩)
local macro_rules | `(tactic| walk_at "side") => `(tactic| refine idP ?_; first | omega | (show (0 : Int) < _; omega) | (show (0 : Int) < _ ∧ _ < _; omega) | (refine Or.inr ?_; show (-(2 ^ 64) : Int) < _ ∧ _ < _; omega) | (refine Or.inl ?_; show (-(2 ^ 64) : Int) < _ ∧ _ < _; omega) | exact divW (by omega) (by omega) _ | (refine ⟨by decide, by decide, ?_⟩; decide))
local macro_rules | `(tactic| walk_at "go1") => `(tactic| first
  | refine ⟨_, rfl, ?_⟩
  | refine ⟨_, _, rfl, rfl, (by walk_at "side"), ?_⟩
  | refine ⟨_, _, rfl, (by walk_at "side"), ?_⟩
  | refine ⟨_, _, rfl, rfl, ?_⟩
  | refine Or.inl ⟨_, rfl, ?_⟩
  | refine ⟨_, _, rfl, Or.inl (by walk_at "sq"), ?_⟩
  | walk_at "ixl"
  | walk_at "setl"
  | refine ⟨_, _, rfl, (by walk_at "sq"), rfl, ?_⟩
  | refine ⟨_, _, rfl, (by walk_at "sq"), ?_⟩
  | refine ⟨_, _, rfl, ?_⟩
  | refine ⟨rfl, ?_⟩
  | refine ⟨small (Nat.le_of_ble_eq_true rfl), ?_⟩)
local macro_rules | `(tactic| walk_at "go") => `(tactic| repeat walk_at "go1")

abbrev sfirst_beyond : Stmt := topS 72
theorem scfirst_beyond : FnScope ["house", "pace", "bound", "most", "found", "sign", "frame"] ["house", "pace", "bound"] (defScope sfirst_beyond) := ⟨rfl, rfl, rfl, by decide +kernel, rfl, by decide +kernel, by decide +kernel⟩
/-- what first_above tells -/
def AboveIs (G : Nat → Int) (bd sg : Int) (o : Option Int) : Prop := (o = none ∧ ∀ n, ¬ bd < sg * G n) ∨ ∃ n : Nat, o = some (n : Int) ∧ bd < sg * G n ∧ ∀ m, m < n → ¬ bd < sg * G m
def sgn (j : Nat) : Int := if j = 0 then 1 else -1
def OverI (G : Nat → Int) (bd : Int) (n : Nat) : Prop := bd < G n ∨ bd < - G n
def spBeyond (K : PySem.W.Frag) (C : Addr) : Sp := fun vs H Q _ => ∃ (old : Addr → Prop) (p b r q bo : Addr) (bs : List Int) (rows : List R3) (cs : List Int) (B : Nat) (c : Nat → Nat) (L : Nat) (x y u v : Int), vs = [.ref p, .ref q, .ref bo] ∧ HouseBy K C old H p b r bs rows cs B c L ∧ PaceAt K H q x y ∧ BoundAt K H bo u v ∧
  ((∀ n : Nat, ¬ OverI (fun n => gapI bs cs x y ((n : Nat) : Int)) (u * bs.getLastD 1 * x / v) n) → ∀ H', Same H H' → Q .non H') ∧ (∀ n : Nat, OverI (fun n => gapI bs cs x y ((n : Nat) : Int)) (u * bs.getLastD 1 * x / v) n → (∀ m : Nat, m < n → ¬ OverI (fun n => gapI bs cs x y ((n : Nat) : Int)) (u * bs.getLastD 1 * x / v) m) → ∀ H', Same H H' → Q (.int (n : Int)) H')
section
variable {P : Program} {w : World} {K : PySem.W.Frag} {mg : Str → Option Value} {base : Heap}
theorem ok_beyond {f C fBs pBs : Addr} {fd fdBs : FuncData} (F : Fun K "first_beyond" "first_beyond" sfirst_beyond f fd) (T : HouseTxt K mg C) (N : Names mg)
    (qBs : PropOf K C "bases" pBs fBs) (GBs : FnOk P w K mg base CX0 1 fBs fdBs ["self"] (getSp C "_bases")) (bBs : Binds K fdBs ["self"] [])
    (Dcheck_house : DefK P w K mg base "check_house" ["given"] 1 (spChkHouse C)) (Dcheck_pace : DefK P w K mg base "check_pace" ["given"] 3 (spChkPace K)) (Dcheck_bound : DefK P w K mg base "check_bound" ["given"] 3 (spChkBound K))
    (Dfirst_above : DefK P w K mg base "first_above" ["house", "pace", "sign", "bound"] 6 (spAbove K C)) : FnOk P w K mg base CX0 7 f fd ["house", "pace", "bound"] (spBeyond K C) := by
  have sc := scfirst_beyond
  refine F.ok sc (fun vs H Q E h => ?_) (fun cdv A outer s H vs Q E hr h => ?_)
  · obtain ⟨old, p, b, r, q, bo, bs, rows, cs, B, c, L, x, y, u, v, rfl, _⟩ := h
    rfl
  · obtain ⟨old, p, b, r, q, bo, bs, rows, cs, B, c, L, x, y, u, v, rfl, ⟨hA, ct⟩, hp, hb, k1, k2⟩ := h
    have hu := hu_of hr
    refine ⟨_, (pss_cons (ps_expr (pe_d Dcheck_house (hr.mono (by decide)) rfl (pa_cons (pv 0) pa_nil)))
      (pss_cons (ps_expr (pe_d Dcheck_pace (hr.mono (by decide)) rfl (pa_cons (pv 1) pa_nil)))
      (pss_cons (ps_expr (pe_d Dcheck_bound (hr.mono (by decide)) rfl (pa_cons (pv 2) pa_nil)))
      (pss_cons (ps_set (i := 3) sc.nd rfl (Or.inr rfl) (pe_op op_fdivW (pe_op op_mul (pe_op op_mul (pe_ix ix_tup (pv 2) pe_int (fun _ _ => rfl)) (pe_ix ix_tup (pe_prop (pv 0) T.cl qBs GBs (hr.mono (by decide)) bBs .nil pass0 rfl) (pe_un un_neg pe_int) (fun _ _ => rfl))) (pe_ix ix_tup (pv 1) pe_int (fun _ _ => rfl))) (pe_ix ix_tup (pv 2) pe_int (fun _ _ => rfl))))
      (pss_cons (ps_setLc (i := 4) (own := [("sign", 5)]) rfl sc.nd rfl rfl (sw_true rfl rfl rfl (by decide +kernel)) (pi_tup (pe_tup (pa_cons pe_int (pa_cons (pe_un un_neg pe_int) pa_nil)))) (blkOk_by (own := [("sign", 5)]) (N := ["house", "pace", "bound", "most", "found", "sign", "frame"]) (sc := defScope (topS 72)) (by decide +kernel)) (fun _ _ _ _ _ => (pg_name (i := 5) sc.nd rfl (Or.inl rfl))) (fun _ _ _ _ _ => pts_nil) (fun _ _ _ _ _ => (pe_d Dfirst_above (hr.mono (by decide)) rfl (pa_cons (pv 0) (pa_cons (pv 1) (pa_cons (pv 5) (pa_cons (pv 3) pa_nil)))))))
      (pss_one (ps_ret (pe_callBK (crk_minDf rfl (hu64 hr)) (by rfl) N.min (by decide +kernel) (pa_cons (pe_lc (own := [("frame", 6)]) rfl sc.nd (pi_list (pv 4)) (blkOk_by (own := [("frame", 6)]) (N := ["house", "pace", "bound", "most", "found", "sign", "frame"]) (sc := defScope (topS 72)) (by decide +kernel)) (fun _ _ _ _ _ => (pg_name (i := 6) sc.nd rfl (Or.inl rfl))) (fun _ _ _ _ _ => (pts_one (pt_cmpR op_notN (pv 6) pe_non (nomark _)))) (fun _ _ _ _ _ => (pv 6))) pa_nil) (pk_cons pe_non pk_nil))))))))), ?_⟩
    obtain ⟨dx, sk, ah, rd, e1, _⟩ := id hA.ob
    have hlast := hA.fair.bb _ (lastD_mem hA.fair.b0)
    refine ⟨_, rfl, p, _, _, rfl, e1, ?_⟩
    refine ⟨_, rfl, q, x, y, rfl, hp, fun H1 s1 => ?_⟩
    refine ⟨_, rfl, bo, u, v, rfl, hb.same s1, ?_⟩
    obtain ⟨hq, x0, x1, y0, y1⟩ := id hp
    obtain ⟨hbq, u0, v0, v1, _⟩ := id hb
    refine ⟨_, rfl, bo, _, _, _, rfl, rfl, Same.seqT s1 hbq, rfl, ?_⟩
    refine ⟨_, rfl, p, dx, _, rfl, s1 _ _ e1, p, dx, _, _, rfl, s1 _ _ e1, hf_bases _ _ _ _ _ _, _, rfl, b, _, _, _, rfl, rfl, Same.seqT s1 hA.bt, getLastD_map bs hA.fair.b0, _, _, rfl, rfl, .inr ⟨by omega, by omega⟩, ?_⟩
    refine ⟨_, rfl, q, _, _, _, rfl, rfl, Same.seqT s1 hq, rfl, _, _, rfl, rfl, .inr ⟨by omega, by omega⟩, ?_⟩
    refine ⟨_, rfl, bo, _, _, _, rfl, rfl, Same.seqT s1 hbq, rfl, _, _, rfl, rfl, wide_div (b := 60) (by omega) (by omega) (by decide) (by decide), ?_⟩
    refine g_nx ?_
    dsimp only
    generalize u * bs.getLastD 1 * x / v = bd at k1 k2 ⊢
    refine ⟨_, rfl, Nat.le_of_ble_eq_true rfl, ?_⟩
    (intro tp ntp; generalize e_tp : upd H1 tp _ = H2; have s2 : Same H1 H2 := fun b x hb => (congrFun e_tp b).symm.trans (same_new ntp b x hb); have h2 := (congrFun e_tp tp).symm.trans upd_same; clear e_tp)
    refine ⟨tp, rfl, ⟨_, SqT.tup h2⟩, ?_⟩
    intro D nD
    have s12 := s1.trans s2
    have add : ∀ {H3 H5 : Hp} {i : Nat} {os : List (Option Int)} (o : Option Int), os.length = i → H3 D = some (.lst (os.map optV)) → (∀ j o, os[j]? = some o → AboveIs (fun n => gapI bs cs x y ((n : Nat) : Int)) bd (sgn j) o) → Same H2 H3 → Same H3 H5 → i < 2 → AboveIs (fun n => gapI bs cs x y ((n : Nat) : Int)) bd (sgn i) o →
        ∃ acc, H5 D = some (.lst acc) ∧ acc.length < sizeLine ∧ (Same H2 (upd H5 D (.lst (acc ++ [optV o]))) ∧ ∃ os' : List (Option Int), os'.length = i + 1 ∧ upd H5 D (.lst (acc ++ [optV o])) D = some (.lst (os'.map optV)) ∧ ∀ j o, os'[j]? = some o → AboveIs (fun n => gapI bs cs x y ((n : Nat) : Int)) bd (sgn j) o) := by
      intro H3 H5 i os o hl eD hos s3 s5 hi ho
      refine ⟨_, s5 _ _ eD, smallLt (by rw [List.length_map]; omega), same_mut (s3.trans s5) nD, os ++ [o], by rw [List.length_append, hl]; rfl, by rw [upd_same, List.map_append]; rfl, fun j oo hj => ?_⟩
      rcases Nat.lt_trichotomy j os.length with z | z | z
      · rw [List.getElem?_append_left z] at hj
        exact hos j oo hj
      · rw [z, List.getElem?_append_right (Nat.le_refl _), Nat.sub_self] at hj
        obtain rfl : o = oo := Option.some.inj hj
        rw [z, hl]
        exact ho
      · rw [List.getElem?_append_right (by omega), List.getElem?_eq_none (by show 1 ≤ _; omega)] at hj
        cases hj
    refine lc_tup (K := K) (xs := ([1, -1] : List Int).map V.int) (fun i H' => Same H2 H' ∧ ∃ os : List (Option Int), os.length = i ∧ H' D = some (.lst (os.map optV)) ∧ ∀ j o, os[j]? = some o → AboveIs (fun n => gapI bs cs x y ((n : Nat) : Int)) bd (sgn j) o) ⟨same_new nD, [], rfl, upd_same, fun j o hj => by cases hj⟩ (fun i H' _ ⟨sm, _⟩ => SqT.tup (sm _ _ h2)) ?_ ?_
    · rintro i z H3 hx ⟨sm, os, hl, eD, hos⟩
      obtain ⟨hi, rfl⟩ : i < 2 ∧ z = V.int (sgn i) := by
        match i, hx with
        | 0, hx => exact ⟨by decide, (Option.some.inj hx).symm⟩
        | 1, hx => exact ⟨by decide, (Option.some.inj hx).symm⟩
        | i + 2, hx => cases hx
      have s13 := s12.trans sm
      refine ⟨rfl, ?_⟩
      refine ⟨_, rfl, _, rfl, _, rfl, _, rfl, old, p, b, r, q, bs, rows, cs, B, c, L, x, y, sgn i, bd, rfl, (by unfold sgn; split; exact .inl rfl; exact .inr rfl), ⟨hA.same s13, ct⟩, hp.same s13, fun hn H5 s5 => ?_, fun n hn hm H5 s5 => ?_⟩
      · exact add none hl eD hos sm s5 hi (.inl ⟨rfl, hn⟩)
      · exact add (some (n : Int)) hl eD hos sm s5 hi (.inr ⟨n, rfl, hn, hm⟩)
    rintro H3 ⟨s3, os, hl, eD, hos⟩
    refine g_nx ?_
    dsimp only
    refine ⟨_, rfl, D, rfl, ⟨_, SqL.lst eD⟩, ?_⟩
    intro D2 nD2
    have s13 := s12.trans s3
    refine lc_list (K := K) (xs := os.map optV) (fun i H' => Same H3 H' ∧ H' D2 = some (.lst (((os.take i).filterMap id).map V.int))) ⟨same_new nD2, upd_same⟩ (fun i H' _ ⟨sm, _⟩ => SqL.lst (sm _ _ eD)) ?_ ?_
    · rintro i z H4 hx ⟨sm, eD2⟩
      obtain ⟨o, ho, rfl⟩ : ∃ o, os[i]? = some o ∧ z = optV o := by
        rw [List.getElem?_map] at hx
        obtain ⟨z, hz, e⟩ := Option.map_eq_some_iff.mp hx
        exact ⟨z, hz, e.symm⟩
      refine ⟨rfl, ?_⟩
      refine ⟨_, rfl, rfl, _, rfl, ?_⟩
      have hfl : ((os.take i).filterMap id).length ≤ 2 := Nat.le_trans (List.length_filterMap_le _ _) (by rw [List.length_take]; show min i os.length ≤ 2; rw [hl]; exact Nat.min_le_right _ _)
      cases o with
      | none =>
        refine ifN (fun hd => absurd rfl hd) (fun _ => ?_)
        refine ⟨sm, ?_⟩
        rw [List.take_add_one, ho, List.filterMap_append]
        show H4 D2 = some (.lst (((os.take i).filterMap id ++ []).map V.int))
        rw [List.append_nil]
        exact eD2
      | some n =>
        refine ifN (fun _ => ?_) (fun hd => nomatch hd)
        refine ⟨_, rfl, _, eD2, smallLt (by rw [List.length_map]; omega), same_mut sm nD2, ?_⟩
        rw [upd_same, List.take_add_one, ho, List.filterMap_append, List.map_append]
        rfl
    rintro H4 ⟨s4, eD2⟩
    rw [List.length_map, List.take_of_length_le (Nat.le_refl _)] at eD2
    have s14 := s13.trans s4
    have hl2 : os.length = 2 := hl
    obtain ⟨o1, o2, rfl⟩ : ∃ o1 o2, os = [o1, o2] := by
      match os, hl2 with
      | [o1, o2], _ => exact ⟨o1, o2, rfl⟩
    have a1 := hos 0 o1 rfl
    have a2 := hos 1 o2 rfl
    have g1 : ∀ n : Nat, sgn 0 * gapI bs cs x y (n : Int) = gapI bs cs x y (n : Int) := fun n => Int.one_mul _
    have g2 : ∀ n : Nat, sgn 1 * gapI bs cs x y (n : Int) = - gapI bs cs x y (n : Int) := fun n => by show (-1 : Int) * _ = _; rw [Int.neg_mul, Int.one_mul]
    have key : ∀ n, OverI (fun n => gapI bs cs x y ((n : Nat) : Int)) bd n → ∃ z : Int, z ∈ [o1, o2].filterMap id ∧ z ≤ (n : Int) := by
      intro n hn
      rcases hn with hn | hn
      · rcases a1 with ⟨_, h⟩ | ⟨m, rfl, h1, h2⟩
        · exact absurd (by rw [g1]; exact hn) (h n)
        · refine ⟨(m : Int), by simp, ?_⟩
          rcases Nat.lt_or_ge n m with z | z
          · exact absurd (by rw [g1]; exact hn) (h2 n z)
          · omega
      · rcases a2 with ⟨_, h⟩ | ⟨m, rfl, h1, h2⟩
        · exact absurd (by rw [g2]; exact hn) (h n)
        · refine ⟨(m : Int), by cases o1 <;> simp, ?_⟩
          rcases Nat.lt_or_ge n m with z | z
          · exact absurd (by rw [g2]; exact hn) (h2 n z)
          · omega
    have has : ∀ z, z ∈ [o1, o2].filterMap id → ∃ n : Nat, z = (n : Int) ∧ OverI (fun n => gapI bs cs x y ((n : Nat) : Int)) bd n := by
      intro z hz
      obtain ⟨o, ho, e⟩ := List.mem_filterMap.mp hz
      have e' : o = some z := e
      subst e'
      simp only [List.mem_cons, List.not_mem_nil, or_false] at ho
      rcases ho with ho | ho
      · subst ho
        rcases a1 with ⟨h, _⟩ | ⟨m, h, h1, _⟩
        · cases h
        · rw [g1] at h1
          exact ⟨m, Option.some.inj h, .inl h1⟩
      · subst ho
        rcases a2 with ⟨h, _⟩ | ⟨m, h, h1, _⟩
        · cases h
        · rw [g2] at h1
          exact ⟨m, Option.some.inj h, .inr h1⟩
    refine ⟨D2, _, rfl, rfl, SqL.lst eD2, fun e => ?_, fun m hm hle => ?_⟩
    · refine k1 (fun n hn => ?_) H4 s14
      obtain ⟨z, hz, _⟩ := key n hn
      rw [e] at hz
      cases hz
    · obtain ⟨n, rfl, hn⟩ := has m hm
      refine k2 n hn (fun m' hm' hn' => ?_) H4 s14
      obtain ⟨z, hz, hz2⟩ := key m' hn'
      have := hle z hz
      omega
end
end LM

set_option Elab.async false
set_option linter.all false
set_option maxRecDepth 100000
set_option maxHeartbeats 4000000
set_option pp.maxSteps 600
set_option pp.deepTerms false
namespace LM
open PySem PySem.Spec PyProof.Rows L2 RZ
local macro_rules | `(tactic| walk_at "hp") => `(tactic| first | assumption | exact upd_same | (rw [upd_ne (by assumption)]; assumption) | (rw [upd_ne (Ne.symm (by assumption))]; assumption) | (rw [upd_ne (by assumption)]; exact upd_same) | (rw [upd_ne (Ne.symm (by assumption))]; exact upd_same))
local macro_rules | `(tactic| walk_at "sq") => `(tactic| first | assumption | exact Or.inl (Or.inl (by assumption)) | exact Or.inl (Or.inl upd_same) | exact Or.inl (Or.inl (by walk_at "hp")))
local macro_rules | `(tactic| walk_at "ixl") => `(tactic| refine ⟨_, _, _, _, rfl, rfl, (by walk_at "sq"), (by rfl), ?_⟩)
local macro_rules | `(tactic| walk_at "setl") => `(tactic| refine ⟨_, _, _, _, rfl, rfl, (by walk_at "hp"), (by rfl), ?_⟩)
local macro_rules | `(tactic| walk_at "side") => `(tactic| refine idP ?_; first | omega | (show (0 : Int) < _; omega) | (show (0 : Int) < _ ∧ _ < _; omega) | (refine Or.inr ?_; show (-(2 ^ 64) : Int) < _ ∧ _ < _; omega) | (refine Or.inl ?_; show (-(2 ^ 64) : Int) < _ ∧ _ < _; omega) | exact divW (by omega) (by omega) _ | (refine ⟨by decide, by decide, ?_⟩; decide))
local macro_rules | `(tactic| walk_at "go1") => `(tactic| first
  | refine ⟨_, rfl, ?_⟩
  | refine ⟨_, _, rfl, rfl, (by walk_at "side"), ?_⟩
  | refine ⟨_, _, rfl, (by walk_at "side"), ?_⟩
  | refine ⟨_, _, rfl, rfl, ?_⟩
  | refine Or.inl ⟨_, rfl, ?_⟩
  | refine ⟨_, _, rfl, Or.inl (by walk_at "sq"), ?_⟩
  | walk_at "ixl"
  | walk_at "setl"
  | refine ⟨_, _, rfl, (by walk_at "sq"), rfl, ?_⟩
  | refine ⟨_, _, rfl, (by walk_at "sq"), ?_⟩
  | refine ⟨_, _, rfl, ?_⟩
  | refine ⟨rfl, ?_⟩
  | refine ⟨small (Nat.le_of_ble_eq_true rfl), ?_⟩)
local macro_rules | `(tactic| walk_at "go") => `(tactic| repeat walk_at "go1")

abbrev sInvalidPace__init_ : Stmt := inClass (topS 10) 0
theorem scInvalidPace__init_ : FnScope ["self", "given"] ["self", "given"] (defScope sInvalidPace__init_) := ⟨rfl, rfl, rfl, by decide +kernel, rfl, by decide +kernel, by decide +kernel⟩
abbrev sInvalidBound__init_ : Stmt := inClass (topS 11) 0
theorem scInvalidBound__init_ : FnScope ["self", "given"] ["self", "given"] (defScope sInvalidBound__init_) := ⟨rfl, rfl, rfl, by decide +kernel, rfl, by decide +kernel, by decide +kernel⟩
def paceB (xs : List V) : Bool := decide (xs.length = 2) && (xs.map fun v => inB (numV v) 1 1000000).all id
/-- a value that is a number, or of another kind, in any heap -/
def NumC (K : PySem.W.Frag) (v : V) : Prop := ∀ H, NumK K H v
theorem numC_int {K : PySem.W.Frag} (n : Int) : NumC K (.int n) := fun _ => .inl ⟨n, rfl⟩
theorem numC_bl {K : PySem.W.Frag} (b : Bool) : NumC K (.bl b) := fun _ => .inr ⟨"bool", ⟨.base (.bl b), by decide⟩, by decide⟩
theorem numC_str {K : PySem.W.Frag} (x : Str) : NumC K (.str x) := fun _ => .inr ⟨"str", ⟨.base (.str x), by decide⟩, by decide⟩
def boundB : List V → Bool
  | [u, v] => posB (numV u) && (match numV u, numV v with
    | some a, some b => decide (1 ≤ b) && decide (Nat.gcd a.natAbs b.natAbs ≤ 1)
    | _, _ => false)
  | _ => false
/-- a value that is judged by its items, where it is a tuple: good by b or not -/
def spJudge (K : PySem.W.Frag) (CE : Addr) (b : List V → Bool) : Sp := fun vs H Q E => ∃ y, vs = [y] ∧ (((∃ T, Kind K H y T ∧ T ≠ "tuple") ∧ RaiseQ CE "given" y H E) ∨ ∃ (l : Addr) (xs : List V), y = .ref l ∧ SqT K H l xs ∧ xs.length ≤ 10 ∧ (∀ v ∈ xs, NumC K v) ∧ (b xs = true → ∀ H', Same H H' → Q .non H') ∧ (b xs = false → RaiseQ CE "given" y H E))
section
variable {P : Program} {w : World} {K : PySem.W.Frag} {mg : Str → Option Value} {base : Heap}
theorem ok_epace {f C W : Addr} {fd : FuncData} (F : Fun K "__init__" "InvalidPace.__init__" sInvalidPace__init_ f fd) (B : BaseC K W) (gW : mg "WrongValue" = some (.ref W)) (T : OexC K C) (no : PySem.W.findIn K (.ref C) "given" = some none) : FnOk P w K mg base CX0 1 f fd ["self", "given"] (spExI K C "given") := by
  have sc := scInvalidPace__init_
  refine F.ok sc (fun vs H Q E h => exi_read h) (fun cdv A outer s H vs Q E hr h => ?_)
  obtain ⟨a, y, rfl, ha, k⟩ := h
  refine ⟨_, (pss_cons (ps_expr (pe_cinit B rfl gW (pa_cons (pv 0) (pa_cons pe_str pa_nil)))) (pss_one (ps_ost (pv 0) (pv 1)))), ?_⟩
  refine ⟨_, rfl, a, C, _, rfl, Nat.le_of_ble_eq_true rfl, T, ha, ?_⟩
  exact ⟨_, rfl, _, rfl, a, C, rfl, T, no, .inl ⟨ha, k⟩⟩
theorem ok_ebound {f C W : Addr} {fd : FuncData} (F : Fun K "__init__" "InvalidBound.__init__" sInvalidBound__init_ f fd) (B : BaseC K W) (gW : mg "WrongValue" = some (.ref W)) (T : OexC K C) (no : PySem.W.findIn K (.ref C) "given" = some none) : FnOk P w K mg base CX0 1 f fd ["self", "given"] (spExI K C "given") := by
  have sc := scInvalidBound__init_
  refine F.ok sc (fun vs H Q E h => exi_read h) (fun cdv A outer s H vs Q E hr h => ?_)
  obtain ⟨a, y, rfl, ha, k⟩ := h
  refine ⟨_, (pss_cons (ps_expr (pe_cinit B rfl gW (pa_cons (pv 0) (pa_cons pe_str pa_nil)))) (pss_one (ps_ost (pv 0) (pv 1)))), ?_⟩
  refine ⟨_, rfl, a, C, _, rfl, Nat.le_of_ble_eq_true rfl, T, ha, ?_⟩
  exact ⟨_, rfl, _, rfl, a, C, rfl, T, no, .inl ⟨ha, k⟩⟩
theorem RaiseQ.on {C : Addr} {f : Str} {y : V} {H H' : Hp} {E : XK} (h : RaiseQ C f y H E) (s : Same H H') : RaiseQ C f y H' E := h.same s
theorem ok_chkpaceG {f CP : Addr} {fd : FuncData} (F : Fun K "check_pace" "check_pace" scheck_pace f fd) (N : Names mg) (hc : ∃ t, mg "GREATEST_IN_PACE" = some (.int 1000000 t)) (EP : ErrC P w K mg base "InvalidPace" CP "given") (Dis_integer_within : DefK P w K mg base "is_integer_within" ["value", "low", "high"] 2 (spWithinG K)) : FnOk P w K mg base (L2.CX P w) 3 f fd ["given"] (spJudge K CP paceB) := by
  have sc := sccheck_pace
  refine F.okX sc (fun vs H Q E h => ?_) (fun cdv A outer s H vs Q E hr h => ?_)
  · obtain ⟨y, rfl, _⟩ := h
    rfl
  · obtain ⟨y, rfl, h⟩ := h
    refine ⟨_, (pss_cons (ps_if (PW.pt (pw_or (pt_not (pt_val (pe_callB call_isi (by rfl) N.isinstance (by decide +kernel) (pa_cons (pv 0) (pa_cons (pe_ty "tuple" rfl N.tuple (by decide +kernel)) pa_nil))))) (pw_or1 (pt_cmpR op_ne (pe_callB call_len_seq (by rfl) N.len (by decide +kernel) (pa_cons (pv 0) pa_nil)) pe_int (nomark _))))) (pss_one (ps_raise rfl (takes_of rfl rfl rfl rfl) (pmk_err EP (hr.mono (by decide)) rfl (pv 0)))) pss_nil)
      (pss_one (ps_if (pt_not (pt_val (pe_callB (cr_all rfl) (by rfl) N.all (by decide +kernel) (pa_cons (pe_lc (own := [("number", 1)]) rfl sc.nd (pi_tup (pv 0)) (blkOk_by (own := [("number", 1)]) (N := ["given", "number"]) (sc := defScope (topS 63)) (by decide +kernel)) (fun _ _ _ _ _ => (pg_name (i := 1) sc.nd rfl (Or.inl rfl))) (fun _ _ _ _ _ => pts_nil) (fun _ _ _ _ _ => (pe_d Dis_integer_within (hr.mono (by decide)) rfl (pa_cons (pv 1) (pa_cons pe_int (pa_cons (pe_const rfl hc) pa_nil)))))) pa_nil)))) (pss_one (ps_raise rfl (takes_of rfl rfl rfl rfl) (pmk_err EP (hr.mono (by decide)) rfl (pv 0)))) pss_nil))), ?_⟩
    have bad : ∀ {H' : Hp}, RaiseQ CP "given" y H' E → True := fun _ => trivial
    rcases h with ⟨⟨T', hk, hn⟩, k⟩ | ⟨l, xs, rfl, hx, hl, hi, k1, k2⟩
    · refine ⟨_, rfl, _, _, _, _, _, rfl, .ty _, hk.1, kind_tuple hk.2, _, rfl, ?_⟩
      rw [decide_eq_false hn]
      refine iteT ?_
      refine iteT ?_
      exact ⟨_, rfl, Nat.le_of_ble_eq_true rfl, fun a ha => made_read (fun d H' s n e => k d H' s n e) a ha⟩
    · refine ⟨_, rfl, _, _, _, _, _, rfl, .ty _, tyT hx, kit_ty (r := true) (by decide +kernel), _, rfl, ?_⟩
      refine iteF ?_
      refine ⟨_, rfl, l, _, rfl, .inr hx, rfl, _, rfl, ?_⟩
      have no : paceB xs = false → ∀ H', Same H H' → RaiseQ CP "given" (.ref l) H' E := fun z H' s => (k2 z).same s
      refine ifN (fun hd' => ?_) (fun hd' => ?_)
      · refine ⟨_, rfl, Nat.le_of_ble_eq_true rfl, fun a ha => made_read (fun d H' s n e => k2 ?_ d H' s n e) a ha⟩
        unfold paceB
        rw [decide_eq_false (fun z => hd' (by rw [z]; rfl)), Bool.false_and]
      have h2 : xs.length = 2 := by
        injection hd' with h3
        omega
      refine ⟨_, rfl, l, rfl, ⟨_, hx⟩, ?_⟩
      intro D nD
      refine lc_tup (K := K) (xs := xs) (fun i H' => Same H H' ∧ H' D = some (.lst (((xs.take i).map fun v => inB (numV v) 1 1000000).map V.bl))) ⟨same_new nD, upd_same⟩ (fun i H' _ ⟨s, _⟩ => Same.seqT s hx) ?_ ?_
      · rintro i x H' hxi ⟨sm, eD⟩
        have hil : i < 2 := by rw [← h2]; exact (List.getElem?_eq_some_iff.mp hxi).1
        refine ⟨rfl, ?_⟩
        refine ⟨_, rfl, x, 1, 1000000, rfl, hi x (List.mem_of_getElem? hxi) H', _, eD, smallLt (by rw [List.length_map, List.length_map, List.length_take]; omega), same_mut sm nD, ?_⟩
        rw [upd_same, List.take_add_one, hxi, List.map_append, List.map_append]
        rfl
      · rintro H' ⟨sm, eD⟩
        rw [List.take_length] at eD
        refine ⟨D, _, rfl, SqL.lst eD, ?_⟩
        have e : ((xs.map fun v => inB (numV v) 1 1000000)).all id = paceB xs := by
          unfold paceB
          rw [h2, decide_eq_true rfl, Bool.true_and]
        rw [e]
        refine ⟨_, rfl, ?_⟩
        cases hb : paceB xs with
        | true => exact iteF (k1 hb H' sm)
        | false =>
          refine iteT ?_
          exact ⟨_, rfl, Nat.le_of_ble_eq_true rfl, fun a ha => made_read (fun d H2 s n e => no hb H' sm d H2 s n e) a ha⟩
theorem ok_chkboundG {f CB : Addr} {fd : FuncData} (F : Fun K "check_bound" "check_bound" scheck_bound f fd) (N : Names mg) (hgc : mg "gcd" = some (.builtin "math.gcd")) (EB : ErrC P w K mg base "InvalidBound" CB "given") (Dis_integer : DefK P w K mg base "is_integer" ["value"] 1 (spIsIntG K)) (Dis_number : DefK P w K mg base "is_number" ["value"] 2 (spIsNumG K)) : FnOk P w K mg base (L2.CX P w) 3 f fd ["given"] (spJudge K CB boundB) := by
  have sc := sccheck_bound
  refine F.okX sc (fun vs H Q E h => ?_) (fun cdv A outer s H vs Q E hr h => ?_)
  · obtain ⟨y, rfl, _⟩ := h
    rfl
  · obtain ⟨y, rfl, h⟩ := h
    refine ⟨_, (pss_cons (ps_if (PW.pt (pw_or (pt_not (pt_val (pe_callB call_isi (by rfl) N.isinstance (by decide +kernel) (pa_cons (pv 0) (pa_cons (pe_ty "tuple" rfl N.tuple (by decide +kernel)) pa_nil))))) (pw_or1 (pt_cmpR op_ne (pe_callB call_len_seq (by rfl) N.len (by decide +kernel) (pa_cons (pv 0) pa_nil)) pe_int (nomark _))))) (pss_one (ps_raise rfl (takes_of rfl rfl rfl rfl) (pmk_err EB (hr.mono (by decide)) rfl (pv 0)))) pss_nil)
      (pss_cons (ps_asg (pv 0) (pg_tup rfl (pgs_cons (pg_name (i := 1) sc.nd rfl (Or.inl rfl)) (pgs_cons (pg_name (i := 2) sc.nd rfl (Or.inl rfl)) pgs_nil))))
      (pss_one (ps_if (PW.pt (pw_or (pt_not (pt_val (pe_d Dis_number (hr.mono (by decide)) rfl (pa_cons (pv 1) pa_nil)))) (pw_or (pt_not (pt_val (pe_d Dis_integer (hr.mono (by decide)) rfl (pa_cons (pv 2) pa_nil)))) (pw_or (pt_cmpR op_lt (pv 2) pe_int (nomark _)) (pw_or1 (pt_cmpR op_gt (pe_callBfun cr_gcd (by rfl) hgc (pa_cons (pv 1) (pa_cons (pv 2) pa_nil))) pe_int (nomark _))))))) (pss_one (ps_raise rfl (takes_of rfl rfl rfl rfl) (pmk_err EB (hr.mono (by decide)) rfl (pv 0)))) pss_nil)))), ?_⟩
    rcases h with ⟨⟨T', hk, hn⟩, k⟩ | ⟨l, xs, rfl, hx, hl, hi, k1, k2⟩
    · refine ⟨_, rfl, _, _, _, _, _, rfl, .ty _, hk.1, kind_tuple hk.2, _, rfl, ?_⟩
      rw [decide_eq_false hn]
      refine iteT ?_
      refine iteT ?_
      exact ⟨_, rfl, Nat.le_of_ble_eq_true rfl, fun a ha => made_read (fun d H' s n e => k d H' s n e) a ha⟩
    · refine ⟨_, rfl, _, _, _, _, _, rfl, .ty _, tyT hx, kit_ty (r := true) (by decide +kernel), _, rfl, ?_⟩
      refine iteF ?_
      refine ⟨_, rfl, l, _, rfl, .inr hx, rfl, _, rfl, ?_⟩
      refine ifN (fun hd' => ?_) (fun hd' => ?_)
      · refine ⟨_, rfl, Nat.le_of_ble_eq_true rfl, fun a ha => made_read (fun d H' s n e => k2 ?_ d H' s n e) a ha⟩
        match xs, hd' with
        | [], _ => rfl
        | [_], _ => rfl
        | [_, _], h => exact absurd rfl h
        | _ :: _ :: _ :: _, _ => rfl
      have h2 : xs.length = 2 := by
        injection hd' with h3
        omega
      match xs, h2, hx, hi, k1, k2 with
      | [u, v], _, hx, hi, k1, k2 =>
        have hu := hi u List.mem_cons_self
        have hv := hi v (List.mem_cons_of_mem _ List.mem_cons_self)
        refine ⟨_, rfl, l, _, rfl, hx, rfl, _, _, rfl, _, _, rfl, rfl, ?_⟩
        refine ⟨_, rfl, u, rfl, hu H, _, rfl, ?_⟩
        cases hp : posB (numV u) with
        | false =>
          refine iteT ?_
          refine iteT ?_
          exact ⟨_, rfl, Nat.le_of_ble_eq_true rfl, fun a ha => made_read (fun d H' s n e => k2 (by show (posB (numV u) && _) = false; rw [hp, Bool.false_and]) d H' s n e) a ha⟩
        | true =>
          obtain ⟨a, rfl, a0⟩ : ∃ a, u = .int a ∧ 0 ≤ a := by
            cases u with
            | int a => exact ⟨a, rfl, of_decide_eq_true hp⟩
            | _ => cases hp
          refine iteF ?_
          refine ⟨_, rfl, v, rfl, hv H, _, rfl, ?_⟩
          cases hq : numV v with
          | none =>
            refine iteT ?_
            refine iteT ?_
            have nb : boundB [.int a, v] = false := by
              show (posB (numV (.int a)) && (match numV (.int a), numV v with | some a, some b => decide (1 ≤ b) && decide (Nat.gcd a.natAbs b.natAbs ≤ 1) | _, _ => false)) = false
              rw [hq]
              exact Bool.and_false _
            exact ⟨_, rfl, Nat.le_of_ble_eq_true rfl, fun a' ha => made_read (fun d H' s n e => k2 nb d H' s n e) a' ha⟩
          | some b =>
            obtain rfl : v = .int b := by
              cases v with
              | int c => exact congrArg V.int (Option.some.inj hq)
              | _ => cases hq
            refine iteF ?_
            refine ⟨_, rfl, _, _, rfl, rfl, _, rfl, ?_⟩
            have eb : boundB [.int a, .int b] = (decide (1 ≤ b) && decide (Nat.gcd a.natAbs b.natAbs ≤ 1)) := by
              show (posB (numV (.int a)) && (decide (1 ≤ b) && decide (Nat.gcd a.natAbs b.natAbs ≤ 1))) = _
              rw [hp, Bool.true_and]
            refine ifD (fun hd => ?_) (fun hd => ?_)
            · refine iteT ?_
              exact ⟨_, rfl, Nat.le_of_ble_eq_true rfl, fun a' ha => made_read (fun d H' s n e => k2 (by rw [eb, decide_eq_false (show ¬ 1 ≤ b by omega), Bool.false_and]) d H' s n e) a' ha⟩
            refine ⟨_, rfl, _, rfl, a, b, rfl, _, _, rfl, rfl, _, rfl, ?_⟩
            refine ifD (fun hg => ?_) (fun hg => ?_)
            · exact ⟨_, rfl, Nat.le_of_ble_eq_true rfl, fun a' ha => made_read (fun d H' s n e => k2 (by rw [eb, decide_eq_false (show ¬ Nat.gcd a.natAbs b.natAbs ≤ 1 by omega), Bool.and_false]) d H' s n e) a' ha⟩
            · exact k1 (by rw [eb, decide_eq_true (show 1 ≤ b by omega), decide_eq_true (show Nat.gcd a.natAbs b.natAbs ≤ 1 by omega)]; rfl) H (Same.refl H)
end
end LM

set_option Elab.async false
set_option linter.all false
set_option maxRecDepth 100000
set_option maxHeartbeats 4000000
set_option pp.maxSteps 600
set_option pp.deepTerms false
namespace LM
open PySem PySem.Spec PyProof.Rows L2 RZ
local macro_rules | `(tactic| walk_at "hp") => `(tactic| first | assumption | exact upd_same | (rw [upd_ne (by assumption)]; assumption) | (rw [upd_ne (Ne.symm (by assumption))]; assumption) | (rw [upd_ne (by assumption)]; exact upd_same) | (rw [upd_ne (Ne.symm (by assumption))]; exact upd_same))
local macro_rules | `(tactic| walk_at "sq") => `(tactic| first | assumption | exact Or.inl (Or.inl (by assumption)) | exact Or.inl (Or.inl upd_same) | exact Or.inl (Or.inl (by walk_at "hp")))
local macro_rules | `(tactic| walk_at "ixl") => `(tactic| refine ⟨_, _, _, _, rfl, rfl, (by walk_at "sq"), (by rfl), ?_⟩)
local macro_rules | `(tactic| walk_at "setl") => `(tactic| refine ⟨_, _, _, _, rfl, rfl, (by walk_at "hp"), (by rfl), ?_⟩)
local macro_rules | `(tactic| walk_at "side") => `(tactic| refine idP ?_; first | omega | (show (0 : Int) < _; omega) | (show (0 : Int) < _ ∧ _ < _; omega) | (refine Or.inr ?_; show (-(2 ^ 64) : Int) < _ ∧ _ < _; omega) | (refine Or.inl ?_; show (-(2 ^ 64) : Int) < _ ∧ _ < _; omega) | exact divW (by omega) (by omega) _ | (refine ⟨by decide, by decide, ?_⟩; decide))
local macro_rules | `(tactic| walk_at "go1") => `(tactic| first
  | refine ⟨_, rfl, ?_⟩
  | refine ⟨_, _, rfl, rfl, (by walk_at "side"), ?_⟩
  | refine ⟨_, _, rfl, (by walk_at "side"), ?_⟩
  | refine ⟨_, _, rfl, rfl, ?_⟩
  | refine Or.inl ⟨_, rfl, ?_⟩
  | refine ⟨_, _, rfl, Or.inl (by walk_at "sq"), ?_⟩
  | walk_at "ixl"
  | walk_at "setl"
  | refine ⟨_, _, rfl, (by walk_at "sq"), rfl, ?_⟩
  | refine ⟨_, _, rfl, (by walk_at "sq"), ?_⟩
  | refine ⟨_, _, rfl, ?_⟩
  | refine ⟨rfl, ?_⟩
  | refine ⟨small (Nat.le_of_ble_eq_true rfl), ?_⟩)
local macro_rules | `(tactic| walk_at "go") => `(tactic| repeat walk_at "go1")

def BadJ (K : PySem.W.Frag) (b : List V → Bool) (H : Hp) (y : V) : Prop := (∃ T, Kind K H y T ∧ T ≠ "tuple") ∨ ∃ (l : Addr) (xs : List V), y = .ref l ∧ SqT K H l xs ∧ xs.length ≤ 10 ∧ (∀ v ∈ xs, NumC K v) ∧ b xs = false
def GoodJ (K : PySem.W.Frag) (b : List V → Bool) (H : Hp) (y : V) : Prop := ∃ (l : Addr) (xs : List V), y = .ref l ∧ SqT K H l xs ∧ xs.length ≤ 10 ∧ (∀ v ∈ xs, NumC K v) ∧ b xs = true
theorem judge_bad {K : PySem.W.Frag} {CE : Addr} {b : List V → Bool} {H : Hp} {y : V} {Q : VK} {E : XK} {vs : List V} (hv : vs = [y]) (h : BadJ K b H y) (k : RaiseQ CE "given" y H E) : spJudge K CE b vs H Q E := by
  subst hv
  rcases h with h | ⟨l, xs, h1, h2, h3, h4, h5⟩
  · exact ⟨y, rfl, .inl ⟨h, k⟩⟩
  · exact ⟨y, rfl, .inr ⟨l, xs, h1, h2, h3, h4, (fun z => by rw [h5] at z; cases z), fun _ => k⟩⟩
theorem judge_good {K : PySem.W.Frag} {CE : Addr} {b : List V → Bool} {H : Hp} {y : V} {Q : VK} {E : XK} {vs : List V} (hv : vs = [y]) (h : GoodJ K b H y) (k : ∀ H', Same H H' → Q .non H') : spJudge K CE b vs H Q E := by
  subst hv
  obtain ⟨l, xs, h1, h2, h3, h4, h5⟩ := h
  exact ⟨y, rfl, .inr ⟨l, xs, h1, h2, h3, h4, fun _ => k, (fun z => by rw [h5] at z; cases z)⟩⟩
def HouseV (C : Addr) (H : Hp) (h : V) : Prop := ∃ (a dx : Addr) (fs : List (Str × V)), h = .ref a ∧ H a = some (.ins C dx fs)
/-- why a question to a house and a pace is refused: by the house, by the pace, or by what comes third -/
def Refused (K : PySem.W.Frag) (C CH CP : Addr) (h p : V) (H : Hp) (E : XK) (third : Prop) : Prop := ((∃ T, Kind K H h T) ∧ RaiseQ CH "given" h H E) ∨ (HouseV C H h ∧ ((BadJ K paceB H p ∧ RaiseQ CP "given" p H E) ∨ (GoodJ K paceB H p ∧ third)))
def spDriftX (K : PySem.W.Frag) (C CH CP CN : Addr) : Sp := fun vs H _ E => ∃ h p n, vs = [h, p, n] ∧ Refused K C CH CP h p H E ((∀ H', Same H H' → NumK K H' n) ∧ posB (numV n) = false ∧ RaiseQ CN "given" n H E)
def spSwingX (K : PySem.W.Frag) (C CH CP : Addr) : Sp := fun vs H _ E => ∃ h p, vs = [h, p] ∧ Refused K C CH CP h p H E False
def spBeyondX (K : PySem.W.Frag) (C CH CP CB : Addr) : Sp := fun vs H _ E => ∃ h p b, vs = [h, p, b] ∧ Refused K C CH CP h p H E ((∀ H', Same H H' → BadJ K boundB H' b) ∧ RaiseQ CB "given" b H E)
section
variable {P : Program} {w : World} {K : PySem.W.Frag} {mg : Str → Option Value} {base : Heap}
theorem ok_driftX {f C CH CP CN : Addr} {fd : FuncData} (F : Fun K "drift" "drift" sdrift f fd) (Xh : DefX P w K mg base "check_house" ["given"] 3 (spChkHouseG K C CH)) (Xp : DefX P w K mg base "check_pace" ["given"] 3 (spJudge K CP paceB)) (Xn : DefX P w K mg base "check_number" ["given"] 3 (spChkNumX K CN))
    (Dgap_at : DefK P w K mg base "gap_at" ["house", "pace", "frame"] 5 (spGapAt K C)) (Ddrift_of_gap : DefK P w K mg base "drift_of_gap" ["house", "pace", "gap"] 3 (spDriftOf K C)) : FnOk P w K mg base (L2.CX P w) 6 f fd ["house", "pace", "frame"] (spDriftX K C CH CP CN) := by
  have sc := scdrift
  refine F.okX sc (fun vs H Q E h => ?_) (fun cdv A outer s H vs Q E hr h => ?_)
  · obtain ⟨_, _, _, rfl, _⟩ := h
    rfl
  · obtain ⟨h, p, n, rfl, hR⟩ := h
    refine ⟨_, (pss_cons (ps_expr (pe_dX (E := E) Xh (hr.mono (by decide)) rfl (passes_call (takes_of rfl rfl rfl rfl) (fun _ _ _ _ h => h)) (pa_cons (pv 0) pa_nil)))
      (pss_cons (ps_expr (pe_dX (E := E) Xp (hr.mono (by decide)) rfl (passes_call (takes_of rfl rfl rfl rfl) (fun _ _ _ _ h => h)) (pa_cons (pv 1) pa_nil)))
      (pss_cons (ps_expr (pe_dX (E := E) Xn (hr.mono (by decide)) rfl (passes_call (takes_of rfl rfl rfl rfl) (fun _ _ _ _ h => h)) (pa_cons (pv 2) pa_nil)))
      (pss_one (ps_ret (pe_d Ddrift_of_gap (hr.mono (by decide)) rfl (pa_cons (pv 0) (pa_cons (pv 1) (pa_cons (pe_d Dgap_at (hr.mono (by decide)) rfl (pa_cons (pv 0) (pa_cons (pv 1) (pa_cons (pv 2) pa_nil)))) pa_nil))))))))), ?_⟩
    rcases hR with ⟨hk, k⟩ | ⟨⟨a, dx, fs, rfl, e⟩, ⟨hb, k⟩ | ⟨hg, hn, hp, k⟩⟩
    · exact ⟨_, rfl, _, rfl, .inr ⟨hk, k⟩⟩
    · refine ⟨_, rfl, _, rfl, .inl ⟨a, dx, fs, rfl, e, _, rfl, ?_⟩⟩
      dsimp only [tNil]
      exact judge_bad rfl hb k
    · refine ⟨_, rfl, _, rfl, .inl ⟨a, dx, fs, rfl, e, _, rfl, ?_⟩⟩
      dsimp only [tNil]
      exact judge_good rfl hg fun H1 s1 => ⟨_, rfl, n, rfl, hn H1 s1, (fun z => by rw [hp] at z; cases z), fun _ => k.same s1⟩
theorem ok_swingX {f C CH CP : Addr} {fd : FuncData} (F : Fun K "swing" "swing" sswing f fd) (T : HouseTxt K mg C) (N : Names mg) (Xh : DefX P w K mg base "check_house" ["given"] 3 (spChkHouseG K C CH)) (Xp : DefX P w K mg base "check_pace" ["given"] 3 (spJudge K CP paceB))
    (Dgap_of_round : DefK P w K mg base "gap_of_round" ["house", "pace"] 3 (spGapRound K C)) (Dends_of_groups : DefK P w K mg base "ends_of_groups" ["house"] 3 (spEnds K C))
    (Dgap_at : DefK P w K mg base "gap_at" ["house", "pace", "frame"] 5 (spGapAt K C)) (Ddrift_of_gap : DefK P w K mg base "drift_of_gap" ["house", "pace", "gap"] 3 (spDriftOf K C)) : FnOk P w K mg base (L2.CX P w) 6 f fd ["house", "pace"] (spSwingX K C CH CP) := by
  have sc := scswing
  refine F.okX sc (fun vs H Q E h => ?_) (fun cdv A outer s H vs Q E hr h => ?_)
  · obtain ⟨_, _, rfl, _⟩ := h
    rfl
  · obtain ⟨h, p, rfl, hR⟩ := h
    refine ⟨_, (pss_cons (ps_expr (pe_dX (E := E) Xh (hr.mono (by decide)) rfl (passes_call (takes_of rfl rfl rfl rfl) (fun _ _ _ _ h => h)) (pa_cons (pv 0) pa_nil)))
      (pss_cons (ps_expr (pe_dX (E := E) Xp (hr.mono (by decide)) rfl (passes_call (takes_of rfl rfl rfl rfl) (fun _ _ _ _ h => h)) (pa_cons (pv 1) pa_nil)))
      (pss_cons (ps_if (pt_cmpR op_ne (pe_d Dgap_of_round (hr.mono (by decide)) rfl (pa_cons (pv 0) (pa_cons (pv 1) pa_nil))) pe_int (nomark _)) (pss_one (ps_ret pe_non)) pss_nil)
      (pss_cons (ps_setLc2 (i := 2) (own := [("ends", 6), ("frame", 7)]) (vs1 := [7]) rfl sc.nd rfl rfl (sw_true rfl rfl rfl (by decide +kernel)) (pi_list (pe_d Dends_of_groups (hr.mono (by decide)) rfl (pa_cons (pv 0) pa_nil))) (blkOk_by (own := [("ends", 6), ("frame", 7)]) (N := ["house", "pace", "frames", "gaps", "least", "greatest", "ends", "frame"]) (sc := defScope (topS 70)) (by decide +kernel)) (by decide) (fun _ _ _ _ _ => (pg_name (i := 6) sc.nd rfl (Or.inl rfl))) (fun _ _ _ _ _ => pts_nil) (fun _ _ _ _ _ => (show PI _ _ _ (iTup K _) from (pi_tup (pv 6)))) (fun _ _ _ _ _ => (pg_name (i := 7) sc.nd rfl (Or.inl rfl))) (fun _ _ _ _ _ => pts_nil) (fun _ _ _ _ _ => (pv 7)))
      (pss_cons (ps_setLc (i := 3) (own := [("frame", 7)]) rfl sc.nd rfl rfl (sw_true rfl rfl rfl (by decide +kernel)) (pi_list (pv 2)) (blkOk_by (own := [("frame", 7)]) (N := ["house", "pace", "frames", "gaps", "least", "greatest", "ends", "frame"]) (sc := defScope (topS 70)) (by decide +kernel)) (fun _ _ _ _ _ => (pg_name (i := 7) sc.nd rfl (Or.inl rfl))) (fun _ _ _ _ _ => pts_nil) (fun _ _ _ _ _ => (pe_d Dgap_at (hr.mono (by decide)) rfl (pa_cons (pv 0) (pa_cons (pv 1) (pa_cons (pv 7) pa_nil))))))
      (pss_cons (ps_par (i := 4) (j := 5) rfl sc.nd rfl rfl (by decide) rfl rfl (pa_cons (pe_callB (cr_min rfl) (by rfl) N.min (by decide +kernel) (pa_cons (pv 3) pa_nil)) (pa_cons (pe_callB (cr_max rfl) (by rfl) N.max (by decide +kernel) (pa_cons (pv 3) pa_nil)) pa_nil)) (by rfl))
      (pss_one (ps_ret (pe_tup (pa_cons (pe_d Ddrift_of_gap (hr.mono (by decide)) rfl (pa_cons (pv 0) (pa_cons (pv 1) (pa_cons (pv 4) pa_nil)))) (pa_cons (pe_ix ix_list (pv 2) (pe_bm PySem.F.plainAttrs_list PySem.F.slot_list_index PySem.F.type_list_index mt_index (pv 3) (pa_cons (pv 4) pa_nil)) (fun _ _ => rfl)) (pa_cons (pe_d Ddrift_of_gap (hr.mono (by decide)) rfl (pa_cons (pv 0) (pa_cons (pv 1) (pa_cons (pv 5) pa_nil)))) (pa_cons (pe_ix ix_list (pv 2) (pe_bm PySem.F.plainAttrs_list PySem.F.slot_list_index PySem.F.type_list_index mt_index (pv 3) (pa_cons (pv 5) pa_nil)) (fun _ _ => rfl)) pa_nil))))))))))))), ?_⟩
    rcases hR with ⟨hk, k⟩ | ⟨⟨a, dx, fs, rfl, e⟩, ⟨hb, k⟩ | ⟨_, z⟩⟩
    · exact ⟨_, rfl, _, rfl, .inr ⟨hk, k⟩⟩
    · refine ⟨_, rfl, _, rfl, .inl ⟨a, dx, fs, rfl, e, _, rfl, ?_⟩⟩
      dsimp only [tNil]
      exact judge_bad rfl hb k
    · exact z.elim
theorem ok_beyondX {f C CH CP CB fBs pBs : Addr} {fd fdBs : FuncData} (F : Fun K "first_beyond" "first_beyond" sfirst_beyond f fd) (T : HouseTxt K mg C) (N : Names mg)
    (qBs : PropOf K C "bases" pBs fBs) (GBs : FnOk P w K mg base CX0 1 fBs fdBs ["self"] (getSp C "_bases")) (bBs : Binds K fdBs ["self"] [])
    (Xh : DefX P w K mg base "check_house" ["given"] 3 (spChkHouseG K C CH)) (Xp : DefX P w K mg base "check_pace" ["given"] 3 (spJudge K CP paceB)) (Xb : DefX P w K mg base "check_bound" ["given"] 3 (spJudge K CB boundB)) (Dfirst_above : DefK P w K mg base "first_above" ["house", "pace", "sign", "bound"] 6 (spAbove K C)) : FnOk P w K mg base (L2.CX P w) 7 f fd ["house", "pace", "bound"] (spBeyondX K C CH CP CB) := by
  have sc := scfirst_beyond
  refine F.okX sc (fun vs H Q E h => ?_) (fun cdv A outer s H vs Q E hr h => ?_)
  · obtain ⟨_, _, _, rfl, _⟩ := h
    rfl
  · obtain ⟨h, p, n, rfl, hR⟩ := h
    have hu := hu_of hr
    refine ⟨_, (pss_cons (ps_expr (pe_dX (E := E) Xh (hr.mono (by decide)) rfl (passes_call (takes_of rfl rfl rfl rfl) (fun _ _ _ _ h => h)) (pa_cons (pv 0) pa_nil)))
      (pss_cons (ps_expr (pe_dX (E := E) Xp (hr.mono (by decide)) rfl (passes_call (takes_of rfl rfl rfl rfl) (fun _ _ _ _ h => h)) (pa_cons (pv 1) pa_nil)))
      (pss_cons (ps_expr (pe_dX (E := E) Xb (hr.mono (by decide)) rfl (passes_call (takes_of rfl rfl rfl rfl) (fun _ _ _ _ h => h)) (pa_cons (pv 2) pa_nil)))
      (pss_cons (ps_set (i := 3) sc.nd rfl (Or.inr rfl) (pe_op op_fdivW (pe_op op_mul (pe_op op_mul (pe_ix ix_tup (pv 2) pe_int (fun _ _ => rfl)) (pe_ix ix_tup (pe_prop (pv 0) T.cl qBs GBs (hr.mono (by decide)) bBs .nil pass0 rfl) (pe_un un_neg pe_int) (fun _ _ => rfl))) (pe_ix ix_tup (pv 1) pe_int (fun _ _ => rfl))) (pe_ix ix_tup (pv 2) pe_int (fun _ _ => rfl))))
      (pss_cons (ps_setLc (i := 4) (own := [("sign", 5)]) rfl sc.nd rfl rfl (sw_true rfl rfl rfl (by decide +kernel)) (pi_tup (pe_tup (pa_cons pe_int (pa_cons (pe_un un_neg pe_int) pa_nil)))) (blkOk_by (own := [("sign", 5)]) (N := ["house", "pace", "bound", "most", "found", "sign", "frame"]) (sc := defScope (topS 72)) (by decide +kernel)) (fun _ _ _ _ _ => (pg_name (i := 5) sc.nd rfl (Or.inl rfl))) (fun _ _ _ _ _ => pts_nil) (fun _ _ _ _ _ => (pe_d Dfirst_above (hr.mono (by decide)) rfl (pa_cons (pv 0) (pa_cons (pv 1) (pa_cons (pv 5) (pa_cons (pv 3) pa_nil)))))))
      (pss_one (ps_ret (pe_callBK (crk_minDf rfl (hu64 hr)) (by rfl) N.min (by decide +kernel) (pa_cons (pe_lc (own := [("frame", 6)]) rfl sc.nd (pi_list (pv 4)) (blkOk_by (own := [("frame", 6)]) (N := ["house", "pace", "bound", "most", "found", "sign", "frame"]) (sc := defScope (topS 72)) (by decide +kernel)) (fun _ _ _ _ _ => (pg_name (i := 6) sc.nd rfl (Or.inl rfl))) (fun _ _ _ _ _ => (pts_one (pt_cmpR op_notN (pv 6) pe_non (nomark _)))) (fun _ _ _ _ _ => (pv 6))) pa_nil) (pk_cons pe_non pk_nil))))))))), ?_⟩
    rcases hR with ⟨hk, k⟩ | ⟨⟨a, dx, fs, rfl, e⟩, ⟨hb, k⟩ | ⟨hg, hn, k⟩⟩
    · exact ⟨_, rfl, _, rfl, .inr ⟨hk, k⟩⟩
    · refine ⟨_, rfl, _, rfl, .inl ⟨a, dx, fs, rfl, e, _, rfl, ?_⟩⟩
      dsimp only [tNil]
      exact judge_bad rfl hb k
    · refine ⟨_, rfl, _, rfl, .inl ⟨a, dx, fs, rfl, e, _, rfl, ?_⟩⟩
      dsimp only [tNil]
      refine judge_good rfl hg fun H1 s1 => ⟨_, rfl, ?_⟩
      dsimp only [tNil]
      exact judge_bad rfl (hn H1 s1) (k.same s1)
end
end LM

set_option Elab.async false
set_option linter.all false
set_option maxRecDepth 100000
set_option maxHeartbeats 4000000
/-! two houses that a law names: 60, 60, 30 where two numbers are skipped nine times of ten; 2, 3 where one is skipped -/
namespace LM
open PySem PySem.Spec PyProof.Rows L2 RZ
def dropB : List Int := [60, 60, 30]
def dropR : List R3 := [(1, 1, 2), (1, 10, 0)]
def dropF (g : Nat) : Int := if g % 600 == 0 then 0 else if g % 60 == 0 then 2 else 0
def dropC : List Int := (List.range 600).map dropF
theorem drop_fair : Fair dropB dropR := ⟨by decide, by decide, by decide, by decide, fun x hx => by
  simp only [dropR, List.mem_cons, List.not_mem_nil, or_false] at hx
  rcases hx with rfl | rfl <;> (unfold RowOk; decide), by decide +kernel⟩
theorem drop_counts : countsP dropB dropR (groupsP dropB dropR) = (List.range 3600).map dropF := by decide +kernel
theorem drop_apart : (List.range 600).all (fun j => j == 0 || dropF (60 + j) != 2 || dropF (600 - j) != 0) = true := by decide +kernel
theorem drop_get {i : Nat} (h : i < 3600) : ((List.range 3600).map dropF)[i]? = some (dropF i) := by
  rw [List.getElem?_map, List.getElem?_range h]
  rfl
theorem drop_shift {k : Nat} (h : repOk ((List.range 3600).map dropF) k) (hk : k < 600) {i : Nat} (hi : i + k < 3600) : dropF (i + k) = dropF i := by
  obtain ⟨_, e⟩ := h
  have a := congrArg (fun l : List Int => l[i]?) e
  rw [List.getElem?_drop, List.length_map, List.length_range, List.getElem?_take_of_lt (by omega), Nat.add_comm k i, drop_get hi, drop_get (by omega)] at a
  exact Option.some.inj a
theorem drop_600 : repOk ((List.range 3600).map dropF) 600 := ⟨by decide +kernel, by decide +kernel⟩
theorem drop_rep {k : Nat} (h : RepIs ((List.range 3600).map dropF) k) : k = 600 := by
  obtain ⟨h1, h2, h3, h4⟩ := h
  rcases Nat.lt_trichotomy k 600 with z | z | z
  · exfalso
    have q := List.all_eq_true.mp drop_apart k (List.mem_range.mpr z)
    have a := drop_shift h3 z (i := 60) (by omega)
    have b := drop_shift h3 z (i := 600 - k) (by omega)
    rw [show 600 - k + k = 600 by omega] at b
    rw [show dropF 60 = 2 from rfl] at a
    rw [show dropF 600 = 0 from rfl] at b
    rw [a, ← b] at q
    simp at q
    omega
  · exact z
  · exact absurd drop_600 (h4 600 (by decide) z)
theorem drop_cs {cs : List Int} (h : ∃ k, RepIs (countsP dropB dropR (groupsP dropB dropR)) k ∧ cs = (countsP dropB dropR (groupsP dropB dropR)).take k) : cs = dropC := by
  obtain ⟨k, hk, e⟩ := h
  rw [drop_counts] at hk e
  rw [drop_rep hk] at e
  rw [e, ← List.map_take, List.take_range]
  rfl
theorem drop_sum : (borneP dropB dropC).sum = 17982 := by decide +kernel
theorem drop_len : dropC.length = 600 := by decide +kernel
theorem drop_at0 : lna (sumsP (borneP dropB dropC)) 0 = 0 ∧ dropC.getD 0 0 = 0 ∧ (sumsP (borneP dropB dropC)).getD 0 0 = 0 := by decide +kernel
theorem drop_far (m : Int) : placeP dropB dropC (17982 * m) = 18000 * m := by
  unfold placeP
  rw [drop_sum, drop_len, Int.mul_ediv_cancel_left m (by decide), Int.mul_emod_right, drop_at0.1, drop_at0.2.1, drop_at0.2.2]
  show (m * 600 + 0) * 30 + (0 + 0 - 0) = 18000 * m
  omega
theorem drop_some : placeP dropB dropC 0 = 0 ∧ placeP dropB dropC 1799 = 1799 ∧ placeP dropB dropC 1800 = 1802 ∧ placeP dropB dropC 17982 = 18000 := by decide +kernel
def smallB : List Int := [2, 3]
def smallR : List R3 := [(0, 1, 1)]
def smallC : List Int := [1, 0]
theorem small_fair : Fair smallB smallR := ⟨by decide, by decide, by decide, by decide, fun x hx => by rw [List.mem_singleton.mp hx]; unfold RowOk; decide, by decide +kernel⟩
theorem small_counts : countsP smallB smallR (groupsP smallB smallR) = [1, 0] := by decide +kernel
theorem small_cs {cs : List Int} (h : ∃ k, RepIs (countsP smallB smallR (groupsP smallB smallR)) k ∧ cs = (countsP smallB smallR (groupsP smallB smallR)).take k) : cs = smallC := by
  obtain ⟨k, hk, e⟩ := h
  rw [small_counts] at hk e
  obtain ⟨h1, h2, h3, _⟩ := hk
  have h2' : k ≤ 2 := h2
  have : k = 2 := by
    rcases Nat.lt_or_ge k 2 with z | z
    · exfalso
      obtain rfl : k = 1 := by omega
      exact absurd h3.2 (by decide)
    · omega
  rw [e, this]
  rfl
theorem small_sum : (borneP smallB smallC).sum = 5 := by decide +kernel
/-- House(b, r) -/
theorem house_use {K : PySem.W.Frag} {C b r p dx : Addr} {H : Hp} {bs : List Int} {rows : List R3} {Q : VK} {E : XK} {vs : List V} (np : H p = none) (ndx : H dx = none) (hv : vs = [.ref p, .ref b, .ref r]) (hb : SqT K H b (bs.map V.int)) (hr : RowsAt K H r rows) (fr : Fair bs rows)
    (k : ∀ (cs : List Int) H', Same H H' → HouseAt K C (fun q => H q ≠ none) H' p b r bs rows cs → Q .non H') : spInit K C vs (upd (upd H dx (.own p)) p (.ins C dx [])) Q E := by
  subst hv
  generalize e4 : upd (upd H dx (.own p)) p _ = H4
  have s4 : Same H H4 := fun c o h => (congrFun e4 c).symm.trans (by rw [upd_ne (ne_of_none h np), upd_ne (ne_of_none h ndx)]; exact h)
  have hp4 : H4 p = some (.ins C dx []) := (congrFun e4 p).symm.trans upd_same
  refine ⟨p, dx, b, r, bs, rows, rfl, hp4, Same.seqT s4 hb, hr.same s4, fr, fun cs H5 hh e5 => k cs H5 ?_ (hh.weak fun q hq z => ?_)⟩
  · exact fun c o h => e5 _ _ (ne_of_none h np) (s4 _ _ h)
  · cases e : H q with
    | none => exact hq e
    | some o =>
      have := s4 _ _ e
      rw [z] at this
      cases this
/-! ### two numbers are skipped: what comes early -/
theorem drop_c {c : Nat → Nat} {L : Nat} {B : Nat} (ct : Cnt dropB dropR dropC B c L) : L = 600 ∧ B = 30 ∧ ∀ g, g < 600 → ((c g : Nat) : Int) = dropF g := by
  have hL : L = 600 := by rw [← ct.len, drop_len]
  refine ⟨hL, ?_, fun g hg => ?_⟩
  · have := ct.last
    have e : dropB.getLastD 1 = 30 := rfl
    rw [e] at this
    omega
  · have e := congrArg (fun l : List Int => l[g]?) ct.cse
    rw [hL] at e
    unfold dropC at e
    rw [List.getElem?_map, List.getElem?_map, List.getElem?_range hg] at e
    exact (Option.some.inj e).symm
theorem drop_early {g : Nat} (h : g < 60) : dropF g = 0 := by
  have : ∀ g, g < 60 → dropF g = 0 := by decide
  exact this g h
theorem drop_low {c : Nat → Nat} {L B : Nat} (ct : Cnt dropB dropR dropC B c L) (n : Nat) (h : n < 1800) : placeP dropB dropC (n : Int) = (n : Int) := by
  obtain ⟨hL, rfl, hc⟩ := drop_c ct
  have c0 : ∀ g, g < 60 → c g = 0 := fun g hg => by have := hc g (by omega); rw [drop_early hg] at this; omega
  have sm : ∀ g, g ≤ 60 → sumC 30 c g = 30 * g := by
    intro g
    induction g with
    | zero => intro _; rfl
    | succ g ih =>
      intro hg
      show sumC 30 c g + (30 - c g) = _
      rw [ih (by omega), c0 g (by omega)]
      omega
  have hg : n / 30 < 60 := by omega
  have s1 := sm (n / 30) (by omega)
  have s2 := sm (n / 30 + 1) (by omega)
  rw [ct.place_in (g := n / 30) (by omega) (by omega), s1, c0 _ hg]
  omega
end LM

set_option Elab.async false
set_option linter.all false
set_option maxRecDepth 100000
set_option maxHeartbeats 4000000
/-! numbers, and tuples of numbers, shown -/
namespace LM
open PySem PySem.Spec PyProof.Rows L2 RZ
/-- a value shown as t, with few signs -/
def ShwS (ow : Addr → Str → Prop) (H : Hp) (n m : Nat) (v : V) (t : Str) : Prop := Shw ow H n v t ∧ t.length ≤ m
theorem shw_leaf {ow : Addr → Str → Prop} {H : Hp} {v : V} {t : Str} (h : Leaf ow H v t) : ∀ n, Shw ow H n v t
  | 0 => h
  | _ + 1 => .inl h
theorem pair_shw {ow : Addr → Str → Prop} {H : Hp} {n m : Nat} : ∀ {xs : List V} {ts : List Str}, Paired (ShwS ow H n m) xs ts → Paired (Shw ow H n) xs ts ∧ piled ts ≤ xs.length * (m + 2)
  | _, _, .nil => ⟨.nil, Nat.zero_le _⟩
  | x :: xs, t :: ts, .cons h hs => by
    obtain ⟨a, b⟩ := pair_shw hs
    refine ⟨.cons h.1 a, ?_⟩
    rw [piled_cons, List.length_cons, Nat.succ_mul]
    have := h.2
    omega
theorem tupleText_len (ts : List Str) : (tupleText ts).length ≤ piled ts + 3 := by
  unfold tupleText
  rw [strLen_append, strLen_append]
  have e1 : ((("(" : String) : Str)).length = 1 := rfl
  have e3 : ((if ts.length == 1 then ",)" else ")" : String) : Str).length ≤ 2 := by split <;> decide
  have e2 : (Str.join ", " ts).length ≤ piled ts := by
    by_cases h : ts = []
    · subst h
      decide
    · have := join_length_add ts h
      omega
  omega
theorem shw_lst {ow : Addr → Str → Prop} {H : Hp} {n m : Nat} {D : Addr} {x : V} {xs : List V} {ts : List Str} (d : H D = some (.lst (x :: xs))) (h : Paired (ShwS ow H n m) (x :: xs) ts) : Shw ow H (n + 1) (.ref D) (listText ts) ∧ (listText ts).length ≤ (xs.length + 1) * (m + 2) + 2 := by
  obtain ⟨a, b⟩ := pair_shw h
  refine ⟨.inr (.inl ⟨D, x, xs, ts, rfl, d, a, rfl⟩), ?_⟩
  have := listText_len ts
  rw [List.length_cons] at b
  omega
theorem shw_tup {ow : Addr → Str → Prop} {H : Hp} {n m : Nat} {D : Addr} {xs : List V} {ts : List Str} (d : H D = some (.tup xs)) (h : Paired (ShwS ow H n m) xs ts) : ShwS ow H (n + 1) (xs.length * (m + 2) + 3) (.ref D) (tupleText ts) := by
  obtain ⟨a, b⟩ := pair_shw h
  refine ⟨.inr (.inr ⟨D, xs, ts, rfl, d, a, rfl⟩), ?_⟩
  have := tupleText_len ts
  omega
theorem shwS_int {ow : Addr → Str → Prop} {H : Hp} {i : Int} {n : Nat} (h : i.natAbs.log2 < 200) : ShwS ow H n 300 (.int i) (toString i) := ⟨shw_leaf (.int i (by omega)) n, by
  have := int_text_length_le (k := 200) (by decide) h
  show (Str.ofString (toString i)).length ≤ 300
  rw [PySem.ofString_length]
  omega⟩
theorem shwS_ints {ow : Addr → Str → Prop} {H : Hp} {n : Nat} : ∀ {is : List Int}, (∀ i ∈ is, i.natAbs.log2 < 200) → Paired (ShwS ow H n 300) (is.map V.int) (is.map fun i => (toString i : Str))
  | [], _ => .nil
  | i :: is, h => .cons (shwS_int (h i List.mem_cons_self)) (shwS_ints fun j hj => h j (List.mem_cons_of_mem _ hj))
/-- a list of tuples of numbers -/
def rowsT (is : List (List Int)) : List Str := is.map fun r => tupleText (r.map fun i => (toString i : Str))
theorem shw_rowsI {ow : Addr → Str → Prop} {H : Hp} : ∀ {ts : List Addr} {is : List (List Int)}, Paired (fun t r => H t = some (.tup (r.map V.int))) ts is → (∀ r ∈ is, r.length ≤ 4 ∧ ∀ i ∈ r, i.natAbs.log2 < 200) → Paired (ShwS ow H 1 1300) (ts.map V.ref) (rowsT is)
  | _, _, .nil, _ => .nil
  | t :: ts, r :: is, .cons m ms, h => by
    obtain ⟨a, b⟩ := shw_tup (n := 0) m (shwS_ints (ow := ow) (n := 0) (h r List.mem_cons_self).2)
    refine .cons ⟨a, ?_⟩ (shw_rowsI ms fun s hs => h s (List.mem_cons_of_mem _ hs))
    have := (h r List.mem_cons_self).1
    rw [List.length_map] at b
    show (tupleText (r.map fun i => (toString i : Str))).length ≤ 1300
    omega
/-- numbers, truths and None -/
inductive Flat : V → Str → Prop
  | non : Flat .non "None"
  | bl (b : Bool) : Flat (.bl b) (if b then "True" else "False" : String)
  | int (i : Int) (h : i.natAbs.log2 < 200) : Flat (.int i) (toString i)
theorem flat_shw {ow : Addr → Str → Prop} {H : Hp} {v : V} {t : Str} (h : Flat v t) (n : Nat) : ShwS ow H n 300 v t := by
  cases h with
  | non => exact ⟨shw_leaf .non n, by decide⟩
  | bl b => exact ⟨shw_leaf (.bl b) n, by cases b <;> decide⟩
  | int i h => exact shwS_int h
theorem flats_shw {ow : Addr → Str → Prop} {H : Hp} (n : Nat) : ∀ {vs : List V} {ts : List Str}, Paired Flat vs ts → Paired (ShwS ow H n 300) vs ts
  | _, _, .nil => .nil
  | _, _, .cons h hs => .cons (flat_shw h n) (flats_shw n hs)
theorem size_ok {n : Nat} (h : n ≤ 100000) : n ≤ sizeLine := Nat.le_trans h (by decide)
/-- two lists of tuples of the same numbers -/
theorem same_rows {ow : Hp → Addr → Str → Prop} {H : Hp} {D D' : Addr} {ts ts' : List Addr} {is : List (List Int)} {Q : VK} {E : XK} {vs : List V} (hv : vs = [.ref D, .ref D']) (d : H D = some (.lst (ts.map V.ref))) (d' : H D' = some (.lst (ts'.map V.ref))) (m : Paired (fun t r => H t = some (.tup (r.map V.int))) ts is) (m' : Paired (fun t r => H t = some (.tup (r.map V.int))) ts' is)
    (h : ∀ r ∈ is, r.length ≤ 4 ∧ ∀ i ∈ r, i.natAbs.log2 < 200) (h0 : is ≠ []) (hl : is.length ≤ 20) (k : ∀ H', Same H H' → Q (.bl true) H') : spSameT ow vs H Q E := by
  subst hv
  have key : ∀ {H' : Hp} {D : Addr} {ts : List Addr}, H' D = some (.lst (ts.map V.ref)) → Paired (fun t r => H' t = some (.tup (r.map V.int))) ts is → Shw (ow H') H' 2 (.ref D) (listText (rowsT is)) ∧ (listText (rowsT is)).length ≤ 100000 := fun {H' D ts} d m => by
    have hp := shw_rowsI (ow := ow H') m h
    cases m with
    | nil => exact absurd rfl h0
    | cons m ms =>
      have hlen := Paired.length ms
      obtain ⟨a, b⟩ := shw_lst d hp
      rw [List.length_map] at b
      rw [List.length_cons] at hl
      exact ⟨a, by omega⟩
  have ni : ∀ {H' : Hp} {D : Addr} {xs : List V}, H' D = some (.lst xs) → ∀ a C dx fs, V.ref D = .ref a → H' a ≠ some (.ins C dx fs) := fun {H' D xs} d a C dx fs e z => by
    cases e
    rw [d] at z
    cases z
  exact ⟨_, _, 2, _, rfl, by decide, ni d, fun H' s => ni (s _ _ d'), (key d m).1, fun H' s => (key (s _ _ d') (pair_imp m' fun _ _ _ q => s _ _ q)).1, size_ok (key d m).2, k⟩
theorem same_flats {ow : Hp → Addr → Str → Prop} {H : Hp} {D D' : Addr} {x : V} {xs : List V} {ts : List Str} {Q : VK} {E : XK} {vs : List V} (hv : vs = [.ref D, .ref D']) (d : H D = some (.lst (x :: xs))) (d' : H D' = some (.lst (x :: xs))) (h : Paired Flat (x :: xs) ts) (hl : xs.length ≤ 40) (k : ∀ H', Same H H' → Q (.bl true) H') : spSameT ow vs H Q E := by
  subst hv
  have ni : ∀ {H' : Hp} {D : Addr} {xs : List V}, H' D = some (.lst xs) → ∀ a C dx fs, V.ref D = .ref a → H' a ≠ some (.ins C dx fs) := fun {H' D xs} d a C dx fs e z => by
    cases e
    rw [d] at z
    cases z
  have b := (shw_lst (ow := ow H) d (flats_shw 0 h)).2
  exact ⟨_, _, 1, _, rfl, by decide, ni d, fun H' s => ni (s _ _ d'), (shw_lst d (flats_shw 0 h)).1, fun H' s => (shw_lst (s _ _ d') (flats_shw 0 h)).1, size_ok (by omega), k⟩
theorem same_tups {ow : Hp → Addr → Str → Prop} {H : Hp} {D D' : Addr} {is : List Int} {Q : VK} {E : XK} {vs : List V} (hv : vs = [.ref D, .ref D']) (d : H D = some (.tup (is.map V.int))) (d' : H D' = some (.tup (is.map V.int))) (h : ∀ i ∈ is, i.natAbs.log2 < 200) (hl : is.length ≤ 40) (k : ∀ H', Same H H' → Q (.bl true) H') : spSameT ow vs H Q E := by
  subst hv
  have ni : ∀ {H' : Hp} {D : Addr} {xs : List V}, H' D = some (.tup xs) → ∀ a C dx fs, V.ref D = .ref a → H' a ≠ some (.ins C dx fs) := fun {H' D xs} d a C dx fs e z => by
    cases e
    rw [d] at z
    cases z
  have b := (shw_tup (ow := ow H) d (shwS_ints (n := 0) h)).2
  rw [List.length_map] at b
  exact ⟨_, _, 1, _, rfl, by decide, ni d, fun H' s => ni (s _ _ d'), (shw_tup d (shwS_ints (n := 0) h)).1, fun H' s => (shw_tup (s _ _ d') (shwS_ints (n := 0) h)).1, size_ok (by omega), k⟩
end LM

set_option Elab.async false
set_option linter.all false
set_option maxRecDepth 100000
set_option maxHeartbeats 4000000
set_option pp.maxSteps 600
set_option pp.deepTerms false
namespace LM
open PySem PySem.Spec PyProof.Rows L2 RZ
local macro_rules | `(tactic| walk_at "hp") => `(tactic| first | assumption | exact upd_same | (rw [upd_ne (by assumption)]; assumption) | (rw [upd_ne (Ne.symm (by assumption))]; assumption) | (rw [upd_ne (by assumption)]; exact upd_same) | (rw [upd_ne (Ne.symm (by assumption))]; exact upd_same))
local macro_rules | `(tactic| walk_at "sq") => `(tactic| first | assumption | exact Or.inl (Or.inl (by assumption)) | exact Or.inl (Or.inl upd_same) | exact Or.inl (Or.inl (by walk_at "hp")))
local macro_rules | `(tactic| walk_at "ixl") => `(tactic| refine ⟨_, _, _, _, rfl, rfl, (by walk_at "sq"), (by rfl), ?_⟩)
local macro_rules | `(tactic| walk_at "setl") => `(tactic| refine ⟨_, _, _, _, rfl, rfl, (by walk_at "hp"), (by rfl), ?_⟩)
local macro_rules | `(tactic| walk_at "side") => `(tactic| refine idP ?_; first | omega | (show (0 : Int) < _; omega) | (show (0 : Int) < _ ∧ _ < _; omega) | (refine Or.inr ?_; show (-(2 ^ 64) : Int) < _ ∧ _ < _; omega) | (refine Or.inl ?_; show (-(2 ^ 64) : Int) < _ ∧ _ < _; omega) | exact divW (by omega) (by omega) _ | (refine ⟨by decide, by decide, ?_⟩; decide))
local macro_rules | `(tactic| walk_at "go1") => `(tactic| first
  | refine ⟨_, rfl, ?_⟩
  | refine ⟨_, _, rfl, rfl, (by walk_at "side"), ?_⟩
  | refine ⟨_, _, rfl, (by walk_at "side"), ?_⟩
  | refine ⟨_, _, rfl, rfl, ?_⟩
  | refine Or.inl ⟨_, rfl, ?_⟩
  | refine ⟨_, _, rfl, Or.inl (by walk_at "sq"), ?_⟩
  | walk_at "ixl"
  | walk_at "setl"
  | refine ⟨_, _, rfl, (by walk_at "sq"), rfl, ?_⟩
  | refine ⟨_, _, rfl, (by walk_at "sq"), ?_⟩
  | refine ⟨_, _, rfl, ?_⟩
  | refine ⟨rfl, ?_⟩
  | refine ⟨small (Nat.le_of_ble_eq_true rfl), ?_⟩)
local macro_rules | `(tactic| walk_at "go") => `(tactic| repeat walk_at "go1")

abbrev s_law_known_right : Stmt := topS 80
theorem sc_law_known_right : FnScope ["_law_turns", "_law_drop", "_law_speed", "_law_told", "_law_far"] ["_law_turns"] (defScope s_law_known_right) := ⟨rfl, rfl, rfl, by decide +kernel, rfl, by decide +kernel, by decide +kernel⟩
theorem drop_g (n p : Int) (h : placeP dropB dropC n = p) : gapI dropB dropC 30000 1001 n = p * 30000 - n * 1001 * 30 := by
  unfold gapI
  rw [h]
  rfl
theorem drop_f0 : fracV (gapI dropB dropC 30000 1001 0) (dropB.getLastD 1 * 30000) = [V.int 0, V.int 1] := by rw [drop_g _ _ drop_some.1]; decide +kernel
theorem drop_f1 : fracV (gapI dropB dropC 30000 1001 1799) (dropB.getLastD 1 * 30000) = [V.int (-1799), V.int 30000] := by rw [drop_g _ _ drop_some.2.1]; decide +kernel
theorem drop_f2 : fracV (gapI dropB dropC 30000 1001 1800) (dropB.getLastD 1 * 30000) = [V.int 1, V.int 150] := by rw [drop_g _ _ drop_some.2.2.1]; decide +kernel
theorem drop_f3 : fracV (gapI dropB dropC 30000 1001 17982) (dropB.getLastD 1 * 30000) = [V.int 3, V.int 5000] := by rw [drop_g _ _ drop_some.2.2.2]; decide +kernel
theorem drop_f4 (t : Int) : fracV (gapI dropB dropC 30000 1001 (17982 * (5000 * t))) (dropB.getLastD 1 * 30000) = [V.int (3 * t), V.int 1] := by
  rw [drop_g _ _ (drop_far _)]
  have e : 18000 * (5000 * t) * 30000 - 17982 * (5000 * t) * 1001 * 30 = 900000 * (3 * t) := by omega
  have e2 : dropB.getLastD 1 * 30000 = 900000 := rfl
  rw [e, e2]
  unfold fracV
  have g : Nat.gcd (900000 * (3 * t)).natAbs (900000 : Int).natAbs = 900000 := by
    rw [Int.natAbs_mul]
    exact Nat.gcd_eq_right (Nat.dvd_mul_right _ _)
  rw [g]
  have e3 : 900000 * (3 * t) / ((900000 : Nat) : Int) = 3 * t := Int.mul_ediv_cancel_left _ (by decide)
  rw [e3]
  rfl
theorem over_is {G : Nat → Int} {bd : Int} {n0 n : Nat} (h : OverI G bd n0) (hl : ∀ m, m < n0 → ¬ OverI G bd m) (hn : OverI G bd n) (hm : ∀ m, m < n → ¬ OverI G bd m) : n = n0 := by
  rcases Nat.lt_trichotomy n n0 with z | z | z
  · exact absurd hn (hl n z)
  · exact z
  · exact absurd h (hm n0 z)
theorem drop_low_g {c : Nat → Nat} {L B : Nat} (ct : Cnt dropB dropR dropC B c L) {n : Nat} (h : n < 1800) : gapI dropB dropC 30000 1001 (n : Int) = -(30 * (n : Int)) := by
  rw [drop_g _ _ (drop_low ct n h)]
  omega
theorem drop_over {c : Nat → Nat} {L B : Nat} (ct : Cnt dropB dropR dropC B c L) {bd : Int} {n0 : Nat} (h0 : n0 < 1800) (h1 : bd < 30 * (n0 : Int)) (h2 : ∀ m, m < n0 → 30 * (m : Int) ≤ bd) (h3 : 0 ≤ bd) : OverI (fun n => gapI dropB dropC 30000 1001 ((n : Nat) : Int)) bd n0 ∧ ∀ m, m < n0 → ¬ OverI (fun n => gapI dropB dropC 30000 1001 ((n : Nat) : Int)) bd m := by
  refine ⟨.inr ?_, fun m hm z => ?_⟩
  · show bd < -gapI dropB dropC 30000 1001 ((n0 : Nat) : Int)
    rw [drop_low_g ct h0]
    omega
  · have g := drop_low_g ct (show m < 1800 by omega)
    have := h2 m hm
    rcases z with z | z
    · have z' : bd < gapI dropB dropC 30000 1001 ((m : Nat) : Int) := z
      rw [g] at z'
      omega
    · have z' : bd < -gapI dropB dropC 30000 1001 ((m : Nat) : Int) := z
      rw [g] at z'
      omega
def spKnown : Sp := fun vs H Q _ => ∃ t : Int, vs = [.int t] ∧ 1 ≤ t ∧ t ≤ 1000000 ∧ ∀ H', Same H H' → Q (.bl true) H'
section
variable {P : Program} {w : World} {K : PySem.W.Frag} {mg : Str → Option Value} {base : Heap}
theorem ok_known {f C fI fRo pRo : Addr} {fd fdI fdRo : FuncData} {ow : Hp → Addr → Str → Prop} (F : Fun K "_law_known_right" "_law_known_right" s_law_known_right f fd) (T : HouseTxt K mg C) (N : Names mg)
    (MK : Mk K C fI) (GI : FnOk P w K mg base CX0 5 fI fdI ["self", "bases", "rows"] (spInit K C)) (bI : Binds K fdI ["self", "bases", "rows"] [])
    (qRo : PropOf K C "round" pRo fRo) (GRo : FnOk P w K mg base CX0 1 fRo fdRo ["self"] (getSp C "_round")) (bRo : Binds K fdRo ["self"] [])
    (Ddrift : DefK P w K mg base "drift" ["house", "pace", "frame"] 6 (spDrift K C)) (Dswing : DefK P w K mg base "swing" ["house", "pace"] 6 (spSwing K C)) (Dfirst_beyond : DefK P w K mg base "first_beyond" ["house", "pace", "bound"] 7 (spBeyond K C)) (D_law_same : DefG P w K mg base "_law_same" ["_law_told", "_law_due"] 13 (spSameT ow)) :
    FnG P w K mg base 15 f fd ["_law_turns"] spKnown := by
  have sc := sc_law_known_right
  refine funG_ok F sc (fun vs H Q E h => ?_) (fun cdv A outer s H vs Q E hgd hr h => ?_)
  · obtain ⟨t, rfl, _⟩ := h
    rfl
  · obtain ⟨tn, rfl, t1, t2, k⟩ := h
    refine ⟨_, (pss_cons (ps_par (i := 1) (j := 2) rfl sc.nd rfl rfl (by decide) rfl rfl (pa_cons (pe_make MK GI (hr.mono (by decide)) rfl T.mgC bI .nil pass0 (pa_cons (pe_tup (pa_cons pe_int (pa_cons pe_int (pa_cons pe_int pa_nil)))) (pa_cons (pe_tup (pa_cons (pe_tup (pa_cons pe_int (pa_cons pe_int (pa_cons pe_int pa_nil)))) (pa_cons (pe_tup (pa_cons pe_int (pa_cons pe_int (pa_cons pe_int pa_nil)))) pa_nil))) pa_nil))) (pa_cons (pe_tup (pa_cons pe_int (pa_cons pe_int pa_nil))) pa_nil)) (by rfl))
      (pss_cons (ps_set (i := 3) sc.nd rfl (Or.inl rfl) (pe_lst (pa_cons (pe_d Ddrift (hr.mono (by decide)) rfl (pa_cons (pv 1) (pa_cons (pv 2) (pa_cons pe_int pa_nil)))) (pa_cons (pe_d Ddrift (hr.mono (by decide)) rfl (pa_cons (pv 1) (pa_cons (pv 2) (pa_cons pe_int pa_nil)))) (pa_cons (pe_d Ddrift (hr.mono (by decide)) rfl (pa_cons (pv 1) (pa_cons (pv 2) (pa_cons pe_int pa_nil)))) pa_nil)))))
      (pss_cons (ps_expr (pe_bm PySem.F.plainAttrs_list PySem.F.slot_list_append PySem.F.type_list_append mt_append (pv 3) (pa_cons (pe_d Ddrift (hr.mono (by decide)) rfl (pa_cons (pv 1) (pa_cons (pv 2) (pa_cons pe_int pa_nil)))) pa_nil)))
      (pss_cons (ps_if (pt_not (pt_val (pe_dG D_law_same hgd (hr.mono (by decide)) rfl (pa_cons (pv 3) (pa_cons (pe_lst (pa_cons (pe_tup (pa_cons pe_int (pa_cons pe_int pa_nil))) (pa_cons (pe_tup (pa_cons (pe_un un_neg pe_int) (pa_cons pe_int pa_nil))) (pa_cons (pe_tup (pa_cons pe_int (pa_cons pe_int pa_nil))) (pa_cons (pe_tup (pa_cons pe_int (pa_cons pe_int pa_nil))) pa_nil))))) pa_nil))))) (pss_one (ps_ret pe_bl)) pss_nil)
      (pss_cons (ps_set (i := 3) sc.nd rfl (Or.inl rfl) (pe_lst (pa_cons (pe_d Dswing (hr.mono (by decide)) rfl (pa_cons (pv 1) (pa_cons (pv 2) pa_nil))) (pa_cons (pe_d Dswing (hr.mono (by decide)) rfl (pa_cons (pv 1) (pa_cons (pe_tup (pa_cons pe_int (pa_cons pe_int pa_nil))) pa_nil))) (pa_cons (pe_d Dfirst_beyond (hr.mono (by decide)) rfl (pa_cons (pv 1) (pa_cons (pv 2) (pa_cons (pe_tup (pa_cons pe_int (pa_cons pe_int pa_nil))) pa_nil)))) pa_nil)))))
      (pss_cons (ps_if (pt_not (pt_val (pe_dG D_law_same hgd (hr.mono (by decide)) rfl (pa_cons (pe_op op_cat (pv 3) (pe_lst (pa_cons (pe_d Dfirst_beyond (hr.mono (by decide)) rfl (pa_cons (pv 1) (pa_cons (pv 2) (pa_cons (pe_tup (pa_cons pe_int (pa_cons pe_int pa_nil))) pa_nil)))) pa_nil))) (pa_cons (pe_lst (pa_cons pe_non (pa_cons pe_non (pa_cons pe_int (pa_cons pe_int pa_nil))))) pa_nil))))) (pss_one (ps_ret pe_bl)) pss_nil)
      (pss_cons (ps_set (i := 4) sc.nd rfl (Or.inl rfl) (pe_op op_mul pe_int (pv 0)))
      (pss_one (ps_ret (pe_and (pe_dG D_law_same hgd (hr.mono (by decide)) rfl (pa_cons (pe_d Ddrift (hr.mono (by decide)) rfl (pa_cons (pv 1) (pa_cons (pv 2) (pa_cons (pe_op op_mul pe_int (pv 4)) pa_nil)))) (pa_cons (pe_tup (pa_cons (pe_op op_mul pe_int (pv 0)) (pa_cons pe_int pa_nil))) pa_nil))) (pe_one (pe_cmpR (op_eqD (hu64 hr)) (pe_prop (pv 1) T.cl qRo GRo (hr.mono (by decide)) bRo .nil pass0 rfl) (pe_tup (pa_cons pe_int (pa_cons pe_int pa_nil))) (nomark _))))))))))))), ?_⟩
    refine ⟨Nat.le_of_ble_eq_true rfl, ?_⟩
    (intro ba nba; generalize e_ba : upd H ba _ = H1; have s1 : Same H H1 := fun b x hb => (congrFun e_ba b).symm.trans (same_new nba b x hb); have h1 := (congrFun e_ba ba).symm.trans upd_same; clear e_ba)
    refine ⟨Nat.le_of_ble_eq_true rfl, ?_⟩
    (intro ra nra; generalize e_ra : upd H1 ra _ = H2; have s2 : Same H1 H2 := fun b x hb => (congrFun e_ra b).symm.trans (same_new nra b x hb); have h2 := (congrFun e_ra ra).symm.trans upd_same; clear e_ra)
    refine ⟨Nat.le_of_ble_eq_true rfl, ?_⟩
    (intro rb nrb; generalize e_rb : upd H2 rb _ = H3; have s3 : Same H2 H3 := fun b x hb => (congrFun e_rb b).symm.trans (same_new nrb b x hb); have h3 := (congrFun e_rb rb).symm.trans upd_same; clear e_rb)
    refine ⟨Nat.le_of_ble_eq_true rfl, ?_⟩
    (intro rr nrr; generalize e_rr : upd H3 rr _ = H4; have s4 : Same H3 H4 := fun b x hb => (congrFun e_rr b).symm.trans (same_new nrr b x hb); have h4 := (congrFun e_rr rr).symm.trans upd_same; clear e_rr)
    intro pm dx np ndx ndp
    refine house_use (bs := dropB) (rows := dropR) (b := ba) (r := rr) np ndx rfl (SqT.tup (s4 _ _ (s3 _ _ (s2 _ _ h1)))) ⟨[ra, rb], SqT.tup h4, .cons (SqT.tup (s4 _ _ (s3 _ _ h2))) (.cons (SqT.tup (s4 _ _ h3)) .nil)⟩ drop_fair fun cs H5 s5 hA => ⟨rfl, ?_⟩
    obtain rfl := drop_cs hA.rep
    refine ⟨Nat.le_of_ble_eq_true rfl, ?_⟩
    (intro q nq; generalize e_q : upd H5 q _ = H6; have s6 : Same H5 H6 := fun b x hb => (congrFun e_q b).symm.trans (same_new nq b x hb); have h6 := (congrFun e_q q).symm.trans upd_same; clear e_q)
    refine ⟨_, _, rfl, ?_⟩
    have hA6 := hA.same s6
    have ct := hA6.by.2
    have hp6 : PaceAt K H6 q 30000 1001 := ⟨SqT.tup h6, by decide, by decide, by decide, by decide⟩
    refine ⟨_, rfl, _, rfl, _, pm, ba, rr, q, _, _, _, 30000, 1001, 0, rfl, hA6, hp6, by decide, fun u0 H7 s7 n7 e7 => ?_⟩
    rw [drop_f0] at e7
    refine ⟨_, rfl, _, rfl, _, pm, ba, rr, q, _, _, _, 30000, 1001, 1799, rfl, hA6.same s7, hp6.same s7, by decide, fun u1 H8 s8 n8 e8 => ?_⟩
    rw [drop_f1] at e8
    refine ⟨_, rfl, _, rfl, _, pm, ba, rr, q, _, _, _, 30000, 1001, 1800, rfl, hA6.same (s7.trans s8), hp6.same (s7.trans s8), by decide, fun u2 H9 s9 n9 e9 => ?_⟩
    rw [drop_f2] at e9
    have s69 := (s7.trans s8).trans s9
    refine ⟨Nat.le_of_ble_eq_true rfl, ?_⟩
    (intro D nD; generalize e_D : upd H9 D _ = H10; have s10 : Same H9 H10 := fun b x hb => (congrFun e_D b).symm.trans (same_new nD b x hb); have h10 := (congrFun e_D D).symm.trans upd_same; clear e_D)
    refine ⟨_, rfl, .inl ⟨rfl, _, SqL.lst h10⟩, ?_⟩
    refine ⟨_, rfl, _, rfl, _, pm, ba, rr, q, _, _, _, 30000, 1001, 17982, rfl, hA6.same (s69.trans s10), hp6.same (s69.trans s10), by decide, fun u3 H11 s11 n11 e11 => ?_⟩
    rw [drop_f3] at e11
    have d11 := s11 _ _ h10
    refine ⟨D, _, _, rfl, rfl, d11, Nat.lt_of_lt_of_le (show 3 < 4 by decide) (by decide), ?_⟩
    have s912 : Same H9 (upd H11 D (.lst ([V.ref u0, V.ref u1, V.ref u2] ++ [V.ref u3]))) := same_mut (s10.trans s11) nD
    have nu3 : u3 ≠ D := fun z => by rw [z, d11] at e11; cases e11
    generalize eU : upd H11 D (.lst ([V.ref u0, V.ref u1, V.ref u2] ++ [V.ref u3])) = H12 at s912 ⊢
    have h12 : H12 D = some (.lst ([V.ref u0, V.ref u1, V.ref u2] ++ [V.ref u3])) := (congrFun eU D).symm.trans upd_same
    have e12 : H12 u3 = some (.tup [V.int 3, V.int 5000]) := (congrFun eU u3).symm.trans ((upd_ne nu3).trans e11)
    refine ⟨_, rfl, Nat.le_of_ble_eq_true rfl, ?_⟩
    (intro v0 nv0; generalize e_v0 : upd H12 v0 _ = H13; have s13 : Same H12 H13 := fun b x hb => (congrFun e_v0 b).symm.trans (same_new nv0 b x hb); have h13 := (congrFun e_v0 v0).symm.trans upd_same; clear e_v0)
    refine ⟨_, rfl, Nat.le_of_ble_eq_true rfl, ?_⟩
    (intro v1 nv1; generalize e_v1 : upd H13 v1 _ = H14; have s14 : Same H13 H14 := fun b x hb => (congrFun e_v1 b).symm.trans (same_new nv1 b x hb); have h14 := (congrFun e_v1 v1).symm.trans upd_same; clear e_v1)
    refine ⟨Nat.le_of_ble_eq_true rfl, ?_⟩
    (intro v2 nv2; generalize e_v2 : upd H14 v2 _ = H15; have s15 : Same H14 H15 := fun b x hb => (congrFun e_v2 b).symm.trans (same_new nv2 b x hb); have h15 := (congrFun e_v2 v2).symm.trans upd_same; clear e_v2)
    refine ⟨Nat.le_of_ble_eq_true rfl, ?_⟩
    (intro v3 nv3; generalize e_v3 : upd H15 v3 _ = H16; have s16 : Same H15 H16 := fun b x hb => (congrFun e_v3 b).symm.trans (same_new nv3 b x hb); have h16 := (congrFun e_v3 v3).symm.trans upd_same; clear e_v3)
    refine ⟨Nat.le_of_ble_eq_true rfl, ?_⟩
    (intro D2 nD2; generalize e_D2 : upd H16 D2 _ = H17; have s17 : Same H16 H17 := fun b x hb => (congrFun e_D2 b).symm.trans (same_new nD2 b x hb); have h17 := (congrFun e_D2 D2).symm.trans upd_same; clear e_D2)
    have s1217 := ((s13.trans s14).trans (s15.trans s16)).trans s17
    have s917 := s912.trans s1217
    dsimp only [tNil]
    have f0 := s917 _ _ (s9 _ _ (s8 _ _ e7))
    have f1 := s917 _ _ (s9 _ _ e8)
    have f2 := s917 _ _ e9
    have f3 := s1217 _ _ e12
    have g3 := s17 _ _ h16
    have g2 := s17 _ _ (s16 _ _ h15)
    have g1 := s17 _ _ (s16 _ _ (s15 _ _ h14))
    have g0 := s17 _ _ (s16 _ _ (s15 _ _ (s14 _ _ h13)))
    refine same_rows (is := [[0, 1], [-1799, 30000], [1, 150], [3, 5000]]) (ts := [u0, u1, u2, u3]) (ts' := [v0, v1, v2, v3]) rfl (s1217 _ _ h12) h17 (.cons f0 (.cons f1 (.cons f2 (.cons f3 .nil)))) (.cons g0 (.cons g1 (.cons g2 (.cons g3 .nil)))) (by decide +kernel) (by decide) (by decide) fun H18 s18 => ⟨_, rfl, ?_⟩
    refine iteF ?_
    clear f0 f1 f2 f3 g0 g1 g2 g3
    have s618 := s69.trans (s917.trans s18)
    have hA18 := hA6.same s618
    have hp18 := hp6.same s618
    have tot : ((sumC (dropB.getLastD 1).toNat (cN dropB dropR) dropC.length : Nat) : Int) = 17982 := by
      rw [← ct.total]
      exact drop_sum
    have hl6 : dropC.length = 600 := drop_len
    clear s7 s8 s9 s10 s11 s912 s13 s14 s15 s16 s17 s1217 s917 e7 e8 e9 e11 e12 h12 h13 h14 h15 h16 h17 d11 eU h10 s18
    refine ⟨_, rfl, _, rfl, _, pm, ba, rr, q, _, _, _, _, _, _, 30000, 1001, rfl, hA18.by, hp18, fun _ H19 s19 => ?_, fun z => absurd z ?_⟩
    rotate_left
    · rw [tot, hl6]
      decide
    refine ⟨_, rfl, Nat.le_of_ble_eq_true rfl, ?_⟩
    (intro q2 nq2; generalize e_q2 : upd H19 q2 _ = H20; have s20 : Same H19 H20 := fun b x hb => (congrFun e_q2 b).symm.trans (same_new nq2 b x hb); have h20 := (congrFun e_q2 q2).symm.trans upd_same; clear e_q2)
    have s1820 := s19.trans s20
    have hp2 : PaceAt K H20 q2 30 1 := ⟨SqT.tup h20, by decide, by decide, by decide, by decide⟩
    refine ⟨_, pm, ba, rr, q2, _, _, _, _, _, _, 30, 1, rfl, (hA18.same s1820).by, hp2, fun _ H21 s21 => ?_, fun z => absurd z ?_⟩
    rotate_left
    · rw [tot, hl6]
      decide
    refine ⟨_, rfl, _, rfl, Nat.le_of_ble_eq_true rfl, ?_⟩
    (intro bo nbo; generalize e_bo : upd H21 bo _ = H22; have s22 : Same H21 H22 := fun b x hb => (congrFun e_bo b).symm.trans (same_new nbo b x hb); have h22 := (congrFun e_bo bo).symm.trans upd_same; clear e_bo)
    have s1822 := s1820.trans (s21.trans s22)
    have hb22 : BoundAt K H22 bo 1 20 := ⟨SqT.tup h22, by decide, by decide, by decide, by decide⟩
    have hA22 := hA18.same s1822
    have o1 := drop_over hA22.by.2 (bd := 45000) (n0 := 1501) (by decide) (by decide) (fun m hm => by omega) (by decide)
    refine ⟨_, pm, ba, rr, q, bo, _, _, _, _, _, _, 30000, 1001, 1, 20, rfl, hA22.by, hp18.same s1822, hb22, fun z => absurd o1.1 (z 1501), fun n hn hm H23 s23 => ?_⟩
    obtain rfl := over_is o1.1 o1.2 hn hm
    clear hn hm
    refine ⟨Nat.le_of_ble_eq_true rfl, ?_⟩
    (intro D3 nD3; generalize e_D3 : upd H23 D3 _ = H24; have s24 : Same H23 H24 := fun b x hb => (congrFun e_D3 b).symm.trans (same_new nD3 b x hb); have h24 := (congrFun e_D3 D3).symm.trans upd_same; clear e_D3)
    refine ⟨_, rfl, _, rfl, _, rfl, Nat.le_of_ble_eq_true rfl, ?_⟩
    (intro bo2 nbo2; generalize e_bo2 : upd H24 bo2 _ = H25; have s25 : Same H24 H25 := fun b x hb => (congrFun e_bo2 b).symm.trans (same_new nbo2 b x hb); have h25 := (congrFun e_bo2 bo2).symm.trans upd_same; clear e_bo2)
    have s1825 := s1822.trans (s23.trans (s24.trans s25))
    have hA25 := hA18.same s1825
    have hb25 : BoundAt K H25 bo2 0 1 := ⟨SqT.tup h25, by decide, by decide, by decide, by decide⟩
    have o2 := drop_over hA25.by.2 (bd := 0) (n0 := 1) (by decide) (by decide) (fun m hm => by omega) (by decide)
    refine ⟨_, pm, ba, rr, q, bo2, _, _, _, _, _, _, 30000, 1001, 0, 1, rfl, hA25.by, hp18.same s1825, hb25, fun z => absurd o2.1 (z 1), fun n hn hm H26 s26 => ?_⟩
    obtain rfl := over_is o2.1 o2.2 hn hm
    clear hn hm
    refine ⟨Nat.le_of_ble_eq_true rfl, ?_⟩
    (intro D4 nD4; generalize e_D4 : upd H26 D4 _ = H27; have s27 : Same H26 H27 := fun b x hb => (congrFun e_D4 b).symm.trans (same_new nD4 b x hb); have h27 := (congrFun e_D4 D4).symm.trans upd_same; clear e_D4)
    refine ⟨D3, D4, _, _, rfl, rfl, s27 _ _ (s26 _ _ (s25 _ _ h24)), h27, Nat.le_of_ble_eq_true rfl, ?_⟩
    (intro D5 nD5; generalize e_D5 : upd H27 D5 _ = H28; have s28 : Same H27 H28 := fun b x hb => (congrFun e_D5 b).symm.trans (same_new nD5 b x hb); have h28 := (congrFun e_D5 D5).symm.trans upd_same; clear e_D5)
    refine ⟨Nat.le_of_ble_eq_true rfl, ?_⟩
    (intro D6 nD6; generalize e_D6 : upd H28 D6 _ = H29; have s29 : Same H28 H29 := fun b x hb => (congrFun e_D6 b).symm.trans (same_new nD6 b x hb); have h29 := (congrFun e_D6 D6).symm.trans upd_same; clear e_D6)
    dsimp only [tNil]
    refine same_flats rfl (s29 _ _ h28) h29 (.cons .non (.cons .non (.cons (.int 1501 (by decide)) (.cons (.int 1 (by decide)) .nil)))) (by decide) fun H30 s30 => ⟨_, rfl, ?_⟩
    refine iteF ?_
    have s1830 := s1825.trans (((s26.trans s27).trans (s28.trans s29)).trans s30)
    have hA30 := hA18.same s1830
    clear s19 s20 s21 s22 s23 s24 s25 s26 s27 s28 s29 h20 h22 h24 h25 h27 h28 h29 s30 s1820 s1822
    refine ⟨_, rfl, _, _, rfl, rfl, .inr ⟨by omega, by omega⟩, ?_⟩
    refine ⟨_, rfl, _, rfl, _, rfl, _, _, rfl, rfl, .inr ⟨by omega, by omega⟩, _, pm, ba, rr, q, _, _, _, 30000, 1001, _, rfl, hA30, hp18.same s1830, by omega, fun u4 H31 s31 n31 e31 => ?_⟩
    rw [drop_f4] at e31
    refine ⟨_, rfl, _, _, rfl, rfl, .inr ⟨by omega, by omega⟩, Nat.le_of_ble_eq_true rfl, ?_⟩
    (intro v4 nv4; generalize e_v4 : upd H31 v4 _ = H32; have s32 : Same H31 H32 := fun b x hb => (congrFun e_v4 b).symm.trans (same_new nv4 b x hb); have h32 := (congrFun e_v4 v4).symm.trans upd_same; clear e_v4)
    dsimp only [tNil]
    refine same_tups (is := [3 * tn, 1]) rfl (s32 _ _ e31) h32 ?_ (show 2 ≤ 40 by decide) fun H33 s33 => ⟨_, rfl, ?_⟩
    · intro i hi
      simp only [List.mem_cons, List.not_mem_nil, or_false] at hi
      rcases hi with rfl | rfl
      · have : (3 * tn).natAbs < 2 ^ 199 := Nat.lt_of_le_of_lt (show _ ≤ 3000000 by omega) (by decide)
        rcases Nat.eq_zero_or_pos (3 * tn).natAbs with z | z
        · rw [z]; decide
        · exact Nat.lt_trans ((Nat.log2_lt (by omega)).mpr this) (by decide)
      · decide
    refine iteT ?_
    have s3033 := (s31.trans s32).trans s33
    obtain ⟨dx, sk, ah, rd, q1, _, _, q4, _⟩ := id (hA30.same s3033).ob
    rw [hl6, drop_sum] at q4
    refine ⟨_, rfl, pm, dx, _, rfl, q1, pm, dx, _, _, rfl, q1, hf_round _ _ _ _ _ _, Nat.le_of_ble_eq_true rfl, ?_⟩
    (intro v5 nv5; generalize e_v5 : upd H33 v5 _ = H34; have s34 : Same H33 H34 := fun b x hb => (congrFun e_v5 b).symm.trans (same_new nv5 b x hb); have h34 := (congrFun e_v5 v5).symm.trans upd_same; clear e_v5)
    refine ⟨.tuple [.int 600, .int 17982], .tuple [.int 600, .int 17982], .tup (SqT.tup (s34 _ _ q4)) (.cons (.int 600) (.cons (.int 17982) .nil)), .tup (SqT.tup h34) (.cons (.int 600) (.cons (.int 17982) .nil)), by decide +kernel, by decide +kernel, ?_⟩
    rw [show PyData.eqv (.tuple [.int 600, .int 17982]) (.tuple [.int 600, .int 17982]) = true from by decide +kernel]
    exact k H34 ((((s1.trans s2).trans (s3.trans s4)).trans (s5.trans s6)).trans ((s618.trans s1830).trans (s3033.trans s34)))
end
end LM

set_option Elab.async false
set_option linter.all false
set_option maxRecDepth 100000
set_option maxHeartbeats 4000000
/-! values of a menu, shown: they stay so while the vase is poured from -/
namespace LM
open PySem PySem.Spec PyProof.Rows L2 RZ
/-- y is shown, and ex says more of it; in every heap that goes on, but for what stands at p -/
def Pack (K : PySem.W.Frag) (C p : Addr) (ex : Hp → V → Prop) (H : Hp) (y : V) : Prop := ∃ t : Str, t.length ≤ 2000 ∧ EverP p (fun H => Shw (owHouse K C H) H 6 y t ∧ ex H y) H
theorem Pack.on {K : PySem.W.Frag} {C p : Addr} {ex : Hp → V → Prop} {H H' : Hp} {y : V} (h : Pack K C p ex H y) (e : ElseN p H H') : Pack K C p ex H' y := by
  obtain ⟨t, h1, h2⟩ := h
  exact ⟨t, h1, h2.on e⟩
theorem Pack.ex {K : PySem.W.Frag} {C p : Addr} {ex : Hp → V → Prop} {H : Hp} {y : V} (h : Pack K C p ex H y) : EverP p (fun H => ex H y) H := by
  obtain ⟨t, h1, h2⟩ := h
  exact fun H' e => (h2 H' e).2
inductive FlatS : V → Str → Prop
  | non : FlatS .non "None"
  | bl (b : Bool) : FlatS (.bl b) (if b then "True" else "False" : String)
  | int (i : Int) (h : i.natAbs.log2 < 200) : FlatS (.int i) (toString i)
  | str (x : Str) (h : (reprText x).length ≤ 300) : FlatS (.str x) (reprText x)
theorem flatS_shw {ow : Addr → Str → Prop} {H : Hp} {v : V} {t : Str} (h : FlatS v t) (n : Nat) : ShwS ow H n 300 v t := by
  cases h with
  | non => exact ⟨shw_leaf .non n, by decide⟩
  | bl b => exact ⟨shw_leaf (.bl b) n, by cases b <;> decide⟩
  | int i h => exact shwS_int h
  | str x h => exact ⟨shw_leaf (.str x (Nat.le_trans h (by decide))) n, h⟩
theorem flatSs_shw {ow : Addr → Str → Prop} {H : Hp} (n : Nat) : ∀ {vs : List V} {ts : List Str}, Paired FlatS vs ts → Paired (ShwS ow H n 300) vs ts
  | _, _, .nil => .nil
  | _, _, .cons h hs => .cons (flatS_shw h n) (flatSs_shw n hs)
theorem shw_up {ow : Addr → Str → Prop} {H : Hp} : ∀ {n : Nat} {v : V} {t : Str}, Shw ow H n v t → Shw ow H (n + 1) v t
  | 0, _, _, h => .inl h
  | n + 1, _, _, h => by
    rcases h with h | ⟨a, x, xs, ts, e, h1, h2, h3⟩ | ⟨a, xs, ts, e, h1, h2, h3⟩
    · exact .inl h
    · exact .inr (.inl ⟨a, x, xs, ts, e, h1, pair_imp h2 fun _ _ _ q => shw_up q, h3⟩)
    · exact .inr (.inr ⟨a, xs, ts, e, h1, pair_imp h2 fun _ _ _ q => shw_up q, h3⟩)
theorem shw_to {ow : Addr → Str → Prop} {H : Hp} {n m : Nat} {v : V} {t : Str} (h : Shw ow H n v t) (hm : n ≤ m) : Shw ow H m v t := by
  induction hm with
  | refl => exact h
  | step _ ih => exact shw_up ih
section
variable {K : PySem.W.Frag} {C p : Addr} {ex : Hp → V → Prop} {H : Hp} {ys : List V}
theorem pk_flat {y : V} {t : Str} (h : FlatS y t) (e : ∀ H, ex H y) : Pack K C p ex H y := ⟨t, Nat.le_trans (flatS_shw (ow := fun _ _ => False) (H := H) h 0).2 (by decide), fun H' _ => ⟨(flatS_shw h 6).1, e H'⟩⟩
theorem pk_ne {o : HO} {a : Addr} (hv : H p = some (.lst ys)) (h : H a = some o) (n : o ≠ .lst ys) : a ≠ p := fun z => by
  rw [z, hv] at h
  exact n (Option.some.inj h).symm
theorem pk_dic {a : Addr} (hv : H p = some (.lst ys)) (h : H a = some (.dK [])) (e : ∀ H, H a = some (.dK []) → ex H (.ref a)) : Pack K C p ex H (.ref a) :=
  ⟨"{}", by decide, fun H' g => have q := g a _ (pk_ne hv h (fun z => nomatch z)) h (fun ps z => nomatch z); ⟨shw_leaf (.dic q) 6, e H' q⟩⟩
theorem pk_tup {a : Addr} {xs : List V} {ts : List Str} (hv : H p = some (.lst ys)) (h : H a = some (.tup xs)) (hf : Paired FlatS xs ts) (hl : xs.length ≤ 5) (e : ∀ H, H a = some (.tup xs) → ex H (.ref a)) : Pack K C p ex H (.ref a) := by
  have b := (shw_tup (ow := fun _ _ => False) h (flatSs_shw 0 hf)).2
  refine ⟨tupleText ts, by omega, fun H' g => ?_⟩
  have q := g a _ (pk_ne hv h (fun z => nomatch z)) h (fun ps z => nomatch z)
  exact ⟨shw_to (n := 1) (shw_tup q (flatSs_shw 0 hf)).1 (by decide), e H' q⟩
theorem pk_lst {a : Addr} {x : V} {xs : List V} {ts : List Str} (ha : a ≠ p) (h : H a = some (.lst (x :: xs))) (hf : Paired FlatS (x :: xs) ts) (hl : xs.length ≤ 4) (e : ∀ H, H a = some (.lst (x :: xs)) → ex H (.ref a)) : Pack K C p ex H (.ref a) := by
  have b := (shw_lst (ow := fun _ _ => False) h (flatSs_shw 0 hf)).2
  refine ⟨listText ts, by omega, fun H' g => ?_⟩
  have q := g a _ ha h (fun ps z => nomatch z)
  exact ⟨shw_to (n := 1) (shw_lst q (flatSs_shw 0 hf)).1 (by decide), e H' q⟩
/-- a house stays one -/
theorem HouseAt.elseN {old : Addr → Prop} {H' : Hp} {pm b r : Addr} {bs : List Int} {rows : List R3} {cs : List Int} (h : HouseAt K C old H pm b r bs rows cs) (hq : H p = some (.lst ys)) (ho : old p) (e : ElseN p H H') : HouseAt K C old H' pm b r bs rows cs := by
  obtain ⟨⟨dx, sk, ah, rd, e1, e2, e3, e4, e5, e6⟩, h2, ⟨as, h3, h3'⟩, h4, h5⟩ := h
  have tup : ∀ {a : Addr} {xs : List V}, SqT K H a xs → SqT K H' a xs := by
    intro a xs z
    rcases z with (z | ⟨o, z⟩) | z
    · exact .inl (.inl (e _ _ (fun y => by rw [y, hq] at z; cases z) z fun ps w => nomatch w))
    · exact .inl (.inr ⟨o, e _ _ (fun y => by rw [y, hq] at z; cases z) z fun ps w => nomatch w⟩)
    · exact .inr z
  exact ⟨⟨dx, sk, ah, rd, e _ _ (fun y => by rw [y, hq] at e1; cases e1) e1 (fun ps w => nomatch w), e _ _ (fun y => e5 (y ▸ ho)) e2 (fun ps w => nomatch w), e _ _ (fun y => e6 (y ▸ ho)) e3 (fun ps w => nomatch w), e _ _ (fun y => by rw [y, hq] at e4; cases e4) e4 (fun ps w => nomatch w), e5, e6⟩, tup h2, ⟨as, tup h3, paired_imp h3' fun a _ x z => tup z⟩, h4, h5⟩
theorem small_repr : (reprS smallB smallR).length ≤ 300 := by decide +kernel
theorem small_text : (reprText (houseS smallB smallR)).length ≤ 300 := by decide +kernel
theorem pk_small {old : Addr → Prop} {pm b r : Addr} {cs : List Int} (h : HouseAt K C old H pm b r smallB smallR cs) (hq : H p = some (.lst ys)) (ho : old p) {H' : Hp} (e : ElseN p H H') : ShwS (owHouse K C H') H' 0 300 (.ref pm) (reprS smallB smallR) := by
  have h' := h.elseN hq ho e
  obtain ⟨dx, sk, ah, rd, q1, _⟩ := id h'.ob
  exact ⟨.own q1 ⟨old, b, r, smallB, smallR, cs, h', rfl⟩, small_repr⟩
theorem pk_hlst {old : Addr → Prop} {pm b r a : Addr} {cs : List Int} (h : HouseAt K C old H pm b r smallB smallR cs) (hq : H p = some (.lst ys)) (ho : old p) (ha : a ≠ p) (hl : H a = some (.lst [.ref pm])) (e : ∀ H, H a = some (.lst [.ref pm]) → ex H (.ref a)) : Pack K C p ex H (.ref a) := by
  have b := (shw_lst hl (.cons (pk_small h hq ho ElseN.refl) .nil)).2
  refine ⟨listText [reprS smallB smallR], by rw [List.length_nil] at b; omega, fun H' g => ?_⟩
  have q := g a _ ha hl (fun ps z => nomatch z)
  exact ⟨shw_to (n := 1) (shw_lst q (.cons (pk_small h hq ho g) .nil)).1 (by decide), e H' q⟩
theorem pk_htup {old : Addr → Prop} {pm b r a : Addr} {cs : List Int} (h : HouseAt K C old H pm b r smallB smallR cs) (hq : H p = some (.lst ys)) (ho : old p) (hl : H a = some (.tup [.ref pm])) (e : ∀ H, H a = some (.tup [.ref pm]) → ex H (.ref a)) : Pack K C p ex H (.ref a) := by
  have b := (shw_tup hl (.cons (pk_small h hq ho ElseN.refl) .nil)).2
  refine ⟨tupleText [reprS smallB smallR], by rw [List.length_singleton] at b; omega, fun H' g => ?_⟩
  have q := g a _ (pk_ne hq hl (fun z => nomatch z)) hl (fun ps z => nomatch z)
  exact ⟨shw_to (n := 1) (shw_tup q (.cons (pk_small h hq ho g) .nil)).1 (by decide), e H' q⟩
end
end LM

set_option Elab.async false
set_option linter.all false
set_option maxRecDepth 100000
set_option maxHeartbeats 4000000
namespace LM
open PySem PySem.Spec PyProof.Rows L2 RZ
/-! the small house's clock: five frames to two of a second -/
abbrev SG (n : Nat) : Int := gapI smallB smallC 5 2 (n : Int)
theorem small_gs : SG 0 = 5 ∧ SG 1 = 4 ∧ SG 2 = 3 ∧ SG 3 = 2 ∧ SG 4 = 1 := by decide +kernel
theorem five {P : Nat → Prop} (h0 : P 0) (h1 : P 1) (h2 : P 2) (h3 : P 3) (h4 : P 4) : ∀ n, n < 5 → P n
  | 0, _ => h0 | 1, _ => h1 | 2, _ => h2 | 3, _ => h3 | 4, _ => h4
  | n + 5, h => absurd h (by omega)
theorem small_least : LeastAt SG 5 1 4 ∧ LeastAt (fun n => - SG n) 5 (-5) 0 := by
  obtain ⟨g0, g1, g2, g3, g4⟩ := small_gs
  refine ⟨⟨by decide, g4, five (P := fun n => 1 ≤ SG n) (by rw [g0]; decide) (by rw [g1]; decide) (by rw [g2]; decide) (by rw [g3]; decide) (by rw [g4]; decide), fun n hn z => ?_⟩, ⟨by decide, (show - SG 0 = -5 by rw [g0]), five (P := fun n => -5 ≤ - SG n) (by rw [g0]; decide) (by rw [g1]; decide) (by rw [g2]; decide) (by rw [g3]; decide) (by rw [g4]; decide), fun n hn => absurd hn (by omega)⟩⟩
  match n, hn with
  | 0, _ => rw [g0] at z; cases z
  | 1, _ => rw [g1] at z; cases z
  | 2, _ => rw [g2] at z; cases z
  | 3, _ => rw [g3] at z; cases z
  | n + 4, h => exact absurd h (by omega)
theorem LeastAt.uniq {G : Nat → Int} {F i j : Nat} {m n : Int} (h : LeastAt G F m i) (h' : LeastAt G F n j) : m = n ∧ i = j := by
  obtain ⟨a1, a2, a3, a4⟩ := h
  obtain ⟨b1, b2, b3, b4⟩ := h'
  have e : m = n := Int.le_antisymm (b2 ▸ a3 j b1) (a2 ▸ b3 i a1)
  subst e
  refine ⟨rfl, ?_⟩
  rcases Nat.lt_trichotomy i j with z | z | z
  · exact absurd a2 (b4 i z)
  · exact z
  · exact absurd b2 (a4 j z)
theorem small_f4 : fracV (gapI smallB smallC 5 2 4) (smallB.getLastD 1 * 5) = [V.int 1, V.int 15] := by decide +kernel
theorem small_fa : fracV 1 (smallB.getLastD 1 * 5) = [V.int 1, V.int 15] := by decide +kernel
theorem small_fb : fracV 5 (smallB.getLastD 1 * 5) = [V.int 1, V.int 3] := by decide +kernel
theorem small_over (bd : Int) (h : bd < 5) : OverI (fun n => gapI smallB smallC 5 2 ((n : Nat) : Int)) bd 0 ∧ ∀ m, m < 0 → ¬ OverI (fun n => gapI smallB smallC 5 2 ((n : Nat) : Int)) bd m := by
  refine ⟨.inl ?_, fun m hm => absurd hm (by omega)⟩
  have := small_gs.1
  show bd < gapI smallB smallC 5 2 ((0 : Nat) : Int)
  have e : gapI smallB smallC 5 2 ((0 : Nat) : Int) = 5 := this
  rw [e]
  exact h
theorem small_far : OverI (fun n => gapI smallB smallC 1000000 1000000 ((n : Nat) : Int)) (10 ^ 40 * smallB.getLastD 1 * 1000000 / 7) (5 * 10 ^ 41) := .inr (by decide +kernel)
theorem small_total {c : Nat → Nat} {L B : Nat} (ct : Cnt smallB smallR smallC B c L) : sumC B c L = 5 ∧ L = 2 ∧ B = 3 := by
  refine ⟨?_, ct.len.symm, ?_⟩
  · have := ct.total
    rw [small_sum] at this
    omega
  · have := ct.last
    have e : smallB.getLastD 1 = 3 := rfl
    rw [e] at this
    omega
/-- what is told of it -/
def mixT : List Str := [tupleText [toString (1 : Int), toString (15 : Int)], tupleText [tupleText [toString (1 : Int), toString (15 : Int)], toString (4 : Int), tupleText [toString (1 : Int), toString (3 : Int)], toString (0 : Int)], toString (0 : Int), toString (0 : Int), ("False" : String)]
theorem mix_shw {ow : Addr → Str → Prop} {H : Hp} {D t1 t2 d1 d2 : Addr} (h : H D = some (.lst [.ref t1, .ref t2, .int 0, .int 0, .bl false])) (h1 : H t1 = some (.tup [.int 1, .int 15])) (h2 : H t2 = some (.tup [.ref d1, .int 4, .ref d2, .int 0])) (e1 : H d1 = some (.tup [.int 1, .int 15])) (e2 : H d2 = some (.tup [.int 1, .int 3])) :
    Shw ow H 3 (.ref D) (listText mixT) := by
  have li : ∀ i : Int, i.natAbs.log2 < 1920 → ∀ n, Shw ow H n (.int i) (toString i) := fun i hi n => shw_leaf (.int i hi) n
  have p : ∀ {t : Addr} {i j : Int} {n : Nat}, H t = some (.tup [.int i, .int j]) → i.natAbs.log2 < 1920 → j.natAbs.log2 < 1920 → Shw ow H (n + 1) (.ref t) (tupleText [toString i, toString j]) := fun ht hi hj => .inr (.inr ⟨_, _, _, rfl, ht, .cons (li _ hi _) (.cons (li _ hj _) .nil), rfl⟩)
  refine .inr (.inl ⟨D, _, _, _, rfl, h, ?_, rfl⟩)
  refine .cons (p h1 (by decide) (by decide)) (.cons ?_ (.cons (li 0 (by decide) _) (.cons (li 0 (by decide) _) (.cons (shw_leaf (.bl false) _) .nil))))
  exact .inr (.inr ⟨t2, _, _, rfl, h2, .cons (p e1 (by decide) (by decide)) (.cons (li 4 (by decide) _) (.cons (p e2 (by decide) (by decide)) (.cons (li 0 (by decide) _) .nil))), rfl⟩)
theorem mix_len : (listText mixT).length ≤ sizeLine := Nat.le_trans (show (listText mixT).length ≤ 1000 by decide +kernel) (by decide)
end LM

set_option Elab.async false
set_option linter.all false
set_option maxRecDepth 100000
set_option maxHeartbeats 2000000
/-! a def called by its parameters' names, and a tuple's turn-around -/
namespace LM
open PySem PySem.Spec PyProof.Rows L2
/-! ### t[::-1] -/
theorem places_rev (n : Nat) : Builtin.Slice.slicePlaces ((n : Int) - 1) (-1) (-1) = n := by
  unfold Builtin.Slice.slicePlaces
  rw [if_neg (by decide)]
  by_cases h : (n : Int) - 1 > -1
  · rw [if_pos h]
    have : -(-1 : Int) = 1 := by decide
    rw [this, Int.ediv_one]
    omega
  · rw [if_neg h]
    show (0 : Int).toNat = n
    omega
theorem range_pick : ∀ l : List Value, (List.range l.length).filterMap (fun m => l[m]?) = l := by
  intro l
  have h : ∀ k, k ≤ l.length → (List.range k).filterMap (fun m => l[m]?) = l.take k := by
    intro k
    induction k with
    | zero => intro _; rfl
    | succ k ih =>
      intro hk
      rw [List.range_succ, List.filterMap_append, ih (by omega), List.take_add_one]
      congr 1
  rw [h _ (Nat.le_refl _), List.take_length]
theorem fm_congr {f g : Nat → Option Value} : ∀ l : List Nat, (∀ m ∈ l, f m = g m) → l.filterMap f = l.filterMap g
  | [], _ => rfl
  | m :: l, h => by rw [List.filterMap_cons, List.filterMap_cons, h m List.mem_cons_self, fm_congr l fun k hk => h k (List.mem_cons_of_mem _ hk)]
theorem pick_rev (xs : Array Value) : ((List.range xs.size).filterMap fun (m : Nat) => xs[(((xs.size : Int) - 1) + (m : Int) * (-1)).toNat]?).toArray = xs.toList.reverse.toArray := by
  congr 1
  have e := range_pick xs.toList.reverse
  rw [List.length_reverse, Array.length_toList] at e
  refine Eq.trans (fm_congr _ fun m hm => ?_) e
  have hm' : m < xs.size := List.mem_range.mp hm
  rw [List.getElem?_reverse (by rw [Array.length_toList]; exact hm'), Array.length_toList, Array.getElem?_toList]
  congr 1
  omega
theorem sliceApplied_rev {prog : Program} {w : World} {A : Around} {E : Value → Shared → Prop} {s : Shared} {sl : Addr} {vl vu vs : Value} {n : Nat} {Q : Int × Int × Nat → Shared → Prop} (hs : s.heap.IsSliceOf sl vl vu vs) (pl : IsPart vl none) (pu : IsPart vu none) (ps : IsPart vs (some (-1)))
    (h : Q ((n : Int) - 1, -1, n) s) : wpAny (model prog w) A (Builtin.Slice.sliceApplied (.ref sl) (pure (n : Int))) Q E s := by
  obtain ⟨os, hos, hcs, hds⟩ := id hs
  unfold Builtin.Slice.sliceApplied Builtin.Slice.sliceFields
  refine wpAny_bind (wpAny_bind (wpAny_field hos hds (x := vl) rfl (wpAny_bind (wpAny_field hos hds (x := vu) rfl (wpAny_bind (wpAny_field hos hds (x := vs) rfl (wpAny_pure ?_)))))))
  refine wpAny_bind (HT.slicePart_ ps ?_)
  show wpAny _ _ (if ((-1 : Int) == 0) = true then _ else _) _ _ s
  rw [if_neg (by decide)]
  refine wpAny_bind (HT.slicePart_ pl (wpAny_bind (HT.slicePart_ pu (wpAny_bind (wpAny_pure ?_)))))
  show wpAny _ _ (pure ((n : Int) - 1, (-1 : Int), Builtin.Slice.slicePlaces ((n : Int) - 1) (-1) (-1))) _ _ s
  rw [places_rev]
  exact wpAny_pure h
theorem getItem_tuple_rev {prog : Program} {w : World} {A : Around} {E : Value → Shared → Prop} {s : Shared} {t sl : Addr} {items : Array Value} {vl vu vs : Value} {Q : Value → Shared → Prop} (ht : IsTup s.heap t items) (hs : s.heap.IsSliceOf sl vl vu vs) (pl : IsPart vl none) (pu : IsPart vu none) (ps : IsPart vs (some (-1)))
    (h : Q (.ref s.heap.objs.size) { s with heap := s.heap.push { cls := .type "tuple", data := .seq items.toList.reverse.toArray } })
    (hsz : items.size ≤ sizeLine) : wpAny (model prog w) A (getItem (.ref t) (.ref sl)) Q E s := by
  have htake : sizeOk (.seq items.toList.reverse.toArray) := by
    show items.toList.reverse.toArray.size ≤ sizeLine
    rw [List.size_toArray, List.length_reverse, Array.length_toList]
    exact hsz
  obtain ⟨os, hos, hcs, hds⟩ := id hs
  have hTs : s.TypeIs (.ref sl) "slice" := ⟨os, hos, hcs⟩
  unfold getItem
  try with_reducible refine wpAny_holding ?_
  first | refine wpAny_bind (wpAny_pure ?_) | skip
  refine wpAny_bind (wpAny_sequenceKey ht.typeIs (by decide) ?_)
  refine wpAny_bind (wpAny_callSpecial?_slot (name := Str.ofString "__getitem__") ht.typeIs PyProof.Rows.slot_tuple_getitem
    (wpAny_call_entry PyProof.Rows.slot_tuple_getitem ht.typeIs entry_tuple_getitem ?_ (args_tuple_getitem _ _)))
  show wpAny _ _ (Builtin.Tuple.tupleItemsOf (.ref t) >>= _) _ _ s
  refine wpAny_bind (tupleItemsOf_ ht ?_)
  refine wpAny_bind (wpAny_typeOf hTs ?_)
  rw [if_pos (by decide)]
  refine wpAny_bind (sliceApplied_rev hs pl pu ps ?_)
  have hno : ¬ ((((items.size : Int) - 1) == 0 && (-1 : Int) == 1 && items.size == items.size) = true) := by
    intro q
    rw [Bool.and_eq_true, Bool.and_eq_true] at q
    exact absurd q.1.2 (by decide)
  show wpAny _ _ (if (((items.size : Int) - 1) == 0 && (-1 : Int) == 1 && items.size == items.size) = true then _ else _) _ _ s
  rw [if_neg hno, pick_rev]
  first
    | exact wpAny_bind (m := Builtin.Tuple.tupleExact _) (wpAny_newObj_type (wpAny_pure ⟨_, rfl, wpAny_pure h⟩) htake)
    | exact wpAny_bind (m := Builtin.Tuple.tupleExact _) (wpAny_newObj_type (wpAny_bind (wpAny_pure (wpAny_pure ⟨_, rfl, wpAny_pure h⟩))) htake)
    | exact wpAny_bind (wpAny_bind (m := Builtin.Tuple.tupleExact _) (wpAny_newObj_type (wpAny_pure (wpAny_pure ⟨_, rfl, wpAny_pure h⟩)) htake))
    | exact wpAny_bind (wpAny_bind (m := Builtin.Tuple.tupleExact _) (wpAny_newObj_type (wpAny_pure ⟨_, rfl, wpAny_pure h⟩) htake))
def tRevT (K : PySem.W.Frag) (te : TE) : TE := fun σ H Q => te σ H fun x H1 => ∃ a xs, x = .ref a ∧ SqT K H1 a xs ∧ ∀ p, H1 p = none → Q (.ref p) (upd H1 p (.tup xs.reverse))
theorem pe_revT {X : Cx} {e : Expr} {te : TE} {k : Nat} {p1 p2 p3 pos : Pos} (he : PE X e te) : PE X (.Subscript e (.Slice none none (some (.UnaryOp .USub (.Constant (.int 1) k p1) p2)) p3) pos) (tRevT X.K te) := by
  refine ⟨fun pins s σ H Q I h => ?_⟩
  refine Subscript_ (thn (he.run pins s σ H _ I h) fun v s1 ⟨x, H1, I1, r1, q1⟩ => ?_)
  obtain ⟨a, xs, ex, hx, q⟩ := q1
  subst ex
  cases r1
  have hst : PO X (some (.UnaryOp .USub (.Constant (.int 1) k p1) p2)) (tPart (tUn (rU fun i => .int (-i)) (tC (.int 1)))) := po_some (pe_un un_neg pe_int)
  refine wpAny_Slice (thn (po_none.run pins s1 σ H1 (fun o H2 => o = none ∧ H2 = H1) I1 ⟨rfl, rfl⟩) fun vl s2 ⟨l, H2, I2, pl, el, e2⟩ => ?_)
  subst el e2
  refine thn (po_none.run pins s2 σ H2 (fun o H3 => o = none ∧ H3 = H2) I2 ⟨rfl, rfl⟩) fun vu s3 ⟨u, H3, I3, pu, eu, e3⟩ => ?_
  subst eu e3
  refine thn (hst.run pins s3 σ H3 (fun o H4 => o = some (-1) ∧ H4 = H3) I3 ⟨1, rfl, -1, rfl, rfl, rfl⟩) fun vs s4 ⟨o, H4, I4, ps, eo, e4⟩ => ?_
  subst eo e4
  have I5 : Inv X pins σ H4 { s4 with heap := s4.heap.push { cls := .type "slice", data := .fields #[vl, vu, vs] } } := I4.kept (t' := s4.toks) fun b ob q => Heap.get?_push_of_some _ q
  obtain ⟨its, r, ht, hz⟩ := I5.tuple hx
  have hlen := r.length
  show wpAny (model X.prog X.w) X.A (subscriptTail e (.Slice none none (some (.UnaryOp .USub (.Constant (.int 1) k p1) p2)) p3) (.ref a) (.ref s4.heap.objs.size)) (EP X pins σ Q) X.xe { s4 with heap := s4.heap.push { cls := .type "slice", data := .fields #[vl, vu, vs] } }
  refine tail_any (ops := [.ref a, .ref s4.heap.objs.size]) ht.typeIs (PyProof.Rows.slot_tuple_getitem.lookup) ?_ (by with_unfolding_all rfl)
  refine getItem_tuple_rev ht (Heap.IsSliceOf.new _ vl vu vs) pl pu ps ?_ (by rw [List.size_toArray]; omega)
  refine ⟨.ref _, _, I5.laid (t' := s4.toks) (o := .tup xs.reverse) (fun b ob q => Heap.get?_push_of_some _ q) (Nat.le_refl _) ?_, rfl, q _ (I5.hok.fresh (Nat.le_refl _))⟩
  exact ⟨by rw [List.length_reverse]; exact hz, _, r.reverse, IsTup.new _ _⟩
/-! ### f(k = v, ..), nothing by position -/
def tCallK0 (sp : Sp) (gV : List V → List V → List V) (E : XK) (tk : TA) : TE := fun σ H Q => tk σ H fun zs H2 => sp (gV [] zs) H2 Q E
theorem pe_callK0 {X : Cx} {CX : CXT} {k : Nat} {f : Addr} {fd : FuncData} {ps ks : List Str} {sp : Sp} {E : XK} {x : Str} {p pos : Pos} {kws : List Keyword} {tk : TA} {g : List Value → List Value → List Value} {gV : List V → List V → List V}
    (F : FnOk X.prog X.w X.K X.mg X.base CX k f fd ps sp) (hr : Room k X.A) (hg : Gl X x) (hm : X.mg x = some (.ref f)) (hk : PySem.W.keepIn X.K (.ref f) = true) (hb : KBinds X.K fd ps ks g gV) (hx : Passes CX X E)
    (hkw : PK X kws tk) (hall : (backToKw pos (keywordEach kws X.env)).all (·.1.isSome) = true := by rfl) (hks : (backToKw pos (keywordEach kws X.env)).filterMap (·.1) = ks := by rfl)
    (hdb : (x == ("__debug__" : Str)) = false := by decide)
    (hpl : ((backTo pos (starEach [] X.env)).any (·.1) || (backToKw pos (keywordEach kws X.env)).any (·.1.isNone)) = false := by rfl) :
    PE X (.Call (.Name x p) [] kws pos) (tCallK0 sp gV E tk) := by
  refine ⟨fun pins s σ H Q I h => ?_⟩
  refine wpAny_Call_Name_kw (ld_glob I hg hm ?_ hdb)
  refine PySem.W.callWith_KW0 (h₀ := X.base) I.ok.mod.kin hk hall (thn (hkw.run pos pins s σ H _ I h) fun ws s2 ⟨zs, H2, I2, rz, q2⟩ => ⟨I2.kIn, ?_⟩) hpl
  rw [hks]
  exact run_fnk (us := []) (vs := []) F hr hb hx I2 .nil rz q2
/-- the keywords in the parameters' order turned round -/
def kwR {α : Type} : List α → List α → List α
  | [], ws => ws.reverse
  | _ :: _, _ => []
/-- a def of the top, called by its parameters' names in that order -/
structure DefKw (P : Program) (w : World) (K : PySem.W.Frag) (mg : Str → Option Value) (base : Heap) (x : Str) (ps : List Str) (k : Nat) (sp : Sp) : Prop where
  all : ∃ (f : Addr) (fd : FuncData), FnOk P w K mg base CX0 k f fd ps sp ∧ mg x = some (.ref f) ∧ PySem.W.keepIn K (.ref f) = true ∧ KBinds K fd ps ps.reverse kwR kwR
theorem DefKw.mk' {P : Program} {w : World} {K : PySem.W.Frag} {mg : Str → Option Value} {base : Heap} {x : Str} {st : Stmt} {ps : List Str} {k : Nat} {sp : Sp} (t : ∃ (f : Addr) (fd : FuncData), Fun K x x st f fd ∧ mg x = some (.ref f) ∧ PySem.W.keepIn K (.ref f) = true ∧ Binds K fd ps []) (ok : ∀ {f : Addr} {fd : FuncData}, Fun K x x st f fd → FnOk P w K mg base CX0 k f fd ps sp) (hp : 0 < ps.length)
    (h : ∀ (kV doc pm : Value) (an : Option Addr) (cdv ct : Value) (ws : List Value), ws.length = ps.length → bindArgs (PySem.W.fnOf x x (defArgs st) (defBody st) (defScope st) .none kV doc pm an cdv ct) ⟨[], ps.reverse.zip ws⟩ = pure (ps.zip ws.reverse)) : DefKw P w K mg base x ps k sp := by
  obtain ⟨f, fd, F, m, kp, _⟩ := t
  refine ⟨f, fd, ok F, m, kp, ⟨fun s us ws _ hl => ?_, fun {vs us zs ws} h1 h2 => ?_⟩⟩
  · obtain ⟨oc, od, kV, doc, pm, an, cdv, ct, osl, rfl, lk, hcd⟩ := F.ex
    match us, hl with
    | [], hl =>
      have hl' : ws.reverse.length = ps.length := hl
      exact .of_eq (h kV doc pm an cdv ct ws (by rw [← hl', List.length_reverse]))
    | _ :: _, hl =>
      have : 0 = ps.length := hl
      omega
  · cases h1 with
    | nil => exact h2.reverse
    | cons _ _ => exact .nil
theorem pe_dK {X : Cx} {x : Str} {p pos : Pos} {kws : List Keyword} {tk : TA} {ps : List Str} {k : Nat} {sp : Sp} (D : DefKw X.prog X.w X.K X.mg X.base x ps k sp) (hr : Room k X.A) (hg : Gl X x) (hkw : PK X kws tk)
    (hall : (backToKw pos (keywordEach kws X.env)).all (·.1.isSome) = true := by rfl) (hks : (backToKw pos (keywordEach kws X.env)).filterMap (·.1) = ps.reverse := by rfl)
    (hdb : (x == ("__debug__" : Str)) = false := by decide)
    (hpl : ((backTo pos (starEach [] X.env)).any (·.1) || (backToKw pos (keywordEach kws X.env)).any (·.1.isNone)) = false := by rfl) :
    PE X (.Call (.Name x p) [] kws pos) (tCallK0 sp kwR E0 tk) := by
  obtain ⟨f, fd, F, m, kp, b⟩ := D.all
  exact pe_callK0 F hr hg m kp b pass0 hkw hall hks hdb hpl
end LM

set_option Elab.async false
set_option linter.all false
set_option maxRecDepth 100000
set_option maxHeartbeats 4000000
set_option pp.maxSteps 600
set_option pp.deepTerms false
namespace LM
open PySem PySem.Spec PyProof.Rows L2 RZ
local macro_rules | `(tactic| walk_at "hp") => `(tactic| first | assumption | exact upd_same | (rw [upd_ne (by assumption)]; assumption) | (rw [upd_ne (Ne.symm (by assumption))]; assumption) | (rw [upd_ne (by assumption)]; exact upd_same) | (rw [upd_ne (Ne.symm (by assumption))]; exact upd_same))
local macro_rules | `(tactic| walk_at "sq") => `(tactic| first | assumption | exact Or.inl (Or.inl (by assumption)) | exact Or.inl (Or.inl upd_same) | exact Or.inl (Or.inl (by walk_at "hp")))
local macro_rules | `(tactic| walk_at "ixl") => `(tactic| refine ⟨_, _, _, _, rfl, rfl, (by walk_at "sq"), (by rfl), ?_⟩)
local macro_rules | `(tactic| walk_at "setl") => `(tactic| refine ⟨_, _, _, _, rfl, rfl, (by walk_at "hp"), (by rfl), ?_⟩)
local macro_rules | `(tactic| walk_at "side") => `(tactic| refine idP ?_; first | omega | (show (0 : Int) < _; omega) | (show (0 : Int) < _ ∧ _ < _; omega) | (refine Or.inr ?_; show (-(2 ^ 64) : Int) < _ ∧ _ < _; omega) | (refine Or.inl ?_; show (-(2 ^ 64) : Int) < _ ∧ _ < _; omega) | exact divW (by omega) (by omega) _ | (refine ⟨by decide, by decide, ?_⟩; decide))
local macro_rules | `(tactic| walk_at "go1") => `(tactic| first
  | refine ⟨_, rfl, ?_⟩
  | refine ⟨_, _, rfl, rfl, (by walk_at "side"), ?_⟩
  | refine ⟨_, _, rfl, (by walk_at "side"), ?_⟩
  | refine ⟨_, _, rfl, rfl, ?_⟩
  | refine Or.inl ⟨_, rfl, ?_⟩
  | refine ⟨_, _, rfl, Or.inl (by walk_at "sq"), ?_⟩
  | walk_at "ixl"
  | walk_at "setl"
  | refine ⟨_, _, rfl, (by walk_at "sq"), rfl, ?_⟩
  | refine ⟨_, _, rfl, (by walk_at "sq"), ?_⟩
  | refine ⟨_, _, rfl, ?_⟩
  | refine ⟨rfl, ?_⟩
  | refine ⟨small (Nat.le_of_ble_eq_true rfl), ?_⟩)
local macro_rules | `(tactic| walk_at "go") => `(tactic| repeat walk_at "go1")

abbrev s_law_right : Stmt := topS 81
theorem sc_law_right : FnScope ["_law_vase_here", "_law_told", "_law_due", "_law_named", "_law_low", "_law_none", "_law_rate", "_law_rim", "_law_small", "_law_speed"] ["_law_vase_here"] (defScope s_law_right) := ⟨rfl, rfl, rfl, by decide +kernel, rfl, by decide +kernel, by decide +kernel⟩
theorem numC_nil {K : PySem.W.Frag} : ∀ v ∈ ([] : List V), NumC K v := fun _ h => nomatch h
theorem numC_cons {K : PySem.W.Frag} {x : V} {xs : List V} (h : NumC K x) (hs : ∀ v ∈ xs, NumC K v) : ∀ v ∈ x :: xs, NumC K v := fun v hv => by
  rcases List.mem_cons.mp hv with rfl | hv
  · exact h
  · exact hs v hv
abbrev TQ (P : Addr) : List (Addr × Str) := [(P, (envOfC "_law_right" (defScope s_law_right) 0 0 .none).qual ++ "<lambda>")]
def spRight (K : PySem.W.Frag) (Pt : Addr) : Sp := fun vs H Q _ => ∃ (p : Addr), vs = [.ref p] ∧ VaseAt H p ∧ LamX.Tabs (TQ Pt) H ∧ ∀ H', ElseN p H H' → LamX.Tabs (TQ Pt) H' → Q (.bl true) H'
section
variable {P : Program} {w : World} {K : PySem.W.Frag} {mg : Str → Option Value} {base : Heap} {c0 c1 c2 c3 c4 c5 c6 c7 w1 w2 w3 : Addr}
theorem ok_right {f c C CH CP CN CB gC gF Pt fI fSt : Addr} {fdC fdF fdI fdSt : FuncData} {oc : Value} {od an : Option Addr} {osl : Array (Option Value)} {kV doc pm ct : Value}
    (inK : K.lookup f = some ⟨oc, od, .func (PySem.W.fnOf "_law_right" "_law_right" (defArgs s_law_right) (defBody s_law_right) (defScope s_law_right) .none kV doc pm an (.ref c) ct), osl⟩) (hco : PySem.W.codeIn K (.ref c) "_law_right" = true) (TB : LamX.TabB base mg c Pt)
    (T : HouseTxt K mg C) (N : Names mg) (M : Kin mg c0 c1 c2 c3 c4 c5 c6 c7 w1 w2 w3) (F0 : FaultC K c0 c1 c2 c3 c4 c5 c6 c7 w1 w2 w3 CH 0) (F2 : FaultC K c0 c1 c2 c3 c4 c5 c6 c7 w1 w2 w3 CN 2) (F3 : FaultC K c0 c1 c2 c3 c4 c5 c6 c7 w1 w2 w3 CP 3) (F4 : FaultC K c0 c1 c2 c3 c4 c5 c6 c7 w1 w2 w3 CB 4)
    (FC : Fun K "_law_tried" "_law_tried" s_law_tried gC fdC) (bC : Binds K fdC ["_law_act"] []) (mC : mg "_law_tried" = some (.ref gC))
    (FE : FnE P w K mg base 1 gF fdF ["_law_e"] (spFault K c0 c1 c2 c3 c4 c5 c6 c7 w1 w2 w3)) (mF : mg "_law_fault" = some (.ref gF)) (kF : PySem.W.keepIn K (.ref gF) = true) (bF : Binds K fdF ["_law_e"] [])
    (MK : Mk K C fI) (GI : FnOk P w K mg base CX0 5 fI fdI ["self", "bases", "rows"] (spInit K C)) (bI : Binds K fdI ["self", "bases", "rows"] [])
    (sSt : PySem.W.findIn K (.ref C) "__str__" = some (some (.ref fSt))) (iSt : PySem.W.isFn K (.ref fSt) = true) (GSt : FnOk P w K mg base CX0 1 fSt fdSt ["self"] (spStr C)) (bSt : Binds K fdSt ["self"] [])
    (D_law_pluck : DefK P w K mg base "_law_pluck" ["_law_vase_here", "_law_menu"] 2 (spPluck K)) (D_law_same : DefG P w K mg base "_law_same" ["_law_told", "_law_due"] 13 (spSameT (owHouse K C)))
    (Xdrift : DefX P w K mg base "drift" ["house", "pace", "frame"] 6 (spDriftX K C CH CP CN)) (Xswing : DefX P w K mg base "swing" ["house", "pace"] 6 (spSwingX K C CH CP)) (Xfirst_beyond : DefX P w K mg base "first_beyond" ["house", "pace", "bound"] 7 (spBeyondX K C CH CP CB))
    (Dfirst_beyond : DefK P w K mg base "first_beyond" ["house", "pace", "bound"] 7 (spBeyond K C)) (Kdrift : DefKw P w K mg base "drift" ["house", "pace", "frame"] 6 (spDrift K C)) (Kswing : DefKw P w K mg base "swing" ["house", "pace"] 6 (spSwing K C)) (Kfirst_beyond : DefKw P w K mg base "first_beyond" ["house", "pace", "bound"] 7 (spBeyond K C)) :
    FnG P w K mg base 15 f (PySem.W.fnOf "_law_right" "_law_right" (defArgs s_law_right) (defBody s_law_right) (defScope s_law_right) .none kV doc pm an (.ref c) ct) ["_law_vase_here"] (spRight K Pt) := by
  refine funGc_ok inK hco sc_law_right (fun vs H Q E h => ?_) (fun A outer s H vs Q E hgd hr h => ?_)
  · obtain ⟨p, rfl, _⟩ := h
    rfl
  · obtain ⟨p, rfl, hv, hT0, k⟩ := h
    have sc := sc_law_right
    have hu := hu_of hr
    refine ⟨_, (pss_cons (ps_asg (pe_tup (pa_cons (pe_make MK GI (hr.mono (by decide)) rfl T.mgC bI .nil pass0 (pa_cons (pe_tup (pa_cons pe_int (pa_cons pe_int pa_nil))) (pa_cons (pe_tup (pa_cons (pe_tup (pa_cons pe_int (pa_cons pe_int (pa_cons pe_int pa_nil)))) pa_nil)) pa_nil))) (pa_cons (pe_tup (pa_cons pe_int (pa_cons pe_int pa_nil))) pa_nil))) (pg_tup rfl (pgs_cons (pg_name (i := 8) sc.nd rfl (Or.inr rfl)) (pgs_cons (pg_name (i := 9) sc.nd rfl (Or.inr rfl)) pgs_nil))))
      (pss_cons (ps_set (i := 5) sc.nd rfl (Or.inr rfl) (pe_d D_law_pluck (hr.mono (by decide)) rfl (pa_cons (pv 0) (pa_cons (pe_lst (pa_cons pe_non (pa_cons pe_int (pa_cons pe_str (pa_cons (pe_callTy (T := "str") (call_strO sSt iSt GSt (hr.mono (by decide)) bSt pass0) (by rfl) N.str (by decide +kernel) (pa_cons (pv 8) pa_nil)) (pa_cons (pe_lst (pa_cons (pv 8) pa_nil)) (pa_cons (pe_tup (pa_cons (pv 8) pa_nil)) (pa_cons pe_dnewK (pa_cons pe_bl (pa_cons (pe_tup (pa_cons pe_int (pa_cons pe_int pa_nil))) pa_nil)))))))))) pa_nil))))
      (pss_cons (ps_set (i := 6) sc.nd rfl (Or.inr rfl) (pe_d D_law_pluck (hr.mono (by decide)) rfl (pa_cons (pv 0) (pa_cons (pe_lst (pa_cons (pe_tup (pa_cons pe_int (pa_cons pe_int pa_nil))) (pa_cons (pe_tup (pa_cons pe_int (pa_cons pe_int pa_nil))) (pa_cons (pe_tup (pa_cons (pe_op op_add (pe_op op_pow pe_int pe_int) pe_int) (pa_cons pe_int pa_nil))) (pa_cons (pe_tup (pa_cons pe_int (pa_cons (pe_op op_add (pe_op op_pow pe_int pe_int) pe_int) pa_nil))) (pa_cons (pe_tup (pa_cons pe_bl (pa_cons pe_int pa_nil))) (pa_cons (pe_tup (pa_cons pe_int (pa_cons pe_bl pa_nil))) pa_nil))))))) pa_nil))))
      (pss_cons (ps_set (i := 6) sc.nd rfl (Or.inr rfl) (pe_d D_law_pluck (hr.mono (by decide)) rfl (pa_cons (pv 0) (pa_cons (pe_lst (pa_cons (pv 6) (pa_cons (pv 6) (pa_cons pe_non (pa_cons (pe_lst (pa_cons pe_int (pa_cons pe_int pa_nil))) (pa_cons (pe_tup (pa_cons pe_int pa_nil)) (pa_cons (pe_tup (pa_cons pe_int (pa_cons pe_int (pa_cons pe_int pa_nil)))) (pa_cons (pe_tup (pa_cons pe_str (pa_cons pe_int pa_nil))) (pa_cons pe_int (pa_cons (pe_tup (pa_cons (pe_un un_neg pe_int) (pa_cons (pe_un un_neg pe_int) pa_nil))) (pa_cons pe_dnewK (pa_cons (pe_tup pa_nil) pa_nil)))))))))))) pa_nil))))
      (pss_cons (ps_set (i := 4) sc.nd rfl (Or.inr rfl) (pe_d D_law_pluck (hr.mono (by decide)) rfl (pa_cons (pv 0) (pa_cons (pe_lst (pa_cons pe_non (pa_cons (pe_un un_neg pe_int) (pa_cons pe_bl (pa_cons pe_bl (pa_cons pe_str (pa_cons (pe_lst (pa_cons pe_int pa_nil)) (pa_cons (pe_tup (pa_cons pe_int pa_nil)) (pa_cons (pe_op op_sub pe_int (pe_op op_pow pe_int pe_int)) (pa_cons pe_dnewK pa_nil)))))))))) pa_nil))))
      (pss_cons (ps_set (i := 7) sc.nd rfl (Or.inr rfl) (pe_d D_law_pluck (hr.mono (by decide)) rfl (pa_cons (pv 0) (pa_cons (pe_lst (pa_cons (pe_tup (pa_cons (pe_un un_neg pe_int) (pa_cons pe_int pa_nil))) (pa_cons (pe_tup (pa_cons pe_int (pa_cons pe_int pa_nil))) (pa_cons (pe_tup (pa_cons pe_int (pa_cons pe_int pa_nil))) (pa_cons (pe_tup (pa_cons pe_int (pa_cons pe_int pa_nil))) (pa_cons (pe_tup (pa_cons pe_int (pa_cons pe_int pa_nil))) (pa_cons (pe_tup (pa_cons pe_bl (pa_cons pe_int pa_nil))) (pa_cons (pe_tup (pa_cons pe_int (pa_cons pe_bl pa_nil))) (pa_cons (pe_tup (pa_cons pe_int (pa_cons (pe_un un_neg pe_int) pa_nil))) (pa_cons (pe_tup (pa_cons (pe_un un_neg pe_int) (pa_cons (pe_un un_neg pe_int) pa_nil))) pa_nil)))))))))) pa_nil))))
      (pss_cons (ps_set (i := 7) sc.nd rfl (Or.inr rfl) (pe_d D_law_pluck (hr.mono (by decide)) rfl (pa_cons (pv 0) (pa_cons (pe_lst (pa_cons (pv 7) (pa_cons (pv 7) (pa_cons pe_non (pa_cons (pe_lst (pa_cons pe_int (pa_cons pe_int pa_nil))) (pa_cons (pe_tup (pa_cons pe_int (pa_cons pe_int (pa_cons pe_int pa_nil)))) (pa_cons pe_int (pa_cons (pe_tup (pa_cons pe_int pa_nil)) (pa_cons (pe_tup (pa_cons pe_str (pa_cons pe_int pa_nil))) (pa_cons pe_dnewK (pa_cons (pe_tup (pa_cons (pe_op op_pow pe_int pe_int) (pa_cons (pe_op op_pow pe_int pe_int) pa_nil))) pa_nil))))))))))) pa_nil))))
      (pss_cons (ps_set (i := 1) sc.nd rfl (Or.inl rfl) (pe_lst (pa_cons (pe_tried FC bC mC FE mF kF bF M rfl TB rfl (List.mem_singleton.mpr rfl) (fun p hp _ => by rw [List.mem_singleton.mp hp]) (hr.mono (by decide)) (show LamX.LamS (defScope s_law_right) _ from LamX.lamS_by (by decide +kernel)) rfl (fun _ _ _ _ _ => rfl) (fun A outer s H E f c' hr2 => (pe_dX (E := E) Xdrift (hr2.mono (by decide)) rfl (passes_call (takes_of rfl rfl rfl rfl) (fun _ _ _ _ h => h)) (pa_cons (pv 5) (pa_cons (pv 6) (pa_cons (pv 4) pa_nil)))))) pa_nil)))
      (pss_cons (ps_expr (pe_bm PySem.F.plainAttrs_list PySem.F.slot_list_append PySem.F.type_list_append mt_append (pv 1) (pa_cons (pe_tried FC bC mC FE mF kF bF M rfl TB rfl (List.mem_singleton.mpr rfl) (fun p hp _ => by rw [List.mem_singleton.mp hp]) (hr.mono (by decide)) (show LamX.LamS (defScope s_law_right) _ from LamX.lamS_by (by decide +kernel)) rfl (fun _ _ _ _ _ => rfl) (fun A outer s H E f c' hr2 => (pe_dX (E := E) Xswing (hr2.mono (by decide)) rfl (passes_call (takes_of rfl rfl rfl rfl) (fun _ _ _ _ h => h)) (pa_cons (pv 5) (pa_cons (pv 6) pa_nil))))) pa_nil)))
      (pss_cons (ps_expr (pe_bm PySem.F.plainAttrs_list PySem.F.slot_list_append PySem.F.type_list_append mt_append (pv 1) (pa_cons (pe_tried FC bC mC FE mF kF bF M rfl TB rfl (List.mem_singleton.mpr rfl) (fun p hp _ => by rw [List.mem_singleton.mp hp]) (hr.mono (by decide)) (show LamX.LamS (defScope s_law_right) _ from LamX.lamS_by (by decide +kernel)) rfl (fun _ _ _ _ _ => rfl) (fun A outer s H E f c' hr2 => (pe_dX (E := E) Xfirst_beyond (hr2.mono (by decide)) rfl (passes_call (takes_of rfl rfl rfl rfl) (fun _ _ _ _ h => h)) (pa_cons (pv 5) (pa_cons (pv 6) (pa_cons (pv 7) pa_nil)))))) pa_nil)))
      (pss_cons (ps_expr (pe_bm PySem.F.plainAttrs_list PySem.F.slot_list_append PySem.F.type_list_append mt_append (pv 1) (pa_cons (pe_tried FC bC mC FE mF kF bF M rfl TB rfl (List.mem_singleton.mpr rfl) (fun p hp _ => by rw [List.mem_singleton.mp hp]) (hr.mono (by decide)) (show LamX.LamS (defScope s_law_right) _ from LamX.lamS_by (by decide +kernel)) rfl (fun _ _ _ _ _ => rfl) (fun A outer s H E f c' hr2 => (pe_dX (E := E) Xdrift (hr2.mono (by decide)) rfl (passes_call (takes_of rfl rfl rfl rfl) (fun _ _ _ _ h => h)) (pa_cons (pv 8) (pa_cons (pv 6) (pa_cons (pv 4) pa_nil)))))) pa_nil)))
      (pss_cons (ps_expr (pe_bm PySem.F.plainAttrs_list PySem.F.slot_list_append PySem.F.type_list_append mt_append (pv 1) (pa_cons (pe_tried FC bC mC FE mF kF bF M rfl TB rfl (List.mem_singleton.mpr rfl) (fun p hp _ => by rw [List.mem_singleton.mp hp]) (hr.mono (by decide)) (show LamX.LamS (defScope s_law_right) _ from LamX.lamS_by (by decide +kernel)) rfl (fun _ _ _ _ _ => rfl) (fun A outer s H E f c' hr2 => (pe_dX (E := E) Xswing (hr2.mono (by decide)) rfl (passes_call (takes_of rfl rfl rfl rfl) (fun _ _ _ _ h => h)) (pa_cons (pv 8) (pa_cons (pv 6) pa_nil))))) pa_nil)))
      (pss_cons (ps_expr (pe_bm PySem.F.plainAttrs_list PySem.F.slot_list_append PySem.F.type_list_append mt_append (pv 1) (pa_cons (pe_tried FC bC mC FE mF kF bF M rfl TB rfl (List.mem_singleton.mpr rfl) (fun p hp _ => by rw [List.mem_singleton.mp hp]) (hr.mono (by decide)) (show LamX.LamS (defScope s_law_right) _ from LamX.lamS_by (by decide +kernel)) rfl (fun _ _ _ _ _ => rfl) (fun A outer s H E f c' hr2 => (pe_dX (E := E) Xfirst_beyond (hr2.mono (by decide)) rfl (passes_call (takes_of rfl rfl rfl rfl) (fun _ _ _ _ h => h)) (pa_cons (pv 8) (pa_cons (pv 6) (pa_cons (pv 7) pa_nil)))))) pa_nil)))
      (pss_cons (ps_expr (pe_bm PySem.F.plainAttrs_list PySem.F.slot_list_append PySem.F.type_list_append mt_append (pv 1) (pa_cons (pe_tried FC bC mC FE mF kF bF M rfl TB rfl (List.mem_singleton.mpr rfl) (fun p hp _ => by rw [List.mem_singleton.mp hp]) (hr.mono (by decide)) (show LamX.LamS (defScope s_law_right) _ from LamX.lamS_by (by decide +kernel)) rfl (fun _ _ _ _ _ => rfl) (fun A outer s H E f c' hr2 => (pe_dX (E := E) Xdrift (hr2.mono (by decide)) rfl (passes_call (takes_of rfl rfl rfl rfl) (fun _ _ _ _ h => h)) (pa_cons (pv 8) (pa_cons (pv 9) (pa_cons (pv 4) pa_nil)))))) pa_nil)))
      (pss_cons (ps_expr (pe_bm PySem.F.plainAttrs_list PySem.F.slot_list_append PySem.F.type_list_append mt_append (pv 1) (pa_cons (pe_tried FC bC mC FE mF kF bF M rfl TB rfl (List.mem_singleton.mpr rfl) (fun p hp _ => by rw [List.mem_singleton.mp hp]) (hr.mono (by decide)) (show LamX.LamS (defScope s_law_right) _ from LamX.lamS_by (by decide +kernel)) rfl (fun _ _ _ _ _ => rfl) (fun A outer s H E f c' hr2 => (pe_dX (E := E) Xfirst_beyond (hr2.mono (by decide)) rfl (passes_call (takes_of rfl rfl rfl rfl) (fun _ _ _ _ h => h)) (pa_cons (pv 8) (pa_cons (pv 9) (pa_cons (pv 7) pa_nil)))))) pa_nil)))
      (pss_cons (ps_set (i := 2) sc.nd rfl (Or.inl rfl) (pe_op op_cat (pe_op op_cat (pe_op op_rep (pe_lst (pa_cons (pe_tup (pa_cons pe_str (pa_cons (pv 5) pa_nil))) pa_nil)) pe_int) (pe_op op_rep (pe_lst (pa_cons (pe_tup (pa_cons pe_str (pa_cons (pv 6) pa_nil))) pa_nil)) pe_int)) (pe_lst (pa_cons (pe_tup (pa_cons pe_str (pa_cons (pv 4) pa_nil))) (pa_cons (pe_tup (pa_cons pe_str (pa_cons (pv 7) pa_nil))) pa_nil)))))
      (pss_cons (ps_if (pt_not (pt_val (pe_dG D_law_same hgd (hr.mono (by decide)) rfl (pa_cons (pv 1) (pa_cons (pv 2) pa_nil))))) (pss_one (ps_ret pe_bl)) pss_nil)
      (pss_cons (ps_set (i := 3) sc.nd rfl (Or.inl rfl) (pe_lst (pa_cons (pe_dK Kdrift (hr.mono (by decide)) rfl (pk_cons pe_int (pk_cons (pv 9) (pk_cons (pv 8) pk_nil)))) (pa_cons (pe_dK Kswing (hr.mono (by decide)) rfl (pk_cons (pv 9) (pk_cons (pv 8) pk_nil))) pa_nil))))
      (pss_cons (ps_expr (pe_bm PySem.F.plainAttrs_list PySem.F.slot_list_append PySem.F.type_list_append mt_append (pv 3) (pa_cons (pe_dK Kfirst_beyond (hr.mono (by decide)) rfl (pk_cons (pe_tup (pa_cons pe_int (pa_cons pe_int pa_nil))) (pk_cons (pv 9) (pk_cons (pv 8) pk_nil)))) pa_nil)))
      (pss_cons (ps_set (i := 1) sc.nd rfl (Or.inl rfl) (pe_lst (pa_cons (pe_d Dfirst_beyond (hr.mono (by decide)) rfl (pa_cons (pv 8) (pa_cons (pv 9) (pa_cons (pe_tup (pa_cons pe_int (pa_cons pe_int pa_nil))) pa_nil)))) (pa_cons (pe_cmpR op_isN (pe_d Dfirst_beyond (hr.mono (by decide)) rfl (pa_cons (pv 8) (pa_cons (pe_tup (pa_cons (pe_op op_pow pe_int pe_int) (pa_cons (pe_op op_pow pe_int pe_int) pa_nil))) (pa_cons (pe_tup (pa_cons (pe_op op_pow pe_int pe_int) (pa_cons pe_int pa_nil))) pa_nil)))) pe_non (nomark _)) pa_nil))))
      (pss_one (ps_ret (pe_dG D_law_same hgd (hr.mono (by decide)) rfl (pa_cons (pe_op op_cat (pv 3) (pv 1)) (pa_cons (pe_lst (pa_cons (pe_tup (pa_cons pe_int (pa_cons pe_int pa_nil))) (pa_cons (pe_tup (pa_cons (pe_tup (pa_cons pe_int (pa_cons pe_int pa_nil))) (pa_cons pe_int (pa_cons (pe_tup (pa_cons pe_int (pa_cons pe_int pa_nil))) (pa_cons pe_int pa_nil))))) (pa_cons pe_int (pa_cons pe_int (pa_cons pe_bl pa_nil)))))) pa_nil))))))))))))))))))))))))), ?_⟩
    obtain ⟨_, _, _, _, _, _, ep0⟩ := id hv
    refine ⟨Nat.le_of_ble_eq_true rfl, ?_⟩
    (intro ba n_ba; generalize e_ba : upd H ba _ = H1; have s1 : Same H H1 := fun b x hb => (congrFun e_ba b).symm.trans (same_new n_ba b x hb); have h_ba := (congrFun e_ba ba).symm.trans upd_same; clear e_ba)
    refine ⟨Nat.le_of_ble_eq_true rfl, ?_⟩
    (intro ra n_ra; generalize e_ra : upd H1 ra _ = H2; have s2 : Same H1 H2 := fun b x hb => (congrFun e_ra b).symm.trans (same_new n_ra b x hb); have h_ra := (congrFun e_ra ra).symm.trans upd_same; clear e_ra)
    refine ⟨Nat.le_of_ble_eq_true rfl, ?_⟩
    (intro rr n_rr; generalize e_rr : upd H2 rr _ = H3; have s3 : Same H2 H3 := fun b x hb => (congrFun e_rr b).symm.trans (same_new n_rr b x hb); have h_rr := (congrFun e_rr rr).symm.trans upd_same; clear e_rr)
    intro pm dx np ndx ndp
    refine house_use (bs := smallB) (rows := smallR) (b := ba) (r := rr) np ndx rfl (SqT.tup (s3 _ _ (s2 _ _ h_ba))) ⟨[ra], SqT.tup h_rr, .cons (SqT.tup (s3 _ _ h_ra)) .nil⟩ small_fair fun cs H4 s4 hA => ⟨rfl, ?_⟩
    obtain rfl := small_cs hA.rep
    refine ⟨Nat.le_of_ble_eq_true rfl, ?_⟩
    (intro qs n_qs; generalize e_qs : upd H4 qs _ = H5; have s5 : Same H4 H5 := fun b x hb => (congrFun e_qs b).symm.trans (same_new n_qs b x hb); have h_qs := (congrFun e_qs qs).symm.trans upd_same; clear e_qs)
    refine ⟨Nat.le_of_ble_eq_true rfl, ?_⟩
    (intro tt n_tt; generalize e_tt : upd H5 tt _ = H6; have s6 : Same H5 H6 := fun b x hb => (congrFun e_tt b).symm.trans (same_new n_tt b x hb); have h_tt := (congrFun e_tt tt).symm.trans upd_same; clear e_tt)
    refine ⟨tt, _, rfl, SqT.tup h_tt, rfl, _, _, rfl, _, _, rfl, rfl, ?_⟩
    have s06 := (((s1.trans s2).trans s3).trans s4).trans (s5.trans s6)
    have hv_a := hv.same s06
    have hold : H3 p ≠ none := by rw [((s1.trans s2).trans s3) _ _ ep0]; exact fun z => nomatch z
    have hA6 := hA.same (s5.trans s6)
    have aq : qs ≠ p := ((hv.same (((s1.trans s2).trans s3).trans s4)).ne n_qs)
    have hq6 := s6 _ _ h_qs
    obtain ⟨dx0, sk0, ah0, rd0, hq_a, _⟩ := id hA6.ob
    have htx_a := hA6.text
    refine ⟨_, rfl, _, rfl, pm, _, _, rfl, (hq_a), pm, _, rfl, (htx_a), _, rfl, _, rfl, Nat.le_of_ble_eq_true rfl, ?_⟩
    (intro oa4 n_oa4; generalize e_oa4 : upd H6 oa4 _ = H7; have s7 : Same H6 H7 := fun b x hb => (congrFun e_oa4 b).symm.trans (same_new n_oa4 b x hb); have h_oa4 := (congrFun e_oa4 oa4).symm.trans upd_same; clear e_oa4)
    refine ⟨_, rfl, Nat.le_of_ble_eq_true rfl, ?_⟩
    (intro oa5 n_oa5; generalize e_oa5 : upd H7 oa5 _ = H8; have s8 : Same H7 H8 := fun b x hb => (congrFun e_oa5 b).symm.trans (same_new n_oa5 b x hb); have h_oa5 := (congrFun e_oa5 oa5).symm.trans upd_same; clear e_oa5)
    (intro oa6 n_oa6; generalize e_oa6 : upd H8 oa6 _ = H9; have s9 : Same H8 H9 := fun b x hb => (congrFun e_oa6 b).symm.trans (same_new n_oa6 b x hb); have h_oa6 := (congrFun e_oa6 oa6).symm.trans upd_same; clear e_oa6)
    refine ⟨Nat.le_of_ble_eq_true rfl, ?_⟩
    (intro oa8 n_oa8; generalize e_oa8 : upd H9 oa8 _ = H10; have s10 : Same H9 H10 := fun b x hb => (congrFun e_oa8 b).symm.trans (same_new n_oa8 b x hb); have h_oa8 := (congrFun e_oa8 oa8).symm.trans upd_same; clear e_oa8)
    refine ⟨Nat.le_of_ble_eq_true rfl, ?_⟩
    (intro ma n_ma; generalize e_ma : upd H10 ma _ = H11; have s11 : Same H10 H11 := fun b x hb => (congrFun e_ma b).symm.trans (same_new n_ma b x hb); have h_ma := (congrFun e_ma ma).symm.trans upd_same; clear e_ma)
    have ss_a := ((((s7).trans s8).trans s9).trans s10).trans s11
    have sb_a := (((s7).trans s8).trans s9).trans s10
    have hvm_a := hv_a.same ss_a
    refine ⟨p, ma, _, rfl, hvm_a, (hv_a.same sb_a).ne n_ma, SqL.lst h_ma, Nat.le_of_ble_eq_true rfl, Nat.le_of_ble_eq_true rfl, fun vn Ga hmem hw_a ey => ?_⟩
    have a_oa4 := hv_a.ne n_oa4
    have q_oa4 := ey _ _ a_oa4 (s11 _ _ (s10 _ _ (s9 _ _ (s8 _ _ (h_oa4)))))
    have a_oa5 := (hv_a.same (s7)).ne n_oa5
    have q_oa5 := ey _ _ a_oa5 (s11 _ _ (s10 _ _ (s9 _ _ (h_oa5))))
    have a_oa6 := (hv_a.same ((s7).trans s8)).ne n_oa6
    have q_oa6 := ey _ _ a_oa6 (s11 _ _ (s10 _ _ (h_oa6)))
    have a_oa8 := (hv_a.same (((s7).trans s8).trans s9)).ne n_oa8
    have q_oa8 := ey _ _ a_oa8 (s11 _ _ (h_oa8))
    obtain ⟨_, _, _, _, _, _, ep_a⟩ := id hw_a
    have ebm_a := (Same.els ss_a (p := p)).trans ey
    have hAy_a := hA6.els (s06 _ _ ep0) hold ebm_a
    have pk_vn : Pack K C p (fun H y => ∃ T, Kind K H y T) Ga vn := by
      simp only [List.mem_cons, List.not_mem_nil, or_false] at hmem
      rcases hmem with rfl | rfl | rfl | rfl | rfl | rfl | rfl | rfl | rfl
      · exact pk_flat .non fun H => ⟨"NoneType", ⟨.base .non, by decide⟩⟩
      · exact pk_flat (.int _ (by decide +kernel)) fun H => ⟨"int", ⟨.base (.int _), by decide⟩⟩
      · exact pk_flat (.str _ (by decide +kernel)) fun H => ⟨"str", ⟨.base (.str _), by decide⟩⟩
      · exact pk_flat (.str _ small_text) fun H => ⟨"str", ⟨.base (.str _), by decide⟩⟩
      · exact pk_hlst hAy_a ep_a hold a_oa4 q_oa4 fun H q => ⟨"list", ⟨.base (.lst q), by decide⟩⟩
      · exact pk_htup hAy_a ep_a hold q_oa5 fun H q => ⟨"tuple", ⟨.base (.tup q), by decide⟩⟩
      · exact pk_dic ep_a q_oa6 fun H q => ⟨"dict", ⟨.base (.dK q), by decide⟩⟩
      · exact pk_flat (.bl _) fun H => ⟨"bool", ⟨.base (.bl _), by decide⟩⟩
      · exact pk_tup ep_a q_oa8 (.cons (.int _ (by decide +kernel)) (.cons (.int _ (by decide +kernel)) .nil)) (Nat.le_of_ble_eq_true rfl) fun H q => ⟨"tuple", ⟨.base (.tup q), by decide⟩⟩
    have hv_b := hw_a
    refine ⟨_, rfl, Nat.le_of_ble_eq_true rfl, ?_⟩
    (intro ob0 n_ob0; generalize e_ob0 : upd Ga ob0 _ = H12; have s12 : Same Ga H12 := fun b x hb => (congrFun e_ob0 b).symm.trans (same_new n_ob0 b x hb); have h_ob0 := (congrFun e_ob0 ob0).symm.trans upd_same; clear e_ob0)
    refine ⟨Nat.le_of_ble_eq_true rfl, ?_⟩
    (intro ob1 n_ob1; generalize e_ob1 : upd H12 ob1 _ = H13; have s13 : Same H12 H13 := fun b x hb => (congrFun e_ob1 b).symm.trans (same_new n_ob1 b x hb); have h_ob1 := (congrFun e_ob1 ob1).symm.trans upd_same; clear e_ob1)
    refine ⟨_, _, rfl, rfl, ⟨by decide, by decide, by decide⟩, _, _, rfl, rfl, Nat.le_of_ble_eq_true rfl, ?_⟩
    (intro ob2 n_ob2; generalize e_ob2 : upd H13 ob2 _ = H14; have s14 : Same H13 H14 := fun b x hb => (congrFun e_ob2 b).symm.trans (same_new n_ob2 b x hb); have h_ob2 := (congrFun e_ob2 ob2).symm.trans upd_same; clear e_ob2)
    refine ⟨_, _, rfl, rfl, ⟨by decide, by decide, by decide⟩, _, _, rfl, rfl, Nat.le_of_ble_eq_true rfl, ?_⟩
    (intro ob3 n_ob3; generalize e_ob3 : upd H14 ob3 _ = H15; have s15 : Same H14 H15 := fun b x hb => (congrFun e_ob3 b).symm.trans (same_new n_ob3 b x hb); have h_ob3 := (congrFun e_ob3 ob3).symm.trans upd_same; clear e_ob3)
    refine ⟨Nat.le_of_ble_eq_true rfl, ?_⟩
    (intro ob4 n_ob4; generalize e_ob4 : upd H15 ob4 _ = H16; have s16 : Same H15 H16 := fun b x hb => (congrFun e_ob4 b).symm.trans (same_new n_ob4 b x hb); have h_ob4 := (congrFun e_ob4 ob4).symm.trans upd_same; clear e_ob4)
    refine ⟨Nat.le_of_ble_eq_true rfl, ?_⟩
    (intro ob5 n_ob5; generalize e_ob5 : upd H16 ob5 _ = H17; have s17 : Same H16 H17 := fun b x hb => (congrFun e_ob5 b).symm.trans (same_new n_ob5 b x hb); have h_ob5 := (congrFun e_ob5 ob5).symm.trans upd_same; clear e_ob5)
    refine ⟨Nat.le_of_ble_eq_true rfl, ?_⟩
    (intro mb n_mb; generalize e_mb : upd H17 mb _ = H18; have s18 : Same H17 H18 := fun b x hb => (congrFun e_mb b).symm.trans (same_new n_mb b x hb); have h_mb := (congrFun e_mb mb).symm.trans upd_same; clear e_mb)
    have ss_b := ((((((s12).trans s13).trans s14).trans s15).trans s16).trans s17).trans s18
    have sb_b := (((((s12).trans s13).trans s14).trans s15).trans s16).trans s17
    have hvm_b := hv_b.same ss_b
    refine ⟨p, mb, _, rfl, hvm_b, (hv_b.same sb_b).ne n_mb, SqL.lst h_mb, Nat.le_of_ble_eq_true rfl, Nat.le_of_ble_eq_true rfl, fun r0 Gb hmem hw_b ey => ?_⟩
    have a_ob0 := hv_b.ne n_ob0
    have q_ob0 := ey _ _ a_ob0 (s18 _ _ (s17 _ _ (s16 _ _ (s15 _ _ (s14 _ _ (s13 _ _ (h_ob0)))))))
    have a_ob1 := (hv_b.same (s12)).ne n_ob1
    have q_ob1 := ey _ _ a_ob1 (s18 _ _ (s17 _ _ (s16 _ _ (s15 _ _ (s14 _ _ (h_ob1))))))
    have a_ob2 := (hv_b.same ((s12).trans s13)).ne n_ob2
    have q_ob2 := ey _ _ a_ob2 (s18 _ _ (s17 _ _ (s16 _ _ (s15 _ _ (h_ob2)))))
    have a_ob3 := (hv_b.same (((s12).trans s13).trans s14)).ne n_ob3
    have q_ob3 := ey _ _ a_ob3 (s18 _ _ (s17 _ _ (s16 _ _ (h_ob3))))
    have a_ob4 := (hv_b.same ((((s12).trans s13).trans s14).trans s15)).ne n_ob4
    have q_ob4 := ey _ _ a_ob4 (s18 _ _ (s17 _ _ (h_ob4)))
    have a_ob5 := (hv_b.same (((((s12).trans s13).trans s14).trans s15).trans s16)).ne n_ob5
    have q_ob5 := ey _ _ a_ob5 (s18 _ _ (h_ob5))
    obtain ⟨_, _, _, _, _, _, ep_b⟩ := id hw_b
    have ebm_b := (Same.els ss_b (p := p)).trans ey
    have pk_r0 : Pack K C p (BadJ K paceB) Gb r0 := by
      simp only [List.mem_cons, List.not_mem_nil, or_false] at hmem
      rcases hmem with rfl | rfl | rfl | rfl | rfl | rfl
      · exact pk_tup ep_b q_ob0 (.cons (.int _ (by decide +kernel)) (.cons (.int _ (by decide +kernel)) .nil)) (Nat.le_of_ble_eq_true rfl) fun H q => .inr ⟨_, _, rfl, SqT.tup q, Nat.le_of_ble_eq_true rfl, (numC_cons (numC_int _) (numC_cons (numC_int _) numC_nil)), by decide +kernel⟩
      · exact pk_tup ep_b q_ob1 (.cons (.int _ (by decide +kernel)) (.cons (.int _ (by decide +kernel)) .nil)) (Nat.le_of_ble_eq_true rfl) fun H q => .inr ⟨_, _, rfl, SqT.tup q, Nat.le_of_ble_eq_true rfl, (numC_cons (numC_int _) (numC_cons (numC_int _) numC_nil)), by decide +kernel⟩
      · exact pk_tup ep_b q_ob2 (.cons (.int _ (by decide +kernel)) (.cons (.int _ (by decide +kernel)) .nil)) (Nat.le_of_ble_eq_true rfl) fun H q => .inr ⟨_, _, rfl, SqT.tup q, Nat.le_of_ble_eq_true rfl, (numC_cons (numC_int _) (numC_cons (numC_int _) numC_nil)), by decide +kernel⟩
      · exact pk_tup ep_b q_ob3 (.cons (.int _ (by decide +kernel)) (.cons (.int _ (by decide +kernel)) .nil)) (Nat.le_of_ble_eq_true rfl) fun H q => .inr ⟨_, _, rfl, SqT.tup q, Nat.le_of_ble_eq_true rfl, (numC_cons (numC_int _) (numC_cons (numC_int _) numC_nil)), by decide +kernel⟩
      · exact pk_tup ep_b q_ob4 (.cons (.bl _) (.cons (.int _ (by decide +kernel)) .nil)) (Nat.le_of_ble_eq_true rfl) fun H q => .inr ⟨_, _, rfl, SqT.tup q, Nat.le_of_ble_eq_true rfl, (numC_cons (numC_bl _) (numC_cons (numC_int _) numC_nil)), by decide +kernel⟩
      · exact pk_tup ep_b q_ob5 (.cons (.int _ (by decide +kernel)) (.cons (.bl _) .nil)) (Nat.le_of_ble_eq_true rfl) fun H q => .inr ⟨_, _, rfl, SqT.tup q, Nat.le_of_ble_eq_true rfl, (numC_cons (numC_int _) (numC_cons (numC_bl _) numC_nil)), by decide +kernel⟩
    have hv_c := hw_b
    refine ⟨_, rfl, _, rfl, _, rfl, Nat.le_of_ble_eq_true rfl, ?_⟩
    (intro oc3 n_oc3; generalize e_oc3 : upd Gb oc3 _ = H19; have s19 : Same Gb H19 := fun b x hb => (congrFun e_oc3 b).symm.trans (same_new n_oc3 b x hb); have h_oc3 := (congrFun e_oc3 oc3).symm.trans upd_same; clear e_oc3)
    refine ⟨Nat.le_of_ble_eq_true rfl, ?_⟩
    (intro oc4 n_oc4; generalize e_oc4 : upd H19 oc4 _ = H20; have s20 : Same H19 H20 := fun b x hb => (congrFun e_oc4 b).symm.trans (same_new n_oc4 b x hb); have h_oc4 := (congrFun e_oc4 oc4).symm.trans upd_same; clear e_oc4)
    refine ⟨Nat.le_of_ble_eq_true rfl, ?_⟩
    (intro oc5 n_oc5; generalize e_oc5 : upd H20 oc5 _ = H21; have s21 : Same H20 H21 := fun b x hb => (congrFun e_oc5 b).symm.trans (same_new n_oc5 b x hb); have h_oc5 := (congrFun e_oc5 oc5).symm.trans upd_same; clear e_oc5)
    refine ⟨Nat.le_of_ble_eq_true rfl, ?_⟩
    (intro oc6 n_oc6; generalize e_oc6 : upd H21 oc6 _ = H22; have s22 : Same H21 H22 := fun b x hb => (congrFun e_oc6 b).symm.trans (same_new n_oc6 b x hb); have h_oc6 := (congrFun e_oc6 oc6).symm.trans upd_same; clear e_oc6)
    refine ⟨_, rfl, _, rfl, Nat.le_of_ble_eq_true rfl, ?_⟩
    (intro oc8 n_oc8; generalize e_oc8 : upd H22 oc8 _ = H23; have s23 : Same H22 H23 := fun b x hb => (congrFun e_oc8 b).symm.trans (same_new n_oc8 b x hb); have h_oc8 := (congrFun e_oc8 oc8).symm.trans upd_same; clear e_oc8)
    (intro oc9 n_oc9; generalize e_oc9 : upd H23 oc9 _ = H24; have s24 : Same H23 H24 := fun b x hb => (congrFun e_oc9 b).symm.trans (same_new n_oc9 b x hb); have h_oc9 := (congrFun e_oc9 oc9).symm.trans upd_same; clear e_oc9)
    refine ⟨Nat.le_of_ble_eq_true rfl, ?_⟩
    (intro oc10 n_oc10; generalize e_oc10 : upd H24 oc10 _ = H25; have s25 : Same H24 H25 := fun b x hb => (congrFun e_oc10 b).symm.trans (same_new n_oc10 b x hb); have h_oc10 := (congrFun e_oc10 oc10).symm.trans upd_same; clear e_oc10)
    refine ⟨Nat.le_of_ble_eq_true rfl, ?_⟩
    (intro mc n_mc; generalize e_mc : upd H25 mc _ = H26; have s26 : Same H25 H26 := fun b x hb => (congrFun e_mc b).symm.trans (same_new n_mc b x hb); have h_mc := (congrFun e_mc mc).symm.trans upd_same; clear e_mc)
    have ss_c := (((((((s19).trans s20).trans s21).trans s22).trans s23).trans s24).trans s25).trans s26
    have sb_c := ((((((s19).trans s20).trans s21).trans s22).trans s23).trans s24).trans s25
    have hvm_c := hv_c.same ss_c
    refine ⟨p, mc, _, rfl, hvm_c, (hv_c.same sb_c).ne n_mc, SqL.lst h_mc, Nat.le_of_ble_eq_true rfl, Nat.le_of_ble_eq_true rfl, fun vr Gc hmem hw_c ey => ?_⟩
    have a_oc3 := hv_c.ne n_oc3
    have q_oc3 := ey _ _ a_oc3 (s26 _ _ (s25 _ _ (s24 _ _ (s23 _ _ (s22 _ _ (s21 _ _ (s20 _ _ (h_oc3))))))))
    have a_oc4 := (hv_c.same (s19)).ne n_oc4
    have q_oc4 := ey _ _ a_oc4 (s26 _ _ (s25 _ _ (s24 _ _ (s23 _ _ (s22 _ _ (s21 _ _ (h_oc4)))))))
    have a_oc5 := (hv_c.same ((s19).trans s20)).ne n_oc5
    have q_oc5 := ey _ _ a_oc5 (s26 _ _ (s25 _ _ (s24 _ _ (s23 _ _ (s22 _ _ (h_oc5))))))
    have a_oc6 := (hv_c.same (((s19).trans s20).trans s21)).ne n_oc6
    have q_oc6 := ey _ _ a_oc6 (s26 _ _ (s25 _ _ (s24 _ _ (s23 _ _ (h_oc6)))))
    have a_oc8 := (hv_c.same ((((s19).trans s20).trans s21).trans s22)).ne n_oc8
    have q_oc8 := ey _ _ a_oc8 (s26 _ _ (s25 _ _ (s24 _ _ (h_oc8))))
    have a_oc9 := (hv_c.same (((((s19).trans s20).trans s21).trans s22).trans s23)).ne n_oc9
    have q_oc9 := ey _ _ a_oc9 (s26 _ _ (s25 _ _ (h_oc9)))
    have a_oc10 := (hv_c.same ((((((s19).trans s20).trans s21).trans s22).trans s23).trans s24)).ne n_oc10
    have q_oc10 := ey _ _ a_oc10 (s26 _ _ (h_oc10))
    obtain ⟨_, _, _, _, _, _, ep_c⟩ := id hw_c
    have ebm_c := (Same.els ss_c (p := p)).trans ey
    have pk_vr : Pack K C p (BadJ K paceB) Gc vr := by
      simp only [List.mem_cons, List.not_mem_nil, or_false] at hmem
      rcases hmem with rfl | rfl | rfl | rfl | rfl | rfl | rfl | rfl | rfl | rfl | rfl
      · exact pk_r0.on (ElseN.els ebm_c)
      · exact pk_r0.on (ElseN.els ebm_c)
      · exact pk_flat .non fun H => .inl ⟨"NoneType", ⟨.base .non, by decide⟩, by decide⟩
      · exact pk_lst a_oc3 q_oc3 (.cons (.int _ (by decide +kernel)) (.cons (.int _ (by decide +kernel)) .nil)) (Nat.le_of_ble_eq_true rfl) fun H q => .inl ⟨"list", ⟨.base (.lst q), by decide⟩, by decide⟩
      · exact pk_tup ep_c q_oc4 (.cons (.int _ (by decide +kernel)) .nil) (Nat.le_of_ble_eq_true rfl) fun H q => .inr ⟨_, _, rfl, SqT.tup q, Nat.le_of_ble_eq_true rfl, (numC_cons (numC_int _) numC_nil), by decide +kernel⟩
      · exact pk_tup ep_c q_oc5 (.cons (.int _ (by decide +kernel)) (.cons (.int _ (by decide +kernel)) (.cons (.int _ (by decide +kernel)) .nil))) (Nat.le_of_ble_eq_true rfl) fun H q => .inr ⟨_, _, rfl, SqT.tup q, Nat.le_of_ble_eq_true rfl, (numC_cons (numC_int _) (numC_cons (numC_int _) (numC_cons (numC_int _) numC_nil))), by decide +kernel⟩
      · exact pk_tup ep_c q_oc6 (.cons (.str _ (by decide +kernel)) (.cons (.int _ (by decide +kernel)) .nil)) (Nat.le_of_ble_eq_true rfl) fun H q => .inr ⟨_, _, rfl, SqT.tup q, Nat.le_of_ble_eq_true rfl, (numC_cons (numC_str _) (numC_cons (numC_int _) numC_nil)), by decide +kernel⟩
      · exact pk_flat (.int _ (by decide +kernel)) fun H => .inl ⟨"int", ⟨.base (.int _), by decide⟩, by decide⟩
      · exact pk_tup ep_c q_oc8 (.cons (.int _ (by decide +kernel)) (.cons (.int _ (by decide +kernel)) .nil)) (Nat.le_of_ble_eq_true rfl) fun H q => .inr ⟨_, _, rfl, SqT.tup q, Nat.le_of_ble_eq_true rfl, (numC_cons (numC_int _) (numC_cons (numC_int _) numC_nil)), by decide +kernel⟩
      · exact pk_dic ep_c q_oc9 fun H q => .inl ⟨"dict", ⟨.base (.dK q), by decide⟩, by decide⟩
      · exact pk_tup ep_c q_oc10 .nil (Nat.le_of_ble_eq_true rfl) fun H q => .inr ⟨_, _, rfl, SqT.tup q, Nat.le_of_ble_eq_true rfl, numC_nil, by decide +kernel⟩
    have hv_d := hw_c
    refine ⟨_, rfl, _, rfl, Nat.le_of_ble_eq_true rfl, ?_⟩
    (intro od5 n_od5; generalize e_od5 : upd Gc od5 _ = H27; have s27 : Same Gc H27 := fun b x hb => (congrFun e_od5 b).symm.trans (same_new n_od5 b x hb); have h_od5 := (congrFun e_od5 od5).symm.trans upd_same; clear e_od5)
    refine ⟨Nat.le_of_ble_eq_true rfl, ?_⟩
    (intro od6 n_od6; generalize e_od6 : upd H27 od6 _ = H28; have s28 : Same H27 H28 := fun b x hb => (congrFun e_od6 b).symm.trans (same_new n_od6 b x hb); have h_od6 := (congrFun e_od6 od6).symm.trans upd_same; clear e_od6)
    refine ⟨_, _, rfl, rfl, ⟨by decide, by decide, by decide⟩, _, _, rfl, rfl, ?_⟩
    (intro od8 n_od8; generalize e_od8 : upd H28 od8 _ = H29; have s29 : Same H28 H29 := fun b x hb => (congrFun e_od8 b).symm.trans (same_new n_od8 b x hb); have h_od8 := (congrFun e_od8 od8).symm.trans upd_same; clear e_od8)
    refine ⟨Nat.le_of_ble_eq_true rfl, ?_⟩
    (intro md n_md; generalize e_md : upd H29 md _ = H30; have s30 : Same H29 H30 := fun b x hb => (congrFun e_md b).symm.trans (same_new n_md b x hb); have h_md := (congrFun e_md md).symm.trans upd_same; clear e_md)
    have ss_d := (((s27).trans s28).trans s29).trans s30
    have sb_d := ((s27).trans s28).trans s29
    have hvm_d := hv_d.same ss_d
    refine ⟨p, md, _, rfl, hvm_d, (hv_d.same sb_d).ne n_md, SqL.lst h_md, Nat.le_of_ble_eq_true rfl, Nat.le_of_ble_eq_true rfl, fun vl Gd hmem hw_d ey => ?_⟩
    have a_od5 := hv_d.ne n_od5
    have q_od5 := ey _ _ a_od5 (s30 _ _ (s29 _ _ (s28 _ _ (h_od5))))
    have a_od6 := (hv_d.same (s27)).ne n_od6
    have q_od6 := ey _ _ a_od6 (s30 _ _ (s29 _ _ (h_od6)))
    have a_od8 := (hv_d.same ((s27).trans s28)).ne n_od8
    have q_od8 := ey _ _ a_od8 (s30 _ _ (h_od8))
    obtain ⟨_, _, _, _, _, _, ep_d⟩ := id hw_d
    have ebm_d := (Same.els ss_d (p := p)).trans ey
    have pk_vl : Pack K C p (fun H y => NumK K H y ∧ posB (numV y) = false) Gd vl := by
      simp only [List.mem_cons, List.not_mem_nil, or_false] at hmem
      rcases hmem with rfl | rfl | rfl | rfl | rfl | rfl | rfl | rfl | rfl
      · exact pk_flat .non fun H => ⟨.inr ⟨"NoneType", ⟨.base .non, by decide⟩, by decide⟩, rfl⟩
      · exact pk_flat (.int _ (by decide +kernel)) fun H => ⟨.inl ⟨_, rfl⟩, by decide +kernel⟩
      · exact pk_flat (.bl _) fun H => ⟨.inr ⟨"bool", ⟨.base (.bl _), by decide⟩, by decide⟩, rfl⟩
      · exact pk_flat (.bl _) fun H => ⟨.inr ⟨"bool", ⟨.base (.bl _), by decide⟩, by decide⟩, rfl⟩
      · exact pk_flat (.str _ (by decide +kernel)) fun H => ⟨.inr ⟨"str", ⟨.base (.str _), by decide⟩, by decide⟩, rfl⟩
      · exact pk_lst a_od5 q_od5 (.cons (.int _ (by decide +kernel)) .nil) (Nat.le_of_ble_eq_true rfl) fun H q => ⟨.inr ⟨"list", ⟨.base (.lst q), by decide⟩, by decide⟩, rfl⟩
      · exact pk_tup ep_d q_od6 (.cons (.int _ (by decide +kernel)) .nil) (Nat.le_of_ble_eq_true rfl) fun H q => ⟨.inr ⟨"tuple", ⟨.base (.tup q), by decide⟩, by decide⟩, rfl⟩
      · exact pk_flat (.int _ (by decide +kernel)) fun H => ⟨.inl ⟨_, rfl⟩, by decide +kernel⟩
      · exact pk_dic ep_d q_od8 fun H q => ⟨.inr ⟨"dict", ⟨.base (.dK q), by decide⟩, by decide⟩, rfl⟩
    have hv_e := hw_d
    refine ⟨_, rfl, _, rfl, Nat.le_of_ble_eq_true rfl, ?_⟩
    (intro oe0 n_oe0; generalize e_oe0 : upd Gd oe0 _ = H31; have s31 : Same Gd H31 := fun b x hb => (congrFun e_oe0 b).symm.trans (same_new n_oe0 b x hb); have h_oe0 := (congrFun e_oe0 oe0).symm.trans upd_same; clear e_oe0)
    refine ⟨Nat.le_of_ble_eq_true rfl, ?_⟩
    (intro oe1 n_oe1; generalize e_oe1 : upd H31 oe1 _ = H32; have s32 : Same H31 H32 := fun b x hb => (congrFun e_oe1 b).symm.trans (same_new n_oe1 b x hb); have h_oe1 := (congrFun e_oe1 oe1).symm.trans upd_same; clear e_oe1)
    refine ⟨Nat.le_of_ble_eq_true rfl, ?_⟩
    (intro oe2 n_oe2; generalize e_oe2 : upd H32 oe2 _ = H33; have s33 : Same H32 H33 := fun b x hb => (congrFun e_oe2 b).symm.trans (same_new n_oe2 b x hb); have h_oe2 := (congrFun e_oe2 oe2).symm.trans upd_same; clear e_oe2)
    refine ⟨Nat.le_of_ble_eq_true rfl, ?_⟩
    (intro oe3 n_oe3; generalize e_oe3 : upd H33 oe3 _ = H34; have s34 : Same H33 H34 := fun b x hb => (congrFun e_oe3 b).symm.trans (same_new n_oe3 b x hb); have h_oe3 := (congrFun e_oe3 oe3).symm.trans upd_same; clear e_oe3)
    refine ⟨Nat.le_of_ble_eq_true rfl, ?_⟩
    (intro oe4 n_oe4; generalize e_oe4 : upd H34 oe4 _ = H35; have s35 : Same H34 H35 := fun b x hb => (congrFun e_oe4 b).symm.trans (same_new n_oe4 b x hb); have h_oe4 := (congrFun e_oe4 oe4).symm.trans upd_same; clear e_oe4)
    refine ⟨Nat.le_of_ble_eq_true rfl, ?_⟩
    (intro oe5 n_oe5; generalize e_oe5 : upd H35 oe5 _ = H36; have s36 : Same H35 H36 := fun b x hb => (congrFun e_oe5 b).symm.trans (same_new n_oe5 b x hb); have h_oe5 := (congrFun e_oe5 oe5).symm.trans upd_same; clear e_oe5)
    refine ⟨Nat.le_of_ble_eq_true rfl, ?_⟩
    (intro oe6 n_oe6; generalize e_oe6 : upd H36 oe6 _ = H37; have s37 : Same H36 H37 := fun b x hb => (congrFun e_oe6 b).symm.trans (same_new n_oe6 b x hb); have h_oe6 := (congrFun e_oe6 oe6).symm.trans upd_same; clear e_oe6)
    refine ⟨_, rfl, Nat.le_of_ble_eq_true rfl, ?_⟩
    (intro oe7 n_oe7; generalize e_oe7 : upd H37 oe7 _ = H38; have s38 : Same H37 H38 := fun b x hb => (congrFun e_oe7 b).symm.trans (same_new n_oe7 b x hb); have h_oe7 := (congrFun e_oe7 oe7).symm.trans upd_same; clear e_oe7)
    refine ⟨_, rfl, _, rfl, Nat.le_of_ble_eq_true rfl, ?_⟩
    (intro oe8 n_oe8; generalize e_oe8 : upd H38 oe8 _ = H39; have s39 : Same H38 H39 := fun b x hb => (congrFun e_oe8 b).symm.trans (same_new n_oe8 b x hb); have h_oe8 := (congrFun e_oe8 oe8).symm.trans upd_same; clear e_oe8)
    refine ⟨Nat.le_of_ble_eq_true rfl, ?_⟩
    (intro me n_me; generalize e_me : upd H39 me _ = H40; have s40 : Same H39 H40 := fun b x hb => (congrFun e_me b).symm.trans (same_new n_me b x hb); have h_me := (congrFun e_me me).symm.trans upd_same; clear e_me)
    have ss_e := (((((((((s31).trans s32).trans s33).trans s34).trans s35).trans s36).trans s37).trans s38).trans s39).trans s40
    have sb_e := ((((((((s31).trans s32).trans s33).trans s34).trans s35).trans s36).trans s37).trans s38).trans s39
    have hvm_e := hv_e.same ss_e
    refine ⟨p, me, _, rfl, hvm_e, (hv_e.same sb_e).ne n_me, SqL.lst h_me, Nat.le_of_ble_eq_true rfl, Nat.le_of_ble_eq_true rfl, fun b0 Ge hmem hw_e ey => ?_⟩
    have a_oe0 := hv_e.ne n_oe0
    have q_oe0 := ey _ _ a_oe0 (s40 _ _ (s39 _ _ (s38 _ _ (s37 _ _ (s36 _ _ (s35 _ _ (s34 _ _ (s33 _ _ (s32 _ _ (h_oe0))))))))))
    have a_oe1 := (hv_e.same (s31)).ne n_oe1
    have q_oe1 := ey _ _ a_oe1 (s40 _ _ (s39 _ _ (s38 _ _ (s37 _ _ (s36 _ _ (s35 _ _ (s34 _ _ (s33 _ _ (h_oe1)))))))))
    have a_oe2 := (hv_e.same ((s31).trans s32)).ne n_oe2
    have q_oe2 := ey _ _ a_oe2 (s40 _ _ (s39 _ _ (s38 _ _ (s37 _ _ (s36 _ _ (s35 _ _ (s34 _ _ (h_oe2))))))))
    have a_oe3 := (hv_e.same (((s31).trans s32).trans s33)).ne n_oe3
    have q_oe3 := ey _ _ a_oe3 (s40 _ _ (s39 _ _ (s38 _ _ (s37 _ _ (s36 _ _ (s35 _ _ (h_oe3)))))))
    have a_oe4 := (hv_e.same ((((s31).trans s32).trans s33).trans s34)).ne n_oe4
    have q_oe4 := ey _ _ a_oe4 (s40 _ _ (s39 _ _ (s38 _ _ (s37 _ _ (s36 _ _ (h_oe4))))))
    have a_oe5 := (hv_e.same (((((s31).trans s32).trans s33).trans s34).trans s35)).ne n_oe5
    have q_oe5 := ey _ _ a_oe5 (s40 _ _ (s39 _ _ (s38 _ _ (s37 _ _ (h_oe5)))))
    have a_oe6 := (hv_e.same ((((((s31).trans s32).trans s33).trans s34).trans s35).trans s36)).ne n_oe6
    have q_oe6 := ey _ _ a_oe6 (s40 _ _ (s39 _ _ (s38 _ _ (h_oe6))))
    have a_oe7 := (hv_e.same (((((((s31).trans s32).trans s33).trans s34).trans s35).trans s36).trans s37)).ne n_oe7
    have q_oe7 := ey _ _ a_oe7 (s40 _ _ (s39 _ _ (h_oe7)))
    have a_oe8 := (hv_e.same ((((((((s31).trans s32).trans s33).trans s34).trans s35).trans s36).trans s37).trans s38)).ne n_oe8
    have q_oe8 := ey _ _ a_oe8 (s40 _ _ (h_oe8))
    obtain ⟨_, _, _, _, _, _, ep_e⟩ := id hw_e
    have ebm_e := (Same.els ss_e (p := p)).trans ey
    have pk_b0 : Pack K C p (BadJ K boundB) Ge b0 := by
      simp only [List.mem_cons, List.not_mem_nil, or_false] at hmem
      rcases hmem with rfl | rfl | rfl | rfl | rfl | rfl | rfl | rfl | rfl
      · exact pk_tup ep_e q_oe0 (.cons (.int _ (by decide +kernel)) (.cons (.int _ (by decide +kernel)) .nil)) (Nat.le_of_ble_eq_true rfl) fun H q => .inr ⟨_, _, rfl, SqT.tup q, Nat.le_of_ble_eq_true rfl, (numC_cons (numC_int _) (numC_cons (numC_int _) numC_nil)), by decide +kernel⟩
      · exact pk_tup ep_e q_oe1 (.cons (.int _ (by decide +kernel)) (.cons (.int _ (by decide +kernel)) .nil)) (Nat.le_of_ble_eq_true rfl) fun H q => .inr ⟨_, _, rfl, SqT.tup q, Nat.le_of_ble_eq_true rfl, (numC_cons (numC_int _) (numC_cons (numC_int _) numC_nil)), by decide +kernel⟩
      · exact pk_tup ep_e q_oe2 (.cons (.int _ (by decide +kernel)) (.cons (.int _ (by decide +kernel)) .nil)) (Nat.le_of_ble_eq_true rfl) fun H q => .inr ⟨_, _, rfl, SqT.tup q, Nat.le_of_ble_eq_true rfl, (numC_cons (numC_int _) (numC_cons (numC_int _) numC_nil)), by decide +kernel⟩
      · exact pk_tup ep_e q_oe3 (.cons (.int _ (by decide +kernel)) (.cons (.int _ (by decide +kernel)) .nil)) (Nat.le_of_ble_eq_true rfl) fun H q => .inr ⟨_, _, rfl, SqT.tup q, Nat.le_of_ble_eq_true rfl, (numC_cons (numC_int _) (numC_cons (numC_int _) numC_nil)), by decide +kernel⟩
      · exact pk_tup ep_e q_oe4 (.cons (.int _ (by decide +kernel)) (.cons (.int _ (by decide +kernel)) .nil)) (Nat.le_of_ble_eq_true rfl) fun H q => .inr ⟨_, _, rfl, SqT.tup q, Nat.le_of_ble_eq_true rfl, (numC_cons (numC_int _) (numC_cons (numC_int _) numC_nil)), by decide +kernel⟩
      · exact pk_tup ep_e q_oe5 (.cons (.bl _) (.cons (.int _ (by decide +kernel)) .nil)) (Nat.le_of_ble_eq_true rfl) fun H q => .inr ⟨_, _, rfl, SqT.tup q, Nat.le_of_ble_eq_true rfl, (numC_cons (numC_bl _) (numC_cons (numC_int _) numC_nil)), by decide +kernel⟩
      · exact pk_tup ep_e q_oe6 (.cons (.int _ (by decide +kernel)) (.cons (.bl _) .nil)) (Nat.le_of_ble_eq_true rfl) fun H q => .inr ⟨_, _, rfl, SqT.tup q, Nat.le_of_ble_eq_true rfl, (numC_cons (numC_int _) (numC_cons (numC_bl _) numC_nil)), by decide +kernel⟩
      · exact pk_tup ep_e q_oe7 (.cons (.int _ (by decide +kernel)) (.cons (.int _ (by decide +kernel)) .nil)) (Nat.le_of_ble_eq_true rfl) fun H q => .inr ⟨_, _, rfl, SqT.tup q, Nat.le_of_ble_eq_true rfl, (numC_cons (numC_int _) (numC_cons (numC_int _) numC_nil)), by decide +kernel⟩
      · exact pk_tup ep_e q_oe8 (.cons (.int _ (by decide +kernel)) (.cons (.int _ (by decide +kernel)) .nil)) (Nat.le_of_ble_eq_true rfl) fun H q => .inr ⟨_, _, rfl, SqT.tup q, Nat.le_of_ble_eq_true rfl, (numC_cons (numC_int _) (numC_cons (numC_int _) numC_nil)), by decide +kernel⟩
    have hv_f := hw_e
    refine ⟨_, rfl, _, rfl, _, rfl, Nat.le_of_ble_eq_true rfl, ?_⟩
    (intro of3 n_of3; generalize e_of3 : upd Ge of3 _ = H41; have s41 : Same Ge H41 := fun b x hb => (congrFun e_of3 b).symm.trans (same_new n_of3 b x hb); have h_of3 := (congrFun e_of3 of3).symm.trans upd_same; clear e_of3)
    refine ⟨Nat.le_of_ble_eq_true rfl, ?_⟩
    (intro of4 n_of4; generalize e_of4 : upd H41 of4 _ = H42; have s42 : Same H41 H42 := fun b x hb => (congrFun e_of4 b).symm.trans (same_new n_of4 b x hb); have h_of4 := (congrFun e_of4 of4).symm.trans upd_same; clear e_of4)
    refine ⟨Nat.le_of_ble_eq_true rfl, ?_⟩
    (intro of6 n_of6; generalize e_of6 : upd H42 of6 _ = H43; have s43 : Same H42 H43 := fun b x hb => (congrFun e_of6 b).symm.trans (same_new n_of6 b x hb); have h_of6 := (congrFun e_of6 of6).symm.trans upd_same; clear e_of6)
    refine ⟨Nat.le_of_ble_eq_true rfl, ?_⟩
    (intro of7 n_of7; generalize e_of7 : upd H43 of7 _ = H44; have s44 : Same H43 H44 := fun b x hb => (congrFun e_of7 b).symm.trans (same_new n_of7 b x hb); have h_of7 := (congrFun e_of7 of7).symm.trans upd_same; clear e_of7)
    (intro of8 n_of8; generalize e_of8 : upd H44 of8 _ = H45; have s45 : Same H44 H45 := fun b x hb => (congrFun e_of8 b).symm.trans (same_new n_of8 b x hb); have h_of8 := (congrFun e_of8 of8).symm.trans upd_same; clear e_of8)
    refine ⟨_, _, rfl, rfl, ⟨by decide, by decide, by decide⟩, _, _, rfl, rfl, ⟨by decide, by decide, by decide⟩, Nat.le_of_ble_eq_true rfl, ?_⟩
    (intro of9 n_of9; generalize e_of9 : upd H45 of9 _ = H46; have s46 : Same H45 H46 := fun b x hb => (congrFun e_of9 b).symm.trans (same_new n_of9 b x hb); have h_of9 := (congrFun e_of9 of9).symm.trans upd_same; clear e_of9)
    refine ⟨Nat.le_of_ble_eq_true rfl, ?_⟩
    (intro mf n_mf; generalize e_mf : upd H46 mf _ = H47; have s47 : Same H46 H47 := fun b x hb => (congrFun e_mf b).symm.trans (same_new n_mf b x hb); have h_mf := (congrFun e_mf mf).symm.trans upd_same; clear e_mf)
    have ss_f := ((((((s41).trans s42).trans s43).trans s44).trans s45).trans s46).trans s47
    have sb_f := (((((s41).trans s42).trans s43).trans s44).trans s45).trans s46
    have hvm_f := hv_f.same ss_f
    refine ⟨p, mf, _, rfl, hvm_f, (hv_f.same sb_f).ne n_mf, SqL.lst h_mf, Nat.le_of_ble_eq_true rfl, Nat.le_of_ble_eq_true rfl, fun vb Gf hmem hw_f ey => ?_⟩
    have a_of3 := hv_f.ne n_of3
    have q_of3 := ey _ _ a_of3 (s47 _ _ (s46 _ _ (s45 _ _ (s44 _ _ (s43 _ _ (s42 _ _ (h_of3)))))))
    have a_of4 := (hv_f.same (s41)).ne n_of4
    have q_of4 := ey _ _ a_of4 (s47 _ _ (s46 _ _ (s45 _ _ (s44 _ _ (s43 _ _ (h_of4))))))
    have a_of6 := (hv_f.same ((s41).trans s42)).ne n_of6
    have q_of6 := ey _ _ a_of6 (s47 _ _ (s46 _ _ (s45 _ _ (s44 _ _ (h_of6)))))
    have a_of7 := (hv_f.same (((s41).trans s42).trans s43)).ne n_of7
    have q_of7 := ey _ _ a_of7 (s47 _ _ (s46 _ _ (s45 _ _ (h_of7))))
    have a_of8 := (hv_f.same ((((s41).trans s42).trans s43).trans s44)).ne n_of8
    have q_of8 := ey _ _ a_of8 (s47 _ _ (s46 _ _ (h_of8)))
    have a_of9 := (hv_f.same (((((s41).trans s42).trans s43).trans s44).trans s45)).ne n_of9
    have q_of9 := ey _ _ a_of9 (s47 _ _ (h_of9))
    obtain ⟨_, _, _, _, _, _, ep_f⟩ := id hw_f
    have ebm_f := (Same.els ss_f (p := p)).trans ey
    have pk_vb : Pack K C p (BadJ K boundB) Gf vb := by
      simp only [List.mem_cons, List.not_mem_nil, or_false] at hmem
      rcases hmem with rfl | rfl | rfl | rfl | rfl | rfl | rfl | rfl | rfl | rfl
      · exact pk_b0.on (ElseN.els ebm_f)
      · exact pk_b0.on (ElseN.els ebm_f)
      · exact pk_flat .non fun H => .inl ⟨"NoneType", ⟨.base .non, by decide⟩, by decide⟩
      · exact pk_lst a_of3 q_of3 (.cons (.int _ (by decide +kernel)) (.cons (.int _ (by decide +kernel)) .nil)) (Nat.le_of_ble_eq_true rfl) fun H q => .inl ⟨"list", ⟨.base (.lst q), by decide⟩, by decide⟩
      · exact pk_tup ep_f q_of4 (.cons (.int _ (by decide +kernel)) (.cons (.int _ (by decide +kernel)) (.cons (.int _ (by decide +kernel)) .nil))) (Nat.le_of_ble_eq_true rfl) fun H q => .inr ⟨_, _, rfl, SqT.tup q, Nat.le_of_ble_eq_true rfl, (numC_cons (numC_int _) (numC_cons (numC_int _) (numC_cons (numC_int _) numC_nil))), by decide +kernel⟩
      · exact pk_flat (.int _ (by decide +kernel)) fun H => .inl ⟨"int", ⟨.base (.int _), by decide⟩, by decide⟩
      · exact pk_tup ep_f q_of6 (.cons (.int _ (by decide +kernel)) .nil) (Nat.le_of_ble_eq_true rfl) fun H q => .inr ⟨_, _, rfl, SqT.tup q, Nat.le_of_ble_eq_true rfl, (numC_cons (numC_int _) numC_nil), by decide +kernel⟩
      · exact pk_tup ep_f q_of7 (.cons (.str _ (by decide +kernel)) (.cons (.int _ (by decide +kernel)) .nil)) (Nat.le_of_ble_eq_true rfl) fun H q => .inr ⟨_, _, rfl, SqT.tup q, Nat.le_of_ble_eq_true rfl, (numC_cons (numC_str _) (numC_cons (numC_int _) numC_nil)), by decide +kernel⟩
      · exact pk_dic ep_f q_of8 fun H q => .inl ⟨"dict", ⟨.base (.dK q), by decide⟩, by decide⟩
      · exact pk_tup ep_f q_of9 (.cons (.int _ (by decide +kernel)) (.cons (.int _ (by decide +kernel)) .nil)) (Nat.le_of_ble_eq_true rfl) fun H q => .inr ⟨_, _, rfl, SqT.tup q, Nat.le_of_ble_eq_true rfl, (numC_cons (numC_int _) (numC_cons (numC_int _) numC_nil)), by decide +kernel⟩
    have e_ef := ebm_f
    have e_df := ebm_e.trans e_ef
    have e_cf := ebm_d.trans e_df
    have e_bf := ebm_c.trans e_cf
    have e_af := ebm_b.trans e_bf
    have e_6f := ebm_a.trans e_af
    have e_0f : Else p H Gf := (Same.els s06).trans e_6f
    have Pn := pk_vn.on (ElseN.els e_af)
    have Pr := pk_vr.on (ElseN.els (ebm_d.trans (ebm_e.trans ebm_f)))
    have Pl := pk_vl.on (ElseN.els (ebm_e.trans ebm_f))
    have Pb := pk_vb
    have hA0 := hA6.els (s06 _ _ ep0) hold e_6f
    have hq0 := e_6f _ _ aq hq6
    have T0 := tabs_els ep0 hT0 e_0f
    have g0 := ep_f
    clear pk_vn pk_vr pk_vl pk_vb pk_r0 pk_b0
    have hV : ∀ Hx, LamX.ExtN Gf Hx → HouseV C Hx (.ref pm) := fun Hx ex => by
      obtain ⟨dx, sk, ah, rd, z, _⟩ := id (hA0.extN ex).ob
      exact ⟨pm, dx, _, rfl, z⟩
    have gJ : ∀ Hx, LamX.ExtN Gf Hx → GoodJ K paceB Hx (.ref qs) := fun Hx ex => ⟨qs, _, rfl, SqT.tup (ex _ _ hq0 fun ps z => nomatch z), Nat.le_of_ble_eq_true rfl, (numC_cons (numC_int _) (numC_cons (numC_int _) numC_nil)), by decide +kernel⟩
    refine g_nx ?_
    dsimp only
    show tSeq (tAsg (tLst (tCons (LamX.tLam (TQ Pt) (TTf K c0 c1 c2 c3 c4 c5 c6 c7 w1 w2 w3) _) tNil)) (gName 1)) _ _ _ _
    refine toldV_first (i := 1) (LamX.ExtN.refl Gf) T0 (actsV_raise (a := "house") (y := vn) F0 (by decide) rfl (fun Hx ex E' Q' kk => ?_)) (fun D t0 J0 w1 => ?_)
    · exact ⟨_, rfl, _, rfl, _, rfl, vn, vr, vl, rfl, .inl ⟨Pn.ex.ever Hx ex, kk⟩⟩
    refine toldV_more (i := 1) w1 (Nat.le_of_ble_eq_true rfl) rfl (actsV_raise (a := "house") (y := vn) F0 (by decide) rfl (fun Hx ex E' Q' kk => ?_)) (fun t1 J1 w2 => ?_)
    · exact ⟨_, rfl, _, rfl, vn, vr, rfl, .inl ⟨Pn.ex.ever Hx ex, kk⟩⟩
    refine toldV_more (i := 1) w2 (Nat.le_of_ble_eq_true rfl) rfl (actsV_raise (a := "house") (y := vn) F0 (by decide) rfl (fun Hx ex E' Q' kk => ?_)) (fun t2 J2 w3 => ?_)
    · exact ⟨_, rfl, _, rfl, _, rfl, vn, vr, vb, rfl, .inl ⟨Pn.ex.ever Hx ex, kk⟩⟩
    refine toldV_more (i := 1) w3 (Nat.le_of_ble_eq_true rfl) rfl (actsV_raise (a := "pace") (y := vr) F3 (by decide) rfl (fun Hx ex E' Q' kk => ?_)) (fun t3 J3 w4 => ?_)
    · exact ⟨_, rfl, _, rfl, _, rfl, .ref pm, vr, vl, rfl, .inr ⟨hV Hx ex, .inl ⟨Pr.ex.ever Hx ex, kk⟩⟩⟩
    refine toldV_more (i := 1) w4 (Nat.le_of_ble_eq_true rfl) rfl (actsV_raise (a := "pace") (y := vr) F3 (by decide) rfl (fun Hx ex E' Q' kk => ?_)) (fun t4 J4 w5 => ?_)
    · exact ⟨_, rfl, _, rfl, .ref pm, vr, rfl, .inr ⟨hV Hx ex, .inl ⟨Pr.ex.ever Hx ex, kk⟩⟩⟩
    refine toldV_more (i := 1) w5 (Nat.le_of_ble_eq_true rfl) rfl (actsV_raise (a := "pace") (y := vr) F3 (by decide) rfl (fun Hx ex E' Q' kk => ?_)) (fun t5 J5 w6 => ?_)
    · exact ⟨_, rfl, _, rfl, _, rfl, .ref pm, vr, vb, rfl, .inr ⟨hV Hx ex, .inl ⟨Pr.ex.ever Hx ex, kk⟩⟩⟩
    refine toldV_more (i := 1) w6 (Nat.le_of_ble_eq_true rfl) rfl (actsV_raise (a := "number") (y := vl) F2 (by decide) rfl (fun Hx ex E' Q' kk => ?_)) (fun t6 J6 w7 => ?_)
    · exact ⟨_, rfl, _, rfl, _, rfl, .ref pm, .ref qs, vl, rfl, .inr ⟨hV Hx ex, .inr ⟨gJ Hx ex, fun H2 s2 => (Pl.ex.ever H2 (ex.trans (ExtN.same s2))).1, (Pl.ex.ever Hx ex).2, kk⟩⟩⟩
    refine toldV_more (i := 1) w7 (Nat.le_of_ble_eq_true rfl) rfl (actsV_raise (a := "bound") (y := vb) F4 (by decide) rfl (fun Hx ex E' Q' kk => ?_)) (fun t7 J7 w8 => ?_)
    · exact ⟨_, rfl, _, rfl, _, rfl, .ref pm, .ref qs, vb, rfl, .inr ⟨hV Hx ex, .inr ⟨gJ Hx ex, fun H2 s2 => Pb.ex.ever H2 (ex.trans (ExtN.same s2)), kk⟩⟩⟩
    refine ⟨_, rfl, Nat.le_of_ble_eq_true rfl, ?_⟩
    (intro z1 nz1; generalize e_z1 : upd J7 z1 _ = K1; have u1 : Same J7 K1 := fun b x hb => (congrFun e_z1 b).symm.trans (same_new nz1 b x hb); have k1 := (congrFun e_z1 z1).symm.trans upd_same; clear e_z1)
    refine ⟨Nat.le_of_ble_eq_true rfl, ?_⟩
    (intro z2 nz2; generalize e_z2 : upd K1 z2 _ = K2; have u2 : Same K1 K2 := fun b x hb => (congrFun e_z2 b).symm.trans (same_new nz2 b x hb); have k2 := (congrFun e_z2 z2).symm.trans upd_same; clear e_z2)
    refine ⟨z2, _, _, rfl, rfl, k2, by decide, by decide, Nat.le_of_ble_eq_true rfl, ?_⟩
    (intro z3 nz3; generalize e_z3 : upd K2 z3 _ = K3; have u3 : Same K2 K3 := fun b x hb => (congrFun e_z3 b).symm.trans (same_new nz3 b x hb); have k3 := (congrFun e_z3 z3).symm.trans upd_same; clear e_z3)
    refine ⟨_, rfl, Nat.le_of_ble_eq_true rfl, ?_⟩
    (intro z4 nz4; generalize e_z4 : upd K3 z4 _ = K4; have u4 : Same K3 K4 := fun b x hb => (congrFun e_z4 b).symm.trans (same_new nz4 b x hb); have k4 := (congrFun e_z4 z4).symm.trans upd_same; clear e_z4)
    refine ⟨Nat.le_of_ble_eq_true rfl, ?_⟩
    (intro z5 nz5; generalize e_z5 : upd K4 z5 _ = K5; have u5 : Same K4 K5 := fun b x hb => (congrFun e_z5 b).symm.trans (same_new nz5 b x hb); have k5 := (congrFun e_z5 z5).symm.trans upd_same; clear e_z5)
    refine ⟨z5, _, _, rfl, rfl, k5, by decide, by decide, Nat.le_of_ble_eq_true rfl, ?_⟩
    (intro z6 nz6; generalize e_z6 : upd K5 z6 _ = K6; have u6 : Same K5 K6 := fun b x hb => (congrFun e_z6 b).symm.trans (same_new nz6 b x hb); have k6 := (congrFun e_z6 z6).symm.trans upd_same; clear e_z6)
    refine ⟨z3, z6, _, _, rfl, rfl, u6 _ _ (u5 _ _ (u4 _ _ k3)), k6, Nat.le_of_ble_eq_true rfl, ?_⟩
    (intro z7 nz7; generalize e_z7 : upd K6 z7 _ = K7; have u7 : Same K6 K7 := fun b x hb => (congrFun e_z7 b).symm.trans (same_new nz7 b x hb); have k7 := (congrFun e_z7 z7).symm.trans upd_same; clear e_z7)
    refine ⟨_, rfl, Nat.le_of_ble_eq_true rfl, ?_⟩
    (intro z8 nz8; generalize e_z8 : upd K7 z8 _ = K8; have u8 : Same K7 K8 := fun b x hb => (congrFun e_z8 b).symm.trans (same_new nz8 b x hb); have k8 := (congrFun e_z8 z8).symm.trans upd_same; clear e_z8)
    refine ⟨_, rfl, Nat.le_of_ble_eq_true rfl, ?_⟩
    (intro z9 nz9; generalize e_z9 : upd K8 z9 _ = K9; have u9 : Same K8 K9 := fun b x hb => (congrFun e_z9 b).symm.trans (same_new nz9 b x hb); have k9 := (congrFun e_z9 z9).symm.trans upd_same; clear e_z9)
    refine ⟨Nat.le_of_ble_eq_true rfl, ?_⟩
    (intro za nza; generalize e_za : upd K9 za _ = Ka; have ua : Same K9 Ka := fun b x hb => (congrFun e_za b).symm.trans (same_new nza b x hb); have ka := (congrFun e_za za).symm.trans upd_same; clear e_za)
    refine ⟨z7, za, _, _, rfl, rfl, ua _ _ (u9 _ _ (u8 _ _ k7)), ka, Nat.le_of_ble_eq_true rfl, ?_⟩
    (intro D2 nD2; generalize e_D2 : upd Ka D2 _ = Kb; have ub : Same Ka Kb := fun b x hb => (congrFun e_D2 b).symm.trans (same_new nD2 b x hb); have kb := (congrFun e_D2 D2).symm.trans upd_same; clear e_D2)
    have u8b := ((u9.trans ua).trans ub)
    have u4b := (((u5.trans u6).trans u7).trans u8).trans u8b
    have u1b := ((u2.trans u3).trans u4).trans u4b
    have uab := u1.trans u1b
    have y1 := u1b _ _ k1
    have y4 := u4b _ _ k4
    have y8 := u8b _ _ k8
    have y9 := ub _ _ (ua _ _ k9)
    have eb := w8.e.trans (ExtN.same uab)
    have Tb := w8.t.ext fun b o h => uab b o h
    have wd := uab _ _ w8.d
    have wm := pair_imp w8.m fun _ _ _ q => uab _ _ q
    obtain ⟨xn, ln, Qn⟩ := Pn
    obtain ⟨xr, lr, Qr⟩ := Pr
    obtain ⟨xl, ll, Ql⟩ := Pl
    obtain ⟨xb, lb, Qb⟩ := Pb
    have wh : (reprText ("house" : Str)).length ≤ 100 := by decide +kernel
    have wp : (reprText ("pace" : Str)).length ≤ 100 := by decide +kernel
    have wn : (reprText ("number" : Str)).length ≤ 100 := by decide +kernel
    have wb : (reprText ("bound" : Str)).length ≤ 100 := by decide +kernel
    have sh : ∀ H', LamX.ExtN Gf H' → ShwAll (owHouse K C H') H' [("house", vn), ("house", vn), ("house", vn), ("pace", vr), ("pace", vr), ("pace", vr), ("number", vl), ("bound", vb)] [xn, xn, xn, xr, xr, xr, xl, xb] := fun H' e => by
      have a1 := (Qn H' (.ext e)).1
      have a2 := (Qr H' (.ext e)).1
      have a3 := (Ql H' (.ext e)).1
      have a4 := (Qb H' (.ext e)).1
      exact (.cons ⟨a1, ln, wh⟩ (.cons ⟨a1, ln, wh⟩ (.cons ⟨a1, ln, wh⟩ (.cons ⟨a2, lr, wp⟩ (.cons ⟨a2, lr, wp⟩ (.cons ⟨a2, lr, wp⟩ (.cons ⟨a3, ll, wn⟩ (.cons ⟨a4, lb, wb⟩ .nil))))))))
    have ym : Paired (fun t (w : Str × V) => Kb t = some (.tup [.str w.1, w.2])) [z1, z1, z1, z4, z4, z4, z8, z9] [("house", vn), ("house", vn), ("house", vn), ("pace", vr), ("pace", vr), ("pace", vr), ("number", vl), ("bound", vb)] := (.cons y1 (.cons y1 (.cons y1 (.cons y4 (.cons y4 (.cons y4 (.cons y8 (.cons y9 .nil))))))))
    have kb' : Kb D2 = some (.lst ([z1, z1, z1, z4, z4, z4, z8, z9].map V.ref)) := kb
    have ni : ∀ {H' : Hp} {D : Addr} {xs : List V}, H' D = some (.lst xs) → ∀ a C dx fs, V.ref D = .ref a → H' a ≠ some (.ins C dx fs) := fun {H' D xs} d a C dx fs e z => by
      cases e
      rw [d] at z
      cases z
    refine ⟨_, rfl, _, rfl, .ref D, .ref D2, 8, _, rfl, by decide, ni wd, fun H' s => ni (s _ _ kb'), shw_list wd wm (sh Kb eb) (by exact fun z => nomatch z), fun H' s => shw_list (s _ _ kb') (pair_imp ym fun _ _ _ q => s _ _ q) (sh H' (eb.trans (ExtN.same s))) (by exact fun z => nomatch z), rowText_size (sh Kb eb) (show 8 ≤ 40 by decide), fun Kc uc => ⟨_, rfl, ?_⟩⟩
    refine iteF ?_
    have ec := eb.trans (ExtN.same uc)
    have Tc := Tb.ext fun b o h => uc b o h
    clear sh ym wd wm y1 y4 y8 y9 Qn Qr Ql Qb
    have ni2 : ∀ {H' : Hp} {D : Addr} {xs : List V}, H' D = some (.lst xs) → ∀ a C dx fs, V.ref D = .ref a → H' a ≠ some (.ins C dx fs) := ni
    have hAc := hA0.extN ec
    have hqc := ec _ _ hq0 fun ps z => nomatch z
    have hp : PaceAt K Kc qs 5 2 := ⟨SqT.tup hqc, by decide, by decide, by decide, by decide⟩
    obtain ⟨tot, tl, tB⟩ := small_total hAc.by.2
    have hz : (((smallC.length : Nat) : Int) * 5 - ((sumC (smallB.getLastD 1).toNat (cN smallB smallR) smallC.length : Nat) : Int) * 2) * (((smallB.getLastD 1).toNat : Nat) : Int) = 0 := by
      rw [tot]
      decide
    refine ⟨_, rfl, _, rfl, _, pm, ba, rr, qs, _, _, _, 5, 2, 4, rfl, hAc, hp, by decide, fun x4 M1 v1 nx4 ex4 => ?_⟩
    rw [small_f4] at ex4
    refine ⟨_, rfl, _, rfl, _, pm, ba, rr, qs, _, _, _, _, _, _, 5, 2, rfl, (hAc.same v1).by, hp.same v1, fun hne => absurd hz hne, fun _ m1 m2 i1 i2 xt d1 d2 M2 v2 l1 l2 ext ed1 ed2 => ?_⟩
    rw [tot] at l1 l2
    obtain ⟨rfl, rfl⟩ := LeastAt.uniq l1 small_least.1
    obtain ⟨em2, rfl⟩ := LeastAt.uniq l2 small_least.2
    obtain rfl : m2 = 5 := by omega
    rw [small_fa] at ed1
    rw [small_fb] at ed2
    refine ⟨Nat.le_of_ble_eq_true rfl, ?_⟩
    (intro Dn nDn; generalize e_Dn : upd M2 Dn _ = M3; have v3 : Same M2 M3 := fun b x hb => (congrFun e_Dn b).symm.trans (same_new nDn b x hb); have hDn := (congrFun e_Dn Dn).symm.trans upd_same; clear e_Dn)
    refine ⟨_, rfl, .inl ⟨rfl, _, SqL.lst hDn⟩, ?_⟩
    refine ⟨Nat.le_of_ble_eq_true rfl, ?_⟩
    (intro bo nbo; generalize e_bo : upd M3 bo _ = M4; have v4 : Same M3 M4 := fun b x hb => (congrFun e_bo b).symm.trans (same_new nbo b x hb); have hbo := (congrFun e_bo bo).symm.trans upd_same; clear e_bo)
    have v14 := (v1.trans v2).trans (v3.trans v4)
    have o1 := small_over (1 * smallB.getLastD 1 * 5 / 4) (by decide)
    refine ⟨_, rfl, _, rfl, _, pm, ba, rr, qs, bo, _, _, _, _, _, _, 5, 2, 1, 4, rfl, (hAc.same v14).by, hp.same v14, ⟨SqT.tup hbo, by decide, by decide, by decide, by decide⟩, fun z => absurd o1.1 (z 0), fun n hn hm M5 v5 => ?_⟩
    obtain rfl := over_is o1.1 o1.2 hn hm
    clear hn hm
    have dn5 := v5 _ _ (v4 _ _ hDn)
    refine ⟨Dn, _, _, rfl, rfl, dn5, Nat.lt_of_lt_of_le (show 2 < 4 by decide) (by decide), ?_⟩
    have s26 : Same M2 (upd M5 Dn (.lst ([V.ref x4, V.ref xt] ++ [V.int ((0 : Nat) : Int)]))) := same_mut ((v3.trans v4).trans v5) nDn
    generalize eU : upd M5 Dn (.lst ([V.ref x4, V.ref xt] ++ [V.int ((0 : Nat) : Int)])) = M6 at s26 ⊢
    have dn6 : M6 Dn = some (.lst ([V.ref x4, V.ref xt] ++ [V.int ((0 : Nat) : Int)])) := (congrFun eU Dn).symm.trans upd_same
    have v16 := (v1.trans v2).trans s26
    refine ⟨_, rfl, _, rfl, Nat.le_of_ble_eq_true rfl, ?_⟩
    (intro bo2 nbo2; generalize e_bo2 : upd M6 bo2 _ = M7; have v7 : Same M6 M7 := fun b x hb => (congrFun e_bo2 b).symm.trans (same_new nbo2 b x hb); have hbo2 := (congrFun e_bo2 bo2).symm.trans upd_same; clear e_bo2)
    have v17 := v16.trans v7
    have o2 := small_over (0 * smallB.getLastD 1 * 5 / 1) (by decide)
    refine ⟨_, pm, ba, rr, qs, bo2, _, _, _, _, _, _, 5, 2, 0, 1, rfl, (hAc.same v17).by, hp.same v17, ⟨SqT.tup hbo2, by decide, by decide, by decide, by decide⟩, fun z => absurd o2.1 (z 0), fun n hn hm M8 v8 => ?_⟩
    obtain rfl := over_is o2.1 o2.2 hn hm
    clear hn hm
    refine ⟨_, rfl, _, _, rfl, rfl, ⟨by decide, by decide, by decide⟩, _, _, rfl, rfl, ⟨by decide, by decide, by decide⟩, Nat.le_of_ble_eq_true rfl, ?_⟩
    (intro q2 nq2; generalize e_q2 : upd M8 q2 _ = M9; have v9 : Same M8 M9 := fun b x hb => (congrFun e_q2 b).symm.trans (same_new nq2 b x hb); have hq2 := (congrFun e_q2 q2).symm.trans upd_same; clear e_q2)
    refine ⟨_, _, rfl, rfl, ⟨by decide, by decide, by decide⟩, Nat.le_of_ble_eq_true rfl, ?_⟩
    (intro bo3 nbo3; generalize e_bo3 : upd M9 bo3 _ = Ma; have va : Same M9 Ma := fun b x hb => (congrFun e_bo3 b).symm.trans (same_new nbo3 b x hb); have hbo3 := (congrFun e_bo3 bo3).symm.trans upd_same; clear e_bo3)
    have v1a := v17.trans ((v8.trans v9).trans va)
    have p6 : (10 : Int) ^ (6 : Int).toNat = 1000000 := by decide
    have p40 : (10 : Int) ^ (40 : Int).toNat = 10 ^ 40 := rfl
    dsimp only at hq2 hbo3
    rw [p6] at hq2
    rw [p40] at hbo3
    refine ⟨_, pm, ba, rr, q2, bo3, _, _, _, _, _, _, 1000000, 1000000, 10 ^ 40, 7, rfl, (hAc.same v1a).by, ⟨SqT.tup (va _ _ hq2), by decide, by decide, by decide, by decide⟩, ⟨SqT.tup hbo3, by decide +kernel, by decide, by decide, by decide +kernel⟩, fun z => absurd small_far (z _), fun n hn hm Mb vv => ?_⟩
    clear hn hm
    refine ⟨rfl, ?_⟩
    rw [decide_eq_false (show ¬ V.int (n : Int) = V.non from fun z => nomatch z)]
    refine ⟨Nat.le_of_ble_eq_true rfl, ?_⟩
    (intro Dt nDt; generalize e_Dt : upd Mb Dt _ = Mc; have vc : Same Mb Mc := fun b x hb => (congrFun e_Dt b).symm.trans (same_new nDt b x hb); have hDt := (congrFun e_Dt Dt).symm.trans upd_same; clear e_Dt)
    have v6b := (((v7.trans v8).trans v9).trans va).trans vv
    refine ⟨_, rfl, _, rfl, Dn, Dt, _, _, rfl, rfl, vc _ _ (v6b _ _ dn6), hDt, Nat.le_of_ble_eq_true rfl, ?_⟩
    (intro Ds nDs; generalize e_Ds : upd Mc Ds _ = Md; have vd : Same Mc Md := fun b x hb => (congrFun e_Ds b).symm.trans (same_new nDs b x hb); have hDs := (congrFun e_Ds Ds).symm.trans upd_same; clear e_Ds)
    refine ⟨Nat.le_of_ble_eq_true rfl, ?_⟩
    (intro y1 ny1; generalize e_y1 : upd Md y1 _ = Me; have wy1 : Same Md Me := fun b x hb => (congrFun e_y1 b).symm.trans (same_new ny1 b x hb); have hy1 := (congrFun e_y1 y1).symm.trans upd_same; clear e_y1)
    refine ⟨Nat.le_of_ble_eq_true rfl, ?_⟩
    (intro y2 ny2; generalize e_y2 : upd Me y2 _ = Mf; have wy2 : Same Me Mf := fun b x hb => (congrFun e_y2 b).symm.trans (same_new ny2 b x hb); have hy2 := (congrFun e_y2 y2).symm.trans upd_same; clear e_y2)
    refine ⟨Nat.le_of_ble_eq_true rfl, ?_⟩
    (intro y3 ny3; generalize e_y3 : upd Mf y3 _ = Mg; have wy3 : Same Mf Mg := fun b x hb => (congrFun e_y3 b).symm.trans (same_new ny3 b x hb); have hy3 := (congrFun e_y3 y3).symm.trans upd_same; clear e_y3)
    refine ⟨Nat.le_of_ble_eq_true rfl, ?_⟩
    (intro y4 ny4; generalize e_y4 : upd Mg y4 _ = Mh; have wy4 : Same Mg Mh := fun b x hb => (congrFun e_y4 b).symm.trans (same_new ny4 b x hb); have hy4 := (congrFun e_y4 y4).symm.trans upd_same; clear e_y4)
    refine ⟨Nat.le_of_ble_eq_true rfl, ?_⟩
    (intro De nDe; generalize e_De : upd Mh De _ = Mi; have wz : Same Mh Mi := fun b x hb => (congrFun e_De b).symm.trans (same_new nDe b x hb); have hDe := (congrFun e_De De).symm.trans upd_same; clear e_De)
    have wdi := (((wy1.trans wy2).trans wy3).trans wy4).trans wz
    have w6i := (v6b.trans (vc.trans vd)).trans wdi
    have w2i := s26.trans w6i
    have fs : Mi Ds = some (.lst [.ref x4, .ref xt, .int 0, .int 0, .bl false]) := wdi _ _ hDs
    have fe : Mi De = some (.lst [.ref y1, .ref y4, .int 0, .int 0, .bl false]) := hDe
    have f1 := w2i _ _ (v2 _ _ ex4)
    have f2 := w2i _ _ ext
    have f3 := w2i _ _ ed1
    have f4 := w2i _ _ ed2
    have g4 := wz _ _ hy4
    have g3 := wz _ _ (wy4 _ _ hy3)
    have g2 := wz _ _ (wy4 _ _ (wy3 _ _ hy2))
    have g1 := wz _ _ (wy4 _ _ (wy3 _ _ (wy2 _ _ hy1)))
    have wci := (v1.trans v2).trans w2i
    dsimp only [tNil]
    refine ⟨.ref Ds, .ref De, 3, listText mixT, rfl, by decide, ni2 fs, fun H' s => ni2 (s _ _ fe), mix_shw fs f1 f2 f3 f4, fun H' s => mix_shw (s _ _ fe) (s _ _ g1) (s _ _ g4) (s _ _ g2) (s _ _ g3), mix_len, fun H' s => ?_⟩
    have wce := wci.trans s
    exact k H' ((ElseN.els e_0f).trans (ElseN.ext (ec.trans (ExtN.same wce)))) (Tc.ext fun b o h => wce b o h)
end
end LM

set_option Elab.async false
set_option linter.all false
set_option maxRecDepth 100000
set_option maxHeartbeats 4000000
namespace LM
open PySem PySem.Spec PyProof.Rows L2
/-! ### the end of a law, a table of code objects tracked, the guards known -/
/-- nothing is tracked but the script and the table -/
def OnlyT (Pt : Addr) (G : Hp) : Prop := ∀ b, G b = none ∨ b = Pt ∨ ∃ ob xs, G b = some (.frz ob (.lst xs))
/-- the table of the code object at c -/
def tabOf (K : PySem.W.Frag) (c : Addr) : Addr := match K.lookup c with
  | some ⟨_, _, .fields vs, _⟩ => (match (vs[11]? : Option Value) with
    | some (.ref P) => P
    | _ => 0)
  | _ => 0
theorem none_by {α : Type} {o : Option α} (h : o.isNone = true) : o = none := by
  cases o with
  | none => rfl
  | some a => cases h
section
variable {P : Program} {w : World} {K : PySem.W.Frag} {mg mb : Str → Option Value} {k : Nat} {fa a c Pt : Addr} {fd : FuncData} {x : Str} {sp : Sp} {t : Shared} {ys : List Value}
theorem law_coreT {G : Hp} (kin : K.In t.heap) (gns : t.heap.Ns mainGlobals mg) (bns : t.heap.Ns builtinsNs mb) (boot : ∀ x : Str, x ≠ "__name__" → mb x = bootBuiltins x) (noL : t.heap.NoLimit) (gens : t.gens = #[])
    (hP : t.heap.get? Pt = some { cls := .none, data := .fields #[] }) (nP : K.lookup Pt = none) (Cd : PySem.W.CodeHd t.heap c Pt)
    (hbm : ∃ (bm : Addr) (ob : Obj), mg "__builtins__" = some (.ref bm) ∧ bm ≠ builtinsNs ∧ t.heap.get? bm = some ob ∧ ob.cls = .type "module" ∧ ob.dict = some builtinsNs ∧ ob.data = .plain)
    (ha : t.heap.get? a = some { cls := .type "list", data := .seq ys.toArray }) (room : Room k callerA) (hgd : callerA.guards = some [])
    (F : ∀ base : Heap, K.In base → base.Ns mainGlobals mg → LamX.TabB base mg c Pt → FnG P w K mg base k fa fd [x] sp) (bi : ∀ (s : Shared) (u : Value), BindsTo s fd ⟨[u], []⟩ [(x, u)])
    (sat : sp [.ref a] G (fun v _ => v = .bl true) E0) (only : OnlyT Pt G) (gP : G Pt = some (.tbl #[])) (hok : HOk P w G t.heap) (hA : ∀ b, G b ≠ none → b = a ∨ b = Pt) (hK : G a ≠ none → K.lookup a = none) :
    codeAny (model P w) callerA (.call (.ref fa) ⟨[.ref a], []⟩) (fun r s' => r = .ok (.ret (.bool true)) ∧ PySem.OldK t.heap s'.heap ∧ s'.os = t.os ∧ AllBare s'.gens) t := by
  have base_of : ∀ {b : Addr} {o : Obj}, t.heap.get? b = some o → G b = none → (hidT t.heap G).get? b = some o := hidT_get
  -- what is neither a list nor an empty table is not tracked
  have free : ∀ {b : Addr} {o : Obj}, t.heap.get? b = some o → (∀ vs n, o.data ≠ .seq vs n) → o.data ≠ .fields #[] → G b = none := by
    intro b o z n1 n2
    cases q : G b with
    | none => rfl
    | some u =>
      rcases hA b (by rw [q]; exact fun z => nomatch z) with rfl | rfl
      · rw [ha] at z
        cases z
        exact absurd rfl (n1 _ _)
      · rw [hP] at z
        cases z
        exact absurd rfl n2
  have ns_of : ∀ {b : Addr} {m : Str → Option Value}, t.heap.Ns b m → (hidT t.heap G).Ns b m := fun ⟨o, es, ep, z, dz, rest⟩ =>
    ⟨o, es, ep, base_of z (free z (fun vs n q => by rw [dz] at q; cases q) fun q => by rw [dz] at q; cases q), dz, rest⟩
  have kinB : K.In (hidT t.heap G) := by
    intro b o z
    refine base_of (kin b o z) ?_
    cases q : G b with
    | none => rfl
    | some u =>
      rcases hA b (by rw [q]; exact fun z => nomatch z) with rfl | rfl
      · rw [hK (by rw [q]; exact fun z => nomatch z)] at z
        cases z
      · rw [nP] at z
        cases z
  obtain ⟨mc, l1, l2⟩ := noL
  have hM : Mod K mg (hidT t.heap G) := ⟨kinB, ns_of gns, ⟨mb, ns_of bns, boot⟩, ⟨mc, ns_of l1, l2⟩⟩
  have noG : mainGlobals ≠ Pt := fun z => by
    obtain ⟨o, es, ep, e, hd, _⟩ := gns
    rw [z, hP] at e
    cases e
    cases hd
  have TB : LamX.TabB (hidT t.heap G) mg c Pt := by
    refine ⟨?_, ?_, noG⟩
    · obtain ⟨o, us, r1, r2, r3, r4, r5, r6, r7, e1, e2, e3, e4, rest⟩ := id Cd
      refine ⟨o, us, r1, r2, r3, r4, r5, r6, r7, base_of e1 (free e1 (fun vs n q => by rw [e3] at q; cases q) fun q => ?_), e2, e3, e4, rest⟩
      rw [e3] at q
      cases q
      simp at e4
    · obtain ⟨bm, ob, b1, b2, b3, b4, b5, b6⟩ := hbm
      refine ⟨bm, ob, b1, b2, fun q => ?_, fun q => ?_, base_of b3 (free b3 (fun vs n q => by rw [b6] at q; cases q) fun q => by rw [b6] at q; cases q), b4, b5, b6⟩
      · obtain ⟨o, es, ep, e, hd, _⟩ := gns
        rw [q, e] at b3
        cases b3
        rw [hd] at b6
        cases b6
      · rw [q, hP] at b3
        cases b3
        cases b6
  have en : Env0 P w K mg (hidT t.heap G) callerA [] t G := ⟨rfl, hM, fun _ _ z => of_hidT z, Nat.le_of_eq (hidT_size _ _), trivial, fun b z => absurd (show b ∈ ([] : List Addr) from z) List.not_mem_nil, hok, .of_eq gens⟩
  have run := (F _ kinB (ns_of gns) TB).go callerA [] t G ⟨[.ref a], []⟩ [.ref a] [.ref a] _ _ hgd room en (bi t (.ref a)) (.cons rfl .nil) sat
  refine codeAny_mono run fun res t2 hq => ?_
  cases res with
  | error er => exact hq.elim
  | ok fl =>
    cases fl with
    | next => exact hq.elim
    | brk => exact hq.elim
    | cont => exact hq.elim
    | ret u =>
      obtain ⟨v, G2, os, bare, un, hok2, rv, q⟩ := hq
      obtain rfl : v = V.bl true := q
      obtain rfl : u = Value.bool true := rv
      have key : ∀ b o, b ≠ Pt → t.heap.get? b = some o → t2.heap.get? b = some o := fun b o nb z => by
        cases q : G b with
        | none => exact un.keep b o z q (fun y => absurd (show b ∈ ([] : List Addr) from y) List.not_mem_nil) List.not_mem_nil
        | some u =>
          rcases only b with y | y | ⟨ob, xs, y⟩
          · rw [q] at y
            cases y
          · exact absurd y nb
          · obtain ⟨e1, _⟩ := hok b _ y
            obtain ⟨e2, _⟩ := hok2 b _ (un.frzs b ob _ y)
            rw [z] at e1
            cases e1
            exact e2
      obtain ⟨more, hmore⟩ := un.tbls Pt #[] gP
      have hP2 : t2.heap.get? Pt = some { cls := .none, data := .fields (#[] ++ more) } := hok2 Pt _ hmore
      refine ⟨rfl, ⟨fun b o e => ?_, fun b o e => ?_⟩, os, bare⟩
      · by_cases hb : b = Pt
        · subst hb
          rw [hP] at e
          cases e
          exact .inr (.inl ⟨(Cd.tab hP).isCodeTable, rfl, #[], more, rfl, hP2⟩)
        · exact .inl (key b o hb e)
      · by_cases hb : b = Pt
        · exact ⟨_, hb ▸ hP2⟩
        · exact ⟨o, key b o hb e⟩
theorem law_callT {ns : List Int} (kin : K.In t.heap) (gns : t.heap.Ns mainGlobals mg) (bns : t.heap.Ns builtinsNs mb) (boot : ∀ x : Str, x ≠ "__name__" → mb x = bootBuiltins x) (noL : t.heap.NoLimit) (gens : t.gens = #[])
    (hP : t.heap.get? Pt = some { cls := .none, data := .fields #[] }) (nP : K.lookup Pt = none) (Cd : PySem.W.CodeHd t.heap c Pt)
    (hbm : ∃ (bm : Addr) (ob : Obj), mg "__builtins__" = some (.ref bm) ∧ bm ≠ builtinsNs ∧ t.heap.get? bm = some ob ∧ ob.cls = .type "module" ∧ ob.dict = some builtinsNs ∧ ob.data = .plain)
    (ha : t.heap.get? a = some { cls := .type "list", data := .seq ys.toArray }) (hi : IntsAre ys ns) (hl : ns.length ≤ sizeLine) (room : Room k callerA) (hgd : callerA.guards = some [])
    (F : ∀ base : Heap, K.In base → base.Ns mainGlobals mg → LamX.TabB base mg c Pt → FnG P w K mg base k fa fd [x] sp) (bi : ∀ (s : Shared) (u : Value), BindsTo s fd ⟨[u], []⟩ [(x, u)])
    (hsp : ∀ G : Hp, G Pt = some (.tbl #[]) → SqL K G a (ns.map V.int) → sp [.ref a] G (fun v _ => v = .bl true) E0) :
    codeAny (model P w) callerA (.call (.ref fa) ⟨[.ref a], []⟩) (fun r s' => r = .ok (.ret (.bool true)) ∧ PySem.OldK t.heap s'.heap ∧ s'.os = t.os ∧ AllBare s'.gens) t := by
  have rv := vals_ints hi
  have hlen := hi.length
  have aP : a ≠ Pt := fun z => by
    rw [z, hP] at ha
    have := congrArg Obj.cls (Option.some.inj ha)
    cases this
  cases hk : K.lookup a with
  | some o =>
    have e := kin a o hk
    rw [ha] at e
    cases e
    have gp : (fun b => if b = Pt then some (HO.tbl #[]) else none) Pt = some (HO.tbl #[]) := if_pos rfl
    refine law_coreT (G := fun b => if b = Pt then some (HO.tbl #[]) else none) kin gns bns boot noL gens hP nP Cd hbm ha room hgd F bi (hsp _ gp (.inr ⟨_, ys.toArray, _, hk, rfl, rfl, rfl, by rw [List.size_toArray, hlen]; exact hl, by simpa using rv⟩)) (fun b => ?_) gp (fun b u z => ?_) (fun b z => ?_) fun z => absurd (show (if a = Pt then some (HO.tbl #[]) else none) = none from if_neg aP) z
    · by_cases hb : b = Pt
      · exact .inr (.inl hb)
      · exact .inl (if_neg hb)
    · by_cases hb : b = Pt
      · cases (if_pos hb).symm.trans z
        rw [hb]
        exact hP
      · exact nomatch (if_neg hb).symm.trans z
    · by_cases hb : b = Pt
      · exact .inr hb
      · exact absurd (if_neg hb) z
  | none =>
    have gp : (fun b => if b = a then some (HO.frz { cls := .type "list", data := .seq ys.toArray } (.lst (ns.map V.int))) else if b = Pt then some (HO.tbl #[]) else none) Pt = some (HO.tbl #[]) := (if_neg (Ne.symm aP)).trans (if_pos rfl)
    have at_a : (fun b => if b = a then some (HO.frz { cls := .type "list", data := .seq ys.toArray } (.lst (ns.map V.int))) else if b = Pt then some (HO.tbl #[]) else none) a = some (HO.frz { cls := .type "list", data := .seq ys.toArray } (.lst (ns.map V.int))) := if_pos rfl
    refine law_coreT (G := fun b => if b = a then some (HO.frz { cls := .type "list", data := .seq ys.toArray } (.lst (ns.map V.int))) else if b = Pt then some (HO.tbl #[]) else none) kin gns bns boot noL gens hP nP Cd hbm ha room hgd F bi (hsp _ gp (.inl (.inr ⟨_, at_a⟩))) (fun b => ?_) gp (fun b u z => ?_) (fun b z => ?_) fun _ => hk
    · by_cases hb : b = a
      · exact .inr (.inr ⟨_, _, if_pos hb⟩)
      · by_cases hb2 : b = Pt
        · exact .inr (.inl hb2)
        · exact .inl ((if_neg hb).trans (if_neg hb2))
    · by_cases hb : b = a
      · subst hb
        cases at_a.symm.trans z
        exact ⟨ha, by rw [List.length_map]; exact hl, ys, _, rv, ha⟩
      · have z1 := (if_neg hb).symm.trans z
        by_cases hb2 : b = Pt
        · cases (if_pos hb2).symm.trans z1
          rw [hb2]
          exact hP
        · exact nomatch (if_neg hb2).symm.trans z1
    · by_cases hb : b = a
      · exact .inl hb
      · by_cases hb2 : b = Pt
        · exact .inr hb2
        · exact absurd ((if_neg hb).trans (if_neg hb2)) z
end
theorem walk_ofGT {l : PySem.W.OpenLaw} {n k : Nat} {q : Program} {loose : List Str} {XP : (Str → Option Value) → Heap → Prop} {YP : World → Heap → Prop} {d : DefRec} {K : Params → PySem.W.Frag} {sp : PySem.W.Frag → Addr → Sp} {x : Str}
    (most : l.most = some n) (small : n ≤ sizeLine) (nodf : d.params.defaults = []) (room : Room k callerA) (hgd : callerA.guards = some []) (hY : ∀ (w : World) (h : Heap), YP w h → (K w.params).In h)
    (F : ∀ (w : World) (mg : Str → Option Value) (fa : Addr) (h : Heap), YP w h → (K w.params).In h → h.Ns mainGlobals mg → mg d.name = some (.ref fa) →
      ∃ (fd : FuncData) (c Pt : Addr), (h.get? Pt = some { cls := .none, data := .fields #[] } ∧ (K w.params).lookup Pt = none ∧ PySem.W.CodeHd h c Pt) ∧ (∀ (s : Shared) (u : Value), BindsTo s fd ⟨[u], []⟩ [(x, u)]) ∧
        ∀ base : Heap, (K w.params).In base → base.Ns mainGlobals mg → LamX.TabB base mg c Pt → FnG l.prog w (K w.params) mg base k fa fd [x] (sp (K w.params) Pt))
    (hsp : ∀ (K : PySem.W.Frag) (Pt : Addr) (G : Hp) (a : Addr) (ns : List Int), ns.length ≤ n → G Pt = some (.tbl #[]) → SqL K G a (ns.map V.int) → sp K Pt [.ref a] G (fun v _ => v = .bl true) E0) :
    PySem.W.WalkO q loose XP YP l.row.toRowW d [] (fun f vs => PySem.call f vs) := by
  refine Att.attach_call most nodf fun w s0 t mg mb fa o pm cd doc a ys ns Gr Y ho hd hcd hmg hobj hints hlen gens => ?_
  have kin := hY w _ Y
  obtain ⟨fd, c, Pt, ⟨hP, nP, Cd⟩, bi, hF⟩ := F w mg fa _ Y kin Gr.T.g hmg
  exact law_callT kin Gr.T.g Gr.T.b Gr.T.builtins Gr.T.nolimit gens hP nP Cd Gr.T.bmain hobj hints (Nat.le_trans hlen small) room hgd hF bi fun G gp hS => hsp _ _ G a ns hlen gp hS
end LM

set_option Elab.async false
set_option linter.all false
set_option maxRecDepth 100000
set_option maxHeartbeats 4000000
set_option pp.maxSteps 600
set_option pp.deepTerms false
namespace LM
open PySem PySem.Spec PyProof.Rows L2
local macro_rules | `(tactic| walk_at "hp") => `(tactic| first | assumption | exact upd_same | (rw [upd_ne (by assumption)]; assumption) | (rw [upd_ne (Ne.symm (by assumption))]; assumption) | (rw [upd_ne (by assumption)]; exact upd_same) | (rw [upd_ne (Ne.symm (by assumption))]; exact upd_same))
local macro_rules | `(tactic| walk_at "sq") => `(tactic| first | assumption | exact Or.inl (Or.inl (by assumption)) | exact Or.inl (Or.inl upd_same) | exact Or.inl (Or.inl (by walk_at "hp")))
local macro_rules | `(tactic| walk_at "ixl") => `(tactic| refine ⟨_, _, _, _, rfl, rfl, (by walk_at "sq"), (by rfl), ?_⟩)
local macro_rules | `(tactic| walk_at "setl") => `(tactic| refine ⟨_, _, _, _, rfl, rfl, (by walk_at "hp"), (by rfl), ?_⟩)
local macro_rules | `(tactic| walk_at "side") => `(tactic| refine idP ?_; first | omega | (show (0 : Int) < _; omega) | (show (0 : Int) < _ ∧ _ < _; omega) | (refine Or.inr ?_; show (-(2 ^ 64) : Int) < _ ∧ _ < _; omega) | (refine Or.inl ?_; show (-(2 ^ 64) : Int) < _ ∧ _ < _; omega) | exact divW (by omega) (by omega) _ | (refine ⟨by decide, by decide, ?_⟩; decide))
local macro_rules | `(tactic| walk_at "go1") => `(tactic| first
  | refine ⟨_, rfl, ?_⟩
  | refine ⟨_, _, rfl, rfl, (by walk_at "side"), ?_⟩
  | refine ⟨_, _, rfl, (by walk_at "side"), ?_⟩
  | refine ⟨_, _, rfl, rfl, ?_⟩
  | refine Or.inl ⟨_, rfl, ?_⟩
  | refine ⟨_, _, rfl, Or.inl (by walk_at "sq"), ?_⟩
  | walk_at "ixl"
  | walk_at "setl"
  | refine ⟨_, _, rfl, (by walk_at "sq"), rfl, ?_⟩
  | refine ⟨_, _, rfl, (by walk_at "sq"), ?_⟩
  | refine ⟨_, _, rfl, ?_⟩
  | refine ⟨rfl, ?_⟩
  | refine ⟨small (Nat.le_of_ble_eq_true rfl), ?_⟩)
local macro_rules | `(tactic| walk_at "go") => `(tactic| repeat walk_at "go1")

abbrev slaw : Stmt := topS 82
theorem sclaw : FnScope ["_law_cells", "_law_turn"] ["_law_cells"] (defScope slaw) := ⟨rfl, rfl, rfl, by decide +kernel, rfl, by decide +kernel, by decide +kernel⟩
theorem clamp {x : Int} (h : 0 ≤ x) : 2 ≤ (if (if (4 : Int) < x then 4 else x) > 2 then (if (4 : Int) < x then 4 else x) else 2) ∧ (if (if (4 : Int) < x then 4 else x) > 2 then (if (4 : Int) < x then 4 else x) else 2) ≤ 4 := by
  by_cases h1 : (4 : Int) < x
  · rw [if_pos h1]
    decide
  · rw [if_neg h1]
    by_cases h2 : x > 2
    · rw [if_pos h2]
      omega
    · rw [if_neg h2]
      decide
def spLaw (K : PySem.W.Frag) (Pt : Addr) : Sp := fun vs H Q _ => ∃ (a : Addr) (ns : List Int), vs = [.ref a] ∧ SqL K H a (ns.map V.int) ∧ ns.length ≤ 63 ∧ LamX.Tabs (TQ Pt) H ∧ ∀ H', Q (.bl true) H'
theorem law_sat (K : PySem.W.Frag) (Pt : Addr) (G : Hp) (a : Addr) (ns : List Int) (hl : ns.length ≤ 63) (gp : G Pt = some (.tbl #[])) (hS : SqL K G a (ns.map V.int)) : spLaw K Pt [.ref a] G (fun v _ => v = .bl true) E0 :=
  ⟨a, ns, rfl, hS, hl, fun q hq => by rw [List.mem_singleton.mp hq]; exact LamX.TabS.nil gp, fun _ => rfl⟩
section
variable {P : Program} {w : World} {K : PySem.W.Frag} {mg : Str → Option Value} {base : Heap}
theorem ok_law {f Pt : Addr} {fd : FuncData} (F : Fun K "law" "law" slaw f fd) (N : Names mg) (D_law_vase : DefK P w K mg base "_law_vase" ["_law_cells", "_law_turn"] 1 (spVase K)) (D2 : DefG P w K mg base "_law_known_right" ["_law_turns"] 15 spKnown ∧ DefG P w K mg base "_law_right" ["_law_vase_here"] 15 (spRight K Pt)) : FnG P w K mg base 16 f fd ["_law_cells"] (spLaw K Pt) := by
  have sc := sclaw
  obtain ⟨D_law_known_right, D_law_right⟩ := D2
  refine funG_ok F sc (fun vs H Q E h => ?_) (fun cdv A outer s H vs Q E hgd hr h => ?_)
  · obtain ⟨a, ns, rfl, _⟩ := h
    rfl
  · obtain ⟨a, ns, rfl, ha, hl, hT, k⟩ := h
    refine ⟨_, (pss_cons (ps_if (pt_not (pt_val (pe_dG D_law_known_right hgd (hr.mono (by decide)) rfl (pa_cons (pe_op op_add pe_int (pe_op op_mod (pe_callTy (T := "int") call_int1 (by rfl) N.int (by decide +kernel) (pa_cons (pe_ix ix_list (pe_d D_law_vase (hr.mono (by decide)) rfl (pa_cons (pv 0) (pa_cons pe_int pa_nil))) pe_int (fun _ _ => rfl)) pa_nil)) (pe_op op_pow pe_int pe_int))) pa_nil)))) (pss_one (ps_ret pe_bl)) pss_nil)
      (pss_one (ps_ret (pe_callB (cr_all rfl) (by rfl) N.all (by decide +kernel) (pa_cons (pe_lc (own := [("_law_turn", 1)]) rfl sc.nd (pi_range1 rfl N.range (pa_cons (pe_callB (call_max2 rfl) (by rfl) N.max (by decide +kernel) (pa_cons pe_int (pa_cons (pe_callB (call_min2 rfl) (by rfl) N.min (by decide +kernel) (pa_cons (pe_callB call_len_seq (by rfl) N.len (by decide +kernel) (pa_cons (pv 0) pa_nil)) (pa_cons pe_int pa_nil))) pa_nil))) pa_nil)) (blkOk_by (own := [("_law_turn", 1)]) (N := ["_law_cells", "_law_turn"]) (sc := defScope (topS 82)) (by decide +kernel)) (fun _ _ _ _ _ => (pg_name (i := 1) sc.nd rfl (Or.inl rfl))) (fun _ _ _ _ _ => pts_nil) (fun _ _ _ _ _ => (pe_dG D_law_right hgd (hr.mono (by decide)) rfl (pa_cons (pe_d D_law_vase (hr.mono (by decide)) rfl (pa_cons (pv 0) (pa_cons (pv 1) pa_nil))) pa_nil)))) pa_nil))))), ?_⟩
    refine ⟨_, rfl, a, ns, 0, rfl, ha, hl, fun H0 p0 s0 np0 hv0 => ?_⟩
    obtain ⟨x0, x1, x2, _, hx1, _, eV⟩ := id hv0
    obtain ⟨n1, rfl⟩ := nat_of hx1
    have p6 : (10 : Int) ^ (6 : Int).toNat = 1000000 := by decide
    refine ⟨p0, _, _, _, rfl, rfl, SqL.lst eV, rfl, .inl ⟨_, rfl, _, _, rfl, rfl, ⟨by decide, by decide, by decide⟩, _, _, rfl, rfl, (show (0 : Int) < 10 ^ (6 : Int).toNat by decide), _, _, rfl, rfl, _, rfl, (show (1 : Int) ≤ 1 + (n1 : Int) % 10 ^ (6 : Int).toNat by rw [p6]; omega), (show 1 + (n1 : Int) % 10 ^ (6 : Int).toNat ≤ 1000000 by rw [p6]; omega), fun H3 s3 => ?_⟩⟩
    have ha3 := (s0.trans s3).seq ha
    have hT3 := hT.ext fun b o z => (s0.trans s3) b o z
    clear hv0 eV s0 s3
    refine ⟨_, rfl, ?_⟩
    refine iteF ?_
    refine ⟨_, rfl, a, _, rfl, .inl ha3, _, _, rfl, _, _, rfl, ?_⟩
    obtain ⟨b1, b2⟩ := clamp (x := (((ns.map V.int).length : Nat) : Int)) (by omega)
    generalize (if (if (4 : Int) < (((ns.map V.int).length : Nat) : Int) then 4 else (((ns.map V.int).length : Nat) : Int)) > 2 then (if (4 : Int) < (((ns.map V.int).length : Nat) : Int) then 4 else (((ns.map V.int).length : Nat) : Int)) else 2) = M at b1 b2 ⊢
    obtain ⟨n, rfl⟩ := nat_of (show 0 ≤ M by omega)
    refine ⟨_, rfl, by omega, by omega, ?_⟩
    intro D nD
    have noD : ∀ o', H3 D = some o' → (∀ ps, o' ≠ .tbl ps) → False := fun o' z _ => by rw [nD] at z; cases z
    refine lc_range (n := n) (fun i H' => LamX.ExtN H3 H' ∧ LamX.Tabs (TQ Pt) H' ∧ H' D = some (.lst ((List.replicate i true).map V.bl))) ⟨ExtN.same (same_new nD), hT3.ext fun b o z => (same_new nD) b o z, upd_same⟩ ?_ ?_
    · rintro i H' hi ⟨sm, tm, eD⟩
      refine ⟨rfl, ?_⟩
      refine ⟨_, rfl, _, rfl, a, ns, i, (by rw [Int.zero_add]; rfl), SqL.extN sm ha3, hl, fun H1 p s1 np hv => ?_⟩
      refine ⟨p, rfl, hv, tm.ext fun b o z => s1 b o z, fun H2 e2 t2 => ?_⟩
      have s02 : LamX.ExtN H' H2 := fun b o e nt => e2 b o (ne_of_none e np) (s1 _ _ e) nt
      have eD2 := s02 _ _ eD (fun ps z => nomatch z)
      refine ⟨_, eD2, smallLt (by rw [List.length_map, List.length_replicate]; omega), ext_mut (sm.trans s02) noD, Tabs.mut eD2 t2, ?_⟩
      rw [upd_same, List.replicate_succ', List.map_append]
      rfl
    · rintro H' ⟨sm, tm, eD⟩
      refine ⟨D, List.replicate n true, rfl, SqL.lst eD, ?_⟩
      have e : (List.replicate n true).all id = true := by simp
      rw [e]
      exact k H'
end
end LM

set_option Elab.async false
set_option linter.all false
set_option maxRecDepth 100000
set_option maxHeartbeats 4000000
namespace LM
open PySem PySem.Spec PyProof.Rows L2
/-- a def of the top -/
def TopD (K : PySem.W.Frag) (mg : Str → Option Value) (x : Str) (st : Stmt) (ps : List Str) : Prop := ∃ (f : Addr) (fd : FuncData), Fun K x x st f fd ∧ mg x = some (.ref f) ∧ PySem.W.keepIn K (.ref f) = true ∧ Binds K fd ps []
theorem TopD.mk {K : PySem.W.Frag} {h : Heap} {mg : Str → Option Value} (X : K.In h) (G : h.Ns mainGlobals mg) {x : Str} {st : Stmt} {ps : List Str} {f : Addr} {oc : Value} {od an : Option Addr} {osl : Array (Option Value)} {kV doc pm cdv ct : Value}
    (a : PySem.W.nsIn K mainGlobals x = some (some (.ref f))) (l : K.lookup f = some ⟨oc, od, .func (PySem.W.fnOf x x (defArgs st) (defBody st) (defScope st) .none kV doc pm an cdv ct), osl⟩) (c : PySem.W.codeIn K cdv x = true) (k : PySem.W.keepIn K (.ref f) = true)
    (b : ∀ (kV doc pm : Value) (an : Option Addr) (cdv ct : Value) (us : List Value), us.length = ps.length → bindArgs (PySem.W.fnOf x x (defArgs st) (defBody st) (defScope st) .none kV doc pm an cdv ct) ⟨us, []⟩ = pure (ps.zip us)) : TopD K mg x st ps := by
  have F := fun_mk (st := st) l c k
  exact ⟨f, _, F, PySem.W.mg_of X G a, k, F.binds b⟩
theorem TopD.defK {P : Program} {w : World} {K : PySem.W.Frag} {mg : Str → Option Value} {base : Heap} {x : Str} {st : Stmt} {ps : List Str} {k : Nat} {sp : Sp} (t : TopD K mg x st ps) (ok : ∀ {f : Addr} {fd : FuncData}, Fun K x x st f fd → FnOk P w K mg base CX0 k f fd ps sp) : DefK P w K mg base x ps k sp := by
  obtain ⟨f, fd, F, m, kp, b⟩ := t
  exact ⟨f, fd, ok F, m, kp, b⟩
theorem TopD.defG {P : Program} {w : World} {K : PySem.W.Frag} {mg : Str → Option Value} {base : Heap} {x : Str} {st : Stmt} {ps : List Str} {k : Nat} {sp : Sp} (t : TopD K mg x st ps) (ok : ∀ {f : Addr} {fd : FuncData}, Fun K x x st f fd → FnG P w K mg base k f fd ps sp) : DefG P w K mg base x ps k sp := by
  obtain ⟨f, fd, F, m, kp, b⟩ := t
  exact ⟨f, fd, ok F, m, kp, b⟩
/-- a method of the class -/
def MethD (K : PySem.W.Frag) (C : Addr) (m qual : Str) (st : Stmt) (ps : List Str) : Prop := ∃ (f : Addr) (fd : FuncData), Meth K C m f ∧ Fun K m qual st f fd ∧ Binds K fd ps []
theorem MethD.mk {K : PySem.W.Frag} {C : Addr} {m qual : Str} {st : Stmt} {ps : List Str} {f : Addr} {oc : Value} {od an : Option Addr} {osl : Array (Option Value)} {kV doc pm cdv ct : Value}
    (a : PySem.W.findIn K (.ref C) m = some (some (.ref f))) (i : PySem.W.isFn K (.ref f) = true) (l : K.lookup f = some ⟨oc, od, .func (PySem.W.fnOf m qual (defArgs st) (defBody st) (defScope st) .none kV doc pm an cdv ct), osl⟩) (c : PySem.W.codeIn K cdv qual = true) (k : PySem.W.keepIn K (.ref f) = true)
    (b : ∀ (kV doc pm : Value) (an : Option Addr) (cdv ct : Value) (us : List Value), us.length = ps.length → bindArgs (PySem.W.fnOf m qual (defArgs st) (defBody st) (defScope st) .none kV doc pm an cdv ct) ⟨us, []⟩ = pure (ps.zip us)) : MethD K C m qual st ps := by
  have F := fun_mk (st := st) l c k
  exact ⟨f, _, ⟨a, i, k⟩, F, F.binds b⟩
/-- __init__ with its default -/
def InitD (K : PySem.W.Frag) (C : Addr) : Prop := ∃ (f : Addr) (fd : FuncData) (dv : List V), Mk K C f ∧ FunD K "__init__" "House.__init__" (defArgs sHouse__init_) (defBody sHouse__init_) (defScope sHouse__init_) dv [] f fd ∧ Binds K fd ["self", "bases", "rows"] []
theorem InitD.mk {K : PySem.W.Frag} {C f T e : Addr} {oc ocT : Value} {od an odT : Option Addr} {osl oslT : Array (Option Value)} {kV doc pm cdv ct : Value} {n : Nat}
    (mk : PySem.W.makesIn K C = true) (a : PySem.W.findIn K (.ref C) "__init__" = some (some (.ref f))) (i : PySem.W.isFn K (.ref f) = true) (kc : PySem.W.keepIn K (.ref C) = true)
    (l : K.lookup f = some ⟨oc, od, .func (PySem.W.fnOf "__init__" "House.__init__" (defArgs sHouse__init_) (defBody sHouse__init_) (defScope sHouse__init_) (.ref T) kV doc pm an cdv ct), osl⟩) (lT : K.lookup T = some ⟨ocT, odT, .seq #[.ref e] n, oslT⟩) (c : PySem.W.codeIn K cdv "House.__init__" = true) (k : PySem.W.keepIn K (.ref f) = true) : InitD K C := by
  have F : FunD K "__init__" "House.__init__" (defArgs sHouse__init_) (defBody sHouse__init_) (defScope sHouse__init_) [V.ref e] [] f _ := ⟨⟨oc, od, _, kV, doc, pm, an, cdv, ct, osl, rfl, l, c, .inr ⟨(fun z => nomatch z), T, _, [.ref e], n, rfl, lT, rfl, .cons rfl .nil⟩, .inl rfl⟩, k⟩
  obtain ⟨ds, hv, b⟩ := FunD.binds1 (ps := ["self", "bases", "rows"]) F 3 1 (fun z => nomatch z) rfl fun T kV doc pm an cdv ct us its hu hi => match us, its, hu, hi with | [_, _, _], [_], _, _ => ⟨_, rfl, rfl⟩
  cases hv
  exact ⟨f, _, _, ⟨mk, a, i, kc⟩, F, b⟩

abbrev sHouse_bases : Stmt := inClass (topS 57) 2
theorem scHouse_bases : FnScope ["self"] ["self"] (defScope sHouse_bases) := ⟨rfl, rfl, rfl, by decide +kernel, rfl, by decide +kernel, by decide +kernel⟩
/-- a property -/
def PropBs (K : PySem.W.Frag) (C : Addr) : Prop := ∃ (p f : Addr) (fd : FuncData), PropOf K C "bases" p f ∧ Binds K fd ["self"] [] ∧ (Cls K C → NoAttr K C "_bases" → ∀ (P : Program) (w : World) (mg : Str → Option Value) (base : Heap), FnOk P w K mg base CX0 1 f fd ["self"] (getSp C "_bases"))
theorem PropBs.mk {K : PySem.W.Frag} {C p f : Addr} {oc : Value} {od an : Option Addr} {osl : Array (Option Value)} {kV doc pm cdv ct : Value} {rest : List Value}
    (a : PySem.W.findIn K (.ref C) "bases" = some (some (.ref p))) (g : PySem.W.specialIn K (.ref p) "__get__" = some (some (.builtin "property.__get__"))) (t : PySem.W.takesIn K (.ref p) = some true) (r : PySem.W.recIn K p "property" = some (.ref f :: rest))
    (l : K.lookup f = some ⟨oc, od, .func (PySem.W.fnOf "bases" "House.bases" (defArgs sHouse_bases) (defBody sHouse_bases) (defScope sHouse_bases) .none kV doc pm an cdv ct), osl⟩) (c : PySem.W.codeIn K cdv "House.bases" = true) : PropBs K C :=
  ⟨p, f, _, ⟨a, g, t, rest, r⟩, .all fun us hl => match us, hl with | [_], _ => rfl, fun cl nA P w mg base => fn_getter (N := ["self"]) l c scHouse_bases rfl rfl cl nA⟩

abbrev sHouse_round : Stmt := inClass (topS 57) 4
theorem scHouse_round : FnScope ["self"] ["self"] (defScope sHouse_round) := ⟨rfl, rfl, rfl, by decide +kernel, rfl, by decide +kernel, by decide +kernel⟩
/-- a property -/
def PropRo (K : PySem.W.Frag) (C : Addr) : Prop := ∃ (p f : Addr) (fd : FuncData), PropOf K C "round" p f ∧ Binds K fd ["self"] [] ∧ (Cls K C → NoAttr K C "_round" → ∀ (P : Program) (w : World) (mg : Str → Option Value) (base : Heap), FnOk P w K mg base CX0 1 f fd ["self"] (getSp C "_round"))
theorem PropRo.mk {K : PySem.W.Frag} {C p f : Addr} {oc : Value} {od an : Option Addr} {osl : Array (Option Value)} {kV doc pm cdv ct : Value} {rest : List Value}
    (a : PySem.W.findIn K (.ref C) "round" = some (some (.ref p))) (g : PySem.W.specialIn K (.ref p) "__get__" = some (some (.builtin "property.__get__"))) (t : PySem.W.takesIn K (.ref p) = some true) (r : PySem.W.recIn K p "property" = some (.ref f :: rest))
    (l : K.lookup f = some ⟨oc, od, .func (PySem.W.fnOf "round" "House.round" (defArgs sHouse_round) (defBody sHouse_round) (defScope sHouse_round) .none kV doc pm an cdv ct), osl⟩) (c : PySem.W.codeIn K cdv "House.round" = true) : PropRo K C :=
  ⟨p, f, _, ⟨a, g, t, rest, r⟩, .all fun us hl => match us, hl with | [_], _ => rfl, fun cl nA P w mg base => fn_getter (N := ["self"]) l c scHouse_round rfl rfl cl nA⟩

theorem mg_const {K : PySem.W.Frag} {h : Heap} {mg : Str → Option Value} (X : K.In h) (G : h.Ns mainGlobals mg) {x : Str} {i : Int} {t : Tok} (a : PySem.W.nsIn K mainGlobals x = some (some (.int i t))) : ∃ t, mg x = some (.int i t) := ⟨t, PySem.W.mg_of X G a⟩
theorem mg_bfun {K : PySem.W.Frag} {h : Heap} {mg : Str → Option Value} (X : K.In h) (G : h.Ns mainGlobals mg) {x : Str} {b : String} (a : PySem.W.nsIn K mainGlobals x = some (some (.builtin b))) : mg x = some (.builtin b) := PySem.W.mg_of X G a
/-- more of the class -/
structure MoreD (K : PySem.W.Frag) (C : Addr) : Prop where
  ot : Other K C
  ow : OwnT K C
  ne : PySem.W.findIn K (.ref C) "__ne__" = some (some (.builtin "object.__ne__"))
  bo : PySem.W.findIn K (.ref C) "__bool__" = some none
  le : PySem.W.findIn K (.ref C) "__len__" = some none
theorem MoreD.of {K : PySem.W.Frag} {C : Addr} (own1 : PySem.W.notFirst K C (.ref C) = true) (str1 : PySem.W.notFirst K C (.type "str") = true) (str2 : PySem.W.kitOne K (.type "str") (.ref C) = some false) (int1 : PySem.W.notFirst K C (.type "int") = true) (int2 : PySem.W.kitOne K (.type "int") (.ref C) = some false) (non1 : PySem.W.notFirst K C (.type "NoneType") = true) (non2 : PySem.W.kitOne K (.type "NoneType") (.ref C) = some false) (lst1 : PySem.W.notFirst K C (.type "list") = true) (lst2 : PySem.W.kitOne K (.type "list") (.ref C) = some false) (tup1 : PySem.W.notFirst K C (.type "tuple") = true) (tup2 : PySem.W.kitOne K (.type "tuple") (.ref C) = some false) (dic1 : PySem.W.notFirst K C (.type "dict") = true) (dic2 : PySem.W.kitOne K (.type "dict") (.ref C) = some false) (ha : PySem.W.findIn K (.ref C) "__class__" = some (some (.builtin "object.__class__"))) (hn : PySem.W.specialIn K (.builtin "object.__class__") "__get__" = some (some (.builtin "getset_descriptor.__get__"))) (htk : PySem.W.takesIn K (.builtin "object.__class__") = some true) (hm : PySem.W.mroIn K C (.type "object") = some true)
  (ne : PySem.W.findIn K (.ref C) "__ne__" = some (some (.builtin "object.__ne__"))) (bo : PySem.W.findIn K (.ref C) "__bool__" = some none) (le : PySem.W.findIn K (.ref C) "__len__" = some none) : MoreD K C := ⟨⟨own1, if_pos (beq_self_eq_true _), str1, str2, int1, int2, non1, non2, lst1, lst2, tup1, tup2, dic1, dic2⟩, ⟨ha, hn, htk, hm⟩, ne, bo, le⟩
theorem TopD.defX {P : Program} {w : World} {K : PySem.W.Frag} {mg : Str → Option Value} {base : Heap} {x : Str} {st : Stmt} {ps : List Str} {k : Nat} {sp : Sp} (t : TopD K mg x st ps) (ok : ∀ {f : Addr} {fd : FuncData}, Fun K x x st f fd → FnOk P w K mg base (L2.CX P w) k f fd ps sp) : DefX P w K mg base x ps k sp := by
  obtain ⟨f, fd, F, m, kp, b⟩ := t
  exact ⟨f, fd, ok F, m, kp, b⟩
/-- the def that makes the lambdas: its code object, and the table of it -/
def RightD (K : PySem.W.Frag) (mg : Str → Option Value) (h : Heap) : Prop := ∃ (f c Pt : Addr) (oc : Value) (od an : Option Addr) (osl : Array (Option Value)) (kV doc pm ct : Value),
  K.lookup f = some ⟨oc, od, .func (PySem.W.fnOf "_law_right" "_law_right" (defArgs s_law_right) (defBody s_law_right) (defScope s_law_right) .none kV doc pm an (.ref c) ct), osl⟩ ∧ PySem.W.codeIn K (.ref c) "_law_right" = true ∧ mg "_law_right" = some (.ref f) ∧ PySem.W.keepIn K (.ref f) = true ∧
  Binds K (PySem.W.fnOf "_law_right" "_law_right" (defArgs s_law_right) (defBody s_law_right) (defScope s_law_right) .none kV doc pm an (.ref c) ct) ["_law_vase_here"] [] ∧ h.get? Pt = some { cls := .none, data := .fields #[] } ∧ K.lookup Pt = none ∧ PySem.W.CodeHd h c Pt
theorem RightD.mk {K : PySem.W.Frag} {h : Heap} {mg : Str → Option Value} (X : K.In h) (G : h.Ns mainGlobals mg) {f c : Addr} {oc : Value} {od an : Option Addr} {osl : Array (Option Value)} {kV doc pm ct : Value}
    (a : PySem.W.nsIn K mainGlobals "_law_right" = some (some (.ref f))) (l : K.lookup f = some ⟨oc, od, .func (PySem.W.fnOf "_law_right" "_law_right" (defArgs s_law_right) (defBody s_law_right) (defScope s_law_right) .none kV doc pm an (.ref c) ct), osl⟩)
    (co : PySem.W.codeIn K (.ref c) "_law_right" = true) (k : PySem.W.keepIn K (.ref f) = true) (hd : PySem.W.codeHdIn K c (tabOf K c) = true) (nP : (K.lookup (tabOf K c)).isNone = true) (tb : h.get? (tabOf K c) = some { cls := .none, data := .fields #[] }) : RightD K mg h := by
  have F := fun_mk (st := s_law_right) l co k
  exact ⟨f, c, tabOf K c, oc, od, an, osl, kV, doc, pm, ct, l, co, PySem.W.mg_of X G a, k, F.binds fun _ _ _ _ _ _ us hl => match us, hl with | [_], _ => rfl, tb, none_by nP, PySem.W.codeHd_of_K X hd⟩
theorem exm_here {K : PySem.W.Frag} {S T : Addr} {b : Bool} (a1 : PySem.W.subIn K (.ref T) (.type "BaseException") = some true) (a2 : PySem.W.isClsIn K T = true) (a3 : PySem.W.typeIn K (.ref T) = some (.type "type")) (a4 : PySem.W.subIn K (.ref S) (.ref T) = some b) : PySem.W.exmOne K (.ref S) (.ref T) = some b := by
  have b2 : (PySem.W.clsIn K T).isSome = true := a2
  show (if (PySem.W.subIn K (.ref T) (.type "BaseException") == some true) = true then (if ((PySem.W.clsIn K T).isSome && PySem.W.typeIn K (.ref T) == some (.type "type")) = true then PySem.W.subIn K (.ref S) (.ref T) else none) else none) = some b
  rw [a1, if_pos (by rfl), b2, a3, if_pos (by rfl)]
  exact a4
/-- the class NotAHouse -/
def ErrNotAHouse (K : PySem.W.Frag) (mg : Str → Option Value) : Prop := ∃ (CT fI W : Addr) (fd : FuncData), OexC K CT ∧ mg "NotAHouse" = some (.ref CT) ∧ PySem.W.findIn K (.ref CT) "given" = some none ∧ XfC K CT ∧ PySem.W.exmOne K (.ref CT) (.ref CT) = some true ∧ PySem.W.findIn K (.ref CT) "__init__" = some (some (.ref fI)) ∧ PySem.W.typeIn K (.ref fI) = some (.type "function") ∧
  BaseC K W ∧ mg "WrongValue" = some (.ref W) ∧ Fun K "__init__" "NotAHouse.__init__" sNotAHouse__init_ fI fd ∧ Binds K fd ["self", "given"] []
theorem ErrNotAHouse.mk {K : PySem.W.Frag} {h : Heap} {mg : Str → Option Value} (X : K.In h) (G : h.Ns mainGlobals mg) {W CT fI N : Addr} {nm q : Str} {bs : List Value} {sn : List Str} {sub : List Value} {ab : Bool} {col : Option Bool} {dd : Option Addr} {m0 m1 m2 m3 m5 : Option Value} {oc : Value} {od an : Option Addr} {osl : Array (Option Value)} {kV doc pm cdv ct : Value}
    (aw : PySem.W.nsIn K mainGlobals "WrongValue" = some (some (.ref W))) (gw : PySem.W.specialIn K (.ref W) "__getattribute__" = some (some (.builtin "type.__getattribute__"))) (rw_ : PySem.W.readsIn K W (.type "type") = true) (vw : PySem.W.findCls K (.ref W) (.type "type") "__init__" = some (.val (.builtin "ValueError.__init__")))
    (ac : PySem.W.nsIn K mainGlobals "NotAHouse" = some (some (.ref CT))) (xl : K.lookup CT = some (excClassObj nm q CT N bs [.ref W, .type "ValueError", .type "Exception", .type "BaseException", .type "object"] true sn sub ab col dd m0 m1 m2 m3 m5 "ValueError.__new__"))
    (sa : PySem.W.findIn K (.ref CT) "__setattr__" = some (some (.builtin "object.__setattr__"))) (ga : PySem.W.findIn K (.ref CT) "__getattribute__" = some (some (.builtin "BaseException.__getattribute__"))) (gg : PySem.W.findIn K (.ref CT) "__getattr__" = some none) (nb : PySem.W.findIn K (.ref CT) "given" = some none)
    (a1 : PySem.W.findIn K (.ref CT) "__init__" = some (some (.ref fI))) (t1 : PySem.W.typeIn K (.ref fI) = some (.type "function")) (kc : PySem.W.keepIn K (.ref CT) = true) (ec : PySem.W.subIn K (.ref CT) (.type "BaseException") = some true) (tc : PySem.W.typeIn K (.ref CT) = some (.type "type")) (hc : PySem.W.hasDictIn K CT = true) (ic : PySem.W.isClsIn K CT = true) (s_ : PySem.W.subIn K (.ref CT) (.ref CT) = some true)
    (l : K.lookup fI = some ⟨oc, od, .func (PySem.W.fnOf "__init__" "NotAHouse.__init__" (defArgs sNotAHouse__init_) (defBody sNotAHouse__init_) (defScope sNotAHouse__init_) .none kV doc pm an cdv ct), osl⟩) (c : PySem.W.codeIn K cdv "NotAHouse.__init__" = true) (k : PySem.W.keepIn K (.ref fI) = true) : ErrNotAHouse K mg := by
  have F := fun_mk (st := sNotAHouse__init_) l c k
  exact ⟨CT, fI, W, _, ⟨⟨nm, q, N, bs, _, sn, sub, ab, col, dd, m0, m1, m2, m3, m5, xl, by rfl⟩, sa, ec, tc, kc⟩, PySem.W.mg_of X G ac, nb, ⟨ga, gg, ec, hc⟩, exm_here ec ic tc s_, a1, t1, ⟨gw, rw_, vw⟩, PySem.W.mg_of X G aw, F, F.binds fun _ _ _ _ _ _ us hl => match us, hl with | [_, _], _ => rfl⟩
/-- the class InvalidNumber -/
def ErrInvalidNumber (K : PySem.W.Frag) (mg : Str → Option Value) : Prop := ∃ (CT fI W : Addr) (fd : FuncData), OexC K CT ∧ mg "InvalidNumber" = some (.ref CT) ∧ PySem.W.findIn K (.ref CT) "given" = some none ∧ XfC K CT ∧ PySem.W.exmOne K (.ref CT) (.ref CT) = some true ∧ PySem.W.findIn K (.ref CT) "__init__" = some (some (.ref fI)) ∧ PySem.W.typeIn K (.ref fI) = some (.type "function") ∧
  BaseC K W ∧ mg "WrongValue" = some (.ref W) ∧ Fun K "__init__" "InvalidNumber.__init__" sInvalidNumber__init_ fI fd ∧ Binds K fd ["self", "given"] []
theorem ErrInvalidNumber.mk {K : PySem.W.Frag} {h : Heap} {mg : Str → Option Value} (X : K.In h) (G : h.Ns mainGlobals mg) {W CT fI N : Addr} {nm q : Str} {bs : List Value} {sn : List Str} {sub : List Value} {ab : Bool} {col : Option Bool} {dd : Option Addr} {m0 m1 m2 m3 m5 : Option Value} {oc : Value} {od an : Option Addr} {osl : Array (Option Value)} {kV doc pm cdv ct : Value}
    (aw : PySem.W.nsIn K mainGlobals "WrongValue" = some (some (.ref W))) (gw : PySem.W.specialIn K (.ref W) "__getattribute__" = some (some (.builtin "type.__getattribute__"))) (rw_ : PySem.W.readsIn K W (.type "type") = true) (vw : PySem.W.findCls K (.ref W) (.type "type") "__init__" = some (.val (.builtin "ValueError.__init__")))
    (ac : PySem.W.nsIn K mainGlobals "InvalidNumber" = some (some (.ref CT))) (xl : K.lookup CT = some (excClassObj nm q CT N bs [.ref W, .type "ValueError", .type "Exception", .type "BaseException", .type "object"] true sn sub ab col dd m0 m1 m2 m3 m5 "ValueError.__new__"))
    (sa : PySem.W.findIn K (.ref CT) "__setattr__" = some (some (.builtin "object.__setattr__"))) (ga : PySem.W.findIn K (.ref CT) "__getattribute__" = some (some (.builtin "BaseException.__getattribute__"))) (gg : PySem.W.findIn K (.ref CT) "__getattr__" = some none) (nb : PySem.W.findIn K (.ref CT) "given" = some none)
    (a1 : PySem.W.findIn K (.ref CT) "__init__" = some (some (.ref fI))) (t1 : PySem.W.typeIn K (.ref fI) = some (.type "function")) (kc : PySem.W.keepIn K (.ref CT) = true) (ec : PySem.W.subIn K (.ref CT) (.type "BaseException") = some true) (tc : PySem.W.typeIn K (.ref CT) = some (.type "type")) (hc : PySem.W.hasDictIn K CT = true) (ic : PySem.W.isClsIn K CT = true) (s_ : PySem.W.subIn K (.ref CT) (.ref CT) = some true)
    (l : K.lookup fI = some ⟨oc, od, .func (PySem.W.fnOf "__init__" "InvalidNumber.__init__" (defArgs sInvalidNumber__init_) (defBody sInvalidNumber__init_) (defScope sInvalidNumber__init_) .none kV doc pm an cdv ct), osl⟩) (c : PySem.W.codeIn K cdv "InvalidNumber.__init__" = true) (k : PySem.W.keepIn K (.ref fI) = true) : ErrInvalidNumber K mg := by
  have F := fun_mk (st := sInvalidNumber__init_) l c k
  exact ⟨CT, fI, W, _, ⟨⟨nm, q, N, bs, _, sn, sub, ab, col, dd, m0, m1, m2, m3, m5, xl, by rfl⟩, sa, ec, tc, kc⟩, PySem.W.mg_of X G ac, nb, ⟨ga, gg, ec, hc⟩, exm_here ec ic tc s_, a1, t1, ⟨gw, rw_, vw⟩, PySem.W.mg_of X G aw, F, F.binds fun _ _ _ _ _ _ us hl => match us, hl with | [_, _], _ => rfl⟩
/-- the class InvalidPace -/
def ErrInvalidPace (K : PySem.W.Frag) (mg : Str → Option Value) : Prop := ∃ (CT fI W : Addr) (fd : FuncData), OexC K CT ∧ mg "InvalidPace" = some (.ref CT) ∧ PySem.W.findIn K (.ref CT) "given" = some none ∧ XfC K CT ∧ PySem.W.exmOne K (.ref CT) (.ref CT) = some true ∧ PySem.W.findIn K (.ref CT) "__init__" = some (some (.ref fI)) ∧ PySem.W.typeIn K (.ref fI) = some (.type "function") ∧
  BaseC K W ∧ mg "WrongValue" = some (.ref W) ∧ Fun K "__init__" "InvalidPace.__init__" sInvalidPace__init_ fI fd ∧ Binds K fd ["self", "given"] []
theorem ErrInvalidPace.mk {K : PySem.W.Frag} {h : Heap} {mg : Str → Option Value} (X : K.In h) (G : h.Ns mainGlobals mg) {W CT fI N : Addr} {nm q : Str} {bs : List Value} {sn : List Str} {sub : List Value} {ab : Bool} {col : Option Bool} {dd : Option Addr} {m0 m1 m2 m3 m5 : Option Value} {oc : Value} {od an : Option Addr} {osl : Array (Option Value)} {kV doc pm cdv ct : Value}
    (aw : PySem.W.nsIn K mainGlobals "WrongValue" = some (some (.ref W))) (gw : PySem.W.specialIn K (.ref W) "__getattribute__" = some (some (.builtin "type.__getattribute__"))) (rw_ : PySem.W.readsIn K W (.type "type") = true) (vw : PySem.W.findCls K (.ref W) (.type "type") "__init__" = some (.val (.builtin "ValueError.__init__")))
    (ac : PySem.W.nsIn K mainGlobals "InvalidPace" = some (some (.ref CT))) (xl : K.lookup CT = some (excClassObj nm q CT N bs [.ref W, .type "ValueError", .type "Exception", .type "BaseException", .type "object"] true sn sub ab col dd m0 m1 m2 m3 m5 "ValueError.__new__"))
    (sa : PySem.W.findIn K (.ref CT) "__setattr__" = some (some (.builtin "object.__setattr__"))) (ga : PySem.W.findIn K (.ref CT) "__getattribute__" = some (some (.builtin "BaseException.__getattribute__"))) (gg : PySem.W.findIn K (.ref CT) "__getattr__" = some none) (nb : PySem.W.findIn K (.ref CT) "given" = some none)
    (a1 : PySem.W.findIn K (.ref CT) "__init__" = some (some (.ref fI))) (t1 : PySem.W.typeIn K (.ref fI) = some (.type "function")) (kc : PySem.W.keepIn K (.ref CT) = true) (ec : PySem.W.subIn K (.ref CT) (.type "BaseException") = some true) (tc : PySem.W.typeIn K (.ref CT) = some (.type "type")) (hc : PySem.W.hasDictIn K CT = true) (ic : PySem.W.isClsIn K CT = true) (s_ : PySem.W.subIn K (.ref CT) (.ref CT) = some true)
    (l : K.lookup fI = some ⟨oc, od, .func (PySem.W.fnOf "__init__" "InvalidPace.__init__" (defArgs sInvalidPace__init_) (defBody sInvalidPace__init_) (defScope sInvalidPace__init_) .none kV doc pm an cdv ct), osl⟩) (c : PySem.W.codeIn K cdv "InvalidPace.__init__" = true) (k : PySem.W.keepIn K (.ref fI) = true) : ErrInvalidPace K mg := by
  have F := fun_mk (st := sInvalidPace__init_) l c k
  exact ⟨CT, fI, W, _, ⟨⟨nm, q, N, bs, _, sn, sub, ab, col, dd, m0, m1, m2, m3, m5, xl, by rfl⟩, sa, ec, tc, kc⟩, PySem.W.mg_of X G ac, nb, ⟨ga, gg, ec, hc⟩, exm_here ec ic tc s_, a1, t1, ⟨gw, rw_, vw⟩, PySem.W.mg_of X G aw, F, F.binds fun _ _ _ _ _ _ us hl => match us, hl with | [_, _], _ => rfl⟩
/-- the class InvalidBound -/
def ErrInvalidBound (K : PySem.W.Frag) (mg : Str → Option Value) : Prop := ∃ (CT fI W : Addr) (fd : FuncData), OexC K CT ∧ mg "InvalidBound" = some (.ref CT) ∧ PySem.W.findIn K (.ref CT) "given" = some none ∧ XfC K CT ∧ PySem.W.exmOne K (.ref CT) (.ref CT) = some true ∧ PySem.W.findIn K (.ref CT) "__init__" = some (some (.ref fI)) ∧ PySem.W.typeIn K (.ref fI) = some (.type "function") ∧
  BaseC K W ∧ mg "WrongValue" = some (.ref W) ∧ Fun K "__init__" "InvalidBound.__init__" sInvalidBound__init_ fI fd ∧ Binds K fd ["self", "given"] []
theorem ErrInvalidBound.mk {K : PySem.W.Frag} {h : Heap} {mg : Str → Option Value} (X : K.In h) (G : h.Ns mainGlobals mg) {W CT fI N : Addr} {nm q : Str} {bs : List Value} {sn : List Str} {sub : List Value} {ab : Bool} {col : Option Bool} {dd : Option Addr} {m0 m1 m2 m3 m5 : Option Value} {oc : Value} {od an : Option Addr} {osl : Array (Option Value)} {kV doc pm cdv ct : Value}
    (aw : PySem.W.nsIn K mainGlobals "WrongValue" = some (some (.ref W))) (gw : PySem.W.specialIn K (.ref W) "__getattribute__" = some (some (.builtin "type.__getattribute__"))) (rw_ : PySem.W.readsIn K W (.type "type") = true) (vw : PySem.W.findCls K (.ref W) (.type "type") "__init__" = some (.val (.builtin "ValueError.__init__")))
    (ac : PySem.W.nsIn K mainGlobals "InvalidBound" = some (some (.ref CT))) (xl : K.lookup CT = some (excClassObj nm q CT N bs [.ref W, .type "ValueError", .type "Exception", .type "BaseException", .type "object"] true sn sub ab col dd m0 m1 m2 m3 m5 "ValueError.__new__"))
    (sa : PySem.W.findIn K (.ref CT) "__setattr__" = some (some (.builtin "object.__setattr__"))) (ga : PySem.W.findIn K (.ref CT) "__getattribute__" = some (some (.builtin "BaseException.__getattribute__"))) (gg : PySem.W.findIn K (.ref CT) "__getattr__" = some none) (nb : PySem.W.findIn K (.ref CT) "given" = some none)
    (a1 : PySem.W.findIn K (.ref CT) "__init__" = some (some (.ref fI))) (t1 : PySem.W.typeIn K (.ref fI) = some (.type "function")) (kc : PySem.W.keepIn K (.ref CT) = true) (ec : PySem.W.subIn K (.ref CT) (.type "BaseException") = some true) (tc : PySem.W.typeIn K (.ref CT) = some (.type "type")) (hc : PySem.W.hasDictIn K CT = true) (ic : PySem.W.isClsIn K CT = true) (s_ : PySem.W.subIn K (.ref CT) (.ref CT) = some true)
    (l : K.lookup fI = some ⟨oc, od, .func (PySem.W.fnOf "__init__" "InvalidBound.__init__" (defArgs sInvalidBound__init_) (defBody sInvalidBound__init_) (defScope sInvalidBound__init_) .none kV doc pm an cdv ct), osl⟩) (c : PySem.W.codeIn K cdv "InvalidBound.__init__" = true) (k : PySem.W.keepIn K (.ref fI) = true) : ErrInvalidBound K mg := by
  have F := fun_mk (st := sInvalidBound__init_) l c k
  exact ⟨CT, fI, W, _, ⟨⟨nm, q, N, bs, _, sn, sub, ab, col, dd, m0, m1, m2, m3, m5, xl, by rfl⟩, sa, ec, tc, kc⟩, PySem.W.mg_of X G ac, nb, ⟨ga, gg, ec, hc⟩, exm_here ec ic tc s_, a1, t1, ⟨gw, rw_, vw⟩, PySem.W.mg_of X G aw, F, F.binds fun _ _ _ _ _ _ us hl => match us, hl with | [_, _], _ => rfl⟩
theorem exmAny3 {K : PySem.W.Frag} {x a b c : Value} {p q r : Bool} (h1 : PySem.W.exmOne K x a = some p) (h2 : PySem.W.exmOne K x b = some q) (h3 : PySem.W.exmOne K x c = some r) : PySem.W.exmAny K x [a, b, c] = some (p || (q || (r || false))) := by
  simp only [PySem.W.exmAny, h1, h2, h3]
/-- the classes that are asked about -/
def KinD (K : PySem.W.Frag) (mg : Str → Option Value) : Prop := ∃ c0 c1 c2 c3 c4 c5 c6 c7 w1 w2 w3 : Addr, Kin mg c0 c1 c2 c3 c4 c5 c6 c7 w1 w2 w3 ∧ FaultC K c0 c1 c2 c3 c4 c5 c6 c7 w1 w2 w3 c0 0 ∧ FaultC K c0 c1 c2 c3 c4 c5 c6 c7 w1 w2 w3 c2 2 ∧ FaultC K c0 c1 c2 c3 c4 c5 c6 c7 w1 w2 w3 c3 3 ∧ FaultC K c0 c1 c2 c3 c4 c5 c6 c7 w1 w2 w3 c4 4
theorem KinD.mk {K : PySem.W.Frag} {h : Heap} {mg : Str → Option Value} (X : K.In h) (G : h.Ns mainGlobals mg) {c0 c1 c2 c3 c4 c5 c6 c7 w1 w2 w3 : Addr}
    (a0 : PySem.W.nsIn K mainGlobals "NotAHouse" = some (some (.ref c0)))
    (a1 : PySem.W.nsIn K mainGlobals "NotAMove" = some (some (.ref c1)))
    (a2 : PySem.W.nsIn K mainGlobals "InvalidNumber" = some (some (.ref c2)))
    (a3 : PySem.W.nsIn K mainGlobals "InvalidPace" = some (some (.ref c3)))
    (a4 : PySem.W.nsIn K mainGlobals "InvalidBound" = some (some (.ref c4)))
    (a5 : PySem.W.nsIn K mainGlobals "InvalidClips" = some (some (.ref c5)))
    (a6 : PySem.W.nsIn K mainGlobals "Lost" = some (some (.ref c6)))
    (a7 : PySem.W.nsIn K mainGlobals "TooLong" = some (some (.ref c7)))
    (aw1 : PySem.W.nsIn K mainGlobals "WrongValue" = some (some (.ref w1)))
    (aw2 : PySem.W.nsIn K mainGlobals "WrongState" = some (some (.ref w2)))
    (aw3 : PySem.W.nsIn K mainGlobals "NoAnswer" = some (some (.ref w3)))
    (ap1 : PySem.W.nsIn K mainGlobals "ValueError" = some none)
    (ap2 : PySem.W.nsIn K mainGlobals "LookupError" = some none)
    (ap3 : PySem.W.nsIn K mainGlobals "ArithmeticError" = some none)
    (hn : PySem.W.specialIn K (.builtin "object.__class__") "__get__" = some (some (.builtin "getset_descriptor.__get__")))
    (ht : PySem.W.takesIn K (.builtin "object.__class__") = some true)
    (e1 : PySem.W.subIn K (.ref w1) (.type "BaseException") = some true)
    (i1 : PySem.W.isClsIn K w1 = true)
    (t1 : PySem.W.typeIn K (.ref w1) = some (.type "type"))
    (e2 : PySem.W.subIn K (.ref w2) (.type "BaseException") = some true)
    (i2 : PySem.W.isClsIn K w2 = true)
    (t2 : PySem.W.typeIn K (.ref w2) = some (.type "type"))
    (e3 : PySem.W.subIn K (.ref w3) (.type "BaseException") = some true)
    (i3 : PySem.W.isClsIn K w3 = true)
    (t3 : PySem.W.typeIn K (.ref w3) = some (.type "type"))
    (d0hg : PySem.W.findIn K (.ref c0) "__getattribute__" = some (some (.builtin "BaseException.__getattribute__")))
    (d0hk : PySem.W.findIn K (.ref c0) "__getattr__" = some none)
    (d0hs : PySem.W.subIn K (.ref c0) (.type "BaseException") = some true)
    (d0hd : PySem.W.hasDictIn K c0 = true)
    (d0ha : PySem.W.findIn K (.ref c0) "__class__" = some (some (.builtin "object.__class__")))
    (d0hm : PySem.W.mroIn K c0 (.type "object") = some true)
    (d0no : PySem.W.findIn K (.ref c0) "given" = some none)
    (d0k0 : PySem.W.kitOne K (.ref c0) (.ref c0) = some true)
    (d0k1 : PySem.W.kitOne K (.ref c0) (.ref c1) = some false)
    (d0k2 : PySem.W.kitOne K (.ref c0) (.ref c2) = some false)
    (d0k3 : PySem.W.kitOne K (.ref c0) (.ref c3) = some false)
    (d0k4 : PySem.W.kitOne K (.ref c0) (.ref c4) = some false)
    (d0k5 : PySem.W.kitOne K (.ref c0) (.ref c5) = some false)
    (d0k6 : PySem.W.kitOne K (.ref c0) (.ref c6) = some false)
    (d0k7 : PySem.W.kitOne K (.ref c0) (.ref c7) = some false)
    (d0u1 : PySem.W.kitOne K (.ref c0) (.ref w1) = some true)
    (d0u2 : PySem.W.kitOne K (.ref c0) (.ref w2) = some false)
    (d0u3 : PySem.W.kitOne K (.ref c0) (.ref w3) = some false)
    (d0b1 : PySem.W.kitOne K (.ref c0) (.type "ValueError") = some true)
    (d0b2 : PySem.W.kitOne K (.ref c0) (.type "LookupError") = some false)
    (d0b3 : PySem.W.kitOne K (.ref c0) (.type "ArithmeticError") = some false)
    (d0s1 : PySem.W.subIn K (.ref c0) (.ref w1) = some true)
    (d0s2 : PySem.W.subIn K (.ref c0) (.ref w2) = some false)
    (d0s3 : PySem.W.subIn K (.ref c0) (.ref w3) = some false)
    (d2hg : PySem.W.findIn K (.ref c2) "__getattribute__" = some (some (.builtin "BaseException.__getattribute__")))
    (d2hk : PySem.W.findIn K (.ref c2) "__getattr__" = some none)
    (d2hs : PySem.W.subIn K (.ref c2) (.type "BaseException") = some true)
    (d2hd : PySem.W.hasDictIn K c2 = true)
    (d2ha : PySem.W.findIn K (.ref c2) "__class__" = some (some (.builtin "object.__class__")))
    (d2hm : PySem.W.mroIn K c2 (.type "object") = some true)
    (d2no : PySem.W.findIn K (.ref c2) "given" = some none)
    (d2k0 : PySem.W.kitOne K (.ref c2) (.ref c0) = some false)
    (d2k1 : PySem.W.kitOne K (.ref c2) (.ref c1) = some false)
    (d2k2 : PySem.W.kitOne K (.ref c2) (.ref c2) = some true)
    (d2k3 : PySem.W.kitOne K (.ref c2) (.ref c3) = some false)
    (d2k4 : PySem.W.kitOne K (.ref c2) (.ref c4) = some false)
    (d2k5 : PySem.W.kitOne K (.ref c2) (.ref c5) = some false)
    (d2k6 : PySem.W.kitOne K (.ref c2) (.ref c6) = some false)
    (d2k7 : PySem.W.kitOne K (.ref c2) (.ref c7) = some false)
    (d2u1 : PySem.W.kitOne K (.ref c2) (.ref w1) = some true)
    (d2u2 : PySem.W.kitOne K (.ref c2) (.ref w2) = some false)
    (d2u3 : PySem.W.kitOne K (.ref c2) (.ref w3) = some false)
    (d2b1 : PySem.W.kitOne K (.ref c2) (.type "ValueError") = some true)
    (d2b2 : PySem.W.kitOne K (.ref c2) (.type "LookupError") = some false)
    (d2b3 : PySem.W.kitOne K (.ref c2) (.type "ArithmeticError") = some false)
    (d2s1 : PySem.W.subIn K (.ref c2) (.ref w1) = some true)
    (d2s2 : PySem.W.subIn K (.ref c2) (.ref w2) = some false)
    (d2s3 : PySem.W.subIn K (.ref c2) (.ref w3) = some false)
    (d3hg : PySem.W.findIn K (.ref c3) "__getattribute__" = some (some (.builtin "BaseException.__getattribute__")))
    (d3hk : PySem.W.findIn K (.ref c3) "__getattr__" = some none)
    (d3hs : PySem.W.subIn K (.ref c3) (.type "BaseException") = some true)
    (d3hd : PySem.W.hasDictIn K c3 = true)
    (d3ha : PySem.W.findIn K (.ref c3) "__class__" = some (some (.builtin "object.__class__")))
    (d3hm : PySem.W.mroIn K c3 (.type "object") = some true)
    (d3no : PySem.W.findIn K (.ref c3) "given" = some none)
    (d3k0 : PySem.W.kitOne K (.ref c3) (.ref c0) = some false)
    (d3k1 : PySem.W.kitOne K (.ref c3) (.ref c1) = some false)
    (d3k2 : PySem.W.kitOne K (.ref c3) (.ref c2) = some false)
    (d3k3 : PySem.W.kitOne K (.ref c3) (.ref c3) = some true)
    (d3k4 : PySem.W.kitOne K (.ref c3) (.ref c4) = some false)
    (d3k5 : PySem.W.kitOne K (.ref c3) (.ref c5) = some false)
    (d3k6 : PySem.W.kitOne K (.ref c3) (.ref c6) = some false)
    (d3k7 : PySem.W.kitOne K (.ref c3) (.ref c7) = some false)
    (d3u1 : PySem.W.kitOne K (.ref c3) (.ref w1) = some true)
    (d3u2 : PySem.W.kitOne K (.ref c3) (.ref w2) = some false)
    (d3u3 : PySem.W.kitOne K (.ref c3) (.ref w3) = some false)
    (d3b1 : PySem.W.kitOne K (.ref c3) (.type "ValueError") = some true)
    (d3b2 : PySem.W.kitOne K (.ref c3) (.type "LookupError") = some false)
    (d3b3 : PySem.W.kitOne K (.ref c3) (.type "ArithmeticError") = some false)
    (d3s1 : PySem.W.subIn K (.ref c3) (.ref w1) = some true)
    (d3s2 : PySem.W.subIn K (.ref c3) (.ref w2) = some false)
    (d3s3 : PySem.W.subIn K (.ref c3) (.ref w3) = some false)
    (d4hg : PySem.W.findIn K (.ref c4) "__getattribute__" = some (some (.builtin "BaseException.__getattribute__")))
    (d4hk : PySem.W.findIn K (.ref c4) "__getattr__" = some none)
    (d4hs : PySem.W.subIn K (.ref c4) (.type "BaseException") = some true)
    (d4hd : PySem.W.hasDictIn K c4 = true)
    (d4ha : PySem.W.findIn K (.ref c4) "__class__" = some (some (.builtin "object.__class__")))
    (d4hm : PySem.W.mroIn K c4 (.type "object") = some true)
    (d4no : PySem.W.findIn K (.ref c4) "given" = some none)
    (d4k0 : PySem.W.kitOne K (.ref c4) (.ref c0) = some false)
    (d4k1 : PySem.W.kitOne K (.ref c4) (.ref c1) = some false)
    (d4k2 : PySem.W.kitOne K (.ref c4) (.ref c2) = some false)
    (d4k3 : PySem.W.kitOne K (.ref c4) (.ref c3) = some false)
    (d4k4 : PySem.W.kitOne K (.ref c4) (.ref c4) = some true)
    (d4k5 : PySem.W.kitOne K (.ref c4) (.ref c5) = some false)
    (d4k6 : PySem.W.kitOne K (.ref c4) (.ref c6) = some false)
    (d4k7 : PySem.W.kitOne K (.ref c4) (.ref c7) = some false)
    (d4u1 : PySem.W.kitOne K (.ref c4) (.ref w1) = some true)
    (d4u2 : PySem.W.kitOne K (.ref c4) (.ref w2) = some false)
    (d4u3 : PySem.W.kitOne K (.ref c4) (.ref w3) = some false)
    (d4b1 : PySem.W.kitOne K (.ref c4) (.type "ValueError") = some true)
    (d4b2 : PySem.W.kitOne K (.ref c4) (.type "LookupError") = some false)
    (d4b3 : PySem.W.kitOne K (.ref c4) (.type "ArithmeticError") = some false)
    (d4s1 : PySem.W.subIn K (.ref c4) (.ref w1) = some true)
    (d4s2 : PySem.W.subIn K (.ref c4) (.ref w2) = some false)
    (d4s3 : PySem.W.subIn K (.ref c4) (.ref w3) = some false) : KinD K mg :=
  ⟨c0, c1, c2, c3, c4, c5, c6, c7, w1, w2, w3, ⟨PySem.W.mg_of X G a0, PySem.W.mg_of X G a1, PySem.W.mg_of X G a2, PySem.W.mg_of X G a3, PySem.W.mg_of X G a4, PySem.W.mg_of X G a5, PySem.W.mg_of X G a6, PySem.W.mg_of X G a7, PySem.W.mg_of X G aw1, PySem.W.mg_of X G aw2, PySem.W.mg_of X G aw3, PySem.W.mg_none_of X G ap1, PySem.W.mg_none_of X G ap2, PySem.W.mg_none_of X G ap3⟩, ⟨⟨d0hg, d0hk, d0hs, d0hd, d0ha, hn, ht, d0hm⟩, ⟨d0hg, d0hk, d0hs, d0hd⟩, d0no, d0k0, d0k1, d0k2, d0k3, d0k4, d0k5, d0k6, d0k7, d0u1, d0u2, d0u3, d0b1, d0b2, d0b3, exmAny3 (exm_here e1 i1 t1 d0s1) (exm_here e2 i2 t2 d0s2) (exm_here e3 i3 t3 d0s3)⟩, ⟨⟨d2hg, d2hk, d2hs, d2hd, d2ha, hn, ht, d2hm⟩, ⟨d2hg, d2hk, d2hs, d2hd⟩, d2no, d2k0, d2k1, d2k2, d2k3, d2k4, d2k5, d2k6, d2k7, d2u1, d2u2, d2u3, d2b1, d2b2, d2b3, exmAny3 (exm_here e1 i1 t1 d2s1) (exm_here e2 i2 t2 d2s2) (exm_here e3 i3 t3 d2s3)⟩, ⟨⟨d3hg, d3hk, d3hs, d3hd, d3ha, hn, ht, d3hm⟩, ⟨d3hg, d3hk, d3hs, d3hd⟩, d3no, d3k0, d3k1, d3k2, d3k3, d3k4, d3k5, d3k6, d3k7, d3u1, d3u2, d3u3, d3b1, d3b2, d3b3, exmAny3 (exm_here e1 i1 t1 d3s1) (exm_here e2 i2 t2 d3s2) (exm_here e3 i3 t3 d3s3)⟩, ⟨⟨d4hg, d4hk, d4hs, d4hd, d4ha, hn, ht, d4hm⟩, ⟨d4hg, d4hk, d4hs, d4hd⟩, d4no, d4k0, d4k1, d4k2, d4k3, d4k4, d4k5, d4k6, d4k7, d4u1, d4u2, d4u3, d4b1, d4b2, d4b3, exmAny3 (exm_here e1 i1 t1 d4s1) (exm_here e2 i2 t2 d4s2) (exm_here e3 i3 t3 d4s3)⟩⟩

/-- the class -/
def HouseD (K : PySem.W.Frag) (mg : Str → Option Value) : Prop := ∃ C : Addr, HouseTxt K mg C ∧ InitD K C ∧ PropBs K C ∧ PropRo K C ∧ MethD K C "_place_borne" "House._place_borne" sHouse_place_borne ["self", "frame"] ∧ MethD K C "place" "House.place" sHouse_place ["self", "frame"] ∧ MethD K C "_first_frame" "House._first_frame" sHouse_first_frame ["self", "group"] ∧ MethD K C "frames_at" "House.frames_at" sHouse_frames_at ["self", "places", "way"] ∧ MethD K C "__str__" "House.__str__" sHouse__str_ ["self"] ∧ MethD K C "__repr__" "House.__repr__" sHouse__repr_ ["self"] ∧ MoreD K C ∧ (∃ t, mg "GREATEST_IN_PACE" = some (.int 1000000 t)) ∧ mg "gcd" = some (.builtin "math.gcd") ∧ ErrNotAHouse K mg ∧ ErrInvalidNumber K mg ∧ ErrInvalidPace K mg ∧ ErrInvalidBound K mg ∧ KinD K mg ∧ HouseNot K C

theorem all_mk {P : Program} {w : World} {K : PySem.W.Frag} {h : Heap} {mg : Str → Option Value} {fa : Addr} (X : K.In h) (G : h.Ns mainGlobals mg) (hfa : mg "law" = some (.ref fa)) (N : Names mg) (M : Consts mg) (hD : HouseD K mg)
    (t__law_vase : TopD K mg "_law_vase" s_law_vase ["_law_cells", "_law_turn"]) (t__law_pour : TopD K mg "_law_pour" s_law_pour ["_law_vase_here", "_law_top"]) (t__law_pluck : TopD K mg "_law_pluck" s_law_pluck ["_law_vase_here", "_law_menu"]) (t_is_integer : TopD K mg "is_integer" sis_integer ["value"]) (t_is_integer_within : TopD K mg "is_integer_within" sis_integer_within ["value", "low", "high"]) (t_is_number : TopD K mg "is_number" sis_number ["value"]) (t_check_number : TopD K mg "check_number" scheck_number ["given"]) (t_check_bases : TopD K mg "check_bases" scheck_bases ["bases"]) (t_is_row : TopD K mg "is_row" sis_row ["bases", "value"]) (t_check_rows : TopD K mg "check_rows" scheck_rows ["bases", "rows"]) (t_spaced : TopD K mg "spaced" sspaced ["parts"]) (t_house_text : TopD K mg "house_text" shouse_text ["bases", "rows"]) (t_groups_in_unit : TopD K mg "groups_in_unit" sgroups_in_unit ["bases", "field"]) (t_groups_to_repeat : TopD K mg "groups_to_repeat" sgroups_to_repeat ["bases", "rows"]) (t_fitted_groups : TopD K mg "fitted_groups" sfitted_groups ["bases", "row", "groups"]) (t_skipped_counts : TopD K mg "skipped_counts" sskipped_counts ["bases", "rows", "groups"]) (t_least_repeat : TopD K mg "least_repeat" sleast_repeat ["counts"]) (t_sums_ahead : TopD K mg "sums_ahead" ssums_ahead ["numbers"]) (t_last_not_above : TopD K mg "last_not_above" slast_not_above ["ascending", "number"]) (t_check_house : TopD K mg "check_house" scheck_house ["given"]) (t_check_pace : TopD K mg "check_pace" scheck_pace ["given"]) (t_check_bound : TopD K mg "check_bound" scheck_bound ["given"]) (t_rounds_until_above : TopD K mg "rounds_until_above" srounds_until_above ["number", "growth", "bound"]) (t_gap_at : TopD K mg "gap_at" sgap_at ["house", "pace", "frame"]) (t_gap_of_round : TopD K mg "gap_of_round" sgap_of_round ["house", "pace"]) (t_drift_of_gap : TopD K mg "drift_of_gap" sdrift_of_gap ["house", "pace", "gap"]) (t_ends_of_groups : TopD K mg "ends_of_groups" sends_of_groups ["house"]) (t_drift : TopD K mg "drift" sdrift ["house", "pace", "frame"]) (t_swing : TopD K mg "swing" sswing ["house", "pace"]) (t_first_above : TopD K mg "first_above" sfirst_above ["house", "pace", "sign", "bound"]) (t_first_beyond : TopD K mg "first_beyond" sfirst_beyond ["house", "pace", "bound"]) (t__law_same : TopD K mg "_law_same" s_law_same ["_law_told", "_law_due"]) (t__law_known_right : TopD K mg "_law_known_right" s_law_known_right ["_law_turns"]) (t__law_tried : TopD K mg "_law_tried" s_law_tried ["_law_act"]) (t__law_fault : TopD K mg "_law_fault" s_law_fault ["_law_e"]) (t_tab : RightD K mg h)
    {f : Addr} {oc : Value} {od an : Option Addr} {osl : Array (Option Value)} {kV doc pm cdv ct : Value} (a : PySem.W.nsIn K mainGlobals "law" = some (some (.ref f))) (l : K.lookup f = some ⟨oc, od, .func (PySem.W.fnOf "law" "law" (defArgs slaw) (defBody slaw) (defScope slaw) .none kV doc pm an cdv ct), osl⟩) (c : PySem.W.codeIn K cdv "law" = true) (k : PySem.W.keepIn K (.ref f) = true) :
    ∃ (fd : FuncData) (c Pt : Addr), (h.get? Pt = some { cls := .none, data := .fields #[] } ∧ K.lookup Pt = none ∧ PySem.W.CodeHd h c Pt) ∧ (∀ (s : Shared) (v : Value), BindsTo s fd ⟨[v], []⟩ [("_law_cells", v)]) ∧ ∀ base : Heap, K.In base → base.Ns mainGlobals mg → LamX.TabB base mg c Pt → FnG P w K mg base 16 fa fd ["_law_cells"] (spLaw K Pt) := by
  have e := hfa.symm.trans (PySem.W.mg_of X G a)
  cases e
  have FL := fun_mk (st := slaw) l c k
  obtain ⟨fR, cR, Pt, oR, oD, aR, oS, kvR, dR, pR, ctR, inR, hcR, mR, kR, bR, hP, nP, Cd⟩ := t_tab
  refine ⟨_, cR, Pt, ⟨hP, nP, Cd⟩, fun s v => .of_eq rfl, fun base _ _ TB => ok_law FL N ?_ ?_⟩
  · exact t__law_vase.defK fun F => ok_vase F N
  have D_law_vase : DefK P w K mg base "_law_vase" ["_law_cells", "_law_turn"] 1 (spVase K) := t__law_vase.defK fun F => ok_vase F N
  have D_law_pour : DefK P w K mg base "_law_pour" ["_law_vase_here", "_law_top"] 1 (spPour) := t__law_pour.defK fun F => ok_pour F N
  have D_law_pluck : DefK P w K mg base "_law_pluck" ["_law_vase_here", "_law_menu"] 2 (spPluck K) := t__law_pluck.defK fun F => ok_pluck F N D_law_pour
  have Dis_integer : DefK P w K mg base "is_integer" ["value"] 1 (spIsInt) := t_is_integer.defK fun F => ok_isint F N
  have Dis_integer_within : DefK P w K mg base "is_integer_within" ["value", "low", "high"] 2 (spWithin) := t_is_integer_within.defK fun F => ok_within F Dis_integer
  have Dis_number : DefK P w K mg base "is_number" ["value"] 2 (spIsNum) := t_is_number.defK fun F => ok_isnum F Dis_integer
  have Dcheck_number : DefK P w K mg base "check_number" ["given"] 3 (spChkNum) := t_check_number.defK fun F => ok_chknum F Dis_number
  have Dcheck_bases : DefK P w K mg base "check_bases" ["bases"] 3 (spChkBases K) := t_check_bases.defK fun F => ok_chkbases F N M Dis_integer_within
  have Dis_row : DefK P w K mg base "is_row" ["bases", "value"] 3 (spIsRow K) := t_is_row.defK fun F => ok_isrow F N M Dis_integer_within
  have Dcheck_rows : DefK P w K mg base "check_rows" ["bases", "rows"] 4 (spChkRows K) := t_check_rows.defK fun F => ok_chkrows F N M Dis_row
  have Dspaced : DefK P w K mg base "spaced" ["parts"] 1 (spSpaced K) := t_spaced.defK fun F => ok_spaced F N
  have Dhouse_text : DefK P w K mg base "house_text" ["bases", "rows"] 2 (spHouseText K) := t_house_text.defK fun F => ok_housetext F Dspaced
  have Dgroups_in_unit : DefK P w K mg base "groups_in_unit" ["bases", "field"] 1 (spUnit K) := t_groups_in_unit.defK fun F => ok_unit F
  have Dgroups_to_repeat : DefK P w K mg base "groups_to_repeat" ["bases", "rows"] 2 (spRepeat K) := t_groups_to_repeat.defK fun F => ok_repeat F N Dgroups_in_unit
  have Dfitted_groups : DefK P w K mg base "fitted_groups" ["bases", "row", "groups"] 2 (spFitted K) := t_fitted_groups.defK fun F => ok_fitted F N Dgroups_in_unit
  have Dskipped_counts : DefK P w K mg base "skipped_counts" ["bases", "rows", "groups"] 3 (spSkipped K) := t_skipped_counts.defK fun F => ok_skipped F Dfitted_groups
  have Dleast_repeat : DefK P w K mg base "least_repeat" ["counts"] 1 (spLeast K) := t_least_repeat.defK fun F => ok_least F N
  have Dsums_ahead : DefK P w K mg base "sums_ahead" ["numbers"] 1 (spSums K) := t_sums_ahead.defK fun F => ok_sums F
  have Dlast_not_above : DefK P w K mg base "last_not_above" ["ascending", "number"] 1 (spLna K) := t_last_not_above.defK fun F => ok_lna F N
  obtain ⟨C, T, ⟨fI, fdI, dv, MK, FI, bI⟩, ⟨pBs, fBs, fdBs, qBs, bBs, gBs⟩, ⟨pRo, fRo, fdRo, qRo, bRo, gRo⟩, ⟨fB, fdB, mB, FB, bB⟩, ⟨fPl, fdPl, mPl, FPl, bPl⟩, ⟨fF_, fdF_, mF_, FF_, bF_⟩, ⟨fFa, fdFa, mFa, FFa, bFa⟩, ⟨fSt, fdSt, mSt, FSt, bSt⟩, ⟨fRp, fdRp, mRp, FRp, bRp⟩, XD, hGP, hgcd, ⟨Ch, fIh, Wh, fdh, oxh, gCh, noh, xfh, teh, iCh, tIh, bch, gWh, FIh, bIh⟩, ⟨Cn, fIn, Wn, fdn, oxn, gCn, non, xfn, ten, iCn, tIn, bcn, gWn, FIn, bIn⟩, ⟨Cp, fIp, Wp, fdp, oxp, gCp, nop, xfp, tep, iCp, tIp, bcp, gWp, FIp, bIp⟩, ⟨Cb, fIb, Wb, fdb, oxb, gCb, nob, xfb, teb, iCb, tIb, bcb, gWb, FIb, bIb⟩, hKin, hNot⟩ := hD
  have XO := XD.ot
  have XW := XD.ow
  have GI := ok_init (P := P) (w := w) (base := base) FI T N M Dcheck_bases Dcheck_rows Dgroups_to_repeat Dskipped_counts Dhouse_text Dleast_repeat Dsums_ahead
  have GBs := gBs T.cl T.nB P w mg base
  have GRo := gRo T.cl T.nD P w mg base
  have GB := ok_placeborne (P := P) (w := w) (base := base) FB T N Dlast_not_above
  have GPl := ok_placeM (P := P) (w := w) (base := base) FPl T Dcheck_number mB GB bB
  have GF_ := ok_first (P := P) (w := w) (base := base) FF_ T N
  have GFa := ok_framesat (P := P) (w := w) (base := base) FFa T N mF_ GF_ bF_
  have GSt := ok_str (P := P) (w := w) (base := base) FSt T N
  have GRp := ok_repr (P := P) (w := w) (base := base) FRp T N Dspaced
  have Eh : ErrC P w K mg base "NotAHouse" Ch "given" := ⟨oxh, gCh, noh, xfh, teh, fIh, fdh, _, iCh, tIh, ok_ehouse FIh bch gWh oxh noh, bIh⟩
  have En : ErrC P w K mg base "InvalidNumber" Cn "given" := ⟨oxn, gCn, non, xfn, ten, fIn, fdn, _, iCn, tIn, ok_enumber FIn bcn gWn oxn non, bIn⟩
  have Ep : ErrC P w K mg base "InvalidPace" Cp "given" := ⟨oxp, gCp, nop, xfp, tep, fIp, fdp, _, iCp, tIp, ok_epace FIp bcp gWp oxp nop, bIp⟩
  have Eb : ErrC P w K mg base "InvalidBound" Cb "given" := ⟨oxb, gCb, nob, xfb, teb, fIb, fdb, _, iCb, tIb, ok_ebound FIb bcb gWb oxb nob, bIb⟩
  obtain ⟨c0, c1, c2, c3, c4, c5, c6, c7, w1, w2, w3, MK_, F0_, F2_, F3_, F4_⟩ := hKin
  obtain rfl : c0 = Ch := by have := MK_.NotAHouse.symm.trans gCh; cases this; rfl
  obtain rfl : c2 = Cn := by have := MK_.InvalidNumber.symm.trans gCn; cases this; rfl
  obtain rfl : c3 = Cp := by have := MK_.InvalidPace.symm.trans gCp; cases this; rfl
  obtain rfl : c4 = Cb := by have := MK_.InvalidBound.symm.trans gCb; cases this; rfl
  have Dcheck_house : DefK P w K mg base "check_house" ["given"] 1 (spChkHouse C) := t_check_house.defK fun F => ok_chkhouse F T N XO XW
  have Dcheck_pace : DefK P w K mg base "check_pace" ["given"] 3 (spChkPace K) := t_check_pace.defK fun F => ok_chkpace F N hGP Dis_integer_within
  have Dcheck_bound : DefK P w K mg base "check_bound" ["given"] 3 (spChkBound K) := t_check_bound.defK fun F => ok_chkbound F N hgcd Dis_integer Dis_number
  have Drounds_until_above : DefK P w K mg base "rounds_until_above" ["number", "growth", "bound"] 1 (spRounds) := t_rounds_until_above.defK fun F => ok_rounds F
  have Dgap_at : DefK P w K mg base "gap_at" ["house", "pace", "frame"] 5 (spGapAt K C) := t_gap_at.defK fun F => ok_gapat F T mPl GPl bPl qBs GBs bBs
  have Dgap_of_round : DefK P w K mg base "gap_of_round" ["house", "pace"] 3 (spGapRound K C) := t_gap_of_round.defK fun F => ok_gapround F T qBs GBs bBs qRo GRo bRo
  have Ddrift_of_gap : DefK P w K mg base "drift_of_gap" ["house", "pace", "gap"] 3 (spDriftOf K C) := t_drift_of_gap.defK fun F => ok_driftof F T hgcd qBs GBs bBs
  have Dends_of_groups : DefK P w K mg base "ends_of_groups" ["house"] 3 (spEnds K C) := t_ends_of_groups.defK fun F => ok_ends F T N qBs GBs bBs qRo GRo bRo mFa GFa bFa
  have Ddrift : DefK P w K mg base "drift" ["house", "pace", "frame"] 6 (spDrift K C) := t_drift.defK fun F => ok_drift F T Dcheck_house Dcheck_pace Dcheck_number Dgap_at Ddrift_of_gap
  have Dswing : DefK P w K mg base "swing" ["house", "pace"] 6 (spSwing K C) := t_swing.defK fun F => ok_swing F T N Dcheck_house Dcheck_pace Dgap_of_round Dends_of_groups Dgap_at Ddrift_of_gap
  have Dfirst_above : DefK P w K mg base "first_above" ["house", "pace", "sign", "bound"] 6 (spAbove K C) := t_first_above.defK fun F => ok_above F T N qRo GRo bRo Dgap_of_round Dends_of_groups Dgap_at Drounds_until_above
  have Dfirst_beyond : DefK P w K mg base "first_beyond" ["house", "pace", "bound"] 7 (spBeyond K C) := t_first_beyond.defK fun F => ok_beyond F T N qBs GBs bBs Dcheck_house Dcheck_pace Dcheck_bound Dfirst_above
  have D_law_same : DefG P w K mg base "_law_same" ["_law_told", "_law_due"] 13 (spSameT (owHouse K C)) := t__law_same.defG fun F => ok_sameT F N (fun X e1 e2 e3 e4 e5 pins σ H => own_house mRp.at_ mRp.fn GRp bRp X e1 e2 e3 e4 e5 pins σ H)
  have D_law_known_right : DefG P w K mg base "_law_known_right" ["_law_turns"] 15 (spKnown) := t__law_known_right.defG fun F => ok_known F T N MK GI bI qRo GRo bRo Ddrift Dswing Dfirst_beyond D_law_same
  exact (by
    have Gis_integer : DefK P w K mg base "is_integer" ["value"] 1 (spIsIntG K) := t_is_integer.defK fun F => ok_isintG F N
    have Gis_within : DefK P w K mg base "is_integer_within" ["value", "low", "high"] 2 (spWithinG K) := t_is_integer_within.defK fun F => ok_withinG F Gis_integer
    have Gis_number : DefK P w K mg base "is_number" ["value"] 2 (spIsNumG K) := t_is_number.defK fun F => ok_isnumG F Gis_integer
    have Xn : DefX P w K mg base "check_number" ["given"] 3 (spChkNumX K c2) := t_check_number.defX fun F => ok_chknumX F En Gis_number
    have Xh : DefX P w K mg base "check_house" ["given"] 3 (spChkHouseG K C c0) := t_check_house.defX fun F => ok_chkhouseG F T N XO XW hNot Eh
    have Xp : DefX P w K mg base "check_pace" ["given"] 3 (spJudge K c3 paceB) := t_check_pace.defX fun F => ok_chkpaceG F N hGP Ep Gis_within
    have Xb : DefX P w K mg base "check_bound" ["given"] 3 (spJudge K c4 boundB) := t_check_bound.defX fun F => ok_chkboundG F N hgcd Eb Gis_integer Gis_number
    have Xdrift : DefX P w K mg base "drift" ["house", "pace", "frame"] 6 (spDriftX K C c0 c3 c2) := t_drift.defX fun F => ok_driftX F Xh Xp Xn Dgap_at Ddrift_of_gap
    have Xswing : DefX P w K mg base "swing" ["house", "pace"] 6 (spSwingX K C c0 c3) := t_swing.defX fun F => ok_swingX F T N Xh Xp Dgap_of_round Dends_of_groups Dgap_at Ddrift_of_gap
    have Xfb : DefX P w K mg base "first_beyond" ["house", "pace", "bound"] 7 (spBeyondX K C c0 c3 c4) := t_first_beyond.defX fun F => ok_beyondX F T N qBs GBs bBs Xh Xp Xb Dfirst_above
    have Kdrift : DefKw P w K mg base "drift" ["house", "pace", "frame"] 6 (spDrift K C) := DefKw.mk' t_drift (fun F => ok_drift F T Dcheck_house Dcheck_pace Dcheck_number Dgap_at Ddrift_of_gap) (by decide) (fun _ _ _ _ _ _ ws hl => match ws, hl with | [_, _, _], _ => rfl)
    have Kswing : DefKw P w K mg base "swing" ["house", "pace"] 6 (spSwing K C) := DefKw.mk' t_swing (fun F => ok_swing F T N Dcheck_house Dcheck_pace Dgap_of_round Dends_of_groups Dgap_at Ddrift_of_gap) (by decide) (fun _ _ _ _ _ _ ws hl => match ws, hl with | [_, _], _ => rfl)
    have Kfb : DefKw P w K mg base "first_beyond" ["house", "pace", "bound"] 7 (spBeyond K C) := DefKw.mk' t_first_beyond (fun F => ok_beyond F T N qBs GBs bBs Dcheck_house Dcheck_pace Dcheck_bound Dfirst_above) (by decide) (fun _ _ _ _ _ _ ws hl => match ws, hl with | [_, _, _], _ => rfl)
    obtain ⟨gC, fdC, FC, mC, kC, bC⟩ := t__law_tried
    obtain ⟨gF, fdF, FF, mF, kF, bF⟩ := t__law_fault
    have FE := ok_fault (P := P) (w := w) (base := base) FF N MK_
    exact ⟨D_law_known_right, ⟨fR, _, ok_right inR hcR TB T N MK_ F0_ F2_ F3_ F4_ FC bC mC FE mF kF bF MK GI bI mSt.at_ mSt.fn GSt bSt D_law_pluck D_law_same Xdrift Xswing Xfb Dfirst_beyond Kdrift Kswing Kfb, mR, kR, bR⟩⟩)
theorem walk {l : PySem.W.OpenLaw} {q : Program} {loose : List Str} {XP : (Str → Option Value) → Heap → Prop} {YP : World → Heap → Prop} {d : DefRec} {K : Params → PySem.W.Frag} (hn : l.most = some 63) (hdf : d.params.defaults = [])
    (hY : ∀ (w : World) (h : Heap), YP w h → (K w.params).In h)
    (F : ∀ (w : World) (mg : Str → Option Value) (fa : Addr) (h : Heap), YP w h → (K w.params).In h → h.Ns mainGlobals mg → mg d.name = some (.ref fa) →
      ∃ (fd : FuncData) (c Pt : Addr), (h.get? Pt = some { cls := .none, data := .fields #[] } ∧ (K w.params).lookup Pt = none ∧ PySem.W.CodeHd h c Pt) ∧ (∀ (s : Shared) (u : Value), BindsTo s fd ⟨[u], []⟩ [("_law_cells", u)]) ∧ ∀ base : Heap, (K w.params).In base → base.Ns mainGlobals mg → LamX.TabB base mg c Pt → FnG l.prog w (K w.params) mg base 16 fa fd ["_law_cells"] (spLaw (K w.params) Pt)) :
    PySem.W.WalkO q loose XP YP l.row.toRowW d [] (fun f vs => PySem.call f vs) :=
  walk_ofGT (n := 63) (k := 16) (x := "_law_cells") (sp := spLaw) hn (by decide) hdf ⟨rfl, by decide, by decide⟩ rfl hY F fun K Pt G a ns hl gp hS => law_sat K Pt G a ns hl gp hS
end LM

set_option Elab.async false
set_option linter.all false
set_option maxRecDepth 100000
open PySem PySem.W PyProof.Rows
set_option maxHeartbeats 0 in
theorem PySem.Challenge.cw_labelmoves_k42_known_clocks_and_refusals_holds : PySem.Challenge.rw_labelmoves_k42_known_clocks_and_refusals.Holds := by
  w_on; o_law; (refine LM.head_top3 (r := LM.HX.R) (q := LM.HX.q) (H := LM.HX.H) (M := 20000) (loose := LM.HX.loose) (d := LM.HX.dR) LM.HX.said ?run (by assumption) ?hw ?hc); (case run => (intro w; exact ⟨LM.HX.looks w, LM.HX.seen w, LM.HX.ob w⟩)); (case hw => w_witness2)
  show PySem.W.WalkO _ _ _ (PySem.W.kmHook LM.HX.HP.heap_1 _ (fun _ => by kernel_rfl) _).says _ _ _ _
  k_fill
  refine LM.walk (l := PySem.Challenge.rw_labelmoves_k42_known_clocks_and_refusals) rfl LM.HX.said.noDf (fun w h Y => PySem.W.km_in_of Y) ?F
  case F =>
    intro w mg fa h Y KX G hmg
    refine' LM.all_mk KX G hmg ?zN ?zM ?zH ?t__law_vase ?t__law_pour ?t__law_pluck ?t_is_integer ?t_is_integer_within ?t_is_number ?t_check_number ?t_check_bases ?t_is_row ?t_check_rows ?t_spaced ?t_house_text ?t_groups_in_unit ?t_groups_to_repeat ?t_fitted_groups ?t_skipped_counts ?t_least_repeat ?t_sums_ahead ?t_last_not_above ?t_check_house ?t_check_pace ?t_check_bound ?t_rounds_until_above ?t_gap_at ?t_gap_of_round ?t_drift_of_gap ?t_ends_of_groups ?t_drift ?t_swing ?t_first_above ?t_first_beyond ?t__law_same ?t__law_known_right ?t__law_tried ?t__law_fault ?t_tab ?za ?zl ?zc ?zk
    case zN => exact ⟨PySem.W.mg_none_of KX G (by k_is), PySem.W.mg_none_of KX G (by k_is), PySem.W.mg_none_of KX G (by k_is), PySem.W.mg_none_of KX G (by k_is), PySem.W.mg_none_of KX G (by k_is), PySem.W.mg_none_of KX G (by k_is), PySem.W.mg_none_of KX G (by k_is), PySem.W.mg_none_of KX G (by k_is), PySem.W.mg_none_of KX G (by k_is), PySem.W.mg_none_of KX G (by k_is), PySem.W.mg_none_of KX G (by k_is), PySem.W.mg_none_of KX G (by k_is), PySem.W.mg_none_of KX G (by k_is), PySem.W.mg_none_of KX G (by k_is), PySem.W.mg_none_of KX G (by k_is), PySem.W.mg_none_of KX G (by k_is), PySem.W.mg_none_of KX G (by k_is), PySem.W.mg_none_of KX G (by k_is), PySem.W.mg_none_of KX G (by k_is), PySem.W.mg_none_of KX G (by k_is), PySem.W.mg_none_of KX G (by k_is), PySem.W.mg_of KX G (by k_is)⟩
    case zM => exact ⟨⟨_, PySem.W.mg_of KX G (by k_is)⟩, ⟨_, PySem.W.mg_of KX G (by k_is)⟩, ⟨_, PySem.W.mg_of KX G (by k_is)⟩, ⟨_, PySem.W.mg_of KX G (by k_is)⟩, ⟨_, PySem.W.mg_of KX G (by k_is)⟩, ⟨_, PySem.W.mg_of KX G (by k_is)⟩⟩
    (case t__law_vase => (refine' LM.TopD.mk KX G ?a_1 ?l_1 ?c_1 ?k_1 ?b_1; (case a_1 => k_is); (case l_1 => k_is); (case c_1 => k_is); (case k_1 => k_is); (case b_1 => exact fun _ _ _ _ _ _ us hl => match us, hl with | [_, _], _ => rfl)))
    (case t__law_pour => (refine' LM.TopD.mk KX G ?a_2 ?l_2 ?c_2 ?k_2 ?b_2; (case a_2 => k_is); (case l_2 => k_is); (case c_2 => k_is); (case k_2 => k_is); (case b_2 => exact fun _ _ _ _ _ _ us hl => match us, hl with | [_, _], _ => rfl)))
    (case t__law_pluck => (refine' LM.TopD.mk KX G ?a_3 ?l_3 ?c_3 ?k_3 ?b_3; (case a_3 => k_is); (case l_3 => k_is); (case c_3 => k_is); (case k_3 => k_is); (case b_3 => exact fun _ _ _ _ _ _ us hl => match us, hl with | [_, _], _ => rfl)))
    (case t_is_integer => (refine' LM.TopD.mk KX G ?a_4 ?l_4 ?c_4 ?k_4 ?b_4; (case a_4 => k_is); (case l_4 => k_is); (case c_4 => k_is); (case k_4 => k_is); (case b_4 => exact fun _ _ _ _ _ _ us hl => match us, hl with | [_], _ => rfl)))
    (case t_is_integer_within => (refine' LM.TopD.mk KX G ?a_5 ?l_5 ?c_5 ?k_5 ?b_5; (case a_5 => k_is); (case l_5 => k_is); (case c_5 => k_is); (case k_5 => k_is); (case b_5 => exact fun _ _ _ _ _ _ us hl => match us, hl with | [_, _, _], _ => rfl)))
    (case t_is_number => (refine' LM.TopD.mk KX G ?a_6 ?l_6 ?c_6 ?k_6 ?b_6; (case a_6 => k_is); (case l_6 => k_is); (case c_6 => k_is); (case k_6 => k_is); (case b_6 => exact fun _ _ _ _ _ _ us hl => match us, hl with | [_], _ => rfl)))
    (case t_check_number => (refine' LM.TopD.mk KX G ?a_7 ?l_7 ?c_7 ?k_7 ?b_7; (case a_7 => k_is); (case l_7 => k_is); (case c_7 => k_is); (case k_7 => k_is); (case b_7 => exact fun _ _ _ _ _ _ us hl => match us, hl with | [_], _ => rfl)))
    (case t_check_bases => (refine' LM.TopD.mk KX G ?a_8 ?l_8 ?c_8 ?k_8 ?b_8; (case a_8 => k_is); (case l_8 => k_is); (case c_8 => k_is); (case k_8 => k_is); (case b_8 => exact fun _ _ _ _ _ _ us hl => match us, hl with | [_], _ => rfl)))
    (case t_is_row => (refine' LM.TopD.mk KX G ?a_9 ?l_9 ?c_9 ?k_9 ?b_9; (case a_9 => k_is); (case l_9 => k_is); (case c_9 => k_is); (case k_9 => k_is); (case b_9 => exact fun _ _ _ _ _ _ us hl => match us, hl with | [_, _], _ => rfl)))
    (case t_check_rows => (refine' LM.TopD.mk KX G ?a_10 ?l_10 ?c_10 ?k_10 ?b_10; (case a_10 => k_is); (case l_10 => k_is); (case c_10 => k_is); (case k_10 => k_is); (case b_10 => exact fun _ _ _ _ _ _ us hl => match us, hl with | [_, _], _ => rfl)))
    (case t_spaced => (refine' LM.TopD.mk KX G ?a_11 ?l_11 ?c_11 ?k_11 ?b_11; (case a_11 => k_is); (case l_11 => k_is); (case c_11 => k_is); (case k_11 => k_is); (case b_11 => exact fun _ _ _ _ _ _ us hl => match us, hl with | [_], _ => rfl)))
    (case t_house_text => (refine' LM.TopD.mk KX G ?a_12 ?l_12 ?c_12 ?k_12 ?b_12; (case a_12 => k_is); (case l_12 => k_is); (case c_12 => k_is); (case k_12 => k_is); (case b_12 => exact fun _ _ _ _ _ _ us hl => match us, hl with | [_, _], _ => rfl)))
    (case t_groups_in_unit => (refine' LM.TopD.mk KX G ?a_13 ?l_13 ?c_13 ?k_13 ?b_13; (case a_13 => k_is); (case l_13 => k_is); (case c_13 => k_is); (case k_13 => k_is); (case b_13 => exact fun _ _ _ _ _ _ us hl => match us, hl with | [_, _], _ => rfl)))
    (case t_groups_to_repeat => (refine' LM.TopD.mk KX G ?a_14 ?l_14 ?c_14 ?k_14 ?b_14; (case a_14 => k_is); (case l_14 => k_is); (case c_14 => k_is); (case k_14 => k_is); (case b_14 => exact fun _ _ _ _ _ _ us hl => match us, hl with | [_, _], _ => rfl)))
    (case t_fitted_groups => (refine' LM.TopD.mk KX G ?a_15 ?l_15 ?c_15 ?k_15 ?b_15; (case a_15 => k_is); (case l_15 => k_is); (case c_15 => k_is); (case k_15 => k_is); (case b_15 => exact fun _ _ _ _ _ _ us hl => match us, hl with | [_, _, _], _ => rfl)))
    (case t_skipped_counts => (refine' LM.TopD.mk KX G ?a_16 ?l_16 ?c_16 ?k_16 ?b_16; (case a_16 => k_is); (case l_16 => k_is); (case c_16 => k_is); (case k_16 => k_is); (case b_16 => exact fun _ _ _ _ _ _ us hl => match us, hl with | [_, _, _], _ => rfl)))
    (case t_least_repeat => (refine' LM.TopD.mk KX G ?a_17 ?l_17 ?c_17 ?k_17 ?b_17; (case a_17 => k_is); (case l_17 => k_is); (case c_17 => k_is); (case k_17 => k_is); (case b_17 => exact fun _ _ _ _ _ _ us hl => match us, hl with | [_], _ => rfl)))
    (case t_sums_ahead => (refine' LM.TopD.mk KX G ?a_18 ?l_18 ?c_18 ?k_18 ?b_18; (case a_18 => k_is); (case l_18 => k_is); (case c_18 => k_is); (case k_18 => k_is); (case b_18 => exact fun _ _ _ _ _ _ us hl => match us, hl with | [_], _ => rfl)))
    (case t_last_not_above => (refine' LM.TopD.mk KX G ?a_19 ?l_19 ?c_19 ?k_19 ?b_19; (case a_19 => k_is); (case l_19 => k_is); (case c_19 => k_is); (case k_19 => k_is); (case b_19 => exact fun _ _ _ _ _ _ us hl => match us, hl with | [_, _], _ => rfl)))
    (case t_check_house => (refine' LM.TopD.mk KX G ?a_20 ?l_20 ?c_20 ?k_20 ?b_20; (case a_20 => k_is); (case l_20 => k_is); (case c_20 => k_is); (case k_20 => k_is); (case b_20 => exact fun _ _ _ _ _ _ us hl => match us, hl with | [_], _ => rfl)))
    (case t_check_pace => (refine' LM.TopD.mk KX G ?a_21 ?l_21 ?c_21 ?k_21 ?b_21; (case a_21 => k_is); (case l_21 => k_is); (case c_21 => k_is); (case k_21 => k_is); (case b_21 => exact fun _ _ _ _ _ _ us hl => match us, hl with | [_], _ => rfl)))
    (case t_check_bound => (refine' LM.TopD.mk KX G ?a_22 ?l_22 ?c_22 ?k_22 ?b_22; (case a_22 => k_is); (case l_22 => k_is); (case c_22 => k_is); (case k_22 => k_is); (case b_22 => exact fun _ _ _ _ _ _ us hl => match us, hl with | [_], _ => rfl)))
    (case t_rounds_until_above => (refine' LM.TopD.mk KX G ?a_23 ?l_23 ?c_23 ?k_23 ?b_23; (case a_23 => k_is); (case l_23 => k_is); (case c_23 => k_is); (case k_23 => k_is); (case b_23 => exact fun _ _ _ _ _ _ us hl => match us, hl with | [_, _, _], _ => rfl)))
    (case t_gap_at => (refine' LM.TopD.mk KX G ?a_24 ?l_24 ?c_24 ?k_24 ?b_24; (case a_24 => k_is); (case l_24 => k_is); (case c_24 => k_is); (case k_24 => k_is); (case b_24 => exact fun _ _ _ _ _ _ us hl => match us, hl with | [_, _, _], _ => rfl)))
    (case t_gap_of_round => (refine' LM.TopD.mk KX G ?a_25 ?l_25 ?c_25 ?k_25 ?b_25; (case a_25 => k_is); (case l_25 => k_is); (case c_25 => k_is); (case k_25 => k_is); (case b_25 => exact fun _ _ _ _ _ _ us hl => match us, hl with | [_, _], _ => rfl)))
    (case t_drift_of_gap => (refine' LM.TopD.mk KX G ?a_26 ?l_26 ?c_26 ?k_26 ?b_26; (case a_26 => k_is); (case l_26 => k_is); (case c_26 => k_is); (case k_26 => k_is); (case b_26 => exact fun _ _ _ _ _ _ us hl => match us, hl with | [_, _, _], _ => rfl)))
    (case t_ends_of_groups => (refine' LM.TopD.mk KX G ?a_27 ?l_27 ?c_27 ?k_27 ?b_27; (case a_27 => k_is); (case l_27 => k_is); (case c_27 => k_is); (case k_27 => k_is); (case b_27 => exact fun _ _ _ _ _ _ us hl => match us, hl with | [_], _ => rfl)))
    (case t_drift => (refine' LM.TopD.mk KX G ?a_28 ?l_28 ?c_28 ?k_28 ?b_28; (case a_28 => k_is); (case l_28 => k_is); (case c_28 => k_is); (case k_28 => k_is); (case b_28 => exact fun _ _ _ _ _ _ us hl => match us, hl with | [_, _, _], _ => rfl)))
    (case t_swing => (refine' LM.TopD.mk KX G ?a_29 ?l_29 ?c_29 ?k_29 ?b_29; (case a_29 => k_is); (case l_29 => k_is); (case c_29 => k_is); (case k_29 => k_is); (case b_29 => exact fun _ _ _ _ _ _ us hl => match us, hl with | [_, _], _ => rfl)))
    (case t_first_above => (refine' LM.TopD.mk KX G ?a_30 ?l_30 ?c_30 ?k_30 ?b_30; (case a_30 => k_is); (case l_30 => k_is); (case c_30 => k_is); (case k_30 => k_is); (case b_30 => exact fun _ _ _ _ _ _ us hl => match us, hl with | [_, _, _, _], _ => rfl)))
    (case t_first_beyond => (refine' LM.TopD.mk KX G ?a_31 ?l_31 ?c_31 ?k_31 ?b_31; (case a_31 => k_is); (case l_31 => k_is); (case c_31 => k_is); (case k_31 => k_is); (case b_31 => exact fun _ _ _ _ _ _ us hl => match us, hl with | [_, _, _], _ => rfl)))
    (case t__law_same => (refine' LM.TopD.mk KX G ?a_32 ?l_32 ?c_32 ?k_32 ?b_32; (case a_32 => k_is); (case l_32 => k_is); (case c_32 => k_is); (case k_32 => k_is); (case b_32 => exact fun _ _ _ _ _ _ us hl => match us, hl with | [_, _], _ => rfl)))
    (case t__law_known_right => (refine' LM.TopD.mk KX G ?a_33 ?l_33 ?c_33 ?k_33 ?b_33; (case a_33 => k_is); (case l_33 => k_is); (case c_33 => k_is); (case k_33 => k_is); (case b_33 => exact fun _ _ _ _ _ _ us hl => match us, hl with | [_], _ => rfl)))
    (case t__law_tried => (refine' LM.TopD.mk KX G ?a_34 ?l_34 ?c_34 ?k_34 ?b_34; (case a_34 => k_is); (case l_34 => k_is); (case c_34 => k_is); (case k_34 => k_is); (case b_34 => exact fun _ _ _ _ _ _ us hl => match us, hl with | [_], _ => rfl)))
    (case t__law_fault => (refine' LM.TopD.mk KX G ?a_35 ?l_35 ?c_35 ?k_35 ?b_35; (case a_35 => k_is); (case l_35 => k_is); (case c_35 => k_is); (case k_35 => k_is); (case b_35 => exact fun _ _ _ _ _ _ us hl => match us, hl with | [_], _ => rfl)))
    (case t_tab => (refine' LM.RightD.mk KX G ?ra ?rl ?rc ?rk ?rh ?rn (PySem.W.km_tabs_of Y _ ?rt); (case ra => k_is); (case rl => k_is); (case rc => k_is); (case rk => k_is); (case rh => first | k_is | kernel_rfl | (decide +kernel)); (case rn => first | kernel_rfl | (decide +kernel)); (case rt => first | (exact List.mem_of_elem_eq_true (by kernel_rfl)) | (exact List.mem_of_elem_eq_true (by decide +kernel)))))
    case zH =>
      refine' ⟨_, ⟨⟨?y_pg, ?y_hd, ?y_po, ?y_sa⟩, ?y_nB, ?y_nR, ?y_nT, ?y_nS, ?y_nA, ?y_nD, PySem.W.mg_of KX G ?y_aC⟩, ?y_I, ?y_Bs, ?y_Ro, ?y_mB, ?y_mPl, ?y_mF_, ?y_mFa, ?y_mSt, ?y_mRp, ?y_xmore, ?y_xgp, ?y_xgcd, ?y_xh, ?y_xn, ?y_xp, ?y_xb, ?y_xkin, ?y_xhnot⟩
      (case y_aC => k_is); (case y_pg => k_is); (case y_hd => k_is); (case y_po => k_is); (case y_sa => k_is)
      (case y_nB => (unfold L2.NoAttr; k_is)); (case y_nR => (unfold L2.NoAttr; k_is)); (case y_nT => (unfold L2.NoAttr; k_is)); (case y_nS => (unfold L2.NoAttr; k_is)); (case y_nA => (unfold L2.NoAttr; k_is)); (case y_nD => (unfold L2.NoAttr; k_is))
      (case y_I => (refine' LM.InitD.mk ?mk_36 ?a_36 ?i_36 ?kc_36 ?l_36 ?lT_36 ?c_36 ?k_36; (case mk_36 => k_is); (case a_36 => k_is); (case i_36 => k_is); (case kc_36 => k_is); (case l_36 => k_is); (case lT_36 => k_is); (case c_36 => k_is); (case k_36 => k_is)))
      (case y_Bs => (refine' LM.PropBs.mk ?a_37 ?g_37 ?t_37 ?r_37 ?l_37 ?c_37; (case a_37 => k_is); (case g_37 => k_is); (case t_37 => k_is); (case r_37 => k_is); (case l_37 => k_is); (case c_37 => k_is)))
      (case y_Ro => (refine' LM.PropRo.mk ?a_38 ?g_38 ?t_38 ?r_38 ?l_38 ?c_38; (case a_38 => k_is); (case g_38 => k_is); (case t_38 => k_is); (case r_38 => k_is); (case l_38 => k_is); (case c_38 => k_is)))
      (case y_mB => (refine' LM.MethD.mk ?a_39 ?i_39 ?l_39 ?c_39 ?k_39 ?b_39; (case a_39 => k_is); (case i_39 => k_is); (case l_39 => k_is); (case c_39 => k_is); (case k_39 => k_is); (case b_39 => exact fun _ _ _ _ _ _ us hl => match us, hl with | [_, _], _ => rfl)))
      (case y_mPl => (refine' LM.MethD.mk ?a_40 ?i_40 ?l_40 ?c_40 ?k_40 ?b_40; (case a_40 => k_is); (case i_40 => k_is); (case l_40 => k_is); (case c_40 => k_is); (case k_40 => k_is); (case b_40 => exact fun _ _ _ _ _ _ us hl => match us, hl with | [_, _], _ => rfl)))
      (case y_mF_ => (refine' LM.MethD.mk ?a_41 ?i_41 ?l_41 ?c_41 ?k_41 ?b_41; (case a_41 => k_is); (case i_41 => k_is); (case l_41 => k_is); (case c_41 => k_is); (case k_41 => k_is); (case b_41 => exact fun _ _ _ _ _ _ us hl => match us, hl with | [_, _], _ => rfl)))
      (case y_mFa => (refine' LM.MethD.mk ?a_42 ?i_42 ?l_42 ?c_42 ?k_42 ?b_42; (case a_42 => k_is); (case i_42 => k_is); (case l_42 => k_is); (case c_42 => k_is); (case k_42 => k_is); (case b_42 => exact fun _ _ _ _ _ _ us hl => match us, hl with | [_, _, _], _ => rfl)))
      (case y_mSt => (refine' LM.MethD.mk ?a_43 ?i_43 ?l_43 ?c_43 ?k_43 ?b_43; (case a_43 => k_is); (case i_43 => k_is); (case l_43 => k_is); (case c_43 => k_is); (case k_43 => k_is); (case b_43 => exact fun _ _ _ _ _ _ us hl => match us, hl with | [_], _ => rfl)))
      (case y_mRp => (refine' LM.MethD.mk ?a_44 ?i_44 ?l_44 ?c_44 ?k_44 ?b_44; (case a_44 => k_is); (case i_44 => k_is); (case l_44 => k_is); (case c_44 => k_is); (case k_44 => k_is); (case b_44 => exact fun _ _ _ _ _ _ us hl => match us, hl with | [_], _ => rfl)))
      (case y_xmore => (refine' LM.MoreD.of ?own1_45 ?str1_45 ?str2_45 ?int1_45 ?int2_45 ?non1_45 ?non2_45 ?lst1_45 ?lst2_45 ?tup1_45 ?tup2_45 ?dic1_45 ?dic2_45 ?ha_45 ?hn_45 ?htk_45 ?hm_45 ?ne_45 ?bo_45 ?le_45; (case own1_45 => k_is); (case str1_45 => k_is); (case str2_45 => kit_is); (case int1_45 => k_is); (case int2_45 => kit_is); (case non1_45 => k_is); (case non2_45 => kit_is); (case lst1_45 => k_is); (case lst2_45 => kit_is); (case tup1_45 => k_is); (case tup2_45 => kit_is); (case dic1_45 => k_is); (case dic2_45 => kit_is); (case ha_45 => k_is); (case hn_45 => k_is); (case htk_45 => k_is); (case hm_45 => k_is); (case ne_45 => k_is); (case bo_45 => k_is); (case le_45 => k_is)))
      (case y_xgp => (refine' LM.mg_const KX G ?a_46; (case a_46 => k_is)))
      (case y_xgcd => (refine' LM.mg_bfun KX G ?a_47; (case a_47 => k_is)))
      (case y_xh => (refine' LM.ErrNotAHouse.mk KX G ?aw_48 ?gw_48 ?rw__48 ?vw_48 ?ac_48 ?xl_48 ?sa_48 ?ga_48 ?gg_48 ?nb_48 ?a1_48 ?t1_48 ?kc_48 ?ec_48 ?tc_48 ?hc_48 ?ic_48 ?s__48 ?l_48 ?c_48 ?k_48; (case aw_48 => k_is); (case gw_48 => k_is); (case rw__48 => k_is); (case vw_48 => k_is); (case ac_48 => k_is); (case xl_48 => k_is); (case sa_48 => k_is); (case ga_48 => k_is); (case gg_48 => k_is); (case nb_48 => k_is); (case a1_48 => k_is); (case t1_48 => k_is); (case kc_48 => k_is); (case ec_48 => k_is); (case tc_48 => k_is); (case hc_48 => k_is); (case ic_48 => k_is); (case s__48 => first | rfl | k_is); (case l_48 => k_is); (case c_48 => k_is); (case k_48 => k_is)))
      (case y_xn => (refine' LM.ErrInvalidNumber.mk KX G ?aw_49 ?gw_49 ?rw__49 ?vw_49 ?ac_49 ?xl_49 ?sa_49 ?ga_49 ?gg_49 ?nb_49 ?a1_49 ?t1_49 ?kc_49 ?ec_49 ?tc_49 ?hc_49 ?ic_49 ?s__49 ?l_49 ?c_49 ?k_49; (case aw_49 => k_is); (case gw_49 => k_is); (case rw__49 => k_is); (case vw_49 => k_is); (case ac_49 => k_is); (case xl_49 => k_is); (case sa_49 => k_is); (case ga_49 => k_is); (case gg_49 => k_is); (case nb_49 => k_is); (case a1_49 => k_is); (case t1_49 => k_is); (case kc_49 => k_is); (case ec_49 => k_is); (case tc_49 => k_is); (case hc_49 => k_is); (case ic_49 => k_is); (case s__49 => first | rfl | k_is); (case l_49 => k_is); (case c_49 => k_is); (case k_49 => k_is)))
      (case y_xp => (refine' LM.ErrInvalidPace.mk KX G ?aw_50 ?gw_50 ?rw__50 ?vw_50 ?ac_50 ?xl_50 ?sa_50 ?ga_50 ?gg_50 ?nb_50 ?a1_50 ?t1_50 ?kc_50 ?ec_50 ?tc_50 ?hc_50 ?ic_50 ?s__50 ?l_50 ?c_50 ?k_50; (case aw_50 => k_is); (case gw_50 => k_is); (case rw__50 => k_is); (case vw_50 => k_is); (case ac_50 => k_is); (case xl_50 => k_is); (case sa_50 => k_is); (case ga_50 => k_is); (case gg_50 => k_is); (case nb_50 => k_is); (case a1_50 => k_is); (case t1_50 => k_is); (case kc_50 => k_is); (case ec_50 => k_is); (case tc_50 => k_is); (case hc_50 => k_is); (case ic_50 => k_is); (case s__50 => first | rfl | k_is); (case l_50 => k_is); (case c_50 => k_is); (case k_50 => k_is)))
      (case y_xb => (refine' LM.ErrInvalidBound.mk KX G ?aw_51 ?gw_51 ?rw__51 ?vw_51 ?ac_51 ?xl_51 ?sa_51 ?ga_51 ?gg_51 ?nb_51 ?a1_51 ?t1_51 ?kc_51 ?ec_51 ?tc_51 ?hc_51 ?ic_51 ?s__51 ?l_51 ?c_51 ?k_51; (case aw_51 => k_is); (case gw_51 => k_is); (case rw__51 => k_is); (case vw_51 => k_is); (case ac_51 => k_is); (case xl_51 => k_is); (case sa_51 => k_is); (case ga_51 => k_is); (case gg_51 => k_is); (case nb_51 => k_is); (case a1_51 => k_is); (case t1_51 => k_is); (case kc_51 => k_is); (case ec_51 => k_is); (case tc_51 => k_is); (case hc_51 => k_is); (case ic_51 => k_is); (case s__51 => first | rfl | k_is); (case l_51 => k_is); (case c_51 => k_is); (case k_51 => k_is)))
      (case y_xkin => (refine' LM.KinD.mk KX G ?a0_52 ?a1_52 ?a2_52 ?a3_52 ?a4_52 ?a5_52 ?a6_52 ?a7_52 ?aw1_52 ?aw2_52 ?aw3_52 ?ap1_52 ?ap2_52 ?ap3_52 ?hn_52 ?ht_52 ?e1_52 ?i1_52 ?t1_52 ?e2_52 ?i2_52 ?t2_52 ?e3_52 ?i3_52 ?t3_52 ?d0hg_52 ?d0hk_52 ?d0hs_52 ?d0hd_52 ?d0ha_52 ?d0hm_52 ?d0no_52 ?d0k0_52 ?d0k1_52 ?d0k2_52 ?d0k3_52 ?d0k4_52 ?d0k5_52 ?d0k6_52 ?d0k7_52 ?d0u1_52 ?d0u2_52 ?d0u3_52 ?d0b1_52 ?d0b2_52 ?d0b3_52 ?d0s1_52 ?d0s2_52 ?d0s3_52 ?d2hg_52 ?d2hk_52 ?d2hs_52 ?d2hd_52 ?d2ha_52 ?d2hm_52 ?d2no_52 ?d2k0_52 ?d2k1_52 ?d2k2_52 ?d2k3_52 ?d2k4_52 ?d2k5_52 ?d2k6_52 ?d2k7_52 ?d2u1_52 ?d2u2_52 ?d2u3_52 ?d2b1_52 ?d2b2_52 ?d2b3_52 ?d2s1_52 ?d2s2_52 ?d2s3_52 ?d3hg_52 ?d3hk_52 ?d3hs_52 ?d3hd_52 ?d3ha_52 ?d3hm_52 ?d3no_52 ?d3k0_52 ?d3k1_52 ?d3k2_52 ?d3k3_52 ?d3k4_52 ?d3k5_52 ?d3k6_52 ?d3k7_52 ?d3u1_52 ?d3u2_52 ?d3u3_52 ?d3b1_52 ?d3b2_52 ?d3b3_52 ?d3s1_52 ?d3s2_52 ?d3s3_52 ?d4hg_52 ?d4hk_52 ?d4hs_52 ?d4hd_52 ?d4ha_52 ?d4hm_52 ?d4no_52 ?d4k0_52 ?d4k1_52 ?d4k2_52 ?d4k3_52 ?d4k4_52 ?d4k5_52 ?d4k6_52 ?d4k7_52 ?d4u1_52 ?d4u2_52 ?d4u3_52 ?d4b1_52 ?d4b2_52 ?d4b3_52 ?d4s1_52 ?d4s2_52 ?d4s3_52; (case a0_52 => k_is); (case a1_52 => k_is); (case a2_52 => k_is); (case a3_52 => k_is); (case a4_52 => k_is); (case a5_52 => k_is); (case a6_52 => k_is); (case a7_52 => k_is); (case aw1_52 => k_is); (case aw2_52 => k_is); (case aw3_52 => k_is); (case ap1_52 => k_is); (case ap2_52 => k_is); (case ap3_52 => k_is); (case hn_52 => k_is); (case ht_52 => k_is); (case e1_52 => k_is); (case i1_52 => k_is); (case t1_52 => k_is); (case e2_52 => k_is); (case i2_52 => k_is); (case t2_52 => k_is); (case e3_52 => k_is); (case i3_52 => k_is); (case t3_52 => k_is); (case d0hg_52 => k_is); (case d0hk_52 => k_is); (case d0hs_52 => k_is); (case d0hd_52 => k_is); (case d0ha_52 => k_is); (case d0hm_52 => k_is); (case d0no_52 => k_is); (case d0k0_52 => kit_is); (case d0k1_52 => kit_is); (case d0k2_52 => kit_is); (case d0k3_52 => kit_is); (case d0k4_52 => kit_is); (case d0k5_52 => kit_is); (case d0k6_52 => kit_is); (case d0k7_52 => kit_is); (case d0u1_52 => kit_is); (case d0u2_52 => kit_is); (case d0u3_52 => kit_is); (case d0b1_52 => kit_is); (case d0b2_52 => kit_is); (case d0b3_52 => kit_is); (case d0s1_52 => k_is); (case d0s2_52 => k_is); (case d0s3_52 => k_is); (case d2hg_52 => k_is); (case d2hk_52 => k_is); (case d2hs_52 => k_is); (case d2hd_52 => k_is); (case d2ha_52 => k_is); (case d2hm_52 => k_is); (case d2no_52 => k_is); (case d2k0_52 => kit_is); (case d2k1_52 => kit_is); (case d2k2_52 => kit_is); (case d2k3_52 => kit_is); (case d2k4_52 => kit_is); (case d2k5_52 => kit_is); (case d2k6_52 => kit_is); (case d2k7_52 => kit_is); (case d2u1_52 => kit_is); (case d2u2_52 => kit_is); (case d2u3_52 => kit_is); (case d2b1_52 => kit_is); (case d2b2_52 => kit_is); (case d2b3_52 => kit_is); (case d2s1_52 => k_is); (case d2s2_52 => k_is); (case d2s3_52 => k_is); (case d3hg_52 => k_is); (case d3hk_52 => k_is); (case d3hs_52 => k_is); (case d3hd_52 => k_is); (case d3ha_52 => k_is); (case d3hm_52 => k_is); (case d3no_52 => k_is); (case d3k0_52 => kit_is); (case d3k1_52 => kit_is); (case d3k2_52 => kit_is); (case d3k3_52 => kit_is); (case d3k4_52 => kit_is); (case d3k5_52 => kit_is); (case d3k6_52 => kit_is); (case d3k7_52 => kit_is); (case d3u1_52 => kit_is); (case d3u2_52 => kit_is); (case d3u3_52 => kit_is); (case d3b1_52 => kit_is); (case d3b2_52 => kit_is); (case d3b3_52 => kit_is); (case d3s1_52 => k_is); (case d3s2_52 => k_is); (case d3s3_52 => k_is); (case d4hg_52 => k_is); (case d4hk_52 => k_is); (case d4hs_52 => k_is); (case d4hd_52 => k_is); (case d4ha_52 => k_is); (case d4hm_52 => k_is); (case d4no_52 => k_is); (case d4k0_52 => kit_is); (case d4k1_52 => kit_is); (case d4k2_52 => kit_is); (case d4k3_52 => kit_is); (case d4k4_52 => kit_is); (case d4k5_52 => kit_is); (case d4k6_52 => kit_is); (case d4k7_52 => kit_is); (case d4u1_52 => kit_is); (case d4u2_52 => kit_is); (case d4u3_52 => kit_is); (case d4b1_52 => kit_is); (case d4b2_52 => kit_is); (case d4b3_52 => kit_is); (case d4s1_52 => k_is); (case d4s2_52 => k_is); (case d4s3_52 => k_is)))
      (case y_xhnot => (refine' LM.HouseNot.mk ?a1_53 ?a2_53 ?a3_53 ?a4_53 ?a5_53 ?a6_53 ?a7_53; (case a1_53 => kit_is); (case a2_53 => kit_is); (case a3_53 => kit_is); (case a4_53 => kit_is); (case a5_53 => kit_is); (case a6_53 => kit_is); (case a7_53 => kit_is)))
    (case za => k_is); (case zl => k_is); (case zc => k_is); (case zk => k_is)
