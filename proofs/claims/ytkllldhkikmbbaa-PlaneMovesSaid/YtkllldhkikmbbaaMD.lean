/- The depth of a box in a half-space, in plain numbers. -/
import Derived.Test.YtkllldhkikmbbaaMH
import Derived.IntWalk
namespace Go.Proofs.Ytkllldhkikmbbaa.Vx
open Go Go.RowKit
/-- The slope in a direction. -/
def slM (a b c k : Int) : Int := if k = 0 then a else if k = 1 then -a else if k = 2 then b else if k = 3 then -b else if k = 4 then c else -c
/-- How far a box can be moved. -/
def dpM (s hi most : Int) : Int := if s ≤ 0 then most else min most ((-hi) / s)
theorem hi_bd {a b c d x0 y0 z0 x1 y1 z1 : Int} (h : both a b c d x0 y0 z0 x1 y1 z1 = 0) : -10000000000 ≤ hiM a b c d x0 y0 z0 x1 y1 z1 ∧ hiM a b c d x0 y0 z0 x1 y1 z1 ≤ 10000000000 := by
  obtain ⟨s1, s2, s3, s4, s5, s6⟩ := six h
  obtain ⟨⟨_, _, _, hd⟩, _⟩ := facts h
  have m1 := imax_bd s1 s2; have m2 := imax_bd s3 s4; have m3 := imax_bd s5 s6
  unfold hiM; omega
theorem six_dirs {k : Int} (h : 0 ≤ k ∧ k ≤ 5) : k = 0 ∨ k = 1 ∨ k = 2 ∨ k = 3 ∨ k = 4 ∨ k = 5 := by omega
/-- The distance, as the code has it. -/
theorem dist_code {s hi most : Int} (hh : -10000000000 ≤ hi ∧ hi ≤ 0) (hs : 0 < s) : imin most (IntKind.i64.wrap ((IntKind.i64.wrap (0 - hi)).tdiv s)) = min most ((-hi) / s) := by
  rw [wid (x := 0 - hi) (by omega), show 0 - hi = -hi by omega]
  obtain ⟨e, e1, e2⟩ := div_in (r := -hi) (c := s) (by omega) hs
  rw [e, wid (by omega), imin_eq]
/-- The distance, as the code has it, as one word. -/
def dsC (most hi s : Int) : Int := imin most (IntKind.i64.wrap ((IntKind.i64.wrap (0 - hi)).tdiv s))
theorem depth_code {a b c d x0 y0 z0 x1 y1 z1 k most : Int} (h : both a b c d x0 y0 z0 x1 y1 z1 = 0) (hk : 0 ≤ k ∧ k ≤ 5) (hm : 0 ≤ most ∧ most ≤ 1000000) :
    plane_Depth_ok a b c d x0 y0 z0 x1 y1 z1 k most = true ∧ plane_Depth_1 a b c d x0 y0 z0 x1 y1 z1 k most = (if hiM a b c d x0 y0 z0 x1 y1 z1 > 0 then 8 else 0) ∧
    plane_Depth_0 a b c d x0 y0 z0 x1 y1 z1 k most = (if hiM a b c d x0 y0 z0 x1 y1 z1 > 0 then 0 else dpM (slM a b c k) (hiM a b c d x0 y0 z0 x1 y1 z1) most) := by
  obtain ⟨⟨ha, hb, hc, hd⟩, _⟩ := facts h
  have hh := hi_bd h
  have wa : IntKind.i64.wrap (0 - a) = -a := by rw [wid (by omega)]; omega
  have wb : IntKind.i64.wrap (0 - b) = -b := by rw [wid (by omega)]; omega
  have wc : IntKind.i64.wrap (0 - c) = -c := by rw [wid (by omega)]; omega
  have z : ((0 : Int) != 0) = false := rfl
  have hq : IntKind.i64.wrap (k.tdiv 2) = k / 2 := by rw [Int.tdiv_eq_ediv_of_nonneg hk.1, wid (by omega)]
  have hr : k.tmod 2 = k % 2 := Int.tmod_eq_emod_of_nonneg hk.1
  unfold plane_Depth_ok plane_Depth_1 plane_Depth_0
  rw [both_plane, h, (ext_plane h).2, hq, hr, wa, wb, wc]
  generalize hiM a b c d x0 y0 z0 x1 y1 z1 = hi at *
  simp only [z, Bool.false_eq_true, if_false, decide_eq_true_eq, beq_iff_eq, show ¬ k < 0 by omega, show ¬ k > 5 by omega, show ¬ most < 0 by omega, show ¬ most > 1000000 by omega]
  clear wa wb wc hq hr h
  refine ⟨?_, trivial, ?_⟩
  · (repeat' split) <;> first | rfl | (exfalso; omega)
  · by_cases hp : hi > 0
    · rw [if_pos hp, if_pos hp]
    · rw [if_neg hp, if_neg hp]
      have hds : ∀ s, 0 < s → dsC most hi s = min most ((-hi) / s) := fun s hs => dist_code (by omega) hs
      have fold : ∀ s, imin most (IntKind.i64.wrap ((IntKind.i64.wrap (0 - hi)).tdiv s)) = dsC most hi s := fun _ => rfl
      rw [fold, fold, fold, fold, fold, fold]
      generalize dsC most hi = F at hds
      clear fold
      have aux : ∀ s, (if s ≤ 0 then most else F s) = dpM s hi most := fun s => by
        unfold dpM
        by_cases q : s ≤ 0
        · rw [if_pos q, if_pos q]
        · rw [if_neg q, if_neg q, hds s (by omega)]
      rw [aux, aux, aux, aux, aux, aux]
      clear aux hds
      generalize (fun s => dpM s hi most) = D
      rcases six_dirs hk with rfl | rfl | rfl | rfl | rfl | rfl <;> rfl
theorem slope_ref {a b c d k : Int} (ha : -1000 ≤ a ∧ a ≤ 1000) (hb : -1000 ≤ b ∧ b ≤ 1000) (hc : -1000 ≤ c ∧ c ≤ 1000) (hk : 0 ≤ k ∧ k ≤ 5) : ref07_Slope_ok a b c d k = true ∧ ref07_Slope_0 a b c d k = slM a b c k := by
  have wa : IntKind.i64.wrap (0 - a) = -a := by rw [wid (by omega)]; omega
  have wb : IntKind.i64.wrap (0 - b) = -b := by rw [wid (by omega)]; omega
  have wc : IntKind.i64.wrap (0 - c) = -c := by rw [wid (by omega)]; omega
  unfold ref07_Slope_ok ref07_Slope_0
  rw [wa, wb, wc]
  rcases six_dirs hk with rfl | rfl | rfl | rfl | rfl | rfl <;> exact ⟨rfl, rfl⟩
theorem depth_ref {a b c d x0 y0 z0 x1 y1 z1 k most : Int} (h : both a b c d x0 y0 z0 x1 y1 z1 = 0) (hk : 0 ≤ k ∧ k ≤ 5) (hi : ¬ hiM a b c d x0 y0 z0 x1 y1 z1 > 0) :
    ref07_Depth_ok a b c d x0 y0 z0 x1 y1 z1 k most = true ∧ ref07_Depth_0 a b c d x0 y0 z0 x1 y1 z1 k most = dpM (slM a b c k) (hiM a b c d x0 y0 z0 x1 y1 z1) most := by
  obtain ⟨⟨ha, hb, hc, hd⟩, _⟩ := facts h
  have hh := hi_bd h
  obtain ⟨s1, s0⟩ := slope_ref (d := d) ha hb hc hk
  unfold ref07_Depth_ok ref07_Depth_0
  rw [s1, s0, (ext_ref h).2]
  generalize hiM a b c d x0 y0 z0 x1 y1 z1 = H at *
  generalize slM a b c k = s at *
  simp only [decide_eq_true_eq, if_true]
  by_cases q : s ≤ 0
  · rw [if_pos q, if_pos q]
    exact ⟨rfl, by unfold dpM; rw [if_pos q]⟩
  · have hz : ¬ ((s == 0) = true) := by simp; omega
    rw [if_neg q, if_neg q, if_neg hz]
    exact ⟨rfl, by unfold dpM; rw [if_neg q]; exact dist_code (by omega) (by omega)⟩
theorem side_ref {a b c d x0 y0 z0 x1 y1 z1 : Int} (h : both a b c d x0 y0 z0 x1 y1 z1 = 0) : (ref07_Side_0 a b c d x0 y0 z0 x1 y1 z1 != 1) = decide (hiM a b c d x0 y0 z0 x1 y1 z1 > 0) := by
  unfold ref07_Side_0
  rw [(ext_ref h).1, (ext_ref h).2]
  simp only [decide_eq_true_eq]
  by_cases q : hiM a b c d x0 y0 z0 x1 y1 z1 ≤ 0
  · rw [if_pos q]; simp; omega
  · rw [if_neg q]; simp only [show hiM a b c d x0 y0 z0 x1 y1 z1 > 0 by omega, decide_true]
    split <;> rfl
theorem depth_bad {a b c d x0 y0 z0 x1 y1 z1 k most : Int} (h : both a b c d x0 y0 z0 x1 y1 z1 ≠ 0) : plane_Depth_ok a b c d x0 y0 z0 x1 y1 z1 k most = true ∧ plane_Depth_1 a b c d x0 y0 z0 x1 y1 z1 k most = both a b c d x0 y0 z0 x1 y1 z1 ∧ plane_Depth_0 a b c d x0 y0 z0 x1 y1 z1 k most = 0 := by
  have hz : (both a b c d x0 y0 z0 x1 y1 z1 != 0) = true := by simpa using h
  unfold plane_Depth_ok plane_Depth_1 plane_Depth_0
  rw [both_plane, if_pos hz, if_pos hz, if_pos hz]
  exact ⟨rfl, rfl, rfl⟩
theorem depth_range {a b c d x0 y0 z0 x1 y1 z1 k most : Int} (h : both a b c d x0 y0 z0 x1 y1 z1 = 0) (hk : ¬ (0 ≤ k ∧ k ≤ 5 ∧ 0 ≤ most ∧ most ≤ 1000000)) : plane_Depth_ok a b c d x0 y0 z0 x1 y1 z1 k most = true ∧ plane_Depth_1 a b c d x0 y0 z0 x1 y1 z1 k most = 6 ∧ plane_Depth_0 a b c d x0 y0 z0 x1 y1 z1 k most = 0 := by
  have z : ¬ (((0 : Int) != 0) = true) := by decide
  unfold plane_Depth_ok plane_Depth_1 plane_Depth_0
  rw [both_plane, h, if_neg z, if_neg z, if_neg z]
  simp only [decide_eq_true_eq]
  by_cases k0 : k < 0
  · rw [if_pos k0, if_pos k0, if_pos k0]; exact ⟨rfl, rfl, rfl⟩
  by_cases k1 : k > 5
  · rw [if_neg k0, if_neg k0, if_neg k0, if_pos k1, if_pos k1, if_pos k1]; exact ⟨rfl, rfl, rfl⟩
  by_cases k2 : most < 0
  · rw [if_neg k0, if_neg k0, if_neg k0, if_neg k1, if_neg k1, if_neg k1, if_pos k2, if_pos k2, if_pos k2]; exact ⟨rfl, rfl, rfl⟩
  have k3 : most > 1000000 := by omega
  rw [if_neg k0, if_neg k0, if_neg k0, if_neg k1, if_neg k1, if_neg k1, if_neg k2, if_neg k2, if_neg k2, if_pos k3, if_pos k3, if_pos k3]; exact ⟨rfl, rfl, rfl⟩
end Go.Proofs.Ytkllldhkikmbbaa.Vx
