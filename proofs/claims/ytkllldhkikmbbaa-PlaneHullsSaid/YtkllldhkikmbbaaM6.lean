/- The hull of a half-space and a box: PlaneHulls. -/
import Derived.Test.YtkllldhkikmbbaaT6
import Derived.Test.YtkllldhkikmbbaaMH
import Derived.IntWalk
namespace Go.Proofs.Ytkllldhkikmbbaa.Vx
open Go Go.RowKit
theorem floor_ref {n c : Int} (hn : -20000000000 ≤ n ∧ n ≤ 20000000000) (hc : 0 < c) : ref07_floor_ok n c = true ∧ ref07_floor_0 n c = n / c ∧ -20000000000 ≤ n / c ∧ n / c ≤ 20000000000 := by
  have b1 : n / c ≤ 20000000000 := Int.ediv_le_of_le_mul hc (by omega)
  have b2 : -20000000000 ≤ n / c := Int.le_ediv_of_mul_le hc (by omega)
  have hz : (c == 0) = false := by simp; omega
  refine ⟨?_, ?_, b2, b1⟩
  · unfold ref07_floor_ok; simp [hz]
  · unfold ref07_floor_0
    have m0 := Int.emod_nonneg n (show c ≠ 0 by omega)
    have m1 := Int.emod_lt_of_pos n hc
    rw [Int.tdiv_eq_ediv, Int.tmod_eq_emod]
    simp only [decide_eq_true_eq]
    by_cases h : 0 ≤ n ∨ c ∣ n
    · rw [if_pos h, if_pos h, if_neg (by omega), wid (by omega)]; omega
    · rw [if_neg h, if_neg h, if_pos (by omega), Int.sign_eq_one_of_pos hc, wid (x := n / c + 1) (by omega), wid (by omega)]; omega
theorem span_ref {c lo hi r : Int} (hr : 0 ≤ r ∧ r ≤ 10000000000) (h0 : inR lo) (h1 : inR hi) (hl : lo < hi) (hc : -1000 ≤ c ∧ c ≤ 1000) :
    ref07_span_ok c lo hi (r + leM c lo hi) = true ∧ ref07_span_0 c lo hi (r + leM c lo hi) = loH c lo hi r ∧ ref07_span_1 c lo hi (r + leM c lo hi) = hiH c lo hi r := by
  have hb := le_bd hc h0 h1 hl
  unfold inR at h0 h1
  unfold ref07_span_ok ref07_span_0 ref07_span_1 loH hiH
  rcases Int.lt_trichotomy c 0 with q | q | q
  · have e0 : IntKind.i64.wrap (0 - c) = -c := by rw [wid (by omega)]; omega
    obtain ⟨k, e, _⟩ := floor_ref (n := r + leM c lo hi) (c := -c) (by omega) (by omega)
    have hq : (r + leM c lo hi) / -c = r / -c - (hi - 1) := by
      unfold leM
      rw [if_neg (by omega), show r + c * (hi - 1) = r + -c * (-(hi - 1)) by rw [Int.neg_mul_neg], Int.add_mul_ediv_left _ _ (by omega)]
      omega
    obtain ⟨_, d1, d2⟩ := div_in (c := -c) hr (by omega)
    have hz : (c == 0) = false := by simp; omega
    simp only [hz, e0, k, e, hq, decide_eq_true_eq, Bool.false_eq_true, if_false, if_true]
    simp only [show ¬ c > 0 by omega, q, if_true, if_false, true_and, and_true]
    rw [wid (by omega), imin_eq, imax_eq]
    omega
  · subst q; simp
  · obtain ⟨k, e, _⟩ := floor_ref (n := r + leM c lo hi) (c := c) (by omega) q
    have hq : (r + leM c lo hi) / c = r / c + (lo + 1) := by
      unfold leM
      rw [if_pos q, Int.add_mul_ediv_left _ _ (by omega)]
    obtain ⟨_, d1, d2⟩ := div_in (c := c) hr (by omega)
    have hz : (c == 0) = false := by simp; omega
    simp only [hz, k, e, hq, decide_eq_true_eq, Bool.false_eq_true, if_false, if_true]
    have q' : ¬ c < 0 := by omega
    have q2 : c > 0 := q
    simp only [q2, q', if_true, if_false, true_and]
    rw [imin_eq, imax_eq]
    omega
theorem least_ref {c lo hi : Int} (h0 : inR lo) (h1 : inR hi) (hl : lo < hi) (hc : -1000 ≤ c ∧ c ≤ 1000) : ref07_least_0 c lo hi = leM c lo hi := by
  have hb := le_bd hc h0 h1 hl
  unfold inR at h0 h1
  unfold ref07_least_0
  unfold leM at hb ⊢
  simp only [decide_eq_true_eq]
  rw [wid (x := lo + 1) (by omega), wid (x := hi - 1) (by omega)]
  split
  · rename_i h; rw [if_pos h] at hb; exact wid (by omega)
  · rename_i h; rw [if_neg h] at hb; exact wid (by omega)
theorem hull_ref {a b c d x0 y0 z0 x1 y1 z1 : Int} (h : both a b c d x0 y0 z0 x1 y1 z1 = 0) :
    ref07_Hull_ok a b c d x0 y0 z0 x1 y1 z1 = true ∧ ref07_Hull_6 a b c d x0 y0 z0 x1 y1 z1 = (if roomM a b c d x0 y0 z0 x1 y1 z1 < 0 then false else true) ∧
    (0 ≤ roomM a b c d x0 y0 z0 x1 y1 z1 → ref07_Hull_0 a b c d x0 y0 z0 x1 y1 z1 = loH a x0 x1 (roomM a b c d x0 y0 z0 x1 y1 z1) ∧ ref07_Hull_1 a b c d x0 y0 z0 x1 y1 z1 = loH b y0 y1 (roomM a b c d x0 y0 z0 x1 y1 z1) ∧
      ref07_Hull_2 a b c d x0 y0 z0 x1 y1 z1 = loH c z0 z1 (roomM a b c d x0 y0 z0 x1 y1 z1) ∧ ref07_Hull_3 a b c d x0 y0 z0 x1 y1 z1 = hiH a x0 x1 (roomM a b c d x0 y0 z0 x1 y1 z1) ∧
      ref07_Hull_4 a b c d x0 y0 z0 x1 y1 z1 = hiH b y0 y1 (roomM a b c d x0 y0 z0 x1 y1 z1) ∧ ref07_Hull_5 a b c d x0 y0 z0 x1 y1 z1 = hiH c z0 z1 (roomM a b c d x0 y0 z0 x1 y1 z1)) := by
  obtain ⟨⟨ha, hb, hc, hd⟩, ⟨i0, i1, i2, i3, i4, i5⟩, l1, l2, l3, b1, b2, b3⟩ := facts h
  have hrb := room_bd h
  have s1 := fun hr => span_ref (r := roomM a b c d x0 y0 z0 x1 y1 z1) ⟨hr, hrb⟩ i0 i3 l1 ha
  have s2 := fun hr => span_ref (r := roomM a b c d x0 y0 z0 x1 y1 z1) ⟨hr, hrb⟩ i1 i4 l2 hb
  have s3 := fun hr => span_ref (r := roomM a b c d x0 y0 z0 x1 y1 z1) ⟨hr, hrb⟩ i2 i5 l3 hc
  unfold ref07_Hull_ok ref07_Hull_6 ref07_Hull_0 ref07_Hull_1 ref07_Hull_2 ref07_Hull_3 ref07_Hull_4 ref07_Hull_5
  rw [least_ref i0 i3 l1 ha, least_ref i1 i4 l2 hb, least_ref i2 i5 l3 hc]
  have hR : roomM a b c d x0 y0 z0 x1 y1 z1 = d - leM a x0 x1 - leM b y0 y1 - leM c z0 z1 := rfl
  generalize roomM a b c d x0 y0 z0 x1 y1 z1 = R at *
  generalize leM a x0 x1 = la at *
  generalize leM b y0 y1 = lb at *
  generalize leM c z0 z1 = lc at *
  rw [wid (x := la + lb) (by omega), wid (x := la + lb + lc) (by omega), wid (x := d - lb) (by omega), wid (x := d - lb - lc) (by omega), wid (x := d - la) (by omega), wid (x := d - la - lc) (by omega), wid (x := d - la - lb) (by omega),
    show d - lb - lc = R + la by omega, show d - la - lc = R + lb by omega, show d - la - lb = R + lc by omega]
  simp only [decide_eq_true_eq]
  by_cases hr : R < 0
  · simp only [show la + lb + lc > d by omega, hr, if_true, true_and]
    intro h; omega
  · have hr' : 0 ≤ R := by omega
    obtain ⟨k1, p1, q1⟩ := s1 hr'
    obtain ⟨k2, p2, q2⟩ := s2 hr'
    obtain ⟨k3, p3, q3⟩ := s3 hr'
    simp only [show ¬ la + lb + lc > d by omega, hr, if_true, if_false, k1, k2, k3, p1, p2, p3, q1, q2, q3, and_self, implies_true]
theorem hull_bad {a b c d x0 y0 z0 x1 y1 z1 : Int} (h : both a b c d x0 y0 z0 x1 y1 z1 ≠ 0) : plane_Hull_ok a b c d x0 y0 z0 x1 y1 z1 = true ∧ plane_Hull_6 a b c d x0 y0 z0 x1 y1 z1 = both a b c d x0 y0 z0 x1 y1 z1 ∧ plane_Hull_0 a b c d x0 y0 z0 x1 y1 z1 = 0 ∧ plane_Hull_1 a b c d x0 y0 z0 x1 y1 z1 = 0 ∧ plane_Hull_2 a b c d x0 y0 z0 x1 y1 z1 = 0 ∧ plane_Hull_3 a b c d x0 y0 z0 x1 y1 z1 = 0 ∧ plane_Hull_4 a b c d x0 y0 z0 x1 y1 z1 = 0 ∧ plane_Hull_5 a b c d x0 y0 z0 x1 y1 z1 = 0 := by
  have hz : (both a b c d x0 y0 z0 x1 y1 z1 != 0) = true := by simpa using h
  refine ⟨?_, ?_, ?_, ?_, ?_, ?_, ?_, ?_⟩
  all_goals
    first | unfold plane_Hull_ok | unfold plane_Hull_6 | unfold plane_Hull_0 | unfold plane_Hull_1 | unfold plane_Hull_2 | unfold plane_Hull_3 | unfold plane_Hull_4 | unfold plane_Hull_5
    rw [both_plane, if_pos hz]
theorem hulls_true (a b c d x0 y0 z0 x1 y1 z1 : Int) : law07_PlaneHulls_ok a b c d x0 y0 z0 x1 y1 z1 = true ∧ law07_PlaneHulls_0 a b c d x0 y0 z0 x1 y1 z1 = true := by
  unfold law07_PlaneHulls_ok law07_PlaneHulls_0
  rw [both_ref]
  by_cases h : both a b c d x0 y0 z0 x1 y1 z1 = 0
  · obtain ⟨k, h6, h0, h1, h2, h3, h4, h5⟩ := hull_code h
    obtain ⟨k', r6, r⟩ := hull_ref h
    rw [k, k', h6, h0, h1, h2, h3, h4, h5, r6, h]
    generalize roomM a b c d x0 y0 z0 x1 y1 z1 = R at *
    by_cases hr : R < 0
    · simp [hr]
    · obtain ⟨r0, r1, r2, r3, r4, r5⟩ := r (by omega)
      simp [hr, r0, r1, r2, r3, r4, r5]
  · obtain ⟨k, h6, h0, h1, h2, h3, h4, h5⟩ := hull_bad h
    rw [k, h6, h0, h1, h2, h3, h4, h5]
    simp [h]
/-- The statement's own function answers true at all inputs. -/
theorem planeHulls_any (a b c d x0 y0 z0 x1 y1 z1 : Int) (w : World) : Calls Go.Proofs.Try.prog 6 #[.agg #[.int .i64 a, .int .i64 b, .int .i64 c, .int .i64 d], .agg #[.int .i64 x0, .int .i64 y0, .int .i64 z0, .int .i64 x1, .int .i64 y1, .int .i64 z1]] w fun e w' => e = .returned (.bool true) ∧ Below w.heap.size w w' := by
  have h := tree6_res a b c d x0 y0 z0 x1 y1 z1
  obtain ⟨h1, h2⟩ := hulls_true a b c d x0 y0 z0 x1 y1 z1
  rw [h1, h2, if_pos rfl] at h
  exact fn_true mixed tab31_ok (L := 300) rfl (by rw [tree6_eq]; exact h) w
end Go.Proofs.Ytkllldhkikmbbaa.Vx
