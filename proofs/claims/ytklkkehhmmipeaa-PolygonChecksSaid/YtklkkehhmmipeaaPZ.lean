/- Package polygon: the closure that adds a half of the hull. -/
import Derived.Test.YtklkkehhmmipeaaPY
namespace Go.Proofs.Ytklkkehhmmipeaa
open Go.RowKit
attribute [local go_sem ↓] Go.wp_at_zero Go.wp_at_succ

abbrev TH : Nat := 23
abbrev TS : Nat := 22
set_option maxRecDepth 100000 in
set_option maxHeartbeats 12800000 in
theorem half_any (base hv pv g n c fr : Nat) (v0 : Value) (h0 ps : List P2) (w : World) (hown : Own w base v0 h0) (hh : Blk w hv [v0] TH) (hp : Blk w pv [.slice (some ⟨g, 0, none⟩) n c] TS) (hrow : Row w base (some ⟨g, 0, none⟩) n ps)
    (hn0 : 1 ≤ n) (hn : n ≤ 1000) (hfr : h0.length = fr) (hfm : fr ≤ 1000) (hvb : hv < base) (pvb : pv < base) (hpv : pv ≠ hv) (hgv : g ≠ hv) (hB : base ≤ w.heap.size) :
    Calls Try.prog 58 #[.pointer (some ⟨hv, 0, none⟩), .pointer (some ⟨pv, 0, none⟩)] w fun e w' => e = .returned (.tuple #[]) ∧ ∃ v, Own w' base v (halfL fr h0 ps).dropLast ∧ Blk w' hv [v] TH ∧ Kp base hv w w' := by
  have Hfr := Lib.hid hfr
  have Hpl := Lib.hid hrow.len
  obtain ⟨A0, c0, rfl, hrow0, _⟩ := hown.form_n hfr
  obtain ⟨k1, k2⟩ := hh.one
  obtain ⟨k3, k4⟩ := hp.one
  have hl1 := hh.lt
  have hl2 := hp.lt
  have Hown := Lib.hid hown
  have Hh := Lib.hid hh
  have Hp := Lib.hid hp
  have Hrow := Lib.hid hrow
  clear hfr hown hh hp hrow hrow0
  go_enter Try.func58, Try.ntmps58
  go_wp2
  go_loopw [9] (fun i wr => ∃ (k : Nat) (v : Value) (h : List P2), k ≤ n ∧ i = .int .i64 k ∧ h = halfL fr h0 (ps.take k) ∧ fr ≤ h.length ∧ (0 < k → fr + 1 ≤ h.length) ∧ h.length ≤ fr + k ∧ Own wr base v h ∧ Blk wr hv [v] TH ∧ Kp base hv w wr) (fun i _ => n - (intOf i).toNat)
  case atStart => exact ⟨0, _, h0, Nat.zero_le _, rfl, rfl, by rw [Hfr.out]; exact Nat.le_refl _, fun h => absurd h (by omega), by rw [Hfr.out]; omega, Hown.out, Hh.out, Kp.refl _ _ _⟩
  case round =>
    obtain ⟨k, v, h, hk, rfl, hh, hl, hl1', hl2', hown, hblk, hkp⟩ := hrel
    clear k1 k2 k3 k4
    have hsz := hkp.size
    by_cases hlt : k < n
    · obtain ⟨b, off, px, py, hA, hbB, hx, hc1, hc2⟩ := (hkp.row Hrow.out (Nat.le_refl _) (fun b off e => by injection e with e; injection e with e; omega)).at_ hlt
      obtain ⟨rfl, rfl⟩ : b = g ∧ off = 0 := by injection hA with e; injection e with e1 e2; exact ⟨e1.symm, e2.symm⟩
      have Hnx := Lib.hid (halfL_next (fr := fr) (h := h0) hx)
      have Hh0 := Lib.hid hh
      have Hkp := Lib.hid hkp
      have Hown0 := Lib.hid hown
      have Hblk := Lib.hid hblk
      clear hA hx hh hkp hown hblk
      rw [Nat.zero_add] at hc1 hc2
      have i1 : (0 : Int) ≤ (k : Int) := by omega
      have i2 : (k : Int) < (n : Int) := by omega
      obtain ⟨hz1, hz2⟩ := (Hkp.out.blk Hp.out pvb hpv).one
      rename World => wo
      have hbo : base ≤ wo.heap.size := by omega
      go_wp2
      go_loopw [39] (fun _ wr => ∃ (v : Value) (h1 : List P2), popF h1.length fr h1 (px, py) = popF h.length fr h (px, py) ∧ h1.length ≤ h.length ∧ fr ≤ h1.length ∧ Own wr base v h1 ∧ Blk wr hv [v] TH ∧ Blk wr wo.heap.size [.int .i64 px, .int .i64 py] 31 ∧ Kp base hv w wr) (fun _ wr => lenAt wr hv)
      case atStart => exact ⟨v, h, rfl, Nat.le_refl _, hl, Hown0.out.alloc _, Hblk.out.alloc _, Blk.new _ _ _ rfl, (Hkp.out.step ((Below.refl _ _).alloc (Nat.le_refl _) _) hbo)⟩
      case round =>
        obtain ⟨v, h1, hpop, hle, hge, hown, hblk, hpb, hkp⟩ := hrel
        have hlp := hpb.lt
        have hszr := hkp.size
        obtain ⟨k1, k2⟩ := hblk.one
        obtain ⟨p1, p2, p3, p4⟩ := hpb.two
        have Hpop := Lib.hid hpop
        have hlv := hblk.lt
        by_cases hm : h1.length < fr + 2
        · obtain ⟨m, hmm⟩ : ∃ m, h1.length = m := ⟨_, rfl⟩
          obtain ⟨A1, c1, rfl, _, hlt1⟩ := hown.form_n hmm
          rw [hmm] at hm hle hge
          have hst : popF h.length fr h (px, py) = h1 := by rw [← Hpop.out]; exact popF_stop (by omega) _
          have hpm : pushM fr h (px, py) = h1 ++ [(px, py)] := by unfold pushM; rw [hst]
          have Hpm := Lib.hid hpm
          have Hmm := Lib.hid hmm
          have Hown1 := Lib.hid hown
          have Hblk1 := Lib.hid hblk
          have Hkp1 := Lib.hid hkp
          have j1 : ¬ (fr : Int) + 2 ≤ (m : Int) := by omega
          have j2 : decide ((fr : Int) + 2 ≤ (m : Int)) = false := decide_eq_false j1
          clear j1
          have j3 : IntKind.i64.wrap ((fr : Int) + 2) = (fr : Int) + 2 := IntWalk.i64_in _ (by omega)
          clear hpop hst hpm hmm hown hblk hkp hpb
          go_wp2_with fail
          go_quiet (fail)
          go_wp2_with (at_builtin; refine wpList_append_pol rfl (.tmp 40) (.tmp 42) rfl base (.slice A1 m c1) h1 rfl ((Hown1.out.drewN _).alloc _) (wr.heap.size + 1) (some ⟨wr.heap.size, 0, none⟩) 1 1 [(px, py)] rfl (row_one _ _ _ _ (by simp) (by simp)) (by have := Hmm.out; omega) (by simp; omega) ?_; intro v' w3 hown3 hg3 _; obtain ⟨A3, c3, rfl, _, _⟩ := hown3.form_n (n := h1.length + 1) (by simp); have b3 := Blk.grown ((Hblk1.out.drewN _).alloc _) hg3 (fun e => by have := (hlt1 _ e).1; omega); obtain ⟨r1, r2⟩ := b3.one)
          go_roundw
          case rel => exact ⟨k + 1, _, h1 ++ [(px, py)], by omega, by go_num, by rw [Hnx.out, ← Hh0.out, Hpm.out], by have := Hmm.out; simp; omega, fun _ => by have := Hmm.out; simp; omega, by have := Hmm.out; simp; omega, hown3.set hvb _, b3.set1 _, Kp.setCell (Kp.grown (Kp.step (Kp.drewN_iff.2 Hkp1.out) ((Below.refl _ _).alloc (Nat.le_refl _) _) (by first | omega | (simp; omega))) hg3 (fun q e => (hlt1 q e).1) (by simp; omega)) _ _⟩
          case measure => simp [intOf]; omega
        · obtain ⟨j, hj⟩ : ∃ j, h1.length = j + 2 := ⟨h1.length - 2, by omega⟩
          obtain ⟨A1, c1, rfl, _, hlt1⟩ := hown.form_n hj
          obtain ⟨g0, rfl, -, hcap, hbg, hg0, hmem⟩ := hown.mem (by omega)
          obtain ⟨⟨ax, ay⟩, hxa⟩ : ∃ x, h1[j]? = some x := ⟨_, List.getElem?_eq_getElem (by omega)⟩
          obtain ⟨⟨bx, by'⟩, hxb⟩ : ∃ x, h1[j + 1]? = some x := ⟨_, List.getElem?_eq_getElem (by omega)⟩
          obtain ⟨c3, c4, _, _⟩ := hmem _ _ hxa
          obtain ⟨c5, c6, _, _⟩ := hmem _ _ hxb
          dsimp only at c3 c4 c5 c6
          have hW : ∀ W, Below wr.heap.size wr W → W.cell? ⟨hv, 0, none⟩ = some (.slice (some ⟨g0, 0, none⟩) (j + 2) c1) ∧ W.cell? ⟨g0, j * 2, none⟩ = some (.int .i64 ax) ∧ W.cell? ⟨g0, j * 2 + 1, none⟩ = some (.int .i64 ay) ∧ W.cell? ⟨g0, (j + 1) * 2, none⟩ = some (.int .i64 bx) ∧ W.cell? ⟨g0, (j + 1) * 2 + 1, none⟩ = some (.int .i64 by') ∧ W.cell? ⟨wo.heap.size, 0, none⟩ = some (.int .i64 px) ∧ W.cell? ⟨wo.heap.size, 1, none⟩ = some (.int .i64 py) := fun W hb =>
            ⟨(hb.cell (p := ⟨hv, _, none⟩) hlv).trans k1, (hb.cell (p := ⟨g0, _, none⟩) hg0).trans c3, (hb.cell (p := ⟨g0, _, none⟩) hg0).trans c4, (hb.cell (p := ⟨g0, _, none⟩) hg0).trans c5, (hb.cell (p := ⟨g0, _, none⟩) hg0).trans c6, (hb.cell (p := ⟨wo.heap.size, _, none⟩) hlp).trans p1, (hb.cell (p := ⟨wo.heap.size, _, none⟩) hlp).trans p2⟩
          have HW := Lib.hid hW
          have hca := cor_eq hxa
          have hcb := cor_eq hxb
          obtain ⟨q, hq⟩ : ∃ q, orV (ax, ay) (bx, by') (px, py) = q := ⟨_, rfl⟩
          have hor : ∀ W, Calls Try.prog 23 #[v2 ax ay, v2 bx by', v2 px py] W fun e w' => e = .returned (.int .i64 q) ∧ Below W.heap.size W w' := fun W => orient_any (ax, ay) (bx, by') (px, py) q W hq
          have hqq : orV (cor h1 (h1.length - 2)) (cor h1 (h1.length - 1)) (px, py) = q := by
            rw [hj, show j + 2 - 2 = j from by omega, show j + 2 - 1 = j + 1 from by omega, hca, hcb, hq]
          have hcs : (q = 1 ∧ pushM fr h (px, py) = h1 ++ [(px, py)]) ∨ ((q != 1) = true ∧ popF h1.dropLast.length fr h1.dropLast (px, py) = popF h.length fr h (px, py)) := by
            by_cases e : q = 1
            · refine .inl ⟨e, ?_⟩
              unfold pushM
              rw [← Hpop.out, popF_stop (by rw [hqq]; omega)]
            · exact .inr ⟨by simp [e], (popF_go ⟨by omega, by rw [hqq]; exact e⟩).symm.trans Hpop.out⟩
          have hdl : h1.dropLast = h1.take (j + 1) := by rw [List.dropLast_eq_take, hj]; rfl
          have hcut := hown.cut (k := j + 1) (by omega)
          rw [← hdl] at hcut
          have hdn : h1.dropLast.length = j + 1 := by rw [List.length_dropLast, hj]; rfl
          have Hor := Lib.hid hor
          have Hmm := Lib.hid hj
          have Hdn := Lib.hid hdn
          have Hcut := Lib.hid hcut
          have Hown1 := Lib.hid hown
          have Hblk1 := Lib.hid hblk
          have Hpb := Lib.hid hpb
          have Hkp1 := Lib.hid hkp
          have d4 : decide (fr ≤ j) = true := decide_eq_true (by omega)
          have i5 : (0 : Int) ≤ (j : Int) := by omega
          have i6 : IntKind.i64.wrap (j : Int) = (j : Int) := IntWalk.i64_in _ (by omega)
          have i7 : IntKind.i64.wrap ((j : Int) + 2 - 1) = (j : Int) + 1 := by rw [show (j : Int) + 2 - 1 = (j : Int) + 1 from by omega]; exact IntWalk.i64_in _ (by omega)
          have i8 : IntKind.i64.wrap ((j : Int) + 1) = (j : Int) + 1 := IntWalk.i64_in _ (by omega)
          have i9 : IntKind.i64.wrap ((fr : Int) + 2) = (fr : Int) + 2 := IntWalk.i64_in _ (by omega)
          have m1 : (j : Int) + 1 ≤ (c1 : Int) := by omega
          have m2 : j + 1 ≤ c1 := by omega
          have m3 : (j : Int) < (j : Int) + 2 := by omega
          have m4 : (j : Int) + 1 < (j : Int) + 2 := by omega
          have m5 : (0 : Int) ≤ (j : Int) + 1 := by omega
          clear hpop hW hca hcb hxa hxb hq hor hqq hdl hcut hdn hown hblk hkp hpb hmem hj
          rcases hcs with ⟨rfl, hpm⟩ | ⟨gq, hpm⟩
          · have Hpm := Lib.hid hpm
            clear hpm
            go_wp2_with fail
            go_region_held3 (fun w' => w'.cell? ⟨hv, 0, none⟩ = some (.slice (some ⟨g0, 0, none⟩) (j + 2) c1) ∧ w'.cell? ⟨g0, j * 2, none⟩ = some (.int .i64 ax) ∧ w'.cell? ⟨g0, j * 2 + 1, none⟩ = some (.int .i64 ay) ∧ w'.cell? ⟨g0, (j + 1) * 2, none⟩ = some (.int .i64 bx) ∧ w'.cell? ⟨g0, (j + 1) * 2 + 1, none⟩ = some (.int .i64 by') ∧ w'.cell? ⟨wo.heap.size, 0, none⟩ = some (.int .i64 px) ∧ w'.cell? ⟨wo.heap.size, 1, none⟩ = some (.int .i64 py))
              (first | (refine ⟨?_, ?_, ?_, ?_, ?_, ?_, ?_⟩ <;> with_reducible assumption) | exact ⟨(HW.out _ (by (repeat (first | with_reducible assumption | with_reducible exact Below.refl _ _ | simp only [Below.drew_iff] | simp only [Below.drewN_iff] | with_reducible refine Below.setCell ?_ (by first | omega | (simp; done) | (simp; omega)) _ | with_reducible refine Below.alloc ?_ (by first | omega | (simp; done) | (simp; omega)) _)))).1, (HW.out _ (by (repeat (first | with_reducible assumption | with_reducible exact Below.refl _ _ | simp only [Below.drew_iff] | simp only [Below.drewN_iff] | with_reducible refine Below.setCell ?_ (by first | omega | (simp; done) | (simp; omega)) _ | with_reducible refine Below.alloc ?_ (by first | omega | (simp; done) | (simp; omega)) _)))).2.1, (HW.out _ (by (repeat (first | with_reducible assumption | with_reducible exact Below.refl _ _ | simp only [Below.drew_iff] | simp only [Below.drewN_iff] | with_reducible refine Below.setCell ?_ (by first | omega | (simp; done) | (simp; omega)) _ | with_reducible refine Below.alloc ?_ (by first | omega | (simp; done) | (simp; omega)) _)))).2.2.1, (HW.out _ (by (repeat (first | with_reducible assumption | with_reducible exact Below.refl _ _ | simp only [Below.drew_iff] | simp only [Below.drewN_iff] | with_reducible refine Below.setCell ?_ (by first | omega | (simp; done) | (simp; omega)) _ | with_reducible refine Below.alloc ?_ (by first | omega | (simp; done) | (simp; omega)) _)))).2.2.2.1, (HW.out _ (by (repeat (first | with_reducible assumption | with_reducible exact Below.refl _ _ | simp only [Below.drew_iff] | simp only [Below.drewN_iff] | with_reducible refine Below.setCell ?_ (by first | omega | (simp; done) | (simp; omega)) _ | with_reducible refine Below.alloc ?_ (by first | omega | (simp; done) | (simp; omega)) _)))).2.2.2.2.1, (HW.out _ (by (repeat (first | with_reducible assumption | with_reducible exact Below.refl _ _ | simp only [Below.drew_iff] | simp only [Below.drewN_iff] | with_reducible refine Below.setCell ?_ (by first | omega | (simp; done) | (simp; omega)) _ | with_reducible refine Below.alloc ?_ (by first | omega | (simp; done) | (simp; omega)) _)))).2.2.2.2.2.1, (HW.out _ (by (repeat (first | with_reducible assumption | with_reducible exact Below.refl _ _ | simp only [Below.drew_iff] | simp only [Below.drewN_iff] | with_reducible refine Below.setCell ?_ (by first | omega | (simp; done) | (simp; omega)) _ | with_reducible refine Below.alloc ?_ (by first | omega | (simp; done) | (simp; omega)) _)))).2.2.2.2.2.2⟩ | go_keep)
              (first
                | (go_at_call 23; (fail_if_success (have tok := hb1)); refine (Hor.out _).mono ?_; rintro e w1 ⟨rfl, hb1⟩; have acc1 : Below wr.heap.size wr w1 := below_step (by (repeat (first | with_reducible assumption | with_reducible exact Below.refl _ _ | simp only [Below.drew_iff] | simp only [Below.drewN_iff] | with_reducible refine Below.setCell ?_ (by first | omega | (simp; done) | (simp; omega)) _ | with_reducible refine Below.alloc ?_ (by first | omega | (simp; done) | (simp; omega)) _))) hb1; have zz1 := acc1.size; obtain ⟨s1_0, s1_1, s1_2, s1_3, s1_4, s1_5, s1_6⟩ := HW.out _ acc1))
            obtain ⟨s1, _, _, _, _, s6, s7⟩ := HW.out _ acc1
            have Hown2 := Lib.hid (Own.kept Hown1.out acc1)
            have Hblk2 := Lib.hid (Blk.kept Hblk1.out acc1)
            have Hkp2 := Lib.hid (Kp.step Hkp1.out acc1 (by omega))
            go_wp2_with (at_builtin; refine wpList_append_pol rfl (.tmp 40) (.tmp 42) rfl base (.slice (some ⟨g0, 0, none⟩) (j + 2) c1) h1 rfl (Hown2.out.alloc _) (w1.heap.size + 1) (some ⟨w1.heap.size, 0, none⟩) 1 1 [(px, py)] rfl (row_one _ _ _ _ (by simp) (by simp)) (by have := Hmm.out; omega) (by simp; omega) ?_; intro v' w3 hown3 hg3 _; obtain ⟨A3, c3, rfl, _, _⟩ := hown3.form_n (n := h1.length + 1) (by simp); have b3 := Blk.grown (Hblk2.out.alloc _) hg3 (fun e => by have := (hlt1 _ e).1; omega); obtain ⟨r1, r2⟩ := b3.one)
            go_roundw
            case rel => exact ⟨k + 1, _, h1 ++ [(px, py)], by omega, by go_num, by rw [Hnx.out, ← Hh0.out, Hpm.out], by have := Hmm.out; simp; omega, fun _ => by have := Hmm.out; simp; omega, by have := Hmm.out; simp; omega, hown3.set hvb _, b3.set1 _, Kp.setCell (Kp.grown (Kp.step Hkp2.out ((Below.refl _ _).alloc (Nat.le_refl _) _) (by first | omega | (simp; omega))) hg3 (fun q e => (hlt1 q e).1) (by simp; omega)) _ _⟩
            case measure => simp [intOf]; omega
          · have Hpm := Lib.hid hpm
            clear hpm
            go_wp2_with fail
            go_region_held3 (fun w' => w'.cell? ⟨hv, 0, none⟩ = some (.slice (some ⟨g0, 0, none⟩) (j + 2) c1) ∧ w'.cell? ⟨g0, j * 2, none⟩ = some (.int .i64 ax) ∧ w'.cell? ⟨g0, j * 2 + 1, none⟩ = some (.int .i64 ay) ∧ w'.cell? ⟨g0, (j + 1) * 2, none⟩ = some (.int .i64 bx) ∧ w'.cell? ⟨g0, (j + 1) * 2 + 1, none⟩ = some (.int .i64 by') ∧ w'.cell? ⟨wo.heap.size, 0, none⟩ = some (.int .i64 px) ∧ w'.cell? ⟨wo.heap.size, 1, none⟩ = some (.int .i64 py))
              (first | (refine ⟨?_, ?_, ?_, ?_, ?_, ?_, ?_⟩ <;> with_reducible assumption) | exact ⟨(HW.out _ (by (repeat (first | with_reducible assumption | with_reducible exact Below.refl _ _ | simp only [Below.drew_iff] | simp only [Below.drewN_iff] | with_reducible refine Below.setCell ?_ (by first | omega | (simp; done) | (simp; omega)) _ | with_reducible refine Below.alloc ?_ (by first | omega | (simp; done) | (simp; omega)) _)))).1, (HW.out _ (by (repeat (first | with_reducible assumption | with_reducible exact Below.refl _ _ | simp only [Below.drew_iff] | simp only [Below.drewN_iff] | with_reducible refine Below.setCell ?_ (by first | omega | (simp; done) | (simp; omega)) _ | with_reducible refine Below.alloc ?_ (by first | omega | (simp; done) | (simp; omega)) _)))).2.1, (HW.out _ (by (repeat (first | with_reducible assumption | with_reducible exact Below.refl _ _ | simp only [Below.drew_iff] | simp only [Below.drewN_iff] | with_reducible refine Below.setCell ?_ (by first | omega | (simp; done) | (simp; omega)) _ | with_reducible refine Below.alloc ?_ (by first | omega | (simp; done) | (simp; omega)) _)))).2.2.1, (HW.out _ (by (repeat (first | with_reducible assumption | with_reducible exact Below.refl _ _ | simp only [Below.drew_iff] | simp only [Below.drewN_iff] | with_reducible refine Below.setCell ?_ (by first | omega | (simp; done) | (simp; omega)) _ | with_reducible refine Below.alloc ?_ (by first | omega | (simp; done) | (simp; omega)) _)))).2.2.2.1, (HW.out _ (by (repeat (first | with_reducible assumption | with_reducible exact Below.refl _ _ | simp only [Below.drew_iff] | simp only [Below.drewN_iff] | with_reducible refine Below.setCell ?_ (by first | omega | (simp; done) | (simp; omega)) _ | with_reducible refine Below.alloc ?_ (by first | omega | (simp; done) | (simp; omega)) _)))).2.2.2.2.1, (HW.out _ (by (repeat (first | with_reducible assumption | with_reducible exact Below.refl _ _ | simp only [Below.drew_iff] | simp only [Below.drewN_iff] | with_reducible refine Below.setCell ?_ (by first | omega | (simp; done) | (simp; omega)) _ | with_reducible refine Below.alloc ?_ (by first | omega | (simp; done) | (simp; omega)) _)))).2.2.2.2.2.1, (HW.out _ (by (repeat (first | with_reducible assumption | with_reducible exact Below.refl _ _ | simp only [Below.drew_iff] | simp only [Below.drewN_iff] | with_reducible refine Below.setCell ?_ (by first | omega | (simp; done) | (simp; omega)) _ | with_reducible refine Below.alloc ?_ (by first | omega | (simp; done) | (simp; omega)) _)))).2.2.2.2.2.2⟩ | go_keep)
              (first
                | (go_at_call 23; (fail_if_success (have tok := hb1)); refine (Hor.out _).mono ?_; rintro e w1 ⟨rfl, hb1⟩; have acc1 : Below wr.heap.size wr w1 := below_step (by (repeat (first | with_reducible assumption | with_reducible exact Below.refl _ _ | simp only [Below.drew_iff] | simp only [Below.drewN_iff] | with_reducible refine Below.setCell ?_ (by first | omega | (simp; done) | (simp; omega)) _ | with_reducible refine Below.alloc ?_ (by first | omega | (simp; done) | (simp; omega)) _))) hb1; have zz1 := acc1.size; obtain ⟨s1_0, s1_1, s1_2, s1_3, s1_4, s1_5, s1_6⟩ := HW.out _ acc1))
            have Hcut2 := Lib.hid (Own.kept Hcut.out acc1)
            have Hblk2 := Lib.hid (Blk.kept Hblk1.out acc1)
            have Hpb2 := Lib.hid (Blk.kept Hpb.out acc1)
            have Hkp2 := Lib.hid (Kp.step Hkp1.out acc1 (by omega))
            obtain ⟨s1, s2⟩ := Hblk2.out.one
            go_wp2
            go_roundw
            case rel => exact ⟨_, h1.dropLast, Hpm.out, by rw [Hdn.out]; have := Hmm.out; omega, by rw [Hdn.out]; have := Hmm.out; omega, Own.set Hcut2.out hvb _, Hblk2.out.set1 _, Hpb2.out.far (by show wo.heap.size ≠ hv; omega) _, Kp.setCell Hkp2.out _ _⟩
            case measure =>
              rw [lenAt_eq (k1), lenAt_eq (World.cell?_setCell_same _ _ _ s1)]
              omega
    · have e : k = n := by omega
      subst e
      have hh2 : h = halfL fr h0 ps := by rw [hh, List.take_of_length_le (by rw [Hpl.out]; omega)]
      obtain ⟨j, hj⟩ : ∃ j, h.length = j + 1 := ⟨h.length - 1, by omega⟩
      obtain ⟨A1, c1, rfl, _, hlt1⟩ := hown.form_n hj
      obtain ⟨g0, rfl, -, hcap, hbg, hg0, hmem⟩ := hown.mem (by omega)
      obtain ⟨k1, k2⟩ := hblk.one
      have hdl : h.dropLast = h.take j := by rw [List.dropLast_eq_take, hj]; rfl
      have hcut := hown.cut (k := j) (by omega)
      rw [← hdl, hh2] at hcut
      have Hcut := Lib.hid hcut
      have Hblk := Lib.hid hblk
      have Hkp := Lib.hid hkp
      have i3 : (fr : Int) ≤ (j : Int) := by omega
      have i5 : (0 : Int) ≤ (j : Int) := by omega
      have i6 : IntKind.i64.wrap (j : Int) = (j : Int) := IntWalk.i64_in _ (by omega)
      have i7 : max (j : Int) (fr : Int) = (j : Int) := by omega
      have m1 : (j : Int) ≤ (c1 : Int) := by omega
      have m2 : j ≤ c1 := by omega
      clear hh hh2 hdl hcut hown hblk hkp hmem hj
      go_wp2
      go_end0
      exact ⟨rfl, _, Own.set Hcut.out hvb _, Hblk.out.set1 _, Kp.setCell Hkp.out _ _⟩
end Go.Proofs.Ytklkkehhmmipeaa
