/- The reference's form and Set. -/
import Derived.Test.YtiebchfdbejfbaaFormMath
import Derived.Deep.RegionHeldLaw
import Derived.Deep.DeepCutAuto
namespace Go.Proofs.Ytiebchfdbejfbaa
open Go.RowKit
attribute [local go_sem ↓] Go.wp_at_zero Go.wp_at_succ

theorem Own.store2 {w : World} {base g cap : Nat} {ws : List (Int × Int)} {l : Int × Int} (h : Own w base (.slice (some ⟨g, 0, none⟩) (ws.length + 1) cap) (ws ++ [l])) (y : Int) :
    Own (w.setCell ⟨g, ws.length * 2 + 1, none⟩ (.int .i64 y)) base (.slice (some ⟨g, 0, none⟩) (ws.length + 1) cap) (ws ++ [(l.1, y)]) := by
  have hlen : (ws ++ [l]).length = ws.length + 1 := by simp
  have hlen' : (ws ++ [(l.1, y)]).length = ws.length + 1 := by simp
  have hf : (flat (ws ++ [l])).set (ws.length * 2 + 1) (.int .i64 y) = flat (ws ++ [(l.1, y)]) := by
    rw [flat_append, flat_append, ← flat_len]
    simp [flat]
  unfold Own at h ⊢
  rw [hlen] at h
  rw [hlen', ← hf]
  exact (h.stored _ _).1
theorem step_append_ivs {w : World} {ops : Array Oper} {o : Oper} {a : Act} {K : Act → World → Prop} {Q : Exit → Act → World → Prop} {E : Prop} (hgd : o.guard = none) (s x : Operand)
    (ho : o.op = .call { callee := .builtin .append, args := #[s, x], argTypes := #[33, 33] })
    (base : Nat) (v : Value) (xs : List (Int × Int)) (hs : a.eval s = v) (hown : Own w base v xs) (B : Nat) (A : Option Addr) (m c : Nat) (ys : List (Int × Int)) (hx : a.eval x = .slice A m c) (hr : Ivs w B A m ys)
    (hsz : xs.length + m ≤ 1000000000000) (hbase : base ≤ w.heap.size)
    (h : ∀ v' w', Own w' base v' (xs ++ ys) → w.grownBy w' v.ownBlock → (v'.ownBlock = v.ownBlock ∨ v'.ownBlock = some w.heap.size) → K (a.put o.dst v') w') :
    if Region.wanted o (yielded ops a.tmps) = true then Oper.wp Try.prog o a w K Q else E := by
  have hw : Region.wanted o (yielded ops a.tmps) = true := by simp [Region.wanted, hgd]
  rw [if_pos hw]
  exact wp_append_ivs s x ho base v xs hs hown B A m c ys hx hr hsz hbase h

set_option maxHeartbeats 3200000 in
set_option maxRecDepth 20000 in
theorem form_any (kd : Int) (hkd : kd = 1 ∨ kd = 2 ∨ kd = 3) (A A' : Option Addr) (n c n' c' : Nat) (xs ys : List (Int × Int)) (w : World) (h : Ivs w w.heap.size A n xs) (h' : Ivs w w.heap.size A' n' ys) (hn : n ≤ 10000) (hn' : n' ≤ 10000)
    (hv : Val (xs ++ ys)) (hr : InR (xs ++ ys)) :
    Calls Try.prog 51 #[.slice A n c, .slice A' n' c', .int .i64 kd] w (OwnRet (setL kd xs ys) w) := by
  have hl := h.len
  have hl' := h'.len
  have Hv := Lib.hid hv
  have Hr := Lib.hid hr
  clear hv hr
  go_enter Try.func51, Try.ntmps51
  go_wp2_with (first
    | (at_builtin; refine wpList_append_ivs rfl (.tmp 13) (.tmp 14) rfl w.heap.size (.slice (some ⟨w.heap.size, 0, none⟩) 0 0) [] rfl (Own.made w _ rfl (Nat.le_refl _)) _ A n c xs rfl (h.in_ (below_new (Nat.le_refl _) _) (Nat.le_refl _)) (by simp; omega) (by simp) ?_; intro v1 w1 hown1 hg1 _; rw [List.nil_append] at hown1; have hb1 : Below w.heap.size w w1 := below_grown (below_new (Nat.le_refl _) _) hg1 (by simp) (by intro k hk; simp [Value.ownBlock] at hk; omega); obtain ⟨A1, c1, rfl, hi1, hlt1⟩ := hown1.form_n hl)
    | (at_builtin; refine wpList_append_ivs rfl (.tmp 15) (.tmp 16) rfl w.heap.size (.slice A1 n c1) xs rfl hown1 _ A' n' c' ys rfl (h'.below hb1) (by omega) hb1.size ?_; intro v2 w2 hown2 hg2 _; have hb2 : Below w.heap.size w w2 := below_grown hb1 hg2 hb1.size (fun k hk => (hlt1 k hk).1); obtain ⟨A2, c2, rfl, hi2, _⟩ := hown2.form_n (n := n + n') (by simp; omega))
    | (go_at_call 56; refine (ends_any _ _ _ (xs ++ ys) _ hi2 (by omega) Hr.out).mono ?_; rintro e w3 ⟨eb, eo, L, ec, es, rfl, t1, t2, t3, t4, hb3⟩))
  have acc3 : Below w.heap.size w w3 := hb2.trans (hb3.mono hb2.size)
  have hsz3 := acc3.size
  have hL := t3.1
  have hLn := t4.2.2
  rw [List.length_append] at hLn
  have hLb : L ≤ 40000 := by omega
  clear hown1 hg1 hb1 hi1 hlt1 hown2 hg2 hb2 hi2 hb3 hLn
  go_loopw [8, 9] (fun v i wr => ∃ (k : Nat) (zs : List (Int × Int)), (k < L ∨ (L = 0 ∧ k = 0)) ∧ i = .int .i64 k ∧ Own wr w3.heap.size v zs ∧ FInv kd xs ys es k zs ∧ Below w3.heap.size w3 wr) (fun _ i _ => L - (intOf i).toNat)
  case atStart => exact ⟨0, [], by omega, rfl, Own.made w3 _ rfl (Nat.le_refl _), FInv.start t4, below_new (Nat.le_refl _) _⟩
  case round =>
    obtain ⟨k, zs, hk, rfl, hown, hinv, hbel⟩ := hrel
    have hszr := hbel.size
    have accr : Below w.heap.size w wr := acc3.trans (hbel.mono hsz3)
    by_cases hlt : k + 1 < L
    · obtain ⟨p, hp, hcp⟩ := (t3.kept hbel).at_ (show k < L from by omega)
      obtain ⟨q, hq, hcq⟩ := (t3.kept hbel).at_ hlt
      have bp := es_bound t4 Hr.out hp
      have bq := es_bound t4 Hr.out hq
      obtain ⟨bp1, bp2⟩ := bp
      obtain ⟨bq1, bq2⟩ := bq
      have eb3 := t3.2.1
      obtain ⟨X, hX⟩ : ∃ b, memB p xs = b := ⟨_, rfl⟩
      obtain ⟨Y, hY⟩ : ∃ b, memB p ys = b := ⟨_, rfl⟩
      have hkeep : keptN kd xs ys p ↔ keepB kd X Y = true := by unfold keptN; rw [hX, hY]
      have HX := Lib.hid hX
      have HY := Lib.hid hY
      have Hkeep := Lib.hid hkeep
      have Hp := Lib.hid hp
      have Hq := Lib.hid hq
      have Hinv := Lib.hid hinv
      clear hX hY hkeep hp hq hinv
      have g0 : (0 : Int) ≤ (k : Int) := by omega
      have g1 : (k : Int) < (L : Int) := by omega
      have g2 : (k : Int) + 1 < (L : Int) := by omega
      have g3 : (0 : Int) ≤ (k : Int) + 1 := by omega
      have hwk : IntKind.i64.wrap ((k : Int) + 1) = (k : Int) + 1 := IntWalk.i64_in _ (by omega)
      have i4 : Ivs wr wr.heap.size A n xs := h.in_ accr accr.size
      go_wp2_with fail
      refine (in_any A n c xs p wr i4 (by omega)).mono ?_
      rw [HX.out]
      rintro e w4 ⟨rfl, hb4⟩
      have acc4 : Below w.heap.size w w4 := accr.trans (hb4.mono accr.size)
      have i5 : Ivs w4 w4.heap.size A' n' ys := h'.in_ acc4 acc4.size
      have hcp4 := (hb4.cell (p := ⟨eb, eo + k, none⟩) (Nat.lt_of_lt_of_le eb3 hszr)).trans hcp
      go_wp2_with fail
      refine (in_any A' n' c' ys p w4 i5 (by omega)).mono ?_
      rw [HY.out]
      rintro e w5 ⟨rfl, hb5⟩
      have hz4 := hb4.size
      have hb45 : Below wr.heap.size wr w5 := hb4.trans (hb5.mono hz4)
      clear hcp4 i4 i5 hb4 hb5 acc4
      go_upto_region 8 with fail
      go_cut [71] (fun s wx => s = .bool (!keepB kd X Y) ∧ wx = w5)
      case first =>
        rcases hkd with rfl | rfl | rfl <;> cases X <;> cases Y
        all_goals
          go_wp2
          go_meet
          exact ⟨rfl, rfl⟩
      case rest =>
        obtain ⟨rfl, rfl⟩ := hcut
        have hown5 := Own.kept hown hb45
        have hbel5 : Below w3.heap.size w3 wc := hbel.trans (hb45.mono hszr)
        have hsz5 := hbel5.size
        have hcp5 : wc.cell? ⟨eb, eo + k, none⟩ = some (.int .i64 p) := (hb45.cell (p := ⟨eb, eo + k, none⟩) (Nat.lt_of_lt_of_le eb3 hszr)).trans hcp
        have hcq5 : wc.cell? ⟨eb, eo + (k + 1), none⟩ = some (.int .i64 q) := (hb45.cell (p := ⟨eb, eo + (k + 1), none⟩) (Nat.lt_of_lt_of_le eb3 hszr)).trans hcq
        have hzl := Hinv.out.2.2.2.2
        have hwq : IntKind.i64.wrap (q - 1) = q - 1 := IntWalk.i64_in _ (by omega)
        have hlt3 := World.ownsRow.lt hown5
        clear hcp hcq hown hbel
        cases hkp : keepB kd X Y
        · have hnk : ¬ keptN kd xs ys p := fun hh => by
            have := Hkeep.out.1 hh
            rw [hkp] at this
            cases this
          have Hnext := Lib.hid (FInv.skip t4 Hinv.out Hp.out Hq.out hnk)
          clear hnk
          go_wp2
          go_roundw
          case rel => exact ⟨k + 1, zs, by omega, by go_num, hown5, Hnext.out, hbel5⟩
          case measure => simp [intOf]; omega
        · have hyk := Hkeep.out.2 hkp
          rcases List.eq_nil_or_concat zs with rfl | ⟨ws, l, rfl⟩
          · have Hnext := Lib.hid (FInv.add t4 Hr.out Hinv.out Hp.out Hq.out hyk (by simp))
            clear hyk
            obtain ⟨A3, c3, rfl, hi3, _⟩ := hown5.form_n (n := 0) rfl
            go_wp2
            go_quiet (fail)
            go_wp2
            go_region_held_law (fun w' => w'.cell? ⟨eb, eo + k, none⟩ = some (.int .i64 p) ∧ w'.cell? ⟨eb, eo + (k + 1), none⟩ = some (.int .i64 q))
              (first | go_keep | exact ⟨by assumption, by assumption⟩)
              (first
                | (refine step_append_ivs rfl (.tmp 101) (.tmp 113) rfl w3.heap.size (.slice A3 0 c3) ([]) rfl (by first | exact hown5.alloc _ | exact (hown5.drewN (nq + 1)).alloc _) (wc.heap.size + 1) (some ⟨wc.heap.size, 0, none⟩) 1 1 [(p, q - 1)] rfl (one_new _ _ _ _ (by first | rfl | simp) (by omega)) (by first | (simp; done) | (simp; omega)) (by first | exact hsz5 | (simp; done) | (simp; omega)) ?_; intro v' w6 hown6 hg6 _; have hx6 : Below w3.heap.size wc w6 := below_grown (by repeat (first | exact Below.refl _ _ | exact below_drewN (Below.refl _ _) (nq + 1) | exact below_drewN (Below.refl _ _) nq | refine Below.drew ?_ | refine Below.alloc ?_ (by first | exact hsz5 | (simp; omega)) _)) hg6 (by first | (simp; omega) | omega) (fun y hy => (hlt3 y hy).1); have r0 : w6.cell? ⟨eb, eo + k, none⟩ = some (.int .i64 p) := (hx6.cell (p := ⟨eb, eo + k, none⟩) eb3).trans hcp5; have r1 : w6.cell? ⟨eb, eo + (k + 1), none⟩ = some (.int .i64 q) := (hx6.cell (p := ⟨eb, eo + (k + 1), none⟩) eb3).trans hcq5))
            all_goals
              go_wp2
              go_roundw
              case rel => exact ⟨k + 1, [] ++ [(p, q - 1)], by omega, by go_num, hown6, Hnext.out, hbel5.trans hx6⟩
              case measure => simp [intOf]; omega
          · rw [List.concat_eq_append] at *
            have hlin := Hinv.out.2.1 l (by simp)
            obtain ⟨o1, o2, o3, o4⟩ := hlin
            obtain ⟨g, cap, rfl, hbg, hgs, hnc, hcm, hl0, hl1, hf0, hf1⟩ := hown5.last
            have hwl : ws.length ≤ 50000 := by simp at hzl; omega
            have j0 : (0 : Int) < (ws.length : Int) + 1 := by omega
            have j1 : (0 : Int) ≤ (ws.length : Int) := by omega
            have j2 : (ws.length : Int) < (ws.length : Int) + 1 := by omega
            by_cases hjn : l.2 + 1 = p
            · have Hnext := Lib.hid (FInv.join t4 Hr.out Hinv.out Hp.out Hq.out hyk hjn)
              have hd : (l.2 + 1 == p) = true := by simp [hjn]
              have Hjn := Lib.hid hjn
              clear hyk hjn
              go_wp2
              go_quiet (fail)
              go_wp2
              go_roundw
              case rel => exact ⟨k + 1, ws ++ [(l.1, q - 1)], by omega, by go_num, (hown5.drewN nq).store2 _, Hnext.out, (below_drewN hbel5 nq).setCell hbg _⟩
              case measure => simp [intOf]; omega
            · have hgap : ∀ z ∈ ws ++ [l], z.2 + 1 < p := fun z hz => by
                have h1 := (Hinv.out.2.2.1 p Hp.out).1 l (by simp)
                rcases List.mem_append.1 hz with hz | hz
                · have h2 := (List.pairwise_append.1 Hinv.out.1.2).2.2 z hz l (by simp)
                  have h3 := Hinv.out.1.1 l (by simp)
                  omega
                · simp at hz; subst hz; omega
              have Hnext := Lib.hid (FInv.add t4 Hr.out Hinv.out Hp.out Hq.out hyk hgap)
              have hd : (l.2 + 1 == p) = false := by simp [hjn]
              have Hjn := Lib.hid hjn
              clear hyk hjn hgap
              go_wp2
              go_quiet (fail)
              go_wp2
              go_region_held_law (fun w' => w'.cell? ⟨eb, eo + k, none⟩ = some (.int .i64 p) ∧ w'.cell? ⟨eb, eo + (k + 1), none⟩ = some (.int .i64 q))
                (first | go_keep | exact ⟨by assumption, by assumption⟩)
                (first
                  | (refine step_append_ivs rfl (.tmp 101) (.tmp 113) rfl w3.heap.size (.slice (some ⟨g, 0, none⟩) (ws.length + 1) cap) (ws ++ [l]) rfl (by first | exact hown5.alloc _ | exact (hown5.drewN (nq + 1)).alloc _) (wc.heap.size + 1) (some ⟨wc.heap.size, 0, none⟩) 1 1 [(p, q - 1)] rfl (one_new _ _ _ _ (by first | rfl | simp) (by omega)) (by first | (simp; done) | (simp; omega)) (by first | exact hsz5 | (simp; done) | (simp; omega)) ?_; intro v' w6 hown6 hg6 _; have hx6 : Below w3.heap.size wc w6 := below_grown (by repeat (first | exact Below.refl _ _ | exact below_drewN (Below.refl _ _) (nq + 1) | exact below_drewN (Below.refl _ _) nq | refine Below.drew ?_ | refine Below.alloc ?_ (by first | exact hsz5 | (simp; omega)) _)) hg6 (by first | (simp; omega) | omega) (fun y hy => (hlt3 y hy).1); have r0 : w6.cell? ⟨eb, eo + k, none⟩ = some (.int .i64 p) := (hx6.cell (p := ⟨eb, eo + k, none⟩) eb3).trans hcp5; have r1 : w6.cell? ⟨eb, eo + (k + 1), none⟩ = some (.int .i64 q) := (hx6.cell (p := ⟨eb, eo + (k + 1), none⟩) eb3).trans hcq5))
              all_goals
                go_wp2
                go_roundw
                case rel => exact ⟨k + 1, ws ++ [l] ++ [(p, q - 1)], by omega, by go_num, hown6, Hnext.out, hbel5.trans hx6⟩
                case measure => simp [intOf]; omega
    · have hdone := FInv.done t4 hinv (by omega) (by omega)
      have hset := setL_eq Hv.out hdone.1 hdone.2
      have Hset := Lib.hid hset
      clear hdone hset hinv
      go_wp2
      go_ret
      exact ⟨_, rfl, by rw [← Hset.out]; exact hown.low hsz3, accr⟩
end Go.Proofs.Ytiebchfdbejfbaa
