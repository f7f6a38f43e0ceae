/- The reference's add: a number into a sorted list. -/
import Derived.Test.YtiebchfdbejfbaaAppends
import Derived.Deep.RegionLaw
import Derived.BigQuiet
import Derived.Deep.DrawnRows
namespace Go.Proofs.Ytiebchfdbejfbaa
open Go.RowKit
attribute [local go_sem ↓] Go.wp_at_zero Go.wp_at_succ

/-- A list of numbers as it lies in memory from an address on. -/
def RowI (w : World) (b off n : Nat) (zs : List Int) : Prop := zs.length = n ∧ b < w.heap.size ∧ ∀ k z, zs[k]? = some z → w.cell? ⟨b, off + k, none⟩ = some (.int .i64 z)
section
variable {w w' : World} {b off n : Nat} {zs : List Int}
theorem RowI.below {B : Nat} (h : RowI w b off n zs) (hb : Below B w w') (hB : b < B) : RowI w' b off n zs :=
  ⟨h.1, Nat.lt_of_lt_of_le h.2.1 hb.size, fun k z hz => (hb.cell (p := ⟨b, off + k, none⟩) hB).trans (h.2.2 k z hz)⟩
theorem RowI.kept (h : RowI w b off n zs) (hb : Below w.heap.size w w') : RowI w' b off n zs := h.below hb h.2.1
theorem RowI.take (h : RowI w b off n zs) {k : Nat} (hk : k ≤ n) : RowI w b off k (zs.take k) :=
  ⟨by rw [List.length_take, h.1]; omega, h.2.1, fun j z hz => h.2.2 j z (by rw [List.getElem?_take] at hz; split at hz; exact hz; cases hz)⟩
theorem RowI.drop (h : RowI w b off n zs) (k : Nat) : RowI w b (off + k) (n - k) (zs.drop k) :=
  ⟨by rw [List.length_drop, h.1], h.2.1, fun j z hz => by
    rw [List.getElem?_drop] at hz
    have := h.2.2 _ z hz
    rw [show off + k + j = off + (k + j) from by omega]; exact this⟩
theorem RowI.at_ {k : Nat} (h : RowI w b off n zs) (hk : k < n) : ∃ z, zs[k]? = some z ∧ w.cell? ⟨b, off + k, none⟩ = some (.int .i64 z) := by
  have hl : k < zs.length := by have := h.1; omega
  exact ⟨zs[k], List.getElem?_eq_getElem hl, h.2.2 k _ (List.getElem?_eq_getElem hl)⟩
end

/-- The slice value v owns the numbers zs. -/
def OwnI (w : World) (base : Nat) (v : Value) (zs : List Int) : Prop := w.ownsRow base 3 1 v zs.length (zs.map fun z => .int .i64 z)
theorem int_info : (Try.prog.info? 3).map (fun i => (i.zero, i.size, i.bytes)) = some (some (.int .i64 0), 1, 8) := by kernel_rfl
theorem OwnI.made {g : Nat} {w : World} {base : Nat} (hg : w.heap[g]? = some (.cells #[] 3 (0, 0))) (hb : base ≤ g) : OwnI w base (.slice (some ⟨g, 0, none⟩) 0 0) [] :=
  ⟨rfl, .inr ⟨g, 0, #[], rfl, hb, hg, Nat.le_refl _, by simp [maxLen], rfl, rfl⟩⟩
theorem OwnI.form {w : World} {base : Nat} {v : Value} {zs : List Int} (h : OwnI w base v zs) (hp : 0 < zs.length) :
    ∃ g c, v = .slice (some ⟨g, 0, none⟩) zs.length c ∧ zs.length ≤ c ∧ c ≤ 9223372036854775807 ∧ base ≤ g ∧ RowI w g 0 zs.length zs := by
  have hlt := World.ownsRow.lt h
  rcases h.2 with ⟨rfl, h0⟩ | ⟨g, cap, cur, rfl, hb, hg, hnc, hcm, hcs, htake⟩
  · omega
  · refine ⟨g, cap, rfl, hnc, by simp only [maxLen] at hcm; omega, hb, rfl, (hlt g rfl).2, fun k z hz => ?_⟩
    have hz' : (zs.map fun z => Value.int .i64 z)[k]? = some (.int .i64 z) := by rw [List.getElem?_map, hz]; rfl
    rw [cell_of_row w g (0 + k) cur _ (0, 0) hg, Nat.zero_add]
    rw [← htake, List.getElem?_take] at hz'
    split at hz'
    · simpa using hz'
    · cases hz'
theorem OwnI.new {g : Nat} (w : World) (base : Nat) (hg : w.heap.size = g) (hb : base ≤ g) : OwnI (w.alloc (.cells #[] 3)) base (.slice (some ⟨g, 0, none⟩) 0 0) [] := by
  subst hg
  exact World.ownsRow_made w #[] 0 hb (by simp [maxLen]) rfl
theorem OwnI.alloc {w : World} {base : Nat} {v : Value} {zs : List Int} (h : OwnI w base v zs) (o : Obj) : OwnI (w.alloc o) base v zs := World.ownsRow.alloc h o
theorem OwnI.drew {w : World} {base : Nat} {v : Value} {zs : List Int} (h : OwnI w base v zs) : OwnI w.drew base v zs := h
theorem RowI.alloc {w : World} {b off n : Nat} {zs : List Int} (h : RowI w b off n zs) (o : Obj) : RowI (w.alloc o) b off n zs := h.kept (below_new (Nat.le_refl _) o)
theorem RowI.drew {w : World} {b off n : Nat} {zs : List Int} (h : RowI w b off n zs) : RowI w.drew b off n zs := h
theorem RowI.new {g : Nat} (w : World) (m : Int) (hg : w.heap.size = g) : RowI (w.alloc (.cells #[.int .i64 m] 3)) g 0 1 [m] := by
  subst hg
  refine ⟨rfl, by simp, fun k z hz => ?_⟩
  match k, hz with
  | 0, hz => simp at hz; subst hz; simp
theorem RowI.grown {w w' : World} {b off n : Nat} {zs : List Int} {v : Value} (h : RowI w b off n zs) (hg : w.grownBy w' v.ownBlock) (hne : v.ownBlock ≠ some b) : RowI w' b off n zs :=
  ⟨h.1, Nat.lt_of_lt_of_le h.2.1 hg.size, fun k z hz => (hg.cell_far ⟨b, off + k, none⟩ h.2.1 (fun e => hne e.symm)).trans (h.2.2 k z hz)⟩
theorem RowI.dropc {w : World} {b off n c : Nat} {zs : List Int} (h : RowI w b off n zs) (hc : n ≤ c) (k : Nat) : RowI w b (if c = k then off else off + k) (n - k) (zs.drop k) := by
  by_cases e : c = k
  · rw [if_pos e]
    have hz : zs.drop k = [] := List.drop_of_length_le (by have := h.1; omega)
    rw [hz]
    exact ⟨by simp; omega, h.2.1, fun j z hj => by simp at hj⟩
  · rw [if_neg e]; exact h.drop k
theorem ite_addr (b off c k : Nat) (n m : Nat) : Value.slice (if c = k then some ⟨b, off, none⟩ else some ⟨b, off + k, none⟩) n m = Value.slice (some ⟨b, if c = k then off else off + k, none⟩) n m := by split <;> rfl
theorem own_ne {g b : Nat} {A : Option Nat} (h : (Value.slice (some ⟨g, 0, none⟩) 0 0).ownBlock = A) (hne : g ≠ b) : A ≠ some b := by
  rw [← h]
  intro e
  simp [Value.ownBlock] at e
  exact hne e
section
variable {w : World}
/-- append(s, x...), s of the call's own, x whatever slice reads as ys. -/
theorem run_append_ints (base : Nat) (ty : TypeId) (v : Value) (xs : List Int) (hown : OwnI w base v xs) (b off m c : Nat) (ys : List Int) (hr : RowI w b off m ys)
    (hsz : xs.length + m ≤ 1000000000000) (hbase : base ≤ w.heap.size) :
    ∃ v' w', (Builtin.append_ #[36, 36] ty #[v, .slice (some ⟨b, off, none⟩) m c]).run Try.prog w = .ok v' w' ∧ OwnI w' base v' (xs ++ ys) ∧ w.grownBy w' v.ownBlock ∧ (v'.ownBlock = v.ownBlock ∨ v'.ownBlock = some w.heap.size) := by
  obtain ⟨i0, hi0, hz0, hz1, hz2⟩ := info_parts int_info
  have hm := hr.1
  have hcells : ∀ j u, (ys.map fun z => Value.int .i64 z)[j]? = some u → w.cell? ((⟨b, off, none⟩ : Addr).add j) = some u := by
    intro j u hj
    rw [List.getElem?_map] at hj
    cases hz : ys[j]? with
    | none => rw [hz] at hj; cases hj
    | some z =>
      rw [hz] at hj
      injection hj with hj
      subst hj
      rw [← hr.2.2 j z hz]; congr 1; unfold Addr.add; split <;> simp_all
  obtain ⟨v', w', hrun, h2, h3, _, h5⟩ := run_append_own_at (P := Try.prog) w base 36 ty 3 i0 _ 1 8 Try.underlying36 hi0 hz0 hz1 hz2 rfl (by omega) v xs.length _ hown ⟨b, off, none⟩ m c (ys.map fun z => .int .i64 z) (by rw [List.length_map, hm]; omega) hcells (by intro u hu; simp at hu; obtain ⟨z, _, rfl⟩ := hu; rfl) (by simp only [maxLen]; omega) (by omega) hbase
  refine ⟨v', w', hrun, ?_, h3, h5⟩
  unfold OwnI
  rw [List.map_append, List.length_append, hm]
  exact h2
theorem step_append_ints {ops : Array Oper} {o : Oper} {a : Act} {K : Act → World → Prop} {Q : Exit → Act → World → Prop} {E : Prop} (hgd : o.guard = none) (s x : Operand)
    (ho : o.op = .call { callee := .builtin .append, args := #[s, x], argTypes := #[36, 36] })
    (base : Nat) (v : Value) (xs : List Int) (hs : a.eval s = v) (hown : OwnI w base v xs) (b off m c : Nat) (ys : List Int) (hx : a.eval x = .slice (some ⟨b, off, none⟩) m c) (hr : RowI w b off m ys)
    (hsz : xs.length + m ≤ 1000000000000) (hbase : base ≤ w.heap.size)
    (h : ∀ v' w', OwnI w' base v' (xs ++ ys) → w.grownBy w' v.ownBlock → (v'.ownBlock = v.ownBlock ∨ v'.ownBlock = some w.heap.size) → K (a.put o.dst v') w') :
    if Region.wanted o (yielded ops a.tmps) = true then Oper.wp Try.prog o a w K Q else E := by
  have hw : Region.wanted o (yielded ops a.tmps) = true := by simp [Region.wanted, hgd]
  rw [if_pos hw]
  obtain ⟨v', w', hrun, h2, h3, h4⟩ := run_append_ints base o.type v xs hown b off m c ys hr hsz hbase
  unfold Oper.wp execOp
  simp only [ho, resolve, invoke, builtin, Sem.run_bind, Sem.run_pure, Result.andThen_ok, List.map_toArray, List.map_cons, List.map_nil, hs, hx, hrun]
  exact h v' w' h2 h3 h4
end

/-- A number into a sorted list. -/
def addL (m : Int) : List Int → List Int
  | [] => [m]
  | z :: zs => if z < m then z :: addL m zs else if z = m then z :: zs else m :: z :: zs
theorem addL_mem (m n : Int) : ∀ zs, n ∈ addL m zs ↔ n = m ∨ n ∈ zs
  | [] => by simp [addL]
  | z :: zs => by
    have ih := addL_mem m n zs
    unfold addL
    split
    · rw [List.mem_cons, ih, List.mem_cons]
      constructor
      · rintro (h | h | h) <;> simp [h]
      · rintro (h | h | h) <;> simp [h]
    · split
      · rename_i h; subst h; simp
      · simp
theorem addL_sorted (m : Int) : ∀ zs : List Int, zs.Pairwise (· < ·) → (addL m zs).Pairwise (· < ·)
  | [], _ => by simp [addL]
  | z :: zs, h => by
    obtain ⟨h1, h2⟩ := List.pairwise_cons.1 h
    have ih := addL_sorted m zs h2
    unfold addL
    split
    · rename_i hz
      refine List.pairwise_cons.2 ⟨fun y hy => ?_, ih⟩
      rcases (addL_mem m y zs).1 hy with rfl | hy
      · exact hz
      · exact h1 y hy
    · split
      · exact h
      · rename_i hz hz2
        refine List.pairwise_cons.2 ⟨fun y hy => ?_, h⟩
        rcases List.mem_cons.1 hy with rfl | hy
        · omega
        · have := h1 y hy; omega
theorem addL_len (m : Int) : ∀ zs : List Int, (addL m zs).length ≤ zs.length + 1
  | [] => by simp [addL]
  | z :: zs => by
    have ih := addL_len m zs
    unfold addL
    split
    · simp; omega
    · split <;> simp
theorem addL_pos (m : Int) : ∀ zs : List Int, 0 < (addL m zs).length
  | [] => by simp [addL]
  | z :: zs => by
    unfold addL
    split
    · simp
    · split <;> simp
theorem addL_take (m : Int) : ∀ (k : Nat) (zs : List Int), (∀ z ∈ zs.take k, z < m) → addL m zs = zs.take k ++ addL m (zs.drop k)
  | 0, zs, _ => by simp
  | k + 1, [], _ => by simp
  | k + 1, z :: zs, h => by
    have hz : z < m := h z (by simp)
    have ih := addL_take m k zs fun y hy => h y (by simp [hy])
    rw [addL, if_pos hz, ih]; simp
theorem drop_atI {zs : List Int} {k : Nat} {z : Int} (h : zs[k]? = some z) : zs.drop k = z :: zs.drop (k + 1) := by
  obtain ⟨hl, hx⟩ := List.getElem?_eq_some_iff.1 h
  rw [List.drop_eq_getElem_cons hl, hx]
theorem take_nextI {zs : List Int} {k : Nat} {z : Int} (h : zs[k]? = some z) : zs.take (k + 1) = zs.take k ++ [z] := by
  rw [List.take_add_one, h]; rfl

/-- What add hands back. -/
def AddRet (m : Int) (zs : List Int) (w : World) (e : Ending) (w' : World) : Prop :=
  ∃ b off n c, e = .returned (.slice (some ⟨b, off, none⟩) n c) ∧ n ≤ c ∧ c ≤ 9223372036854775807 ∧ RowI w' b off n (addL m zs) ∧ Below w.heap.size w w'

set_option maxHeartbeats 3200000 in
theorem put_any (b off n c : Nat) (zs : List Int) (m : Int) (w : World) (h : RowI w b off n zs) (hc : n ≤ c) (hcm : c ≤ 9223372036854775807) (hn : n ≤ 1000000) :
    Calls Try.prog 61 #[.slice (some ⟨b, off, none⟩) n c, .int .i64 m] w (AddRet m zs w) := by
  have hlen := h.1
  go_enter Try.func61, Try.ntmps61
  go_wp2
  go_loopw [5] (fun i wr => ∃ k : Nat, k ≤ n ∧ i = .int .i64 k ∧ (∀ z ∈ zs.take k, z < m) ∧ wr = w) (fun i _ => n - (intOf i).toNat)
  case atStart => exact ⟨0, Nat.zero_le _, rfl, by simp, rfl⟩
  case round =>
    obtain ⟨k, hk, rfl, hz, rfl⟩ := hrel
    have hadd := addL_take m k zs hz
    have g0 : (0 : Int) ≤ (k : Int) := by omega
    have g1 : (k : Int) ≤ (n : Int) := by omega
    have g2 : (n : Int) ≤ (c : Int) := by omega
    have g3 : (k : Int) ≤ (c : Int) := by omega
    by_cases hlt : k < n
    · obtain ⟨z, hx, hc1⟩ := h.at_ hlt
      rw [drop_atI hx, addL] at hadd
      have htk := take_nextI hx
      by_cases h1 : z < m
      · have hz' : ∀ y ∈ zs.take (k + 1), y < m := by
          rw [htk]
          intro y hy
          rcases List.mem_append.1 hy with hy | hy
          · exact hz y hy
          · simp at hy; omega
        have Hz := Lib.hid hz'
        clear hz hz' hadd htk hx
        go_wp2
        go_roundw
        case rel => exact ⟨k + 1, by omega, by go_num, Hz.out, trivial⟩
        case measure => simp [intOf]; omega
      · rw [if_neg h1] at hadd
        by_cases h2 : z = m
        · rw [if_pos h2] at hadd
          have hzz : addL m zs = zs := by rw [hadd, ← drop_atI hx, List.take_append_drop]
          have Hzz := Lib.hid hzz
          clear hz hadd htk hx hzz
          go_wp2
          go_ret
          exact ⟨_, _, _, _, rfl, hc, hcm, by rw [Hzz.out]; exact h, Below.refl _ _⟩
        · rw [if_neg h2, ← drop_atI hx] at hadd
          have Hadd := Lib.hid hadd
          clear hz hadd htk hx
          go_wp2
          go_region_law (first
            | (refine step_append_ints rfl (.tmp 33) (.tmp 36) rfl wr.heap.size (.slice (some ⟨wr.heap.size, 0, none⟩) 0 0) [] rfl (by first | exact OwnI.new _ _ (by simp) (by omega) | exact OwnI.alloc (OwnI.new _ _ (by simp) (by omega)) _ | exact OwnI.alloc (OwnI.drew (OwnI.new _ _ (by simp) (by omega))) _) b off k c (zs.take k) rfl (RowI.kept (RowI.take h hk) (by repeat (first | exact Below.refl _ _ | refine Below.drew ?_ | refine Below.alloc ?_ (by first | exact Nat.le_refl _ | (simp; omega) | simp) _))) (by simp; omega) (by first | exact Nat.le_refl _ | (simp; done) | (simp; omega)) ?_; intro v1 w1 hown1 hg1 hv1; rw [List.nil_append] at hown1; have hb1 : Below wr.heap.size wr w1 := below_grown (by repeat (first | exact Below.refl _ _ | refine Below.drew ?_ | refine Below.alloc ?_ (by first | exact Nat.le_refl _ | (simp; omega) | simp) _)) hg1 (by first | exact Nat.le_refl _ | (simp; done) | (simp; omega)) (by intro y hy; simp [Value.ownBlock] at hy; omega); have hlt1 := World.ownsRow.lt hown1; have hs1 := hb1.size; have hm1 : RowI w1 (wr.heap.size + 1) 0 1 [m] := RowI.grown (by exact RowI.new (wr.alloc (.cells #[] 3)) m (by simp)) hg1 (by simp [Value.ownBlock]))
            | (refine step_append_ints rfl (.tmp 33) (.tmp 36) rfl wr.heap.size (.slice (some ⟨wr.heap.size, 0, none⟩) 0 0) [] rfl (by first | exact OwnI.new _ _ (by simp) (by omega) | exact OwnI.alloc (OwnI.new _ _ (by simp) (by omega)) _ | exact OwnI.alloc (OwnI.drew (OwnI.new _ _ (by simp) (by omega))) _) b off k c (zs.take k) rfl (RowI.kept (RowI.take h hk) (by repeat (first | exact Below.refl _ _ | refine Below.drew ?_ | refine Below.alloc ?_ (by first | exact Nat.le_refl _ | (simp; omega) | simp) _))) (by simp; omega) (by first | exact Nat.le_refl _ | (simp; done) | (simp; omega)) ?_; intro v1 w1 hown1 hg1 hv1; rw [List.nil_append] at hown1; have hb1 : Below wr.heap.size wr w1 := below_grown (by repeat (first | exact Below.refl _ _ | refine Below.drew ?_ | refine Below.alloc ?_ (by first | exact Nat.le_refl _ | (simp; omega) | simp) _)) hg1 (by first | exact Nat.le_refl _ | (simp; done) | (simp; omega)) (by intro y hy; simp [Value.ownBlock] at hy; omega); have hlt1 := World.ownsRow.lt hown1; have hs1 := hb1.size)
            | (refine step_append_ints rfl (.tmp 33) (.tmp 36) rfl wr.heap.size (.slice (some ⟨wr.heap.size + 1, 0, none⟩) 0 0) [] rfl (by first | exact OwnI.new _ _ (by simp) (by omega) | exact OwnI.alloc (OwnI.new _ _ (by simp) (by omega)) _ | exact OwnI.alloc (OwnI.drew (OwnI.new _ _ (by simp) (by omega))) _) b off k c (zs.take k) rfl (RowI.kept (RowI.take h hk) (by repeat (first | exact Below.refl _ _ | refine Below.drew ?_ | refine Below.alloc ?_ (by first | exact Nat.le_refl _ | (simp; omega) | simp) _))) (by simp; omega) (by first | exact Nat.le_refl _ | (simp; done) | (simp; omega)) ?_; intro v1 w1 hown1 hg1 hv1; rw [List.nil_append] at hown1; have hb1 : Below wr.heap.size wr w1 := below_grown (by repeat (first | exact Below.refl _ _ | refine Below.drew ?_ | refine Below.alloc ?_ (by first | exact Nat.le_refl _ | (simp; omega) | simp) _)) hg1 (by first | exact Nat.le_refl _ | (simp; done) | (simp; omega)) (by intro y hy; simp [Value.ownBlock] at hy; omega); have hlt1 := World.ownsRow.lt hown1; have hs1 := hb1.size; have hm1 : RowI w1 wr.heap.size 0 1 [m] := RowI.grown (by exact RowI.alloc (RowI.new wr m rfl) (.cells #[] 3)) hg1 (by simp [Value.ownBlock]))
            | (refine step_append_ints rfl (.tmp 37) (.tmp 39) rfl wr.heap.size v1 (zs.take k) rfl (by first | exact hown1 | exact hown1.alloc _) (w1.heap.size) 0 1 1 [m] rfl (RowI.new w1 m (by simp)) (by simp; omega) (by first | exact hs1 | (simp; omega)) ?_; intro v2 w2 hown2 hg2 hv2; have hb2 : Below wr.heap.size wr w2 := below_grown (by repeat (first | exact hb1 | refine Below.drew ?_ | refine Below.alloc ?_ (by first | exact Nat.le_refl _ | omega | (simp; omega) | simp) _)) hg2 (by first | exact hs1 | (simp; omega)) (fun y hy => (hlt1 y hy).1); have hlt2 := World.ownsRow.lt hown2; have hs2 := hb2.size)
            | (refine step_append_ints rfl (.tmp 37) (.tmp 39) rfl wr.heap.size v1 (zs.take k) rfl (by first | exact hown1 | exact hown1.alloc _) (wr.heap.size + 1) 0 1 1 [m] rfl hm1 (by simp; omega) (by first | exact hs1 | (simp; omega)) ?_; intro v2 w2 hown2 hg2 hv2; have hb2 : Below wr.heap.size wr w2 := below_grown (by repeat (first | exact hb1 | refine Below.drew ?_ | refine Below.alloc ?_ (by first | exact Nat.le_refl _ | omega | (simp; omega) | simp) _)) hg2 (by first | exact hs1 | (simp; omega)) (fun y hy => (hlt1 y hy).1); have hlt2 := World.ownsRow.lt hown2; have hs2 := hb2.size)
            | (refine step_append_ints rfl (.tmp 37) (.tmp 39) rfl wr.heap.size v1 (zs.take k) rfl (by first | exact hown1 | exact hown1.alloc _) (wr.heap.size) 0 1 1 [m] rfl hm1 (by simp; omega) (by first | exact hs1 | (simp; omega)) ?_; intro v2 w2 hown2 hg2 hv2; have hb2 : Below wr.heap.size wr w2 := below_grown (by repeat (first | exact hb1 | refine Below.drew ?_ | refine Below.alloc ?_ (by first | exact Nat.le_refl _ | omega | (simp; omega) | simp) _)) hg2 (by first | exact hs1 | (simp; omega)) (fun y hy => (hlt1 y hy).1); have hlt2 := World.ownsRow.lt hown2; have hs2 := hb2.size)
            | (refine step_append_ints rfl (.tmp 40) (.tmp 43) rfl wr.heap.size v2 (zs.take k ++ [m]) rfl hown2 b (if c = k then off else off + k) (n - k) (c - k) (zs.drop k) (ite_addr b off c k (n - k) (c - k)) (RowI.kept (RowI.dropc h hc k) hb2) (by simp; omega) (by first | exact hs2 | simpa using hs2) ?_; intro v3 w3 hown3 hg3 hv3; have hb3 : Below wr.heap.size wr w3 := below_grown hb2 hg3 (by first | exact hs2 | simpa using hs2) (fun y hy => (hlt2 y hy).1); obtain ⟨g, cc, rfl, r1, r2, r3, r4⟩ := hown3.form (by simp; omega)))
          all_goals go_wp2
          all_goals
            go_ret
            have hL : (zs.take k ++ [m] ++ zs.drop k).length = k + (n - k + 1) := by simp; omega
            rw [hL] at r1 r4
            exact ⟨_, _, _, _, rfl, r1, r2, by rw [Hadd.out]; simpa using r4, hb3⟩
    · have hdn : zs.drop k = [] := List.drop_of_length_le (by omega)
      rw [hdn, addL] at hadd
      have hadd2 : addL m zs = zs.take k ++ m :: zs.drop k := by rw [hadd, hdn]
      have Hadd := Lib.hid hadd2
      clear hz hadd hdn hadd2
      go_wp2
      go_region_law (first
        | (refine step_append_ints rfl (.tmp 33) (.tmp 36) rfl wr.heap.size (.slice (some ⟨wr.heap.size, 0, none⟩) 0 0) [] rfl (by first | exact OwnI.new _ _ (by simp) (by omega) | exact OwnI.alloc (OwnI.new _ _ (by simp) (by omega)) _ | exact OwnI.alloc (OwnI.drew (OwnI.new _ _ (by simp) (by omega))) _) b off k c (zs.take k) rfl (RowI.kept (RowI.take h hk) (by repeat (first | exact Below.refl _ _ | refine Below.drew ?_ | refine Below.alloc ?_ (by first | exact Nat.le_refl _ | (simp; omega) | simp) _))) (by simp; omega) (by first | exact Nat.le_refl _ | (simp; done) | (simp; omega)) ?_; intro v1 w1 hown1 hg1 hv1; rw [List.nil_append] at hown1; have hb1 : Below wr.heap.size wr w1 := below_grown (by repeat (first | exact Below.refl _ _ | refine Below.drew ?_ | refine Below.alloc ?_ (by first | exact Nat.le_refl _ | (simp; omega) | simp) _)) hg1 (by first | exact Nat.le_refl _ | (simp; done) | (simp; omega)) (by intro y hy; simp [Value.ownBlock] at hy; omega); have hlt1 := World.ownsRow.lt hown1; have hs1 := hb1.size; have hm1 : RowI w1 (wr.heap.size + 1) 0 1 [m] := RowI.grown (by exact RowI.new (wr.alloc (.cells #[] 3)) m (by simp)) hg1 (by simp [Value.ownBlock]))
        | (refine step_append_ints rfl (.tmp 33) (.tmp 36) rfl wr.heap.size (.slice (some ⟨wr.heap.size, 0, none⟩) 0 0) [] rfl (by first | exact OwnI.new _ _ (by simp) (by omega) | exact OwnI.alloc (OwnI.new _ _ (by simp) (by omega)) _ | exact OwnI.alloc (OwnI.drew (OwnI.new _ _ (by simp) (by omega))) _) b off k c (zs.take k) rfl (RowI.kept (RowI.take h hk) (by repeat (first | exact Below.refl _ _ | refine Below.drew ?_ | refine Below.alloc ?_ (by first | exact Nat.le_refl _ | (simp; omega) | simp) _))) (by simp; omega) (by first | exact Nat.le_refl _ | (simp; done) | (simp; omega)) ?_; intro v1 w1 hown1 hg1 hv1; rw [List.nil_append] at hown1; have hb1 : Below wr.heap.size wr w1 := below_grown (by repeat (first | exact Below.refl _ _ | refine Below.drew ?_ | refine Below.alloc ?_ (by first | exact Nat.le_refl _ | (simp; omega) | simp) _)) hg1 (by first | exact Nat.le_refl _ | (simp; done) | (simp; omega)) (by intro y hy; simp [Value.ownBlock] at hy; omega); have hlt1 := World.ownsRow.lt hown1; have hs1 := hb1.size)
        | (refine step_append_ints rfl (.tmp 33) (.tmp 36) rfl wr.heap.size (.slice (some ⟨wr.heap.size + 1, 0, none⟩) 0 0) [] rfl (by first | exact OwnI.new _ _ (by simp) (by omega) | exact OwnI.alloc (OwnI.new _ _ (by simp) (by omega)) _ | exact OwnI.alloc (OwnI.drew (OwnI.new _ _ (by simp) (by omega))) _) b off k c (zs.take k) rfl (RowI.kept (RowI.take h hk) (by repeat (first | exact Below.refl _ _ | refine Below.drew ?_ | refine Below.alloc ?_ (by first | exact Nat.le_refl _ | (simp; omega) | simp) _))) (by simp; omega) (by first | exact Nat.le_refl _ | (simp; done) | (simp; omega)) ?_; intro v1 w1 hown1 hg1 hv1; rw [List.nil_append] at hown1; have hb1 : Below wr.heap.size wr w1 := below_grown (by repeat (first | exact Below.refl _ _ | refine Below.drew ?_ | refine Below.alloc ?_ (by first | exact Nat.le_refl _ | (simp; omega) | simp) _)) hg1 (by first | exact Nat.le_refl _ | (simp; done) | (simp; omega)) (by intro y hy; simp [Value.ownBlock] at hy; omega); have hlt1 := World.ownsRow.lt hown1; have hs1 := hb1.size; have hm1 : RowI w1 wr.heap.size 0 1 [m] := RowI.grown (by exact RowI.alloc (RowI.new wr m rfl) (.cells #[] 3)) hg1 (by simp [Value.ownBlock]))
        | (refine step_append_ints rfl (.tmp 37) (.tmp 39) rfl wr.heap.size v1 (zs.take k) rfl (by first | exact hown1 | exact hown1.alloc _) (w1.heap.size) 0 1 1 [m] rfl (RowI.new w1 m (by simp)) (by simp; omega) (by first | exact hs1 | (simp; omega)) ?_; intro v2 w2 hown2 hg2 hv2; have hb2 : Below wr.heap.size wr w2 := below_grown (by repeat (first | exact hb1 | refine Below.drew ?_ | refine Below.alloc ?_ (by first | exact Nat.le_refl _ | omega | (simp; omega) | simp) _)) hg2 (by first | exact hs1 | (simp; omega)) (fun y hy => (hlt1 y hy).1); have hlt2 := World.ownsRow.lt hown2; have hs2 := hb2.size)
        | (refine step_append_ints rfl (.tmp 37) (.tmp 39) rfl wr.heap.size v1 (zs.take k) rfl (by first | exact hown1 | exact hown1.alloc _) (wr.heap.size + 1) 0 1 1 [m] rfl hm1 (by simp; omega) (by first | exact hs1 | (simp; omega)) ?_; intro v2 w2 hown2 hg2 hv2; have hb2 : Below wr.heap.size wr w2 := below_grown (by repeat (first | exact hb1 | refine Below.drew ?_ | refine Below.alloc ?_ (by first | exact Nat.le_refl _ | omega | (simp; omega) | simp) _)) hg2 (by first | exact hs1 | (simp; omega)) (fun y hy => (hlt1 y hy).1); have hlt2 := World.ownsRow.lt hown2; have hs2 := hb2.size)
        | (refine step_append_ints rfl (.tmp 37) (.tmp 39) rfl wr.heap.size v1 (zs.take k) rfl (by first | exact hown1 | exact hown1.alloc _) (wr.heap.size) 0 1 1 [m] rfl hm1 (by simp; omega) (by first | exact hs1 | (simp; omega)) ?_; intro v2 w2 hown2 hg2 hv2; have hb2 : Below wr.heap.size wr w2 := below_grown (by repeat (first | exact hb1 | refine Below.drew ?_ | refine Below.alloc ?_ (by first | exact Nat.le_refl _ | omega | (simp; omega) | simp) _)) hg2 (by first | exact hs1 | (simp; omega)) (fun y hy => (hlt1 y hy).1); have hlt2 := World.ownsRow.lt hown2; have hs2 := hb2.size)
        | (refine step_append_ints rfl (.tmp 40) (.tmp 43) rfl wr.heap.size v2 (zs.take k ++ [m]) rfl hown2 b (if c = k then off else off + k) (n - k) (c - k) (zs.drop k) (ite_addr b off c k (n - k) (c - k)) (RowI.kept (RowI.dropc h hc k) hb2) (by simp; omega) (by first | exact hs2 | simpa using hs2) ?_; intro v3 w3 hown3 hg3 hv3; have hb3 : Below wr.heap.size wr w3 := below_grown hb2 hg3 (by first | exact hs2 | simpa using hs2) (fun y hy => (hlt2 y hy).1); obtain ⟨g, cc, rfl, r1, r2, r3, r4⟩ := hown3.form (by simp; omega)))
      all_goals go_wp2
      all_goals
        go_ret
        have hL : (zs.take k ++ [m] ++ zs.drop k).length = k + (n - k + 1) := by simp; omega
        rw [hL] at r1 r4
        exact ⟨_, _, _, _, rfl, r1, r2, by rw [Hadd.out]; simpa using r4, hb3⟩
end Go.Proofs.Ytiebchfdbejfbaa
