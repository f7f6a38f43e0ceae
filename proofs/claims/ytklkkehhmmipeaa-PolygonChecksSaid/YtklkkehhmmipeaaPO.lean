/- Appending points to a slice that the call itself has made. -/
import Derived.Test.YtklkkehhmmipeaaPF
import Derived.Maps.AppendAt
import Derived.Deep.AppendLies
namespace Go.Proofs.Ytklkkehhmmipeaa
open Go.RowKit

/-- The cells of points, one after the other. -/
def flat : List (Int × Int) → List Value
  | [] => []
  | x :: xs => .int .i64 x.1 :: .int .i64 x.2 :: flat xs
theorem flat_len (xs : List (Int × Int)) : (flat xs).length = xs.length * 2 := by
  induction xs with
  | nil => rfl
  | cons x xs ih => simp [flat, ih]; omega
theorem flat_append (xs ys : List (Int × Int)) : flat (xs ++ ys) = flat xs ++ flat ys := by
  induction xs with
  | nil => rfl
  | cons x xs ih => simp [flat, ih]
theorem flat_one (xs : List (Int × Int)) : ∀ u ∈ flat xs, u.oneCell' = true := by
  induction xs with
  | nil => simp [flat]
  | cons x xs ih =>
    intro u hu
    simp only [flat, List.mem_cons] at hu
    rcases hu with rfl | rfl | hu
    · rfl
    · rfl
    · exact ih u hu
theorem flat_at (xs : List (Int × Int)) : ∀ (k : Nat) (x : Int × Int), xs[k]? = some x → (flat xs)[k * 2]? = some (.int .i64 x.1) ∧ (flat xs)[k * 2 + 1]? = some (.int .i64 x.2) := by
  induction xs with
  | nil => simp
  | cons y ys ih =>
    intro k x hx
    match k, hx with
    | 0, hx => simp at hx; subst hx; simp [flat]
    | k + 1, hx =>
      have := ih k x (by simpa using hx)
      rw [show (k + 1) * 2 = k * 2 + 1 + 1 from by omega, show k * 2 + 1 + 1 + 1 = (k * 2 + 1) + 2 from by omega]
      simpa [flat] using this
theorem flat_get (xs : List (Int × Int)) (j : Nat) (u : Value) (h : (flat xs)[j]? = some u) : ∃ k x, xs[k]? = some x ∧ (j = k * 2 ∧ u = .int .i64 x.1 ∨ j = k * 2 + 1 ∧ u = .int .i64 x.2) := by
  have hj : j < (flat xs).length := (List.getElem?_eq_some_iff.1 h).1
  rw [flat_len] at hj
  have hk : j / 2 < xs.length := by omega
  refine ⟨j / 2, xs[j / 2], List.getElem?_eq_getElem hk, ?_⟩
  obtain ⟨h0, h1⟩ := flat_at xs (j / 2) _ (List.getElem?_eq_getElem hk)
  rcases (show j = j / 2 * 2 ∨ j = j / 2 * 2 + 1 from by omega) with e | e
  · left; refine ⟨e, ?_⟩
    rw [← e, h] at h0; exact (Option.some.inj h0)
  · right; refine ⟨e, ?_⟩
    rw [← e, h] at h1; exact (Option.some.inj h1)

theorem addr_add (b off k : Nat) : ({ block := b, off := off } : Addr).add k = ⟨b, off + k, none⟩ := by
  unfold Addr.add
  split <;> simp_all
/-- The slice value v owns the points xs: it is nil, or lies in a block of the call's own, from 'base' on. -/
def Own (w : World) (base : Nat) (v : Value) (xs : List (Int × Int)) : Prop := w.ownsRow base 31 2 v xs.length (flat xs)

theorem pt_info : (Try.prog.info? 31).map (fun i => (i.zero, i.size, i.bytes)) = some (some (.agg #[.int .i64 0, .int .i64 0]), 2, 16) := by kernel_rfl

theorem Own.nil (w : World) (base : Nat) : Own w base (.slice none 0 0) [] := ⟨rfl, .inl ⟨rfl, rfl⟩⟩
theorem Own.form {w : World} {base : Nat} {v : Value} {xs : List (Int × Int)} (h : Own w base v xs) :
    ∃ A c, v = .slice A xs.length c ∧ Row w w.heap.size A xs.length xs ∧ xs.length ≤ maxLen ∧ (A = none → c = 0 ∧ xs = []) ∧ (∀ g, v.ownBlock = some g → base ≤ g ∧ g < w.heap.size) := by
  have hlt := World.ownsRow.lt h
  have h2 := h.2
  rcases h2 with ⟨rfl, h0⟩ | ⟨g, cap, cur, rfl, hb, hg, hnc, hcm, hcs, htake⟩
  · have hx : xs = [] := List.eq_nil_of_length_eq_zero h0
    subst hx
    exact ⟨none, 0, rfl, Row.nil, by simp, fun _ => ⟨rfl, rfl⟩, hlt⟩
  · refine ⟨_, cap, rfl, ⟨rfl, fun hn => ⟨g, 0, rfl, (hlt g rfl).2, fun k x hx => ?_⟩⟩, by omega, (fun h => by cases h), hlt⟩
    obtain ⟨f0, f1⟩ := flat_at xs k x hx
    have hk : k < xs.length := (List.getElem?_eq_some_iff.1 hx).1
    have hc : ∀ j u, (flat xs)[j]? = some u → w.cell? ⟨g, j, none⟩ = some u := by
      intro j u hj
      rw [cell_of_row w g j cur _ (0, 0) hg]
      rw [← htake] at hj
      rw [List.getElem?_take] at hj
      split at hj
      · simpa using hj
      · cases hj
    exact ⟨by rw [Nat.zero_add]; exact hc _ _ f0, by rw [Nat.zero_add]; exact hc _ _ f1⟩

theorem Own.form_n {w : World} {base n : Nat} {v : Value} {xs : List (Int × Int)} (h : Own w base v xs) (hn : xs.length = n) :
    ∃ A c, v = .slice A n c ∧ Row w w.heap.size A n xs ∧ (∀ g, v.ownBlock = some g → base ≤ g ∧ g < w.heap.size) := by
  subst hn
  obtain ⟨A, c, e, hi, _, _, hl⟩ := h.form
  exact ⟨A, c, e, hi, hl⟩
theorem Own.drewN {w : World} {base : Nat} {v : Value} {xs : List (Int × Int)} (h : Own w base v xs) (k : Nat) : Own (w.drewN k) base v xs := h
theorem Own.alloc {w : World} {base : Nat} {v : Value} {xs : List (Int × Int)} (h : Own w base v xs) (o : Obj) : Own (w.alloc o) base v xs := World.ownsRow.alloc h o
theorem Own.kept {w w' : World} {base : Nat} {v : Value} {xs : List (Int × Int)} (h : Own w base v xs) (hb : Below w.heap.size w w') : Own w' base v xs :=
  World.ownsRow.kept h (row := none) ⟨hb.os, hb.tape, hb.output, hb.size, fun k hk _ => hb.block k hk⟩ (by cases v.ownBlock <;> simp)
theorem Row.drewN {w : World} {B n : Nat} {A : Option Addr} {xs : List (Int × Int)} (h : Row w B A n xs) (k : Nat) : Row (w.drewN k) B A n xs := h
section
variable {w : World}
/-- append(s, x...), s of the call's own, x whatever slice reads as ys. -/
theorem run_append_pts (base : Nat) (ty : TypeId) (v : Value) (xs : List (Int × Int)) (hown : Own w base v xs) (B : Nat) (A : Option Addr) (m c : Nat) (ys : List (Int × Int)) (hr : Row w B A m ys)
    (hsz : xs.length + m ≤ 1000000000000) (hbase : base ≤ w.heap.size) :
    ∃ v' w', (Builtin.append_ #[22, 22] ty #[v, .slice A m c]).run Try.prog w = .ok v' w' ∧ Own w' base v' (xs ++ ys) ∧ w.grownBy w' v.ownBlock ∧ (v'.ownBlock = v.ownBlock ∨ v'.ownBlock = some w.heap.size) := by
  obtain ⟨i0, hi0, hz0, hz1, hz2⟩ := info_parts pt_info
  have hm := hr.len
  rcases A with _ | ad
  · have h0 : m = 0 := by
      rcases Nat.eq_zero_or_pos m with h0 | h0
      · exact h0
      · obtain ⟨_, _, e, _⟩ := hr.2 h0
        cases e
    have hy : ys = [] := List.eq_nil_of_length_eq_zero (by omega)
    subst hy
    subst h0
    refine ⟨v, w, ?_, by simpa using hown, World.grownBy.refl w _, .inl rfl⟩
    have ho := hown.2
    rcases ho with ⟨rfl, _⟩ | ⟨g, cap, cur, rfl, _, _, hnc, _⟩
    · simp [Builtin.append_, run_underlying Try.underlying22, sizeOf, typeInfo, hi0, Builtin.lenOf, Builtin.firstCells]
    · simp [Builtin.append_, run_underlying Try.underlying22, sizeOf, typeInfo, hi0, Builtin.lenOf, Builtin.firstCells, hnc, storeCells]
  · have hcells : ∀ j u, (flat ys)[j]? = some u → w.cell? (ad.add j) = some u := by
      intro j u hj
      obtain ⟨k, x, hx, hju⟩ := flat_get ys j u hj
      have hk : k < ys.length := (List.getElem?_eq_some_iff.1 hx).1
      obtain ⟨b, off, e, _, hc⟩ := hr.2 (by omega)
      have e := Option.some.inj e
      subst e
      obtain ⟨c0, c1⟩ := hc k x hx
      rcases hju with ⟨rfl, rfl⟩ | ⟨rfl, rfl⟩
      · rw [addr_add b off (k * 2)]; exact c0
      · rw [addr_add b off (k * 2 + 1)]; exact c1
    obtain ⟨v', w', hrun, h2, h3, _, h5⟩ := run_append_own_at (P := Try.prog) w base 22 ty 31 i0 _ 2 16 Try.underlying22 hi0 hz0 hz1 hz2 rfl (by omega) v xs.length (flat xs) hown ad m c (flat ys) (by rw [flat_len, hm]) hcells (flat_one ys) (by simp only [maxLen]; omega) (by omega) hbase
    refine ⟨v', w', hrun, ?_, h3, h5⟩
    unfold Own
    rw [flat_append, List.length_append, hm]
    exact h2

theorem wp_append_pts {o : Oper} {a : Act} {K : Act → World → Prop} {Q : Exit → Act → World → Prop} (s x : Operand)
    (ho : o.op = .call { callee := .builtin .append, args := #[s, x], argTypes := #[22, 22] })
    (base : Nat) (v : Value) (xs : List (Int × Int)) (hs : a.eval s = v) (hown : Own w base v xs) (B : Nat) (A : Option Addr) (m c : Nat) (ys : List (Int × Int)) (hx : a.eval x = .slice A m c) (hr : Row w B A m ys)
    (hsz : xs.length + m ≤ 1000000000000) (hbase : base ≤ w.heap.size)
    (h : ∀ v' w', Own w' base v' (xs ++ ys) → w.grownBy w' v.ownBlock → (v'.ownBlock = v.ownBlock ∨ v'.ownBlock = some w.heap.size) → K (a.put o.dst v') w') : o.wp Try.prog a w K Q := by
  obtain ⟨v', w', hrun, h2, h3, h4⟩ := run_append_pts base o.type v xs hown B A m c ys hr hsz hbase
  unfold Oper.wp execOp
  simp only [ho, resolve, invoke, builtin, Sem.run_bind, Sem.run_pure, Result.andThen_ok, List.map_toArray, List.map_cons, List.map_nil, hs, hx, hrun]
  exact h v' w' h2 h3 h4

theorem wpList_append_pts {ops : Array Oper} {rest : List Oper} {o : Oper} {a : Act} {Q : Exit → Act → World → Prop} (hgd : o.guard = none) (s x : Operand)
    (ho : o.op = .call { callee := .builtin .append, args := #[s, x], argTypes := #[22, 22] })
    (base : Nat) (v : Value) (xs : List (Int × Int)) (hs : a.eval s = v) (hown : Own w base v xs) (B : Nat) (A : Option Addr) (m c : Nat) (ys : List (Int × Int)) (hx : a.eval x = .slice A m c) (hr : Row w B A m ys)
    (hsz : xs.length + m ≤ 1000000000000) (hbase : base ≤ w.heap.size)
    (h : ∀ v' w', Own w' base v' (xs ++ ys) → w.grownBy w' v.ownBlock → (v'.ownBlock = v.ownBlock ∨ v'.ownBlock = some w.heap.size) → wpList Try.prog ops Q rest (a.put o.dst v') w') : wpList Try.prog ops Q (o :: rest) a w :=
  wpList_plain hgd fun _ hK => wp_append_pts s x ho base v xs hs hown B A m c ys hx hr hsz hbase fun v' w' h2 h3 h4 => hK _ _ (h v' w' h2 h3 h4)
/-- append(s, x...), s of the call's own, x whatever slice reads as ys. -/
theorem run_append_pol (base : Nat) (ty : TypeId) (v : Value) (xs : List (Int × Int)) (hown : Own w base v xs) (B : Nat) (A : Option Addr) (m c : Nat) (ys : List (Int × Int)) (hr : Row w B A m ys)
    (hsz : xs.length + m ≤ 1000000000000) (hbase : base ≤ w.heap.size) :
    ∃ v' w', (Builtin.append_ #[23, 23] ty #[v, .slice A m c]).run Try.prog w = .ok v' w' ∧ Own w' base v' (xs ++ ys) ∧ w.grownBy w' v.ownBlock ∧ (v'.ownBlock = v.ownBlock ∨ v'.ownBlock = some w.heap.size) := by
  obtain ⟨i0, hi0, hz0, hz1, hz2⟩ := info_parts pt_info
  have hm := hr.len
  rcases A with _ | ad
  · have h0 : m = 0 := by
      rcases Nat.eq_zero_or_pos m with h0 | h0
      · exact h0
      · obtain ⟨_, _, e, _⟩ := hr.2 h0
        cases e
    have hy : ys = [] := List.eq_nil_of_length_eq_zero (by omega)
    subst hy
    subst h0
    refine ⟨v, w, ?_, by simpa using hown, World.grownBy.refl w _, .inl rfl⟩
    have ho := hown.2
    rcases ho with ⟨rfl, _⟩ | ⟨g, cap, cur, rfl, _, _, hnc, _⟩
    · simp [Builtin.append_, run_underlying Try.underlying23, sizeOf, typeInfo, hi0, Builtin.lenOf, Builtin.firstCells]
    · simp [Builtin.append_, run_underlying Try.underlying23, sizeOf, typeInfo, hi0, Builtin.lenOf, Builtin.firstCells, hnc, storeCells]
  · have hcells : ∀ j u, (flat ys)[j]? = some u → w.cell? (ad.add j) = some u := by
      intro j u hj
      obtain ⟨k, x, hx, hju⟩ := flat_get ys j u hj
      have hk : k < ys.length := (List.getElem?_eq_some_iff.1 hx).1
      obtain ⟨b, off, e, _, hc⟩ := hr.2 (by omega)
      have e := Option.some.inj e
      subst e
      obtain ⟨c0, c1⟩ := hc k x hx
      rcases hju with ⟨rfl, rfl⟩ | ⟨rfl, rfl⟩
      · rw [addr_add b off (k * 2)]; exact c0
      · rw [addr_add b off (k * 2 + 1)]; exact c1
    obtain ⟨v', w', hrun, h2, h3, _, h5⟩ := run_append_own_at (P := Try.prog) w base 23 ty 31 i0 _ 2 16 Try.underlying23 hi0 hz0 hz1 hz2 rfl (by omega) v xs.length (flat xs) hown ad m c (flat ys) (by rw [flat_len, hm]) hcells (flat_one ys) (by simp only [maxLen]; omega) (by omega) hbase
    refine ⟨v', w', hrun, ?_, h3, h5⟩
    unfold Own
    rw [flat_append, List.length_append, hm]
    exact h2

theorem wp_append_pol {o : Oper} {a : Act} {K : Act → World → Prop} {Q : Exit → Act → World → Prop} (s x : Operand)
    (ho : o.op = .call { callee := .builtin .append, args := #[s, x], argTypes := #[23, 23] })
    (base : Nat) (v : Value) (xs : List (Int × Int)) (hs : a.eval s = v) (hown : Own w base v xs) (B : Nat) (A : Option Addr) (m c : Nat) (ys : List (Int × Int)) (hx : a.eval x = .slice A m c) (hr : Row w B A m ys)
    (hsz : xs.length + m ≤ 1000000000000) (hbase : base ≤ w.heap.size)
    (h : ∀ v' w', Own w' base v' (xs ++ ys) → w.grownBy w' v.ownBlock → (v'.ownBlock = v.ownBlock ∨ v'.ownBlock = some w.heap.size) → K (a.put o.dst v') w') : o.wp Try.prog a w K Q := by
  obtain ⟨v', w', hrun, h2, h3, h4⟩ := run_append_pol base o.type v xs hown B A m c ys hr hsz hbase
  unfold Oper.wp execOp
  simp only [ho, resolve, invoke, builtin, Sem.run_bind, Sem.run_pure, Result.andThen_ok, List.map_toArray, List.map_cons, List.map_nil, hs, hx, hrun]
  exact h v' w' h2 h3 h4

theorem wpList_append_pol {ops : Array Oper} {rest : List Oper} {o : Oper} {a : Act} {Q : Exit → Act → World → Prop} (hgd : o.guard = none) (s x : Operand)
    (ho : o.op = .call { callee := .builtin .append, args := #[s, x], argTypes := #[23, 23] })
    (base : Nat) (v : Value) (xs : List (Int × Int)) (hs : a.eval s = v) (hown : Own w base v xs) (B : Nat) (A : Option Addr) (m c : Nat) (ys : List (Int × Int)) (hx : a.eval x = .slice A m c) (hr : Row w B A m ys)
    (hsz : xs.length + m ≤ 1000000000000) (hbase : base ≤ w.heap.size)
    (h : ∀ v' w', Own w' base v' (xs ++ ys) → w.grownBy w' v.ownBlock → (v'.ownBlock = v.ownBlock ∨ v'.ownBlock = some w.heap.size) → wpList Try.prog ops Q rest (a.put o.dst v') w') : wpList Try.prog ops Q (o :: rest) a w :=
  wpList_plain hgd fun _ hK => wp_append_pol s x ho base v xs hs hown B A m c ys hx hr hsz hbase fun v' w' h2 h3 h4 => hK _ _ (h v' w' h2 h3 h4)
/-- An empty slice literal. -/
theorem Own.made {g : Nat} (w : World) (base : Nat) (hg : w.heap.size = g) (hb : base ≤ g) : Own (w.alloc (.cells #[] 31)) base (.slice (some ⟨g, 0, none⟩) 0 0) [] := by
  subst hg
  exact World.ownsRow_made w #[] 0 hb (by simp [maxLen]) rfl
theorem below_grown {B : Nat} {a w w' : World} {v : Value} (h : Below B a w) (hg : w.grownBy w' v.ownBlock) (hB : B ≤ w.heap.size) (hr : ∀ k, v.ownBlock = some k → B ≤ k) : Below B a w' := h.grown hg hB hr
end
end Go.Proofs.Ytklkkehhmmipeaa
