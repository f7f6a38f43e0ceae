/- Package polygon: points as they lie in memory, which of them are allowed, and the next corner. -/
import Derived.Test.YtklkkehhmmipeaaVT5
namespace Go.Proofs.Ytklkkehhmmipeaa
open Go.RowKit
attribute [local go_sem ↓] Go.wp_at_zero Go.wp_at_succ

/-- The slice value '.slice A n c' reads as the points xs and lies below block B. -/
def Row (w : World) (B : Nat) (A : Option Addr) (n : Nat) (xs : List P2) : Prop :=
  xs.length = n ∧ (0 < n → ∃ b off, A = some ⟨b, off, none⟩ ∧ b < B ∧ ∀ k x, xs[k]? = some x → w.cell? ⟨b, off + k * 2, none⟩ = some (.int .i64 x.1) ∧ w.cell? ⟨b, off + k * 2 + 1, none⟩ = some (.int .i64 x.2))
section
variable {w w' : World} {B B' n : Nat} {A : Option Addr} {xs : List P2}
theorem Row.len (h : Row w B A n xs) : xs.length = n := h.1
theorem Row.nil : Row w B A 0 [] := ⟨rfl, fun h => absurd h (by omega)⟩
theorem Row.at_ {k : Nat} (h : Row w B A n xs) (hk : k < n) : ∃ b off x y, A = some ⟨b, off, none⟩ ∧ b < B ∧ xs[k]? = some (x, y) ∧ w.cell? ⟨b, off + k * 2, none⟩ = some (.int .i64 x) ∧ w.cell? ⟨b, off + k * 2 + 1, none⟩ = some (.int .i64 y) := by
  obtain ⟨b, off, e, hb, hc⟩ := h.2 (by omega)
  have hl : k < xs.length := by have := h.1; omega
  have hx : xs[k]? = some xs[k] := List.getElem?_eq_getElem hl
  exact ⟨b, off, xs[k].1, xs[k].2, e, hb, hx, (hc k _ hx).1, (hc k _ hx).2⟩
theorem Row.keep (h : Row w B A n xs) (hk : ∀ b o, b < B → w'.cell? ⟨b, o, none⟩ = w.cell? ⟨b, o, none⟩) : Row w' B A n xs :=
  ⟨h.1, fun hn => by
    obtain ⟨b, off, e, hb, hc⟩ := h.2 hn
    exact ⟨b, off, e, hb, fun k x hx => ⟨(hk _ _ hb).trans (hc k x hx).1, (hk _ _ hb).trans (hc k x hx).2⟩⟩⟩
theorem Row.more (h : Row w B A n xs) (hB : B ≤ B') : Row w B' A n xs :=
  ⟨h.1, fun hn => by
    obtain ⟨b, off, e, hb, hc⟩ := h.2 hn
    exact ⟨b, off, e, by omega, hc⟩⟩
theorem Row.below (h : Row w B A n xs) (hb : Below B w w') : Row w' B A n xs := h.keep fun b o hp => hb.cell (p := ⟨b, o, none⟩) hp
theorem Row.in_ (h : Row w B A n xs) (hb : Below B w w') (hB : B ≤ B') : Row w' B' A n xs := (h.below hb).more hB
end
/-- One to five points, laid by the call itself. -/
theorem row_lit {g B : Nat} (w : World) (xs : List P2) (t : TypeId) (hg : w.heap.size = g) (hB : g < B) : Row (w.alloc (.cells (xs.flatMap fun x => [Value.int .i64 x.1, .int .i64 x.2]).toArray t)) B (some ⟨g, 0, none⟩) xs.length xs := by
  subst hg
  refine ⟨rfl, fun _ => ⟨_, _, rfl, hB, fun k x hx => ?_⟩⟩
  have key : ∀ (ys : List P2) (k : Nat) (x : P2), ys[k]? = some x → (ys.flatMap fun x => [Value.int .i64 x.1, .int .i64 x.2])[k * 2]? = some (Value.int .i64 x.1) ∧ (ys.flatMap fun x => [Value.int .i64 x.1, .int .i64 x.2])[k * 2 + 1]? = some (Value.int .i64 x.2) := by
    intro ys
    induction ys with
    | nil => intro k x h; simp at h
    | cons y ys ih =>
      intro k x h
      match k, h with
      | 0, h => simp at h; subst h; simp
      | k + 1, h =>
        have := ih k x (by simpa using h)
        have e1 : (k + 1) * 2 = k * 2 + 1 + 1 := by omega
        rw [e1]
        simpa using this
  obtain ⟨c1, c2⟩ := key xs k x hx
  have hsz : ∀ i v, (xs.flatMap fun x => [Value.int .i64 x.1, .int .i64 x.2])[i]? = some v → (w.alloc (.cells (xs.flatMap fun x => [Value.int .i64 x.1, .int .i64 x.2]).toArray t)).cell? ⟨w.heap.size, 0 + i, none⟩ = some v := by
    intro i v h
    rw [Nat.zero_add]
    exact Blk.cell (cs := xs.flatMap fun x => [Value.int .i64 x.1, .int .i64 x.2]) (t := t) (Blk.new _ _ _ rfl) _ h
  exact ⟨hsz _ _ c1, hsz _ _ c2⟩

theorem pflat_any (x y : Int) (w : World) :
    Calls Try.prog 65 #[v2 x y] w fun e w' => e = .returned (v3 x y 0) ∧ Below w.heap.size w w' := by
  go_enter Try.func65, Try.ntmps65
  go_wp2
  exact bodyPost_ret (v := v3 x y 0) (by simp [results, Try.results65, go_sem]) rfl ⟨rfl, by go_grown⟩

theorem badPoint (x y : Int) (b : Bool) (w : World) (h : inP x y = b) :
    Calls Try.prog 69 #[v2 x y] w fun e w' => e = .returned (.bool (!b)) ∧ Below w.heap.size w w' := by
  subst h
  have he : ∃ e0, errB (inP x y) = e0 ∧ (e0 = 0 ∧ inP x y = true ∨ e0 = 6 ∧ inP x y = false) := ⟨_, rfl, by cases inP x y <;> simp [errB]⟩
  obtain ⟨e0, he, hcs⟩ := he
  have He := Lib.hid he
  clear he
  rcases hcs with ⟨rfl, hb⟩ | ⟨rfl, hb⟩
  all_goals
    rw [hb]
    clear hb
    go_enter Try.func69, Try.ntmps69
    go_wp2_with fail
    refine (pflat_any x y _).mono ?_
    rintro e w1 ⟨rfl, hb1⟩
    go_wp2_with fail
    refine (vcheck_e x y _ _ He.out).mono ?_
    rintro e w2 ⟨rfl, hb2⟩
    go_wp2
    go_ret
    exact ⟨rfl, below_step (show Below w.heap.size w w1 by (repeat (first | exact Below.refl _ _ | (refine Below.setCell ?_ (by first | omega | (simp; done) | (simp; omega)) _) | (refine Below.alloc ?_ (by first | omega | (simp; done) | (simp; omega)) _) | (refine Below.trans ?_ (Below.mono hb1 (by first | omega | (simp; done) | (simp; omega))))))) hb2⟩

def allP (xs : List P2) : Bool := xs.all fun v => inP v.1 v.2
theorem allP_next {xs : List P2} {k : Nat} {x y : Int} (h : xs[k]? = some (x, y)) (hn : allP (xs.take k) = true) (hv : inP x y = true) : allP (xs.take (k + 1)) = true := allP_snoc h hn hv
theorem allP_no {xs : List P2} {k : Nat} {x y : Int} (h : xs[k]? = some (x, y)) (hv : inP x y = false) : allP xs = false := by
  unfold allP
  rw [List.all_eq_false]
  exact ⟨_, List.mem_of_getElem? h, by simp [hv]⟩

set_option maxHeartbeats 800000 in
theorem indexBad_any (A : Option Addr) (n c : Nat) (xs : List P2) (w : World) (h : Row w w.heap.size A n xs) (hn : n ≤ 2000) :
    Calls Try.prog 78 #[.slice A n c, .func (.func 69) #[] #[]] w fun e w' => ∃ v : Int, e = .returned (.int .i64 v) ∧ (allP xs = true ∧ v = -1 ∨ allP xs = false ∧ 0 ≤ v) ∧ Below w.heap.size w w' := by
  go_enter Try.func78, Try.ntmps78
  go_wp2
  go_loopw [8] (fun i wr => ∃ k : Nat, k ≤ n ∧ i = .int .i64 k ∧ allP (xs.take k) = true ∧ Below w.heap.size w wr) (fun i _ => n - (intOf i).toNat)
  case atStart => exact ⟨0, Nat.zero_le _, rfl, rfl, Below.refl _ _⟩
  case round =>
    obtain ⟨k, hk, rfl, hno, hbel⟩ := hrel
    have Hno := Lib.hid hno
    clear hno
    by_cases hlt : k < n
    · obtain ⟨b, off, x, y, rfl, hbB, hx, hc1, hc2⟩ := (h.below hbel).at_ hlt
      have hsz := hbel.size
      have Hx := Lib.hid hx
      clear hx h
      obtain ⟨v, hv⟩ : ∃ v, inP x y = v := ⟨_, rfl⟩
      have Hv := Lib.hid hv
      clear hv
      cases v
      · go_wp2_with (go_at_call 69; refine (badPoint x y false _ Hv.out).mono ?_; rintro e w1 ⟨rfl, hb1⟩)
        go_ret
        exact ⟨_, rfl, .inr ⟨allP_no Hx.out Hv.out, by omega⟩, hbel.trans (hb1.mono hsz)⟩
      · go_wp2_with (go_at_call 69; refine (badPoint x y true _ Hv.out).mono ?_; rintro e w1 ⟨rfl, hb1⟩)
        go_roundw
        case rel => exact ⟨k + 1, by omega, by go_num, allP_next Hx.out Hno.out Hv.out, hbel.trans (hb1.mono hsz)⟩
        case measure => simp [intOf]; omega
    · have hl := h.len
      have e : xs.take k = xs := List.take_of_length_le (by omega)
      rw [e] at Hno
      clear e hl
      go_wp2
      go_ret
      exact ⟨_, rfl, .inl ⟨Hno.out, rfl⟩, hbel⟩

theorem containsBad_any (A : Option Addr) (n c : Nat) (xs : List P2) (v : Bool) (w : World) (h : Row w w.heap.size A n xs) (hn : n ≤ 2000) (hv : allP xs = v) :
    Calls Try.prog 68 #[.slice A n c, .func (.func 69) #[] #[]] w fun e w' => e = .returned (.bool (!v)) ∧ Below w.heap.size w w' := by
  subst hv
  go_enter Try.func68, Try.ntmps68
  go_wp2_with fail
  refine (indexBad_any A n c xs _ h hn).mono ?_
  rintro e w1 ⟨v, rfl, hv, hb1⟩
  rcases hv with ⟨hv, rfl⟩ | ⟨hv, h0⟩
  · go_wp2
    go_ret
    exact ⟨ret_bool (by rw [hv]; rfl), hb1⟩
  · go_wp2
    go_ret
    exact ⟨ret_bool (by rw [hv]; simp), hb1⟩

theorem allowed_any (A : Option Addr) (n c : Nat) (xs : List P2) (v : Bool) (w : World) (h : Row w w.heap.size A n xs) (hn : n ≤ 2000) (hv : allP xs = v) :
    Calls Try.prog 55 #[.slice A n c] w fun e w' => e = .returned (.bool v) ∧ Below w.heap.size w w' := by
  go_enter Try.func55, Try.ntmps55
  go_wp2_with fail
  refine (containsBad_any A n c xs v _ h hn hv).mono ?_
  rintro e w1 ⟨rfl, hb1⟩
  go_wp2
  go_ret
  exact ⟨ret_bool (by simp), hb1⟩

/-- The corner with the index m, which is (i + 1) modulo the number of corners. -/
theorem next_any (A : Option Addr) (n c : Nat) (xs : List P2) (i : Int) (m : Nat) (x y : Int) (w : World) (B : Nat) (h : Row w B A n xs) (hB : B ≤ w.heap.size) (_hn : n ≤ 2000) (h0 : 0 ≤ i) (h1 : i ≤ 4000) (hm : (i + 1).tmod n = m) (hx : xs[m]? = some (x, y)) :
    Calls Try.prog 44 #[.slice A n c, .int .i64 i] w fun e w' => e = .returned (v2 x y) ∧ Below w.heap.size w w' := by
  have hml : m < n := by have := (List.getElem?_eq_some_iff.1 hx).1; have := h.len; omega
  obtain ⟨b, off, x', y', rfl, hbB, hx', hc1, hc2⟩ := h.at_ hml
  rw [hx] at hx'
  obtain ⟨rfl, rfl⟩ : x' = x ∧ y' = y := by simpa [eq_comm] using hx'
  have hne : ¬ (n : Int) = 0 := by omega
  have hbs : b < w.heap.size := by omega
  clear hx hx' h
  go_enter Try.func44, Try.ntmps44
  go_wp2
  exact bodyPost_ret (v := v2 x' y') (by simp [results, Try.results44, go_sem]) rfl ⟨rfl, by go_grown⟩
end Go.Proofs.Ytklkkehhmmipeaa
