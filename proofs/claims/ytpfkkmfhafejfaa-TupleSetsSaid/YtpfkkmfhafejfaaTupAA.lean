/- tuple.Has: slices.ContainsFunc over a closure that holds the tuple. -/
import Derived.Test.YtpfkkmfhafejfaaTupR
namespace Go.Proofs.Ytpfkkmfhafejfaa
open Go.RowKit Go.Maps

/-- The closure. -/
theorem hasC_any (x t : TV) (b : Nat) (w : World) (hx : x.Ok w) (ht : t.Ok w) (hc : w.cell? ⟨b, 0, none⟩ = some (.slice t.A t.l.length t.c)) :
    Calls Try.prog 36 #[.slice x.A x.l.length x.c, .pointer (some ⟨b, 0, none⟩)] w fun e w' => e = .returned (.bool (decide (cmpI x.l t.l = 0))) ∧ w = w' := by
  have hs := sameT_any x t w hx ht
  generalize decide (cmpI x.l t.l = 0) = R at *
  clear hx ht
  go_enter Try.func36, Try.ntmps36
  go_wp2_with (go_at_call 34; (with_reducible refine hs.mono ?_); rintro e w' ⟨rfl, rfl⟩)
  go_ret
  exact ⟨rfl, rfl⟩
set_option maxHeartbeats 1000000 in
/-- slices.IndexFunc with it. -/
theorem index_any (A : Option Addr) (c : Nat) (ts : List TV) (t : TV) (b : Nat) (w : World) (h : Lst w A c ts) (ht : t.Ok w) (hc : w.cell? ⟨b, 0, none⟩ = some (.slice t.A t.l.length t.c)) :
    Calls Try.prog 47 #[.slice A ts.length c, .func (.func 36) #[] #[.pointer (some ⟨b, 0, none⟩)]] w fun e w' => ∃ r : Int, e = .returned (.int .i64 r) ∧ decide (0 ≤ r) = hasL (tus ts) t.l ∧ w' = w := by
  have hs := h.sm
  have HA := Lib.hid (And.intro h (And.intro ht hc))
  clear h ht hc
  go_enter Try.func47, Try.ntmps47
  go_wp2_with (fail)
  go_loopw [8] (fun i wr => ∃ k : Nat, k ≤ ts.length ∧ i = .int .i64 k ∧ wr = w ∧ Hid (∀ j, (hj : j < ts.length) → j < k → cmpI ts[j].l t.l ≠ 0)) (fun i _ => ts.length - (intOf i).toNat)
  case atStart => exact ⟨0, Nat.zero_le _, rfl, rfl, Lib.hid fun j _ hj => absurd hj (Nat.not_lt_zero _)⟩
  case round =>
    obtain ⟨k, hk, rfl, rfl, HR⟩ := hrel
    by_cases hlt : k < ts.length
    · obtain ⟨b', o', hA, _, hx⟩ := HA.out.1.cell hlt
      subst hA
      have hcall := hasC_any ts[k] t b wr (HA.out.1.at hlt) HA.out.2.1 HA.out.2.2
      have HE := Lib.hid (fun (h : cmpI ts[k].l t.l = 0) => hasL_at (l := tus ts) (t := t.l) (i := k) (by rw [tus_len]; exact hlt) (by rw [tus_at ts k hlt]; exact h))
      have HN : Hid (cmpI ts[k].l t.l ≠ 0 → ∀ j, (hj : j < ts.length) → j < k + 1 → cmpI ts[j].l t.l ≠ 0) := Lib.hid fun h0 j hj hj1 => by
        by_cases e : j = k
        · subst e; exact h0
        · exact HR.out j hj (by omega)
      generalize ts[k] = x at hx hcall HE HN
      by_cases h0 : cmpI x.l t.l = 0
      · rw [h0] at hcall
        have hr := HE.out h0
        have HR2 := Lib.hid hr
        clear h0 hr
        go_wp2_with (go_at_call 36; (with_reducible refine hcall.mono ?_); rintro e w' ⟨rfl, rfl⟩)
        go_ret
        exact ⟨k, rfl, by rw [HR2.out]; exact decide_eq_true (by omega), rfl⟩
      · have hcall2 : Calls Try.prog 36 #[.slice x.A x.l.length x.c, .pointer (some ⟨b, 0, none⟩)] wr fun e w' => e = .returned (.bool false) ∧ wr = w' := hcall.mono fun e w' hh => ⟨by rw [hh.1, decide_eq_false h0], hh.2⟩
        have HR2 := Lib.hid (HN.out h0)
        clear h0 hcall
        go_wp2_with (go_at_call 36; (with_reducible refine hcall2.mono ?_); rintro e w' ⟨rfl, rfl⟩)
        go_roundw
        case rel => exact ⟨k + 1, by omega, by go_num, trivial, HR2⟩
        case measure => simp [intOf]; omega
    · have g0 : ¬ (k : Int) < (ts.length : Int) := by omega
      go_wp2_with (fail)
      go_ret
      refine ⟨-1, rfl, ?_, rfl⟩
      have hno : hasL (tus ts) t.l = false := hasL_no.2 fun hm => by
        obtain ⟨u, hu, e⟩ := List.mem_map.1 hm
        obtain ⟨j, hj, rfl⟩ := List.getElem_of_mem hu
        exact HR.out j hj (by omega) (cmpI_zero.2 e)
      rw [hno]
      rfl
theorem contains_any (A : Option Addr) (c : Nat) (ts : List TV) (t : TV) (b : Nat) (w : World) (h : Lst w A c ts) (ht : t.Ok w) (hc : w.cell? ⟨b, 0, none⟩ = some (.slice t.A t.l.length t.c)) :
    Calls Try.prog 35 #[.slice A ts.length c, .func (.func 36) #[] #[.pointer (some ⟨b, 0, none⟩)]] w fun e w' => e = .returned (.bool (hasL (tus ts) t.l)) ∧ w' = w := by
  have hi := index_any A c ts t b w h ht hc
  generalize hasL (tus ts) t.l = R at *
  clear h ht hc
  go_enter Try.func35, Try.ntmps35
  go_wp2_with (go_at_call 47; (with_reducible refine hi.mono ?_); rintro e w' ⟨r, rfl, hr, rfl⟩)
  go_ret
  exact ⟨by rw [← hr]; rfl, rfl⟩
/-- tuple.Has. -/
theorem has_l (x : LV) (t : TV) (w : World) (hx : x.Ok w) (ht : t.Ok w) : Calls Try.prog 17 #[.slice x.A x.ts.length x.c, .slice t.A t.l.length t.c] w fun e w' => e = .returned (.bool (hasL (tus x.ts) t.l)) ∧ Below w.heap.size w w' := by
  have hb1 : Below w.heap.size w (w.alloc (.cells #[.slice t.A t.l.length t.c] 24)) := (Below.refl _ _).alloc (Nat.le_refl _) _
  have hg1 := heap_alloc_new w (.cells #[.slice t.A t.l.length t.c] 24)
  have hc := contains_any x.A x.c x.ts t w.heap.size _ (hx.below hb1) (ht.below hb1) (cell_of_row _ _ 0 _ _ _ hg1)
  have HC := Lib.hid hc
  have HB := Lib.hid hb1
  clear hc hb1 hg1 hx ht
  generalize hasL (tus x.ts) t.l = R at *
  go_enter Try.func17, Try.ntmps17
  go_wp2_with (go_at_call 35; (with_reducible refine HC.out.mono ?_); rintro e w' ⟨rfl, rfl⟩)
  go_ret
  exact ⟨rfl, HB.out⟩
end Go.Proofs.Ytpfkkmfhafejfaa
