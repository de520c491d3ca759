/- KeyWrites: the walk. -/
import Derived.Test.YtinhmchekdolmaaProg
import Derived.Test.YtinhmchekdolmaaKeyD
import Derived.Test.YtinhmchekdolmaaKeyL
import Derived.Test.YtinhmchekdolmaaKeyR
import Derived.Test.YtinhmchekdolmaaKeyS
import Derived.Test.YtinhmchekdolmaaKeyU
import Derived.Test.YtinhmchekdolmaaKeyV
import Derived.WalkKit
import Derived.WalkSpells
import Derived.WalkLawsBesides
import Derived.Deep.QuietTactic
import Derived.BigQuiet
import Derived.KernelRfl
import Derived.Lib.Hide
namespace Go.Proofs.Ytinhmchekdolmaa
open Go.RowKit

set_option maxRecDepth 100000 in
set_option maxHeartbeats 2000000 in
theorem keyWrites_walk (A1 : Option Addr) (k1 : List KPart) (c1 : Nat) (w : World)
    (hr1 : Rd w w.heap.size A1 (pcs k1)) (hf1 : ∀ q ∈ k1, q.fits) (hc1 : k1.length ≤ c1) (hm1 : c1 ≤ 4398046511104) :
    Calls Try.prog 3 #[.slice A1 k1.length c1] w fun e w' => e = .returned (.bool true) ∧ Below w.heap.size w w' := by
  have g1 : ∀ W, Below w.heap.size w W → Rd W w.heap.size A1 (pcs k1) := fun W h => hr1.below h (Nat.le_refl _)
  have hw1 : ∀ W, Below w.heap.size w W → Calls Try.prog 11 #[.slice A1 k1.length c1] W fun e w' => e = .returned (.bool (fewB k1)) ∧ W = w' := fun W h => few_any A1 k1 _ c1 w.heap.size W rfl (g1 W h) h.size (by omega) hf1
  have ho1 : ∀ W, Below w.heap.size w W → Calls Try.prog 12 #[.slice A1 k1.length c1] W fun e w' => ∃ v, e = .returned v ∧ OwnP w' W.heap.size 38 v k1 ∧ Below W.heap.size W w' := fun W h => own_any A1 k1 _ c1 w.heap.size W rfl (g1 W h) h.size (by omega)
  have hq1 : ∀ W, Below w.heap.size w W → Calls Try.prog 15 #[.slice A1 k1.length c1] W fun e w' => ∃ v, e = .returned v ∧ OwnP w' W.heap.size 57 v (k1.map norm) ∧ Below W.heap.size W w' := fun W h => ref_any A1 k1 _ c1 w.heap.size W rfl (g1 W h) h.size (by omega)
  have he1 : ∀ W A c, Rd W W.heap.size A (pcs k1) → k1.length ≤ c → c ≤ maxLen → Calls Try.prog 13 #[.slice A k1.length c] W fun e w' => ∃ v', e = .returned (.tuple #[v', .int .i64 (encE k1)]) ∧ OwnB w' W.heap.size 5 v' (encB k1) ∧ Below W.heap.size W w' := fun W A c hr h1 h2 => encode_any A k1 _ c W.heap.size W rfl hr (Nat.le_refl _) h1 h2 hf1
  have hx1 : ∀ W A c, Rd W W.heap.size A (pcs (k1.map norm)) → Calls Try.prog 14 #[.slice A (k1.map norm).length c] W fun e w' => ∃ v', e = .returned (.tuple #[v', .int .i64 (encE (k1.map norm))]) ∧ OwnB w' W.heap.size 5 v' (encB (k1.map norm)) ∧ Below W.heap.size W w' := fun W A c hr => refEncode_any A (k1.map norm) _ c W.heap.size W rfl hr (Nat.le_refl _) (by rw [List.length_map]; omega) (fun p hp => by obtain ⟨q, hq, rfl⟩ := List.mem_map.1 hp; exact norm_fits (hf1 q hq))
  rw [encE_norm, encB_norm] at hx1
  have hxl : (encB k1).length ≤ 200 := by unfold encB; split <;> simp [keyB_length]; assumption
  have hde := dec_enc k1 hf1
  have hd1 : ∀ W A c, encE k1 = 0 → Rd W W.heap.size A (u8s (encB k1)) → (encB k1).length ≤ c → c ≤ maxLen → Calls Try.prog 17 #[.slice A (encB k1).length c] W fun e w' => ∃ v, e = .returned (.tuple #[v, .int .i64 0]) ∧ OwnP w' W.heap.size 38 v (k1.map norm) ∧ Below W.heap.size W w' := by
    intro W A c h0 hr h1 h2
    have := decode_any A (encB k1) _ c W.heap.size W rfl hr (Nat.le_refl _) h1 h2 (by omega)
    rw [(hde h0).1, (hde h0).2] at this
    exact this
  have hlm : (k1.map norm).length = k1.length := List.length_map _
  have hnn := map_norm_norm k1
  have hnc : ∀ q ∈ k1.map norm, (q.text = true → q.n = 0) ∧ (q.text = false → q.s = ⟨#[]⟩) := by
    intro q hq
    obtain ⟨p, _, rfl⟩ := List.mem_map.1 hq
    obtain ⟨tx, s, n⟩ := p
    cases tx
    · exact ⟨(fun h => nomatch h), fun _ => rfl⟩
    · exact ⟨fun _ => rfl, (fun h => nomatch h)⟩
  have hsm : ∀ W A A' c c', Rd W W.heap.size A (pcs (k1.map norm)) → Rd W W.heap.size A' (pcs (k1.map norm)) → Calls Try.prog 18 #[.slice A (k1.map norm).length c, .slice A' (k1.map norm).length c'] W fun e w' => e = .returned (.bool true) ∧ Below W.heap.size W w' := by
    intro W A A' c c' h1 h2
    have := refSame_any A A' (k1.map norm) (k1.map norm) _ _ c c' W.heap.size W rfl rfl h1 h2 (Nat.le_refl _) (by omega) (by omega)
    rw [keyC_self] at this
    simpa using this
  have hqn : ∀ W A c, Rd W W.heap.size A (pcs (k1.map norm)) → Calls Try.prog 15 #[.slice A (k1.map norm).length c] W fun e w' => ∃ v, e = .returned v ∧ OwnP w' W.heap.size 57 v (k1.map norm) ∧ Below W.heap.size W w' := by
    intro W A c h1
    have := ref_any A (k1.map norm) _ c W.heap.size W rfl h1 (Nat.le_refl _) (by omega)
    rw [hnn] at this
    exact this
  have hss : ∀ W A A' c c', Rd W W.heap.size A (pcs k1) → Rd W W.heap.size A' (pcs k1) → Calls Try.prog 16 #[.slice A k1.length c, .slice A' k1.length c'] W fun e w' => e = .returned (.bool true) ∧ ∃ m, w' = W.drewN m := fun W A A' c c' h1 h2 => same_any A A' k1 _ _ c c' W.heap.size W rfl rfl h1 h2 (by omega)
  obtain ⟨bb, hbb⟩ : ∃ b, b = fewB k1 := ⟨_, rfl⟩
  obtain ⟨X, hX⟩ : ∃ X, X = encB k1 := ⟨_, rfl⟩
  obtain ⟨ee, hee⟩ : ∃ x, x = encE k1 := ⟨_, rfl⟩
  obtain ⟨N, hN⟩ : ∃ x, x = k1.map norm := ⟨_, rfl⟩
  rw [← hbb] at hw1
  rw [← hX] at he1 hxl hx1 hd1
  rw [← hee] at he1 hx1 hd1
  rw [← hN] at hq1 hx1 hd1 hlm hnc hsm hqn
  have HW := Lib.hid hw1
  have HO := Lib.hid ho1
  have HQ := Lib.hid hq1
  have HE := Lib.hid he1
  have HXE := Lib.hid hx1
  have HD := Lib.hid hd1
  have HLM := Lib.hid hlm
  have HNC := Lib.hid hnc
  have HSM := Lib.hid hsm
  have HQN := Lib.hid hqn
  have HSS := Lib.hid hss
  have HG1 := Lib.hid g1
  have hNl : N.length ≤ 4398046511104 := by rw [hlm]; omega
  clear hw1 ho1 hq1 he1 hx1 hd1 hlm hnc hsm hqn hss g1 hbb hX hee hN hr1 hf1 hde hnn
  rcases bb with _ | _
  · go_enter Try.func3, Try.ntmps3
    go_wp2_with fail
    refine (awake_any _).mono ?_
    rintro e w1 ⟨rfl, hb1⟩
    go_wp2_with (go_at_call 11; (with_reducible refine (HW.out _ hb1).mono ?_); rintro e w' ⟨rfl, rfl⟩)
    refine (awake_any _).mono ?_
    rintro e w2 ⟨rfl, hb2⟩
    go_wp2
    go_ret
    exact ⟨rfl, hb1.trans (hb2.mono hb1.size)⟩
  · go_enter Try.func3, Try.ntmps3
    go_wp2_with fail
    refine (awake_any _).mono ?_
    rintro e w1 ⟨rfl, hB1⟩
    go_wp2_with (go_at_call 11; (with_reducible refine (HW.out _ hB1).mono ?_); rintro e w' ⟨rfl, rfl⟩)
    refine (HO.out _ hB1).mono ?_
    rintro e w2 ⟨vi, rfl, howni, hb2⟩
    have hB2 := hB1.trans (hb2.mono hB1.size)
    obtain ⟨Ai, ci, rfl, hci, hmi, hri⟩ := own_shape howni
    clear howni hb2
    go_wp2_with fail
    refine (HE.out _ _ _ hri hci hmi).mono ?_
    rintro e w3 ⟨vb, rfl, hownb, hb3⟩
    have hB3 := hB2.trans (hb3.mono hB2.size)
    have hri3 := hri.below hb3 (Nat.le_refl _)
    have hs3 := hb3.size
    obtain ⟨Ab, cb, rfl, hcb, hmb, hrb, -⟩ := hownb.shape
    clear hownb hb3 hri
    go_wp2_with fail
    refine (HQ.out _ hB3).mono ?_
    rintro e w4 ⟨vq, rfl, hownq, hb4⟩
    have hB4 := hB3.trans (hb4.mono hB3.size)
    have hri4 := hri3.below hb4 hs3
    have hrb4 := hrb.below hb4 (Nat.le_refl _)
    have hs4 := hb4.size
    obtain ⟨Aq, cq, rfl, hcq, hmq, hrq⟩ := own_shape hownq
    clear hownq hb4 hri3 hrb
    go_wp2_with fail
    refine (HXE.out _ _ _ hrq).mono ?_
    rintro e w5 ⟨vx, rfl, hownx, hb5⟩
    have hB5 := hB4.trans (hb5.mono hB4.size)
    have hs5 := hb5.size
    have hri5 := hri4.below hb5 (Nat.le_trans hs3 hs4)
    have hrb5 := hrb4.below hb5 hs4
    obtain ⟨Ax, cx, rfl, hcx, hmx, hrx, -⟩ := hownx.shape
    have q1 := strAt0 (c := cb) hrb5 rfl
    have q2 := strAt0 (c := cx) hrx rfl
    clear hownx hb5 hri4 hrb4 hrq
    go_wp2_with fail
    refine (HSS.out _ _ _ _ _ (hri5.more (by omega)) ((HG1.out _ hB5).more hB5.size)).mono ?_
    rintro e w6 ⟨rfl, m, rfl⟩
    have hrb6 : Rd (w5.drewN m) (w5.drewN m).heap.size Ab (u8s X) := (hrb5.drewN m).more (show w3.heap.size ≤ w5.heap.size by omega)
    have hB6 : Below w.heap.size w (w5.drewN m) := below_draws hB5 m
    clear q1 q2 hri5 hrb5 hrx hB5
    obtain ⟨w6, hw6⟩ : ∃ x, x = w5.drewN m := ⟨_, rfl⟩
    rw [← hw6] at hrb6 hB6 ⊢
    clear hw6
    by_cases hz : ee = 0
    · have hz1 : ((ee : Int) != 0) = false := by simp [hz]
      have HZ := Lib.hid hz
      clear hz
      go_wp2_with fail
      refine (HD.out _ _ _ HZ.out hrb6 hcb hmb).mono ?_
      rintro e w7 ⟨vl, rfl, hownl, hb7⟩
      have hB7 := hB6.trans (hb7.mono hB6.size)
      obtain ⟨Al, cl, rfl, hcl, hml, hrl⟩ := own_shape hownl
      clear hownl hb7 hrb6 hB6
      go_wp2_with fail
      go_loopw [58] (fun i wr => ∃ k : Nat, k ≤ N.length ∧ i = .int .i64 (k : Int) ∧ Below w.heap.size w wr ∧ Rd wr w7.heap.size Al (pcs N) ∧ w7.heap.size ≤ wr.heap.size) (fun i _ => N.length - (intOf i).toNat)
      case atStart => exact ⟨0, by omega, rfl, hB7, hrl, Nat.le_refl _⟩
      case round =>
        clear hB7 hrl
        obtain ⟨k, hk, rfl, hBr, hrr, hsr⟩ := hrel
        rcases Nat.lt_or_ge k N.length with h8 | h8
        · obtain ⟨q, hq⟩ : ∃ q, q = N[k] := ⟨_, rfl⟩
          have hqn := HNC.out q (by rw [hq]; exact List.getElem_mem _)
          obtain ⟨pb, po, rfl, hpB, c0, c1, c2⟩ := hrr.part h8
          rw [← hq] at c0 c1 c2
          have HR := Lib.hid hrr
          clear hq hrr
          rcases ht : q.text with _ | _
          · rw [ht] at c0
            rw [hqn.2 ht] at c1
            clear hqn ht
            go_wp2
            go_roundw
            case rel => exact ⟨k + 1, by omega, by go_num, hBr.alloc hBr.size _, HR.out.alloc hsr _, by simp; omega⟩
            case measure => simp [intOf]; omega
          · rw [ht] at c0
            rw [hqn.1 ht] at c2
            clear hqn ht
            go_wp2
            go_roundw
            case rel => exact ⟨k + 1, by omega, by go_num, hBr.alloc hBr.size _, HR.out.alloc hsr _, by simp; omega⟩
            case measure => simp [intOf]; omega
        · obtain rfl : k = N.length := by omega
          go_wp2_with fail
          refine (HQN.out _ _ _ (hrr.more hsr)).mono ?_
          rintro e w8 ⟨v8, rfl, hown8, hb8⟩
          have hB8 := hBr.trans (hb8.mono hBr.size)
          obtain ⟨A8, c8, rfl, hc8, hm8, hr8⟩ := own_shape hown8
          clear hown8 hb8
          go_wp2_with fail
          refine (HQ.out _ hB8).mono ?_
          rintro e w9 ⟨v9, rfl, hown9, hb9⟩
          have hB9 := hB8.trans (hb9.mono hB8.size)
          have hr89 := (hr8.below hb9 (Nat.le_refl _)).more hb9.size
          obtain ⟨A9, c9, rfl, hc9, hm9, hr9⟩ := own_shape hown9
          clear hown9 hb9
          go_wp2_with fail
          refine (HSM.out _ _ _ _ _ hr89 hr9).mono ?_
          rintro e w10 ⟨rfl, hb10⟩
          go_wp2
          go_ret
          exact ⟨rfl, hB9.trans (hb10.mono hB9.size)⟩
    · have hz1 : ((ee : Int) != 0) = true := by simpa using hz
      go_wp2
      go_ret
      exact ⟨rfl, hB6⟩
end Go.Proofs.Ytinhmchekdolmaa
