/- KeyReads: the walk. -/
import Derived.Test.YtinhmchekdolmaaProg
import Derived.Test.YtinhmchekdolmaaKeyD
import Derived.Test.YtinhmchekdolmaaKeyL
import Derived.Test.YtinhmchekdolmaaKeyR
import Derived.Test.YtinhmchekdolmaaKeyOwnL
import Derived.Test.YtinhmchekdolmaaKeyV
import Derived.Test.YtinhmchekdolmaaKeyX
import Derived.WalkKit
import Derived.WalkSpells
import Derived.WalkLawsBesides
import Derived.Deep.QuietTactic
import Derived.BigQuiet
import Derived.KernelRfl
import Derived.Lib.Hide
namespace Go.Proofs.Ytinhmchekdolmaa
open Go.RowKit

set_option maxRecDepth 100000 in
set_option maxHeartbeats 2000000 in
theorem keyReads_walk (A1 : Option Addr) (l1 : List UInt8) (c1 : Nat) (w : World)
    (hr1 : Rd w w.heap.size A1 (u8s l1)) (hc1 : l1.length ≤ c1) (hm1 : c1 ≤ 140737488351232) :
    Calls Try.prog 4 #[.slice A1 l1.length c1] w fun e w' => e = .returned (.bool true) ∧ Below w.heap.size w w' := by
  obtain ⟨i0, hi, hz0, hz1, hz2⟩ := info_parts infoU8
  have g1 : ∀ W, Below w.heap.size w W → Rd W w.heap.size A1 (u8s l1) := fun W h => hr1.below h (Nat.le_refl _)
  have hd1 : ∀ W A c, Rd W W.heap.size A (u8s l1) → l1.length ≤ c → c ≤ maxLen → Calls Try.prog 17 #[.slice A l1.length c] W fun e w' => ∃ v, e = .returned (.tuple #[v, .int .i64 (decE l1)]) ∧ OwnP w' W.heap.size 38 v (decK l1) ∧ Below W.heap.size W w' := fun W A c hr h1 h2 => decode_any A l1 _ c W.heap.size W rfl hr (Nat.le_refl _) h1 h2 (by omega)
  have hx1 : ∀ W, Below w.heap.size w W → Calls Try.prog 19 #[.slice A1 l1.length c1] W fun e w' => ∃ v, e = .returned (.tuple #[v, .int .i64 (decE l1)]) ∧ OwnP w' W.heap.size 57 v (decK l1) ∧ Below W.heap.size W w' := fun W h => refDecode_any A1 l1 _ c1 w.heap.size W rfl (g1 W h) h.size hc1 (by omega) (by omega)
  have hlk := decK_len l1
  have hen := enc_dec l1
  have hbad := dec_bad l1
  have hnm : (decK l1).map norm = decK l1 := by
    by_cases h : decE l1 = 0
    · exact (hen h).2.2.1
    · rw [hbad h]; rfl
  have hq1 : ∀ W A c, Rd W W.heap.size A (pcs (decK l1)) → Calls Try.prog 15 #[.slice A (decK l1).length c] W fun e w' => ∃ v, e = .returned v ∧ OwnP w' W.heap.size 57 v (decK l1) ∧ Below W.heap.size W w' := by
    intro W A c h
    have := ref_any A (decK l1) _ c W.heap.size W rfl h (Nat.le_refl _) (by omega)
    rw [hnm] at this
    exact this
  have hsm : ∀ W A A' c c', Rd W W.heap.size A (pcs (decK l1)) → Rd W W.heap.size A' (pcs (decK l1)) → Calls Try.prog 18 #[.slice A (decK l1).length c, .slice A' (decK l1).length c'] W fun e w' => e = .returned (.bool true) ∧ Below W.heap.size W w' := by
    intro W A A' c c' h1 h2
    have := refSame_any A A' (decK l1) (decK l1) _ _ c c' W.heap.size W rfl rfl h1 h2 (Nat.le_refl _) (by omega) (by omega)
    rw [keyC_self] at this
    simpa using this
  have he1 : decE l1 = 0 → ∀ W A c, Rd W W.heap.size A (pcs (decK l1)) → (decK l1).length ≤ c → c ≤ maxLen → Calls Try.prog 13 #[.slice A (decK l1).length c] W fun e w' => ∃ v', e = .returned (.tuple #[v', .int .i64 0]) ∧ OwnB w' W.heap.size 5 v' l1 ∧ Below W.heap.size W w' := by
    intro h0 W A c hr h1 h2
    have := encode_any A (decK l1) _ c W.heap.size W rfl hr (Nat.le_refl _) h1 h2 (hen h0).2.2.2
    rw [(hen h0).1, (hen h0).2.1] at this
    exact this
  obtain ⟨K, hK⟩ : ∃ K, K = decK l1 := ⟨_, rfl⟩
  obtain ⟨ee, hee⟩ : ∃ x, x = decE l1 := ⟨_, rfl⟩
  rw [← hK] at hd1 hx1 hlk hbad hq1 hsm he1
  rw [← hee] at hd1 hx1 hbad he1
  have HD := Lib.hid hd1
  have HX := Lib.hid hx1
  have HBAD := Lib.hid hbad
  have HQ := Lib.hid hq1
  have HSM := Lib.hid hsm
  have HE := Lib.hid he1
  have HG1 := Lib.hid g1
  clear hd1 hx1 hbad hq1 hsm he1 g1 hK hee hen hnm
  by_cases hbig : 5000 < (l1.length : Int)
  · go_enter Try.func4, Try.ntmps4
    go_wp2_with fail
    refine (awake_any _).mono ?_
    rintro e w1 ⟨rfl, hb1⟩
    go_wp2_with fail
    refine (awake_any _).mono ?_
    rintro e w2 ⟨rfl, hb2⟩
    go_wp2
    go_ret
    exact ⟨rfl, hb1.trans (hb2.mono hb1.size)⟩
  · go_enter Try.func4, Try.ntmps4
    go_wp2_with fail
    refine (awake_any _).mono ?_
    rintro e w1 ⟨rfl, hb1⟩
    have hs1 := hb1.size
    have hr1' := hr1.below hb1 (Nat.le_refl _)
    go_wp2_with (at_builtin; refine wpList_appB _ rfl (.tmp 18) (.tmp 19) _ rfl w1.heap.size 5 i0 _ Try.underlying26 hi hz0 hz1 hz2 rfl (.slice (some ⟨w1.heap.size, 0, none⟩) 0 0) [] rfl (OwnB.lit0 w1 (Nat.le_refl _)) w.heap.size A1 l1.length c1 l1 rfl rfl (hr1'.alloc hs1 _) (by simp; omega) (by simp) ?_; intro v2 w2 hown2 hg2 hat2; rw [List.nil_append] at hown2)
    have hb2 : Below w1.heap.size w1 w2 := ((Below.refl _ _).alloc (Nat.le_refl _) _).grown hg2 (by simp) (by intro k hk; simp [Value.ownBlock] at hk; omega)
    have hB2 := hb1.trans (hb2.mono hs1)
    clear hg2 hat2 hr1' hb2 hb1 hr1
    obtain ⟨Ai, ci, rfl, hci, hmi, hri, _⟩ := hown2.shape
    clear hown2
    refine (HD.out _ _ _ hri hci hmi).mono ?_
    rintro e w3 ⟨vk, rfl, hownk, hb3⟩
    have hB3 := hB2.trans (hb3.mono hB2.size)
    have hri3 := hri.below hb3 (Nat.le_refl _)
    have hs3 := hb3.size
    obtain ⟨Ak, ck, rfl, hck, hmk, hrk⟩ := own_shape hownk
    clear hownk hb3 hri
    go_wp2_with fail
    refine (HX.out _ hB3).mono ?_
    rintro e w4 ⟨vx, rfl, hownx, hb4⟩
    have hB4 := hB3.trans (hb4.mono hB3.size)
    have hri4 := hri3.below hb4 hs3
    have hrk4 := (hrk.below hb4 (Nat.le_refl _)).more hb4.size
    have hs4 := hb4.size
    obtain ⟨Ax, cx, rfl, hcx, hmx, hrx⟩ := own_shape hownx
    clear hownx hb4 hri3 hrk
    go_wp2_with fail
    refine (HQ.out _ _ _ hrk4).mono ?_
    rintro e w5 ⟨vq, rfl, hownq, hb5⟩
    have hB5 := hB4.trans (hb5.mono hB4.size)
    have hri5 := hri4.below hb5 (Nat.le_trans hs3 hs4)
    have hrk5 := (hrk4.below hb5 (Nat.le_refl _)).more hb5.size
    have hrx5 := (hrx.below hb5 (Nat.le_refl _)).more hb5.size
    have hs5 := hb5.size
    obtain ⟨Aq, cq, rfl, hcq, hmq, hrq⟩ := own_shape hownq
    clear hownq hb5 hri4 hrk4 hrx
    go_wp2_with fail
    refine (HSM.out _ _ _ _ _ hrq hrx5).mono ?_
    rintro e w6 ⟨rfl, hb6⟩
    have hB6 := hB5.trans (hb6.mono hB5.size)
    have hri6 := hri5.below hb6 (by omega)
    have hrk6 := (hrk5.below hb6 (Nat.le_refl _)).more hb6.size
    have q1 := strAt0 (c := ci) hri6 rfl
    have q2 := strAt0 (c := c1) (HG1.out _ hB6) rfl
    clear hb6 hri5 hrk5 hrx5 hrq
    by_cases hz : ee = 0
    · have hz1' : ((ee : Int) != 0) = false := by simp [hz]
      have HZ := Lib.hid hz
      clear hz
      go_wp2_with fail
      refine (HE.out HZ.out _ _ _ hrk6 hck hmk).mono ?_
      rintro e w7 ⟨vc, rfl, hownc, hb7⟩
      have hB7 := hB6.trans (hb7.mono hB6.size)
      obtain ⟨Ac, cc, rfl, hcc, hmc, hrc, -⟩ := hownc.shape
      have q3 := strAt0 (c := cc) hrc rfl
      have q4 := strAt0 (c := c1) (HG1.out _ hB7) rfl
      clear q1 q2 hownc hrc
      go_wp2
      go_ret
      exact ⟨by simp, hB7⟩
    · have hz1' : ((ee : Int) != 0) = true := by simpa using hz
      have hk0 : K.length = 0 := by rw [HBAD.out hz]; rfl
      have HK0 := Lib.hid hk0
      clear hz hk0
      go_wp2
      go_ret
      exact ⟨by rw [HK0.out]; rfl, hB6⟩
end Go.Proofs.Ytinhmchekdolmaa
