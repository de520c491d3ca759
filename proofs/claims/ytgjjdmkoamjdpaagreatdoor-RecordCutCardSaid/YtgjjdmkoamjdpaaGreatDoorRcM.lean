/- readCommit. -/
import Derived.Test.YtgjjdmkoamjdpaaGreatDoorRcL
import Derived.Test.YtgjjdmkoamjdpaaGreatDoorRcH
namespace Go.Proofs.YtgjjdmkoamjdpaaGreatDoor
open Go.RowKit Go.Maps
set_option maxRecDepth 100000

theorem rvV_len (l : List UInt8) : (rvV l).2 ≤ l.length := by
  by_cases h2 : l.length < 2
  · rw [rv_short l h2]; exact Nat.zero_le _
  · by_cases hck : ckN (rfv l) = 0
    · by_cases ht : (l.getD 0 0).toNat = 2 ∧ l.length < 2 + (l.getD 1 0).toNat
      · rw [rv_text l (by omega) ht.1 ht.2]; exact Nat.zero_le _
      · obtain ⟨h3, h4⟩ := rv_yes l (by omega) hck (fun e => by
          rcases Nat.lt_or_ge l.length (2 + (l.getD 1 0).toNat) with h | h
          · exact absurd ⟨e, h⟩ ht
          · exact h)
        by_cases he : l.take (encV (rfv l)).length = encV (rfv l)
        · rw [h3 he]
          have := congrArg List.length he
          rw [List.length_take] at this
          dsimp only
          omega
        · rw [h4 he]; exact Nat.zero_le _
    · rw [rv_no l (by omega) hck]; exact Nat.zero_le _
theorem rdC_len {l : List UInt8} {c : ChV} {k : Nat} (h : rdC l = some (c, k)) : 1 ≤ k ∧ k ≤ l.length ∧ formB c = true := by
  cases l with
  | nil => cases h
  | cons x t =>
    have h1 : rdC1 x t = some (c, k) := h
    unfold rdC1 at h1
    split at h1
    · cases h1
    · rename_i hlt
      split at h1
      · cases h1
      · cases ho : ofK (decK (t.take x.toNat)) with
        | none => rw [ho] at h1; cases h1
        | some c1 =>
          rw [ho] at h1
          dsimp only at h1
          split at h1
          · split at h1
            · cases h1
            · split at h1
              · rename_i hf
                injection h1 with h1
                injection h1 with e1 e2
                subst e1 e2
                have := rvV_len (t.drop x.toNat)
                rw [List.length_drop] at this
                refine ⟨by omega, ?_, hf⟩
                rw [List.length_cons]
                omega
              · cases h1
          · split at h1
            · rename_i hf
              injection h1 with h1
              injection h1 with e1 e2
              subst e1 e2
              refine ⟨by omega, ?_, hf⟩
              rw [List.length_cons]
              omega
            · cases h1
def RcmPost (w : World) (r : Option (List ChV)) (e : Ending) (w' : World) : Prop := ∃ A n c, e = .returned (.tuple #[.slice A n c, .bool r.isSome]) ∧ (∀ l, r = some l → OwnC w' w.heap.size (.slice A n c) l ∧ n = l.length) ∧ Below w.heap.size w w'
set_option maxHeartbeats 4000000 in
theorem readCommit_any (A : Option Addr) (l : List UInt8) (n c B : Nat) (w : World) (hn : n = l.length) (hr : Rd w B A (u8s l)) (hB : B ≤ w.heap.size) (hl : l.length ≤ 100000) (hc : l.length ≤ c) (hcm : c ≤ 9223372036854775807) (hT : Tabs w) : Calls Tryz.prog 43 #[.slice A n c] w (RcmPost w (rcL l)) := by
  cases l with
  | nil =>
    subst hn
    clear hr hl hT
    go_enter Tryz.func43, Tryz.ntmps43
    go_wp2_with (fail)
    go_ret2
    exact ⟨none, 0, 0, rfl, (fun l h => by cases h), Below.refl _ _⟩
  | cons x t =>
    obtain ⟨b, o, rfl, hb, p0⟩ := hr.get (k := 0) (by rw [u8s_length]; simp)
    rw [u8s_get _ 0 (by simp)] at p0
    simp only [List.getElem_cons_zero, Nat.add_zero] at p0
    obtain ⟨X, hX⟩ : ∃ X, X = x.toNat := ⟨_, rfl⟩
    have hX255 : X ≤ 255 := by rw [hX]; have := x.toNat_lt; omega
    rw [← hX] at p0
    obtain ⟨m, hm⟩ : ∃ m, m = t.length := ⟨_, rfl⟩
    rw [List.length_cons, ← hm] at hn hl hc
    subst hn
    have hlt : b < w.heap.size := Nat.lt_of_lt_of_le hb hB
    have hne : ((m : Int) + 1 == 0) = false := beq_eq_false_iff_ne.2 (by omega)
    obtain ⟨R, hRR⟩ : ∃ R, R = rcL1 x t := ⟨_, rfl⟩
    have hrl : rcL (x :: t) = R := hRR.symm
    rw [hrl]
    unfold rcL1 at hRR
    rw [← hX] at hRR
    have HRD := Lib.hid hRR
    have HI := Lib.hid (And.intro hr (And.intro hT (And.intro hm hX)))
    clear hr hT hm hX hrl hRR
    by_cases h60 : 60 < X
    · have hI : (60 : Int) < (X : Int) := by omega
      have HRN := Lib.hid (show R = none from by rw [HRD.out, if_pos h60])
      go_enter Tryz.func43, Tryz.ntmps43
      go_wp2_with (fail)
      go_ret2
      exact ⟨none, 0, 0, by rw [HRN.out]; rfl, (fun l h => by rw [HRN.out] at h; cases h), Below.refl _ _⟩
    · have hI : ¬ (60 : Int) < (X : Int) := by omega
      have hRm := HRD.out
      rw [if_neg h60] at hRm
      replace HRD := Lib.hid hRm
      clear hRm
      have hst : ∃ A5 c5, ((c = 1 ∧ A5 = some ⟨b, o, none⟩ ∧ c5 = 0) ∨ (c ≠ 1 ∧ A5 = some ⟨b, o + 1, none⟩ ∧ c5 = c - 1)) ∧ Rd w B A5 (u8s t) ∧ m ≤ c5 ∧ c5 ≤ 9223372036854775807 := by
        by_cases hc0 : c = 1
        · refine ⟨_, _, .inl ⟨hc0, rfl, rfl⟩, ?_, by omega, by omega⟩
          have ht : t = [] := List.eq_nil_of_length_eq_zero (by rw [← HI.out.2.2.1]; omega)
          rw [ht]
          exact fun hn => absurd rfl hn
        · refine ⟨_, _, .inr ⟨hc0, rfl, rfl⟩, ?_, by omega, by omega⟩
          have h1 := rd_from HI.out.1 1
          rw [← u8s_drop] at h1
          exact h1
      obtain ⟨A5, c5, hA5, hrd5, hmc5, hc5m⟩ := hst
      have HR5 := Lib.hid hrd5
      clear hrd5
      go_enter Tryz.func43, Tryz.ntmps43
      rcases hA5 with ⟨hc0, rfl, rfl⟩ | ⟨hc0, rfl, rfl⟩
      · subst hc0
        go_wp2_with (fail)
        go_loopw [4, 5, 22] (fun v4 v5 v22 wr => ∃ (k : Nat) (A4 : Option Addr) (c4 : Nat) (A5 : Option Addr) (n5 c5 : Nat) (lk : List ChV) (rk : List UInt8), k ≤ X ∧ v4 = .slice A4 k c4 ∧ v5 = .slice A5 n5 c5 ∧ n5 ≤ m ∧ n5 ≤ c5 ∧ c5 ≤ 9223372036854775807 ∧ v22 = .int .u8 (k : Int) ∧ Hid (OwnC wr w.heap.size (.slice A4 k c4) lk ∧ lk.length = k ∧ n5 = rk.length ∧ Rd wr B A5 (u8s rk) ∧ rdAll X t = (rdAll (X - k) rk).map (fun p => (lk ++ p.1, p.2)) ∧ Below w.heap.size w wr)) (fun _ _ v22 _ => X - (intOf v22).toNat)
        case atStart => exact ⟨0, none, 0, some ⟨b, o, none⟩, 0, 0, [], t, by omega, rfl, rfl, by omega, by omega, by omega, rfl, Lib.hid ⟨World.ownsRow_nil _ _ _ _, rfl, by rw [← HI.out.2.2.1]; omega, HR5.out, by simp, Below.refl _ _⟩⟩
        case round =>
          obtain ⟨k, A4, c4, A5, n5, c5, lk, rk, hk, rfl, rfl, hn5m, hn5c, hc5m', rfl, hrel⟩ := hrel
          rename World => wr
          by_cases hlt5 : k < X
          · have hkI : (k : Int) < (X : Int) := by omega
            have hrc := readChange_any A5 rk n5 c5 B wr hrel.out.2.2.1 hrel.out.2.2.2.1 (Nat.le_trans hB hrel.out.2.2.2.2.2.size) (by rw [← hrel.out.2.2.1]; omega) (by rw [← hrel.out.2.2.1]; omega) hc5m' (HI.out.2.1.below hrel.out.2.2.2.2.2)
            unfold RchPost at hrc
            obtain ⟨j, hj⟩ : ∃ j, X - k = j + 1 := ⟨X - k - 1, by omega⟩
            have hst := hrel.out.2.2.2.2.1
            rw [hj] at hst
            unfold rdAll at hst
            cases hrk : rdC rk with
            | none =>
              rw [hrk] at hrc hst
              have HRN := Lib.hid (show R = none from by
                have h1 := HRD.out
                rw [show rdAll X t = none from by
                  have h2 : rdAll X t = _ := hrel.out.2.2.2.2.1
                  rw [h2, hj]
                  unfold rdAll
                  rw [hrk]
                  rfl] at h1
                exact h1)
              dsimp only [Option.getD_none, zeroC, ChV.cells] at hrc
              have HRC := Lib.hid hrc
              have HB := Lib.hid hrel.out.2.2.2.2.2
              clear hrel hrc hst hrk hj
              go_wp2_with (go_at_call 62; (with_reducible refine HRC.out.mono ?_); rintro e w3 ⟨rfl, b3⟩; have B3 := Lib.hid b3; clear b3)
              go_ret2
              exact ⟨none, 0, 0, by rw [HRN.out]; rfl, (fun l h => by rw [HRN.out] at h; cases h), (HB.out.trans (lower' B3.out HB.out.size)).alloc (HB.out.trans (lower' B3.out HB.out.size)).size _⟩
            | some p =>
              obtain ⟨ch, z⟩ := p
              obtain ⟨hz1, hz2, -⟩ := rdC_len hrk
              rw [hrk] at hrc
              have HST := Lib.hid (show rdAll X t = (rdAll (X - (k + 1)) (rk.drop z)).map (fun p => ((lk ++ [ch]) ++ p.1, p.2)) from by
                have h2 : rdAll X t = _ := hrel.out.2.2.2.2.1
                rw [h2, hj]
                conv => lhs; unfold rdAll
                rw [hrk]
                dsimp only
                rw [show X - (k + 1) = j by omega, Option.map_map]
                congr 1
                funext p
                simp)
              exact absurd hz2 (by have := hrel.out.2.2.1; omega)
          · obtain rfl : k = X := by omega
            have hkI : ¬ (k : Int) < (k : Int) := by omega
            have hst := hrel.out.2.2.2.2.1
            rw [Nat.sub_self] at hst
            have hst2 : rdAll k t = some (lk, rk) := by rw [hst]; unfold rdAll; simp
            have hR := HRD.out
            rw [hst2] at hR
            by_cases hrk : rk = []
            · have h0 : n5 = 0 := by rw [hrel.out.2.2.1, hrk]; rfl
              rw [hrk] at hR
              have HRS := Lib.hid (show R = some lk from hR)
              have HO := Lib.hid (And.intro hrel.out.1 (And.intro hrel.out.2.1 hrel.out.2.2.2.2.2))
              clear hrel hst hst2 hR hrk
              subst h0
              go_wp2_with (fail)
              go_ret2
              exact ⟨A4, k, c4, by rw [HRS.out]; rfl, (fun l h => by rw [HRS.out] at h; injection h with h; subst h; exact ⟨HO.out.1, HO.out.2.1.symm⟩), HO.out.2.2⟩
            · have h0 : ((n5 : Int) == 0) = false := by
                rw [beq_eq_false_iff_ne, hrel.out.2.2.1]
                have := List.length_pos_iff.2 hrk
                omega
              have HRN := Lib.hid (show R = none from by
                match rk, hrk, hR with
                | _ :: _, _, hR => exact hR)
              have HB := Lib.hid hrel.out.2.2.2.2.2
              clear hrel hst hst2 hR hrk
              go_wp2_with (fail)
              go_ret2
              exact ⟨A4, k, c4, by rw [HRN.out]; rfl, (fun l h => by rw [HRN.out] at h; cases h), HB.out⟩
      · go_wp2_with (fail)
        go_loopw [4, 5, 22] (fun v4 v5 v22 wr => ∃ (k : Nat) (A4 : Option Addr) (c4 : Nat) (A5 : Option Addr) (n5 c5 : Nat) (lk : List ChV) (rk : List UInt8), k ≤ X ∧ v4 = .slice A4 k c4 ∧ v5 = .slice A5 n5 c5 ∧ n5 ≤ m ∧ n5 ≤ c5 ∧ c5 ≤ 9223372036854775807 ∧ v22 = .int .u8 (k : Int) ∧ Hid (OwnC wr w.heap.size (.slice A4 k c4) lk ∧ lk.length = k ∧ n5 = rk.length ∧ Rd wr B A5 (u8s rk) ∧ rdAll X t = (rdAll (X - k) rk).map (fun p => (lk ++ p.1, p.2)) ∧ Below w.heap.size w wr)) (fun _ _ v22 _ => X - (intOf v22).toNat)
        case atStart => exact ⟨0, none, 0, some ⟨b, o + 1, none⟩, m, c - 1, [], t, by omega, rfl, rfl, by omega, by omega, by omega, rfl, Lib.hid ⟨World.ownsRow_nil _ _ _ _, rfl, by rw [← HI.out.2.2.1], HR5.out, by simp, Below.refl _ _⟩⟩
        case round =>
          obtain ⟨k, A4, c4, A5, n5, c5, lk, rk, hk, rfl, rfl, hn5m, hn5c, hc5m', rfl, hrel⟩ := hrel
          rename World => wr
          by_cases hlt5 : k < X
          · have hkI : (k : Int) < (X : Int) := by omega
            have hrc := readChange_any A5 rk n5 c5 B wr hrel.out.2.2.1 hrel.out.2.2.2.1 (Nat.le_trans hB hrel.out.2.2.2.2.2.size) (by rw [← hrel.out.2.2.1]; omega) (by rw [← hrel.out.2.2.1]; omega) hc5m' (HI.out.2.1.below hrel.out.2.2.2.2.2)
            unfold RchPost at hrc
            obtain ⟨j, hj⟩ : ∃ j, X - k = j + 1 := ⟨X - k - 1, by omega⟩
            have hst := hrel.out.2.2.2.2.1
            rw [hj] at hst
            unfold rdAll at hst
            cases hrk : rdC rk with
            | none =>
              rw [hrk] at hrc hst
              have HRN := Lib.hid (show R = none from by
                have h1 := HRD.out
                rw [show rdAll X t = none from by
                  have h2 : rdAll X t = _ := hrel.out.2.2.2.2.1
                  rw [h2, hj]
                  unfold rdAll
                  rw [hrk]
                  rfl] at h1
                exact h1)
              dsimp only [Option.getD_none, zeroC, ChV.cells] at hrc
              have HRC := Lib.hid hrc
              have HB := Lib.hid hrel.out.2.2.2.2.2
              clear hrel hrc hst hrk hj
              go_wp2_with (go_at_call 62; (with_reducible refine HRC.out.mono ?_); rintro e w3 ⟨rfl, b3⟩; have B3 := Lib.hid b3; clear b3)
              go_ret2
              exact ⟨none, 0, 0, by rw [HRN.out]; rfl, (fun l h => by rw [HRN.out] at h; cases h), (HB.out.trans (lower' B3.out HB.out.size)).alloc (HB.out.trans (lower' B3.out HB.out.size)).size _⟩
            | some p =>
              obtain ⟨ch, z⟩ := p
              obtain ⟨hz1, hz2, -⟩ := rdC_len hrk
              rw [hrk] at hrc
              have HST := Lib.hid (show rdAll X t = (rdAll (X - (k + 1)) (rk.drop z)).map (fun p => ((lk ++ [ch]) ++ p.1, p.2)) from by
                have h2 : rdAll X t = _ := hrel.out.2.2.2.2.1
                rw [h2, hj]
                conv => lhs; unfold rdAll
                rw [hrk]
                dsimp only
                rw [show X - (k + 1) = j by omega, Option.map_map]
                congr 1
                funext p
                simp)
              have hrn : rk ≠ [] := by intro e; rw [e] at hz2; simp at hz2; omega
              obtain ⟨b5, o5, hA5, -, -⟩ := hrel.out.2.2.2.1.get (k := 0) (by rw [u8s_length]; exact List.length_pos_iff.2 hrn)
              subst hA5
              rw [← hrel.out.2.2.1] at hz2
              have happ : ∀ W4, Below wr.heap.size wr W4 → ∃ A6 c6 w6, (Builtin.append_ #[22, 22] 22 #[.slice A4 k c4, .slice (some ⟨W4.heap.size, 0, none⟩) 1 1]).run Tryz.prog (W4.alloc (.cells ch.cells 53)) = .ok (.slice A6 (k + 1) c6) w6 ∧ OwnC w6 w.heap.size (.slice A6 (k + 1) c6) (lk ++ [ch]) ∧ Below w.heap.size w w6 := fun W4 hb4 => by
                have hbw := hrel.out.2.2.2.2.2
                obtain ⟨A6, c6, w6, h1, h2, _, h4⟩ := app_change W4 w.heap.size _ lk (own_below hrel.out.1 hb4 (Nat.le_refl _)) (Nat.le_trans hbw.size hb4.size) ch (by rw [hrel.out.2.1]; omega)
                rw [hrel.out.2.1] at h1 h2
                exact ⟨A6, c6, w6, h1, h2, (hbw.trans (lower' hb4 hbw.size)).trans h4⟩
              obtain ⟨kk, nn, ef, lab, et, key, vk, vn, vs⟩ := ch
              dsimp only [Option.getD_some, ChV.cells] at hrc happ
              have HRC := Lib.hid hrc
              have HAP := Lib.hid happ
              have HO := Lib.hid hrel.out
              have hzb : ((z : Int) == 0) = false := beq_eq_false_iff_ne.2 (by omega)
              have hu8 : IntKind.u8.wrap ((k : Int) + 1) = (k : Int) + 1 := IntWalk.u8_in _ (by omega)
              clear hrel hrc happ hst hrk hj hrn
              have stepW : ∀ w3, Below wr.heap.size wr w3 → ∃ A6 c6 w6, (Builtin.append_ #[22, 22] 22 #[.slice A4 k c4, .slice (some ⟨w3.heap.size + 1, 0, none⟩) 1 1]).run Tryz.prog ((w3.alloc (.cells #[.int .i64 kk, .int .i64 nn, .int .i64 ef, .string lab, .int .i64 et, .string key, .int .i64 vk, .int .i64 vn, .string vs] 53)).alloc (.cells #[.int .i64 kk, .int .i64 nn, .int .i64 ef, .string lab, .int .i64 et, .string key, .int .i64 vk, .int .i64 vn, .string vs] 53)) = .ok (.slice A6 (k + 1) c6) w6 ∧ OwnC w6 w.heap.size (.slice A6 (k + 1) c6) (lk ++ [⟨kk, nn, ef, lab, et, key, vk, vn, vs⟩]) ∧ Below w.heap.size w w6 ∧ Rd w6 B (some ⟨b5, o5, none⟩) (u8s rk) := fun w3 hb3 => by
                have hb4 : Below wr.heap.size wr (w3.alloc (.cells #[.int .i64 kk, .int .i64 nn, .int .i64 ef, .string lab, .int .i64 et, .string key, .int .i64 vk, .int .i64 vn, .string vs] 53)) := hb3.alloc hb3.size _
                obtain ⟨A6, c6, w6, hrun, ho6, hb6⟩ := HAP.out _ hb4
                rw [show (w3.alloc (.cells #[.int .i64 kk, .int .i64 nn, .int .i64 ef, .string lab, .int .i64 et, .string key, .int .i64 vk, .int .i64 vn, .string vs] 53)).heap.size = w3.heap.size + 1 by simp] at hrun
                exact ⟨A6, c6, w6, hrun, ho6, hb6, by
                  have h1 := HO.out.2.2.2.1
                  have hbw := HO.out.2.2.2.2.2
                  exact h1.move fun p hp => ((hb6.cell (Nat.lt_of_lt_of_le hp hB)).trans (hbw.cell (Nat.lt_of_lt_of_le hp hB)).symm)⟩
              have HSW := Lib.hid stepW
              clear stepW
              by_cases hcz : c5 = z
              · subst hcz
                have hnz : n5 = c5 := by omega
                subst hnz
                go_wp2_with (first | (go_at_call 62; (with_reducible refine HRC.out.mono ?_); rintro e w3 ⟨rfl, b3⟩; have B3 := Lib.hid b3; clear b3; have HN := Lib.hid (HSW.out w3 B3.out); obtain ⟨A6, c6, w6, hN6⟩ := HN.out; replace HN := Lib.hid hN6; clear hN6) | (at_builtin; refine wpL_appK _ rfl (.tmp 31) (.tmp 33) 22 rfl rfl _ _ _ _ rfl rfl HN.out.1 ?_))
                trace_state
                go_roundw
                case rel => exact ⟨k + 1, A6, c6, some ⟨b5, o5, none⟩, 0, 0, _, rk.drop n5, by omega, rfl, by simp, by omega, by omega, by omega, by go_num, Lib.hid ⟨HN.out.2.1, by rw [List.length_append, HO.out.2.1]; rfl, by rw [List.length_drop, ← HO.out.2.2.1]; omega, by rw [List.drop_of_length_le (by rw [← HO.out.2.2.1]; exact Nat.le_refl _)]; exact fun hn => absurd rfl hn, HST.out, HN.out.2.2.1⟩⟩
                case measure => simp [intOf]; omega
              · go_wp2_with (first | (go_at_call 62; (with_reducible refine HRC.out.mono ?_); rintro e w3 ⟨rfl, b3⟩; have B3 := Lib.hid b3; clear b3; have HN := Lib.hid (HSW.out w3 B3.out); obtain ⟨A6, c6, w6, hN6⟩ := HN.out; replace HN := Lib.hid hN6; clear hN6) | (at_builtin; refine wpL_appK _ rfl (.tmp 31) (.tmp 33) 22 rfl rfl _ _ _ _ rfl rfl HN.out.1 ?_))
                go_roundw
                case rel => exact ⟨k + 1, A6, c6, some ⟨b5, o5 + z, none⟩, n5 - z, c5 - z, _, rk.drop z, by omega, rfl, rfl, by omega, by omega, by omega, by go_num, Lib.hid ⟨HN.out.2.1, by rw [List.length_append, HO.out.2.1]; rfl, by rw [List.length_drop, ← HO.out.2.2.1], by rw [u8s_drop]; exact rd_from HN.out.2.2.2 z, HST.out, HN.out.2.2.1⟩⟩
                case measure => simp [intOf]; omega
          · obtain rfl : k = X := by omega
            have hkI : ¬ (k : Int) < (k : Int) := by omega
            have hst := hrel.out.2.2.2.2.1
            rw [Nat.sub_self] at hst
            have hst2 : rdAll k t = some (lk, rk) := by rw [hst]; unfold rdAll; simp
            have hR := HRD.out
            rw [hst2] at hR
            by_cases hrk : rk = []
            · have h0 : n5 = 0 := by rw [hrel.out.2.2.1, hrk]; rfl
              rw [hrk] at hR
              have HRS := Lib.hid (show R = some lk from hR)
              have HO := Lib.hid (And.intro hrel.out.1 (And.intro hrel.out.2.1 hrel.out.2.2.2.2.2))
              clear hrel hst hst2 hR hrk
              subst h0
              go_wp2_with (fail)
              go_ret2
              exact ⟨A4, k, c4, by rw [HRS.out]; rfl, (fun l h => by rw [HRS.out] at h; injection h with h; subst h; exact ⟨HO.out.1, HO.out.2.1.symm⟩), HO.out.2.2⟩
            · have h0 : ((n5 : Int) == 0) = false := by
                rw [beq_eq_false_iff_ne, hrel.out.2.2.1]
                have := List.length_pos_iff.2 hrk
                omega
              have HRN := Lib.hid (show R = none from by
                match rk, hrk, hR with
                | _ :: _, _, hR => exact hR)
              have HB := Lib.hid hrel.out.2.2.2.2.2
              clear hrel hst hst2 hR hrk
              go_wp2_with (fail)
              go_ret2
              exact ⟨A4, k, c4, by rw [HRN.out]; rfl, (fun l h => by rw [HRN.out] at h; cases h), HB.out⟩
end Go.Proofs.YtgjjdmkoamjdpaaGreatDoor
