/- TupY, what this seat can fill of it. -/
import Derived.BigQuiet
import Derived.Deep.QuietTactic
import Derived.Deep.LoopGhost
import Derived.Deep.Draws
import Derived.Lib.SliceRun
import Derived.Test.YtmldiojlglpoiaaJoTX
namespace Go.Proofs.Ytmldiojlglpoiaa
/- slices.CompactFunc(out, same), of a row of tuples. -/
open Go.RowKit Go.Maps Go.Shelf Go.Sort Go.Lib

theorem below_one (d : Array TV) {m : Nat} (h : ∀ j, j < m → kp d j = true) (hk : kp d m = true) : ∀ j, j < m + 1 → kp d j = true := fun j hj => by
  by_cases e : j = m
  · rw [e]; exact hk
  · exact h j (by omega)
/-- A store into the row. -/
theorem put_one {w wr : World} {q blk off : Nat} {dk : Array TV} {i : Nat} (hi : i < dk.size) (h : wr = putRow TV.val (Sort.ahead w q) blk off dk) (x : TV) (n : Nat) :
    (wr.drewN n).setCell ⟨blk, off + i, none⟩ (.slice x.A x.l.length x.c) = putRow TV.val (Sort.ahead w (q + n)) blk off (dk.setIfInBounds i x) := by
  subst h
  rw [← putRow_set TV.val _ blk off dk i x hi, Go.Proofs.putRow_drewN]
  rfl
set_option maxRecDepth 100000 in
set_option maxHeartbeats 4000000 in
/-- slices.CompactFunc: it answers the row cut to what is kept. -/
theorem compact_core (w : World) (blk off cap : Nat) (d : Array TV) (hH : Holds TV.val w blk off d) (hok : ∀ j, j < d.size → TV.Ok w d[j]! ∧ ∀ a, d[j]!.A = some a → a.block ≠ blk) (hsz : d.size ≤ 5000) (hcap : d.size ≤ cap) :
    Calls Try.prog 71 #[.slice (some ⟨blk, off, none⟩) d.size cap, .func (.func 72) #[] #[]] w fun e w' =>
      e = .returned (.slice (some ⟨blk, off, none⟩) (cpN d d.size).length cap) ∧ ∃ q dk, dk.size = d.size ∧ (∀ j, j < (cpN d d.size).length → (cpN d d.size)[j]? = some dk[j]!) ∧ w' = putRow TV.val (Sort.ahead w q) blk off dk := by
  have hput : ∀ q, w.drewN q = putRow TV.val (Sort.ahead w q) blk off d := fun q => (putRow_self TV.val (Sort.ahead w q) blk off d (holds_ahead TV.val w q blk off d hH)).symm
  have hend : ∀ q, (∀ j, j < d.size → kp d j = true) → (cpN d d.size).length = d.size ∧ ∃ q' dk, dk.size = d.size ∧ (∀ j, j < (cpN d d.size).length → (cpN d d.size)[j]? = some dk[j]!) ∧ w.drewN q = putRow TV.val (Sort.ahead w q') blk off dk := by
    intro q hall
    have e : cpN d d.size = d.toList := by rw [cpN_all d _ hall, range_map_get]
    rw [e]
    refine ⟨by simp, q, d, rfl, fun j hj => ?_, hput q⟩
    have hj' : j < d.size := by simpa using hj
    rw [getElem!_pos d j hj']
    simp [hj']
  have hfr : ∀ q dk, Fr w (putRow TV.val (Sort.ahead w q) blk off dk) [blk] := fun q dk => by
    have := fr_put TV.val w blk off q dk #[]
    rwa [grow_empty] at this
  have hokr : ∀ q dk j, j < d.size → TV.Ok (putRow TV.val (Sort.ahead w q) blk off dk) d[j]! := fun q dk j hj => (hok j hj).1.frS (hfr q dk) fun a ha hm => (hok j hj).2 a ha (List.mem_singleton.1 hm)
  have HE := Lib.hid hend
  have HO := Lib.hid hokr
  have HP := Lib.hid hput
  have HH := Lib.hid hH
  clear hend hokr hfr hok hput hH
  by_cases h2 : d.size < 2
  · go_enter Try.func71, Try.ntmps71
    go_wp2_with (fail)
    go_ret
    obtain ⟨e1, e2⟩ := HE.out 0 (fun j hj => kp_one d j (by omega))
    exact ⟨by rw [e1]; rfl, e2⟩
  · go_enter Try.func71, Try.ntmps71
    go_wp2_with (fail)
    go_loopg [5] d.size (fun g s5 wr => ∃ k : Nat, 1 ≤ k ∧ k ≤ d.size ∧ d.size - k ≤ g ∧ s5 = .int .i64 k ∧ Hid ((∃ q, wr = w.drewN q) ∧ ∀ j, j < k → kp d j = true))
    case atStart => exact ⟨1, Nat.le_refl _, by omega, by omega, rfl, Lib.hid ⟨⟨0, rfl⟩, kp_one d⟩⟩
    case round =>
      obtain ⟨k, hk1, hk, hg, rfl, HR⟩ := hrel
      by_cases hlt : k < d.size
      · obtain ⟨p, rfl⟩ : ∃ p, k = p + 1 := ⟨k - 1, by omega⟩
        obtain ⟨⟨q, hw⟩, hall⟩ := HR.out
        have c1 : wr.cell? ⟨blk, off + (p + 1), none⟩ = some (.slice d[p + 1]!.A d[p + 1]!.l.length d[p + 1]!.c) := by rw [hw]; exact (HH.out (p + 1) hlt).1
        have c0 : wr.cell? ⟨blk, off + p, none⟩ = some (.slice d[p]!.A d[p]!.l.length d[p]!.c) := by rw [hw]; exact (HH.out p (by omega)).1
        have hcall := fun n => sameT_any d[p + 1]! d[p]! (wr.drewN n) (by rw [hw, World.drewN_drewN, HP.out]; exact HO.out _ d (p + 1) hlt) (by rw [hw, World.drewN_drewN, HP.out]; exact HO.out _ d p (by omega))
        have HQ := Lib.hid (And.intro hw hall)
        have KP := Lib.hid (And.intro (kp_pos (d := d) (m := p + 1)) (kp_neg (d := d) (m := p + 1) hk1))
        clear hw hall HR
        rw [show p + 1 - 1 = p from rfl] at KP
        generalize d[p + 1]! = x at c1 hcall KP
        generalize d[p]! = y at c0 hcall KP
        have g0 : ((p + 1 : Nat) : Int) < (d.size : Int) := by omega
        have g1 : (0 : Int) ≤ (p : Int) := by omega
        have hw1 : IntKind.i64.wrap ((p : Int) + 1 - 1) = (p : Int) := by rw [IntWalk.i64_in _ (by omega)]; omega
        have hw2 : IntKind.i64.wrap (((p + 1 : Nat) : Int) - 1) = (p : Int) := by rw [IntWalk.i64_in _ (by omega)]; omega
        have hw3 : IntKind.i64.wrap (p : Int) = (p : Int) := IntWalk.i64_in _ (by omega)
        have g2 : (p : Int) < (d.size : Int) := by omega
        have g3 : (p : Int) + 1 < (d.size : Int) := by omega
        have g4 : (0 : Int) ≤ (p : Int) + 1 := by omega
        have g5 : ((p : Int) + 1).toNat = p + 1 := by omega
        by_cases hdup : cmpI x.l y.l = 0
        · have HCC : Hid (∀ n, Calls Try.prog 72 #[.slice x.A x.l.length x.c, .slice y.A y.l.length y.c] (wr.drewN n) fun e w' => e = .returned (.bool true) ∧ w' = wr.drewN n) := Lib.hid fun n => (hcall n).mono fun e w' h => ⟨by rw [h.1, hdup]; rfl, h.2.symm⟩
          have hkp := KP.out.2 hdup
          have HC : Hid (CpI d (p + 1 + 1) (p + 1) d) := Lib.hid (CpI.start HQ.out.2 hkp)
          clear hdup hkp KP hcall
          go_wp2_with (fail)
          go_quiet ((go_at_call 72; with_reducible exact Calls.quiet_of_same (HCC.out _)))
          go_wp2_with (fail)
          clear c0 c1
          generalize ho2 : off + (p + 1) = o2
          generalize hn2 : d.size - (p + 1) = n2
          have HN := Lib.hid ho2
          clear ho2
          go_loopg [5, 7] d.size (fun g s5 s7 wr2 => ∃ kk r : Nat, s5 = .int .i64 kk ∧ s7 = .int .i64 ((r + 1 : Nat) : Int) ∧ r + 1 ≤ n2 ∧ n2 - r ≤ g ∧ kk < d.size ∧ Hid (∃ (q2 : Nat) (dk : Array TV), wr2 = putRow TV.val (Sort.ahead w q2) blk off dk ∧ CpI d (p + 1 + (r + 1)) kk dk))
          case atStart =>
            refine ⟨p + 1, 0, by go_num, by go_num, by omega, by omega, by omega, Lib.hid ?_⟩
            obtain ⟨⟨q, rfl⟩, _⟩ := HQ.out
            exact ⟨_, d, by rw [World.drewN_drewN]; exact HP.out _, HC.out⟩
          case round =>
            obtain ⟨kk, r, rfl, rfl, hr, hg2, hkd, HI⟩ := hrel
            by_cases hlt2 : r + 1 < n2
            · obtain ⟨q2, dk, hwr, hI⟩ := HI.out
              have hkm := hI.lt
              have hds := hI.size
              have hHk : Holds TV.val wr blk off dk := by rw [hwr]; exact holds_putRow TV.val _ blk off d dk (holds_ahead TV.val w q2 blk off d HH.out) hds
              have ho := HN.out
              have c1 : wr.cell? ⟨blk, o2 + (r + 1), none⟩ = some (.slice d[p + 1 + (r + 1)]!.A d[p + 1 + (r + 1)]!.l.length d[p + 1 + (r + 1)]!.c) := by
                have := (hHk (p + 1 + (r + 1)) (by omega)).1
                rw [hI.high _ (by omega), show off + (p + 1 + (r + 1)) = o2 + (r + 1) by omega] at this
                exact this
              have c0 : wr.cell? ⟨blk, o2 + r, none⟩ = some (.slice d[p + 1 + r]!.A d[p + 1 + r]!.l.length d[p + 1 + r]!.c) := by
                have := (hHk (p + 1 + r) (by omega)).1
                rw [hI.high _ (by omega), show off + (p + 1 + r) = o2 + r by omega] at this
                exact this
              obtain ⟨ck, fk⟩ := hHk kk (by omega)
              have hcall := fun n => sameT_any d[p + 1 + (r + 1)]! d[p + 1 + r]! (wr.drewN n) (by rw [hwr, Go.Proofs.putRow_drewN]; exact HO.out _ _ _ (by omega)) (by rw [hwr, Go.Proofs.putRow_drewN]; exact HO.out _ _ _ (by omega))
              have KP := Lib.hid (And.intro (kp_pos (d := d) (m := p + 1 + (r + 1))) (And.intro (kp_neg (d := d) (m := p + 1 + (r + 1)) (by omega)) hI.keep))
              have HW := Lib.hid (And.intro hwr hI)
              clear hwr hI HI hHk ho
              rw [show p + 1 + (r + 1) - 1 = p + 1 + r from rfl] at KP
              generalize d[p + 1 + (r + 1)]! = x at c1 hcall KP
              generalize d[p + 1 + r]! = y at c0 hcall KP
              generalize TV.val dk[kk]! = old at ck
              have g0 : ((r + 1 : Nat) : Int) < (n2 : Int) := by omega
              have g1 : (0 : Int) ≤ (r : Int) := by omega
              have hw1 : IntKind.i64.wrap ((r : Int) + 1 - 1) = (r : Int) := by rw [IntWalk.i64_in _ (by omega)]; omega
              have hw2 : IntKind.i64.wrap (((r + 1 : Nat) : Int) - 1) = (r : Int) := by rw [IntWalk.i64_in _ (by omega)]; omega
              have hw3 : IntKind.i64.wrap (r : Int) = (r : Int) := IntWalk.i64_in _ (by omega)
              have g2 : (r : Int) < (n2 : Int) := by omega
              have g3 : (r : Int) + 1 < (n2 : Int) := by omega
              have g4 : (0 : Int) ≤ (r : Int) + 1 := by omega
              have g5 : ((r : Int) + 1).toNat = r + 1 := by omega
              by_cases hdup : cmpI x.l y.l = 0
              · have HCC : Hid (∀ n, Calls Try.prog 72 #[.slice x.A x.l.length x.c, .slice y.A y.l.length y.c] (wr.drewN n) fun e w' => e = .returned (.bool true) ∧ w' = wr.drewN n) := Lib.hid fun n => (hcall n).mono fun e w' h => ⟨by rw [h.1, hdup]; rfl, h.2.symm⟩
                have HK := Lib.hid (KP.out.2.1 hdup)
                clear hdup KP hcall ck fk
                go_wp2_with (fail)
                go_quiet ((go_at_call 72; with_reducible exact Calls.quiet_of_same (HCC.out _)))
                go_wp2_with (fail)
                go_roundg (n2 - (r + 1))
                case measure => omega
                case rel =>
                  obtain ⟨rfl, hI⟩ := HW.out
                  exact ⟨kk, r + 1, rfl, by go_num, by omega, Nat.le_refl _, hkd, Lib.hid ⟨_, dk, Go.Proofs.putRow_drewN _ _ _ _ _ _ _, hI.skip HK.out⟩⟩
              · have HCC : Hid (∀ n, Calls Try.prog 72 #[.slice x.A x.l.length x.c, .slice y.A y.l.length y.c] (wr.drewN n) fun e w' => e = .returned (.bool false) ∧ w' = wr.drewN n) := Lib.hid fun n => (hcall n).mono fun e w' h => ⟨by rw [h.1, decide_eq_false hdup], h.2.symm⟩
                have HK := Lib.hid (KP.out.2.2 (by omega) (KP.out.1 hdup))
                clear hdup KP hcall
                go_wp2_with (fail)
                go_quiet ((go_at_call 72; with_reducible exact Calls.quiet_of_same (HCC.out _)))
                go_wp2_with (fail)
                go_roundg (n2 - (r + 1))
                case measure => omega
                case rel =>
                  obtain ⟨hwr, hI⟩ := HW.out
                  exact ⟨kk + 1, r + 1, by go_num, by go_num, by omega, Nat.le_refl _, by omega, Lib.hid ⟨_, _, put_one (by omega) hwr x _, HK.out⟩⟩
            · obtain ⟨q2, dk, hwr, hI⟩ := HI.out
              have hme : p + 1 + (r + 1) = d.size := by omega
              rw [hme] at hI
              have hds := hI.size
              have hHk : Holds TV.val wr blk off dk := by rw [hwr]; exact holds_putRow TV.val _ blk off d dk (holds_ahead TV.val w q2 blk off d HH.out) hds
              have hcl : ∀ ty, (Builtin.clear_ #[24] ty #[.slice (some ⟨blk, off + kk, none⟩) (d.size - kk) (cap - kk)]).run Try.prog wr = .ok (.tuple #[]) (wr.setCells blk (off + kk) (List.replicate (d.size - kk) (.slice none 0 0))) :=
                fun ty => Lib.run_clear_slice wr _ _ ty _ Try.underlying24 Try.zeroValue32 rfl rfl blk (off + kk) _ _ (by omega) (fun j hj => by rw [show off + kk + j = off + (kk + j) by omega, (hHk (kk + j) (by omega)).1]; rfl) (fun j hj => by rw [show off + kk + j = off + (kk + j) by omega]; exact (hHk (kk + j) (by omega)).2)
              have HL := Lib.hid (And.intro hwr hI)
              clear hwr hI hHk HI
              go_wp2_with (fail)
              go_ret
              obtain ⟨hwr, hI⟩ := HL.out
              have hlen := hI.len
              refine ⟨by rw [hlen]; rfl, q2, lay dk kk (List.replicate (d.size - kk) ⟨none, [], 0⟩), by rw [lay_size]; exact hI.size, fun j hj => ?_, ?_⟩
              · rw [lay_low _ _ _ _ (by omega)]; exact hI.low j (by omega)
              · rw [hwr, ← putRow_setCells TV.val _ blk off _ dk kk (by simp; omega), List.map_replicate]; rfl
        · have HCC : Hid (∀ n, Calls Try.prog 72 #[.slice x.A x.l.length x.c, .slice y.A y.l.length y.c] (wr.drewN n) fun e w' => e = .returned (.bool false) ∧ w' = wr.drewN n) := Lib.hid fun n => (hcall n).mono fun e w' h => ⟨by rw [h.1, decide_eq_false hdup], h.2.symm⟩
          have hkp := KP.out.1 hdup
          have HK := Lib.hid hkp
          clear hdup hkp KP hcall
          go_wp2_with (fail)
          go_quiet ((go_at_call 72; with_reducible exact Calls.quiet_of_same (HCC.out _)))
          go_wp2_with (fail)
          go_roundg (d.size - (p + 2))
          case measure => omega
          case rel =>
            obtain ⟨⟨q, rfl⟩, hall⟩ := HQ.out
            exact ⟨p + 2, by omega, by omega, Nat.le_refl _, by go_num, Lib.hid ⟨⟨_, World.drewN_drewN _ _ _⟩, below_one d hall HK.out⟩⟩
      · have hke : k = d.size := by omega
        subst hke
        go_wp2_with (fail)
        go_ret
        obtain ⟨⟨q, rfl⟩, hall⟩ := HR.out
        obtain ⟨e1, e2⟩ := HE.out q hall
        exact ⟨by rw [e1]; rfl, e2⟩
end Go.Proofs.Ytmldiojlglpoiaa
