/- same and spoil, of the laws of layer 6. -/
import Derived.Test.YtklhfegdjadgdaaTrePB
namespace Go.Proofs.Ytklhfegdjadgdaa
open Go.RowKit Go.Maps

set_option maxRecDepth 100000 in
set_option maxHeartbeats 1000000 in
theorem same_any {w : World} {base B : Nat} (P : List (Bs × Bs)) (A : Option Addr) (c : Nat) (A' : Option Addr) (c' : Nat) (hP : Prs w base (.slice A P.length c) P) (hS : Rd w B A' (prS (prL P))) (hB : B ≤ w.heap.size) (hn : P.length ≤ 1000) (n : Nat) (hn2 : n = P.length) :
    Calls Try.prog 8 #[.slice A n c, .slice A' n c'] w fun e w' => e = .returned (.bool true) ∧ Below w.heap.size w w' := by
  have HP := Lib.hid (And.intro hP (And.intro hS (And.intro hB hn2)))
  have hnI : (n : Int) ≤ 1000 := by omega
  clear hP hS hB hn hn2
  go_enter Try.func8, Try.ntmps8
  go_wp2_with (fail)
  go_loopw [13] (fun i wr => ∃ k : Nat, k ≤ n ∧ i = .int .i64 (k : Int) ∧ Below w.heap.size w wr)
    (fun i _ => n - (intOf i).toNat)
  case atStart => exact ⟨0, by omega, rfl, Below.refl _ _⟩
  case round =>
    obtain ⟨k, hk, rfl, hb⟩ := hrel
    by_cases hkM : k < n
    · have hkI : (k : Int) < (n : Int) := by omega
      have hkP : k < P.length := by have := HP.out.2.2.2; omega
      have hkQ : k < (prL P).length := by rw [prL_len]; exact hkP
      obtain ⟨pb, po, rfl, hpc⟩ := prs_at HP.out.1 hkP
      obtain ⟨qb, qo, rfl, hqlt, hq0, hq1⟩ := prS_at HP.out.2.1 hkQ
      have hpl := prL_at hkP
      rw [List.getElem?_eq_getElem hkQ] at hpl
      injection hpl with hpl
      rw [hpl] at hq0 hq1
      simp only at hq0 hq1
      obtain ⟨c0, c1, o0, o1⟩ := hpc wr hb
      have d0 := (hb.cell (p := ⟨qb, qo + k * 2, none⟩) (Nat.lt_of_lt_of_le hqlt HP.out.2.2.1)).trans hq0
      have d1 := (hb.cell (p := ⟨qb, qo + k * 2 + 1, none⟩) (Nat.lt_of_lt_of_le hqlt HP.out.2.2.1)).trans hq1
      generalize P[k].1 = pk at c0 o0 d0 hq0 hpl
      generalize P[k].2 = pv at c1 o1 d1 hq1 hpl
      have hs1 : ∀ n, (convert 27 9 (.slice pk.A pk.l.length pk.c)).run Try.prog (wr.drewN n) = .ok (.string ⟨pk.l.toArray⟩) (wr.drewN n) := fun n => strAt (o0.1.1.drewN n) rfl
      have hs2 : ∀ n, (convert 27 9 (.slice pv.A pv.l.length pv.c)).run Try.prog (wr.drewN n) = .ok (.string ⟨pv.l.toArray⟩) (wr.drewN n) := fun n => strAt (o1.1.1.drewN n) rfl
      have HX := Lib.hid (And.intro hb hkM)
      clear hpc o0 o1 hb hk hkM hkP hkQ hq0 hq1 hpl hqlt
      go_upto_region 6 with (fail)
      go_quiet (fail)
      go_wp2_with (fail)
      exact ⟨⟨k + 1, HX.out.2, by simp, Below.drewN' HX.out.1 nq⟩, by simp [intOf]; have := HX.out.2; omega⟩
    · have hkI : ¬ (k : Int) < (n : Int) := by omega
      have HX := Lib.hid hb
      clear hb hk hkM
      go_wp2_with (fail)
      go_ret
      exact ⟨rfl, HX.out⟩
/-- Bytes that may be written over. -/
def Byt (w : World) (base : Nat) (r : Bs) : Prop := r.l.length ≤ 1000000 ∧ r.l.length ≤ r.c ∧ ∀ j, j < r.l.length → ∃ b o n cs, r.A = some ⟨b, o, none⟩ ∧ base ≤ b ∧ w.heap[b]? = some (.cells cs 5 (0, 0)) ∧ w.cell? ⟨b, o + j, none⟩ = some (.int .u8 n)
theorem byt_of {w : World} {base : Nat} {r : Bs} (h : r.ok w) (hb : ∀ a, r.A = some a → base ≤ a.block) : Byt w base r := by
  refine ⟨h.2.2.2, h.2.1, fun j hj => ?_⟩
  obtain ⟨b, o, e, _, hc⟩ := h.1.1 (by intro e; have := congrArg List.length e; rw [u8s_len] at this; simp at this; simp [this] at hj)
  obtain ⟨cs, hg⟩ := h.1.2 _ e
  exact ⟨b, o, _, cs, e, hb _ e, hg, hc j _ (by rw [List.getElem?_eq_getElem (by rw [u8s_len]; exact hj), u8s_get r.l j hj])⟩
theorem Byt.below {w w' : World} {base : Nat} {r : Bs} (h : Byt w base r) (hb : Below w.heap.size w w') : Byt w' base r := by
  refine ⟨h.1, h.2.1, fun j hj => ?_⟩
  obtain ⟨b, o, n, cs, e, h1, h2, h3⟩ := h.2.2 j hj
  exact ⟨b, o, n, cs, e, h1, (hb.block b (heap_lt h2)).trans h2, (hb.cell (p := ⟨b, o + j, none⟩) (heap_lt h2)).trans h3⟩
theorem Byt.set {w : World} {base b' i : Nat} {m : Int} {cs' : Array Value} {r : Bs} (h : Byt w base r) (hg : w.heap[b']? = some (.cells cs' 5 (0, 0))) : Byt (w.setCell ⟨b', i, none⟩ (.int .u8 m)) base r := by
  have hg' := heap_setCell_same w b' i _ _ (.int .u8 m) hg
  refine ⟨h.1, h.2.1, fun j hj => ?_⟩
  obtain ⟨b, o, n, cs, e, h1, h2, h3⟩ := h.2.2 j hj
  by_cases hb : b = b'
  · subst hb
    have h4 := cell_of_row _ b (o + j) _ _ _ hg'
    have h5 := cell_of_row w b (o + j) _ _ _ hg
    rw [h3] at h5
    by_cases hi : i = o + j
    · subst hi
      refine ⟨b, o, m, _, e, h1, hg', ?_⟩
      rw [h4, Array.getElem?_setIfInBounds]
      have hlt := (Array.getElem?_eq_some_iff.1 h5.symm).1
      rw [if_pos rfl, if_pos hlt]
    · refine ⟨b, o, n, _, e, h1, hg', ?_⟩
      rw [h4, Array.getElem?_setIfInBounds, if_neg hi, ← h5]
  · have h6 : (w.setCell ⟨b', i, none⟩ (.int .u8 m)).heap[b]? = w.heap[b]? := Below.heap_setCell _ _ _ _ (fun e => hb e)
    exact ⟨b, o, n, cs, e, h1, h6.trans h2, (World.cell?_of_block h6).trans h3⟩
/-- What spoil keeps. -/
structure Spo (w : World) (base : Nat) (A : Option Addr) (c : Nat) (P : List (Bs × Bs)) : Prop where
  row : w.ownsRow base 42 2 (.slice A P.length c) P.length (prC P)
  byt : ∀ p ∈ P, Byt w base p.1 ∧ Byt w base p.2
theorem Spo.at {w : World} {base c : Nat} {A : Option Addr} {P : List (Bs × Bs)} (h : Spo w base A c P) {k : Nat} (hk : k < P.length) : ∃ ab ao, A = some ⟨ab, ao, none⟩ ∧ w.cell? ⟨ab, ao + k * 2, none⟩ = some (.slice P[k].1.A P[k].1.l.length P[k].1.c) ∧ w.cell? ⟨ab, ao + k * 2 + 1, none⟩ = some (.slice P[k].2.A P[k].2.l.length P[k].2.c) := by
  obtain ⟨A', c', e, _, _, hrd⟩ := own_shape h.row
  cases e
  obtain ⟨ab, ao, rfl, _, hc⟩ := hrd (by intro e; have := congrArg List.length e; rw [prC_len] at this; have h9 : P.length * 2 = 0 := this; omega)
  obtain ⟨t1, t2⟩ := prC_two P k hk
  have := hc _ _ t2
  rw [← Nat.add_assoc] at this
  exact ⟨ab, ao, rfl, hc _ _ t1, this⟩
theorem Spo.set {w : World} {base c b' i : Nat} {m : Int} {cs' : Array Value} {A : Option Addr} {P : List (Bs × Bs)} (h : Spo w base A c P) (hg : w.heap[b']? = some (.cells cs' 5 (0, 0))) : Spo (w.setCell ⟨b', i, none⟩ (.int .u8 m)) base A c P := by
  refine ⟨rowFrS h.row (S := [b']) ((Fr.refl _ _).setCell (by simp) _) fun s hs hm => ?_, fun p hp => ⟨(h.byt p hp).1.set hg, (h.byt p hp).2.set hg⟩⟩
  simp at hm
  subst hm
  rcases h.row.2 with ⟨hv, _⟩ | ⟨g, cap, cur, hv, _, hgg, _⟩
  · rw [hv] at hs; simp [Value.ownBlock] at hs
  · rw [hv] at hs
    simp [Value.ownBlock] at hs
    subst hs
    rw [hgg] at hg
    cases hg
theorem spo_of {w : World} {base c : Nat} {A : Option Addr} {P : List (Bs × Bs)} (h : Prs w base (.slice A P.length c) P) : Spo w base A c P :=
  ⟨h.row, fun p hp => by obtain ⟨q1, q2, q3, q4⟩ := h.key p hp; exact ⟨byt_of q1 q2, byt_of q3 q4⟩⟩
set_option maxRecDepth 100000 in
set_option maxHeartbeats 2000000 in
theorem spoil_any {w : World} {base : Nat} (P : List (Bs × Bs)) (A : Option Addr) (c : Nat) (hP : Spo w base A c P) (hB : base ≤ w.heap.size) (hn : P.length ≤ 1000) (n : Nat) (hn2 : n = P.length) :
    Calls Try.prog 19 #[.slice A n c] w fun e w' => e = .returned (.tuple #[]) ∧ Below base w w' := by
  have HP := Lib.hid (And.intro hP (And.intro hB hn2))
  have hnI : (n : Int) ≤ 1000 := by omega
  clear hP hB hn hn2
  go_enter Try.func19, Try.ntmps19
  go_wp2_with (fail)
  go_loopw [7] (fun i wr => ∃ k : Nat, k ≤ n ∧ i = .int .i64 (k : Int) ∧ Spo wr base A c P ∧ Below base w wr)
    (fun i _ => n - (intOf i).toNat)
  case atStart => exact ⟨0, by omega, rfl, HP.out.1, Below.refl _ _⟩
  case round =>
    obtain ⟨k, hk, rfl, hS, hb⟩ := hrel
    by_cases hkM : k < n
    · have hkI : (k : Int) < (n : Int) := by omega
      have hkP : k < P.length := by have := HP.out.2.2; omega
      obtain ⟨ab, ao, rfl, c0, c1⟩ := hS.at hkP
      obtain ⟨pk, hpk⟩ : ∃ p, p = P[k] := ⟨_, rfl⟩
      have hmem : pk ∈ P := by rw [hpk]; exact List.getElem_mem hkP
      have hat : ∀ W, Spo W base (some ⟨ab, ao, none⟩) c P → W.cell? ⟨ab, ao + k * 2, none⟩ = some (.slice pk.1.A pk.1.l.length pk.1.c) ∧ W.cell? ⟨ab, ao + k * 2 + 1, none⟩ = some (.slice pk.2.A pk.2.l.length pk.2.c) := fun W hW => by
        obtain ⟨ab', ao', e, g0, g1⟩ := hW.at hkP
        cases e
        rw [hpk]
        exact ⟨g0, g1⟩
      rw [← hpk] at c0 c1
      have HX := Lib.hid (And.intro hS (And.intro hb (And.intro hkM (And.intro hmem hat))))
      have l1 : (pk.1.l.length : Int) ≤ 1000000 := by have := (hS.byt pk hmem).1.1; omega
      have l2 : (pk.2.l.length : Int) ≤ 1000000 := by have := (hS.byt pk hmem).2.1; omega
      clear hS hb hkM hmem hat hpk hkP hk c1
      obtain ⟨⟨kA, kl, kc⟩, ⟨vA, vl, vc⟩⟩ := pk
      simp only at c0 l1 l2
      go_wp2_with (fail)
      clear c0
      go_loopw [16] (fun i wr => ∃ j : Nat, j ≤ kl.length ∧ i = .int .i64 (j : Int) ∧ Spo wr base (some ⟨ab, ao, none⟩) c P ∧ Below base w wr)
        (fun i _ => kl.length - (intOf i).toNat)
      case atStart => exact ⟨0, by omega, rfl, HX.out.1, HX.out.2.1⟩
      case round =>
        obtain ⟨j, hj, rfl, hS, hb⟩ := hrel
        obtain ⟨c0, c1⟩ := HX.out.2.2.2.2 _ hS
        try simp only at c0 c1
        by_cases hjl : j < kl.length
        · have hjI : (j : Int) < (kl.length : Int) := by omega
          obtain ⟨b, o, m, cs, e, hbase, hg, hcell⟩ := (hS.byt _ HX.out.2.2.2.1).1.2.2 j hjl
          change kA = _ at e
          subst e
          have hfz := frozen_of_row _ b (o + j) _ _ hg
          have HJ := Lib.hid (fun m' => And.intro (hS.set (i := o + j) (m := m') hg) (And.intro (hb.setCell (p := ⟨b, o + j, none⟩) hbase (.int .u8 m')) hjl))
          clear hS hb hjl hj hg c1
          go_wp2_with (fail)
          exact ⟨⟨j + 1, (HJ.out 0).2.2, by simp, (HJ.out _).1, (HJ.out _).2.1⟩, by simp [intOf]; have := (HJ.out 0).2.2; omega⟩
        · have hjI : ¬ (j : Int) < (kl.length : Int) := by omega
          have HJ := Lib.hid (And.intro hS hb)
          clear hS hb hjl hj c0
          go_wp2_with (fail)
          clear c1
          go_loopw [36] (fun i wr => ∃ j : Nat, j ≤ vl.length ∧ i = .int .i64 (j : Int) ∧ Spo wr base (some ⟨ab, ao, none⟩) c P ∧ Below base w wr)
            (fun i _ => vl.length - (intOf i).toNat)
          case atStart => exact ⟨0, by omega, rfl, HJ.out.1, HJ.out.2⟩
          case round =>
            obtain ⟨j, hj, rfl, hS, hb⟩ := hrel
            obtain ⟨c0, c1⟩ := HX.out.2.2.2.2 _ hS
            try simp only at c0 c1
            by_cases hjl : j < vl.length
            · have hjI2 : (j : Int) < (vl.length : Int) := by omega
              obtain ⟨b, o, m, cs, e, hbase, hg, hcell⟩ := (hS.byt _ HX.out.2.2.2.1).2.2.2 j hjl
              change vA = _ at e
              subst e
              have hfz := frozen_of_row _ b (o + j) _ _ hg
              have HJ := Lib.hid (fun m' => And.intro (hS.set (i := o + j) (m := m') hg) (And.intro (hb.setCell (p := ⟨b, o + j, none⟩) hbase (.int .u8 m')) hjl))
              clear hS hb hjl hj hg c0
              go_wp2_with (fail)
              exact ⟨⟨j + 1, (HJ.out 0).2.2, by simp, (HJ.out _).1, (HJ.out _).2.1⟩, by simp [intOf]; have := (HJ.out 0).2.2; omega⟩
            · have hjI2 : ¬ (j : Int) < (vl.length : Int) := by omega
              have HJ := Lib.hid (And.intro hS hb)
              clear hS hb hjl hj c0 c1
              go_wp2_with (fail)
              exact ⟨⟨k + 1, HX.out.2.2.1, by simp, HJ.out.1, HJ.out.2⟩, by simp [intOf]; have := HX.out.2.2.1; omega⟩
    · have hkI : ¬ (k : Int) < (n : Int) := by omega
      have HX := Lib.hid hb
      clear hS hb hk hkM
      go_wp2_with (fail)
      go_end0
      exact ⟨rfl, HX.out⟩
end Go.Proofs.Ytklhfegdjadgdaa
