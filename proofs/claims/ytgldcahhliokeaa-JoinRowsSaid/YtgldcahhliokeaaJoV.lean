/- join.rowsOf, join.Rows. -/
import Derived.Test.YtgldcahhliokeaaJoU
namespace Go.Proofs.Ytgldcahhliokeaa
open Go.RowKit Go.Maps

theorem with_i64 {s : Stp} {ahead : List Tu} {es : List Ed} (he : ∀ e ∈ es, e.Ok) (ha : ∀ r ∈ ahead, ∀ v ∈ r, I64 v) : ∀ r ∈ withL s ahead es, ∀ v ∈ r, I64 v := by
  intro r hr v hv
  unfold withL at hr
  obtain ⟨q, hq, hr⟩ := List.mem_flatMap.1 hr
  obtain ⟨e, hm, rfl⟩ := List.mem_map.1 hr
  have hi := fit_i64 (s := s) he e (List.mem_filter.1 hm).1
  have hp : ∀ (row : Tu) (p : Nat) (z : Int), v ∈ push1 row p z → v ∈ row ∨ v = z := by
    intro row p z h
    unfold push1 at h
    split at h
    · rcases List.mem_append.1 h with h | h
      · exact .inl h
      · exact .inr (by simpa using h)
    · exact .inl h
  unfold withS at hv
  rcases hp _ _ _ hv with h | h
  · rcases hp _ _ _ h with h | h
    · exact ha q hq v h
    · rw [h]; exact hi.1
  · rw [h]; exact hi.2
/-- Where rowsOf is, behind k steps. -/
structure RoAt (w wr : World) (ats : List Atm) (es : List Ed) (k : Nat) (y : LV) : Prop where
  ok : y.Ok wr
  rows : rowsN (onceL es) ((stepsL ats).drop k) (tus y.ts) = rowsOfL ats es
  kn : ∃ kn, ChainOk kn ((stepsL ats).drop k) ∧ knEnd kn ((stepsL ats).drop k) ≤ 16 ∧ ∀ r ∈ tus y.ts, r.length = kn
  i64 : ∀ r ∈ tus y.ts, ∀ v ∈ r, I64 v
  low : y.ts.length ≤ 3000
  below : Below w.heap.size w wr
theorem stepsC_cell {w : World} {A : Option Addr} {ss : List Stp} (h : Rd w w.heap.size A (stsC ss)) {k : Nat} (hk : k < ss.length) : ∃ b o, A = some ⟨b, o, none⟩ ∧ b < w.heap.size ∧ w.cell? ⟨b, o + k * 4, none⟩ = some (.string ⟨ss[k].lab.toArray⟩) ∧ w.cell? ⟨b, o + k * 4 + 1, none⟩ = some (.int .i64 (ss[k].fr : Int)) ∧ w.cell? ⟨b, o + k * 4 + 2, none⟩ = some (.int .i64 (ss[k].to : Int)) ∧ w.cell? ⟨b, o + k * 4 + 3, none⟩ = some (.int .i64 (ss[k].kn : Int)) := by
  have hne : stsC ss ≠ [] := fun e => by have := stsC_len ss; rw [e] at this; simp at this; omega
  obtain ⟨b, o, e, hb, hc⟩ := h hne
  have hat := fun j hj => flat4_at stC (fun _ => rfl) ss k j hk hj
  refine ⟨b, o, e, hb, hc (k * 4) _ (hat 0 (by omega)), ?_, ?_, ?_⟩
  · rw [Nat.add_assoc]; exact hc (k * 4 + 1) _ (hat 1 (by omega))
  · rw [Nat.add_assoc]; exact hc (k * 4 + 2) _ (hat 2 (by omega))
  · rw [Nat.add_assoc]; exact hc (k * 4 + 3) _ (hat 3 (by omega))
set_option maxRecDepth 100000 in
set_option maxHeartbeats 8000000 in
theorem rowsOf_any (x : VW) (A : Option Addr) (c : Nat) (es : List Ed) (w : World) (hx : x.Ok w) (hg : goodP x.v = true) (he : Eds w A c es) :
    Calls Try.prog 32 #[.agg (vwA x), .slice A es.length c] w (WoL w (rowsOfL x.v.atoms es)) := by
  obtain ⟨g1, g2, g3, g4, _⟩ := goodP_names hg
  have hb0 : Below w.heap.size w (w.alloc (.cells (vwA x) 25)) := (Below.refl _ _).alloc (Nat.le_refl _) _
  have hk := once_any A c es _ (he.below hb0)
  have hgg := heap_alloc_new w (.cells (vwA x) 25)
  have hst := fun W (hW : Below w.heap.size w W) => stepsOf_any x W (hx.below hW) hg
  unfold vwA at hb0 hk hgg hst ⊢
  have hsl : (stepsL x.v.atoms).length ≤ 8 := by unfold stepsL; rw [stepsK_len]; exact g2
  have HB := Lib.hid hb0
  have HK := Lib.hid hk
  have HG := Lib.hid hgg
  have HST := Lib.hid hst
  clear hx hg he hb0 hk hgg hst g1 g2 g3 g4
  go_enter Try.func32, Try.ntmps32
  go_wp2_with (first
    | (go_at_call 56; (with_reducible refine HK.out.mono ?_); rintro e w1 ⟨oA, oc, rfl, o1, b1⟩; have B1 := Lib.hid (HB.out.trans (lower' b1 HB.out.size)); have B2 := Lib.hid (B1.out.alloc B1.out.size (.cells #[.slice none 0 0] 43)); have R2 := Lib.hid (Rd.new w1 #[.slice none 0 0] 43 (0, 0)); have E2 := Lib.hid (o1.below ((Below.refl w1.heap.size w1).alloc (Nat.le_refl _) (.cells #[.slice none 0 0] 43))); have g9 := ((Below.refl w1.heap.size w1).alloc (Nat.le_refl _) (.cells #[.slice none 0 0] 43)).block w.heap.size (by have := b1.size; simp at this; omega); have g8 := g9.trans ((b1.block w.heap.size (by simp)).trans HG.out); have q0 := cell_of_row _ _ 0 _ _ _ g8; have q1 := cell_of_row _ _ 1 _ _ _ g8; have q2 := cell_of_row _ _ 2 _ _ _ g8; have q3 := cell_of_row _ _ 3 _ _ _ g8; have q4 := cell_of_row _ _ 4 _ _ _ g8; have HSO := Lib.hid (HST.out _ B2.out); clear g8 g9 b1 o1)
    | (go_at_call 57; (with_reducible refine HSO.out.mono ?_); rintro e w3 ⟨sA, sc, rfl, s3, c3, b3⟩; have B3 := Lib.hid (B2.out.trans (lower' b3 B2.out.size)); have R3 := Lib.hid ((R2.out.below b3 (by simp)).more (show w1.heap.size + 1 ≤ w3.heap.size from by have := b3.size; simp at this; omega)); have E3 := Lib.hid (E2.out.below b3); have S3 := Lib.hid s3; clear b3 c3 s3))
  clear HST HSO HK HG
  go_loopw [5, 14] (fun rows i wr => ∃ (k : Nat) (y : LV), k ≤ (stepsL x.v.atoms).length ∧ i = .int .i64 (k : Int) ∧ rows = .slice y.A y.ts.length y.c ∧ Hid (RoAt w wr x.v.atoms es k y ∧ Below w3.heap.size w3 wr)) (fun _ i _ => (stepsL x.v.atoms).length - (intOf i).toNat)
  case atStart =>
    refine ⟨0, ⟨some ⟨w1.heap.size, 0, none⟩, [⟨none, [], 0⟩], 1⟩, by omega, rfl, rfl, Lib.hid ⟨⟨⟨R3.out, fun t ht => ?_, Nat.le_refl _, by simp⟩, rfl, ⟨0, chain_ok _, ?_, ?_⟩, ?_, by simp, B3.out⟩, Below.refl _ _⟩⟩
    · rw [List.mem_singleton.1 ht]
      exact ⟨Rd.emp _ _ _, Nat.le_refl _, by simp⟩
    · have h1 : knEnd 0 ((stepsL x.v.atoms).drop 0) = (varsL x.v.atoms).length := knEnd_ok x.v.atoms
      have h2 := varsL_len x.v.atoms
      have h3 : (stepsL x.v.atoms).length = x.v.atoms.length := by unfold stepsL; rw [stepsK_len]
      omega
    · intro r hr
      have : r = [] := by simpa [tus] using hr
      rw [this]; rfl
    · intro r hr v hv
      have : r = [] := by simpa [tus] using hr
      rw [this] at hv
      cases hv
  case round =>
    obtain ⟨k, y, hk, rfl, rfl, hrel⟩ := hrel
    by_cases hlt : k < (stepsL x.v.atoms).length
    · have hS := S3.out.below hrel.out.2 (Nat.le_refl _)
      obtain ⟨b, o, hA, _, c0, c1, c2, c3⟩ := stepsC_cell (hS.more hrel.out.2.size) hlt
      have hlI : (k : Int) < ((stepsL x.v.atoms).length : Int) := by omega
      have hd : (stepsL x.v.atoms).drop k = (stepsL x.v.atoms)[k] :: (stepsL x.v.atoms).drop (k + 1) := List.drop_eq_getElem_cons hlt
      rw [hA]
      generalize (stepsL x.v.atoms)[k] = s at c0 c1 c2 c3 hd
      obtain ⟨kn, hch, hke, hrl⟩ := hrel.out.1.kn
      have hrows := hrel.out.1.rows
      rw [hd] at hch hke hrows
      obtain ⟨q0, q1, q2, q3⟩ := hch
      have hB1 := Below.alloc (Below.refl wr.heap.size wr) (Nat.le_refl _) (.cells #[.string ⟨s.lab.toArray⟩, .int .i64 (s.fr : Int), .int .i64 (s.to : Int), .int .i64 (s.kn : Int)] 99)
      have hkl := knEnd_le _ _ q3
      have hke : knEnd s.next ((stepsL x.v.atoms).drop (k + 1)) ≤ 16 := hke
      have hsk : s.kn ≤ s.next := by unfold Stp.next; omega
      have hW := with_any s y oA oc (onceL es) _ (hrel.out.1.ok.below hB1) ((E3.out.below hrel.out.2).below hB1) q1 q2 (by omega) (fun r hr => by rw [q0]; exact hrl r hr) hrel.out.1.i64
      have hB2 := hrel.out.1.below.trans (lower' hB1 hrel.out.1.below.size)
      have hB3 := hrel.out.2.trans (lower' hB1 hrel.out.2.size)
      have hlen := with_lens (ahead := tus y.ts) (es := onceL es) (fun r hr => by rw [q0]; exact hrl r hr) q1 q2
      have hi64 := with_i64 (s := s) (fun e he => E3.out.ok e he) hrel.out.1.i64
      have HX := Lib.hid (And.intro hrows (And.intro q3 (And.intro hke (And.intro hB2 (And.intro hB3 (And.intro hlen hi64))))))
      have HW := Lib.hid hW
      clear hS hd hrl hrows q0 q1 q2 q3 hB1 hkl hke hsk hW hB2 hB3 hlen hi64 hrel
      go_upto_region 7 with (go_at_call 58; (with_reducible refine HW.out.mono ?_); rintro e w4 ⟨z, rfl, k4, e4, b4⟩)
      have hz5 := k4.sm
      by_cases hbig : 3000 < z.ts.length
      · have hbI : (3000 : Int) < (z.ts.length : Int) := by omega
        have hfin : tus z.ts = rowsOfL x.v.atoms es := by
          have h1 := congrArg List.length e4
          rw [tus_len, List.length_take] at h1
          have h2 := HX.out.1
          unfold rowsN at h2
          rw [if_pos (by omega), ← e4] at h2
          exact h2
        have HF := Lib.hid (And.intro k4 (And.intro hfin (HX.out.2.2.2.1.trans (lower' b4 HX.out.2.2.2.1.size))))
        clear hbig hfin k4 e4 b4
        go_wp2_with (fail)
        go_ret
        exact ⟨z, rfl, HF.out⟩
      · have hbI : ¬ (3000 : Int) < (z.ts.length : Int) := by omega
        have h1 := congrArg List.length e4
        rw [tus_len, List.length_take] at h1
        have e5 : tus z.ts = withL s (tus y.ts) (onceL es) := by rw [e4, List.take_of_length_le (by omega)]
        have h2 := HX.out.1
        unfold rowsN at h2
        rw [if_neg (by omega), ← e5] at h2
        have HF := Lib.hid (And.intro (RoAt.mk (k := k + 1) k4 h2 ⟨_, HX.out.2.1, HX.out.2.2.1, fun r hr => HX.out.2.2.2.2.2.1 r (by rw [← e5]; exact hr)⟩ (fun r hr => HX.out.2.2.2.2.2.2 r (by rw [← e5]; exact hr)) (by omega) (HX.out.2.2.2.1.trans (lower' b4 HX.out.2.2.2.1.size))) (HX.out.2.2.2.2.1.trans (lower' b4 HX.out.2.2.2.2.1.size)))
        clear hbig k4 e4 b4 h1 e5 h2
        go_wp2_with (fail)
        go_roundw
        case rel => exact ⟨k + 1, z, by omega, by go_num, rfl, HF⟩
        case measure => simp [intOf]; omega
    · have hlI : ¬ (k : Int) < ((stepsL x.v.atoms).length : Int) := by omega
      have h2 := hrel.out.1.rows
      rw [List.drop_of_length_le (by omega)] at h2
      have HF := Lib.hid (And.intro hrel.out.1.ok (And.intro (show tus y.ts = rowsOfL x.v.atoms es from h2) hrel.out.1.below))
      clear h2 hrel
      go_wp2_with (fail)
      go_ret
      exact ⟨y, rfl, HF.out⟩
end Go.Proofs.Ytgldcahhliokeaa
