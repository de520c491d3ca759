/- record.Encode of commits and of drops. -/
import Derived.Test.YtgjjdmkoamjdpaaGreatDoorRcE
namespace Go.Proofs.YtgjjdmkoamjdpaaGreatDoor
open Go.RowKit Go.Maps

set_option maxRecDepth 100000 in
set_option maxHeartbeats 1000000 in
theorem marked_any (b : UInt8) (s : ByteArray) (w : World) (hs : s.size ≤ 1000) : Calls Tryz.prog 33 #[.int .u8 (b.toNat : Int), .string s] w fun e w' => ∃ v', e = .returned v' ∧ OwnB w' w.heap.size 5 v' (b :: s.data.toList) ∧ Below w.heap.size w w' := by
  obtain ⟨i0, hi, hz0, hz1, hz2⟩ := info_parts infoU8
  have hown : OwnB (w.alloc (.cells #[.int .u8 (b.toNat : Int)] 5)) w.heap.size 5 (.slice (some ⟨w.heap.size, 0, none⟩) 1 1) [b] := OwnB.litN w [b] (Nat.le_refl _) (by simp)
  have hb0 : Below w.heap.size w (w.alloc (.cells #[.int .u8 (b.toNat : Int)] 5)) := (Below.refl _ _).alloc (Nat.le_refl _) _
  generalize (b.toNat : Int) = bI at hown hb0 ⊢
  have HO := Lib.hid (And.intro hown hb0)
  clear hown hb0
  go_enter Tryz.func33, Tryz.ntmps33
  go_wp2_with (at_builtin; refine Lib.wpList_append_own_string _ rfl (.tmp 6) (.tmp 7) _ _ rfl w.heap.size 5 i0 Tryz.underlying32 Tryz.underlying9 hi hz0 hz1 hz2 _ 1 (u8s [b]) rfl HO.out.1 s rfl (by simp [maxLen]; omega) (by omega) (by have := HO.out.2.size; omega) ?_; intro v3 w3 hown3 hg3 hat3)
  go_ret
  refine ⟨_, rfl, ?_, HO.out.2.grown hg3 HO.out.2.size (fun k hk => (World.ownsRow.lt HO.out.1 k hk).1)⟩
  unfold OwnB
  rw [show b :: s.data.toList = [b] ++ s.data.toList from rfl, u8s_append, ← strCells_eq, List.length_append]
  simpa using hown3
section
variable (vn vl nm : ByteArray) (vk : Int) (oA aA : Option Addr) (on oc an ac : Nat)
theorem box8 {w : World} {b : Nat} {a0 a1 a2 a3 a4 a5 a6 a7 : Value} {t : TypeId} (h : w.heap[b]? = some (.cells #[a0, a1, a2, a3, a4, a5, a6, a7] t (0, 0))) :
    w.cell? ⟨b, 0, none⟩ = some a0 ∧ w.cell? ⟨b, 1, none⟩ = some a1 ∧ w.cell? ⟨b, 2, none⟩ = some a2 ∧ w.cell? ⟨b, 3, none⟩ = some a3 ∧ w.cell? ⟨b, 4, none⟩ = some a4 ∧ w.cell? ⟨b, 5, none⟩ = some a5 ∧ w.cell? ⟨b, 6, none⟩ = some a6 ∧ w.cell? ⟨b, 7, none⟩ = some a7 :=
  ⟨cell_of_row _ _ 0 _ _ _ h, cell_of_row _ _ 1 _ _ _ h, cell_of_row _ _ 2 _ _ _ h, cell_of_row _ _ 3 _ _ _ h, cell_of_row _ _ 4 _ _ _ h, cell_of_row _ _ 5 _ _ _ h, cell_of_row _ _ 6 _ _ _ h, cell_of_row _ _ 7 _ _ _ h⟩
set_option maxRecDepth 100000 in
set_option maxHeartbeats 1000000 in
theorem write_commit (A : Option Addr) (c : Nat) (l : List ChV) (w : World) (h : Chs w A c l) (hT : Tabs w) :
    Calls Tryz.prog 20 #[.agg #[.int .i64 1, .slice A l.length c, .string vn, .int .i64 vk, .slice oA on oc, .slice aA an ac, .string vl, .string nm]] w (WcPost w l) := by
  have hb0 : Below w.heap.size w (w.alloc (.cells #[.int .i64 1, .slice A l.length c, .string vn, .int .i64 vk, .slice oA on oc, .slice aA an ac, .string vl, .string nm] 28)) := (Below.refl _ _).alloc (Nat.le_refl _) _
  have hx0 := heap_alloc_new w (.cells #[.int .i64 1, .slice A l.length c, .string vn, .int .i64 vk, .slice oA on oc, .slice aA an ac, .string vl, .string nm] 28)
  obtain ⟨c0, c1, c2, c3, c4, c5, c6, c7⟩ := box8 hx0
  have hw := wc_any A c l _ (h.below hb0) (hT.below hb0)
  unfold WcPost at hw
  have HW := Lib.hid hw
  have HB := Lib.hid hb0
  clear hb0 hx0 h hT hw
  go_enter Tryz.func20, Tryz.ntmps20
  go_upto_region 3 with (fail)
  have HN := Lib.hid (show goodC l = goodC l from rfl)
  cases hg : goodC l with
  | false =>
    have HF := Lib.hid (show Calls Tryz.prog 31 #[.slice A l.length c] _ _ from HW.out.mono (R' := fun e w' => e = .returned (.tuple #[.slice none 0 0, .bool false]) ∧ Below w.heap.size w w') fun e w' h => by
      rcases h with ⟨_, h2, h3⟩ | ⟨h1, _⟩
      · exact ⟨h2, HB.out.trans (lower' h3 HB.out.size)⟩
      · rw [hg] at h1; cases h1)
    have HG := Lib.hid hg
    clear HW HN hg
    go_wp2_with (go_at_call 31; (with_reducible refine HF.out.mono ?_); rintro e w2 ⟨rfl, b2⟩; have B2 := Lib.hid b2; clear b2)
    go_ret2
    exact .inl ⟨HG.out, rfl, B2.out⟩
  | true =>
    have HF := Lib.hid (show Calls Tryz.prog 31 #[.slice A l.length c] _ _ from HW.out.mono (R' := fun e w' => ∃ v', e = .returned (.tuple #[v', .bool true]) ∧ OwnB w' w.heap.size 5 v' (wcB l) ∧ Below w.heap.size w w') fun e w' h => by
      rcases h with ⟨h1, _⟩ | ⟨_, v', h2, h3, h4⟩
      · rw [hg] at h1; cases h1
      · exact ⟨v', h2, own_mono h3 HB.out.size, HB.out.trans (lower' h4 HB.out.size)⟩)
    have HG := Lib.hid hg
    clear HW HN hg
    go_wp2_with (go_at_call 31; (with_reducible refine HF.out.mono ?_); rintro e w2 ⟨v2, rfl, o2, b2⟩; have B2 := Lib.hid (And.intro o2 b2); clear o2 b2)
    go_ret2
    exact .inr ⟨HG.out, v2, rfl, B2.out.1, B2.out.2⟩
set_option maxRecDepth 100000 in
set_option maxHeartbeats 1000000 in
theorem write_drop (A : Option Addr) (n c : Nat) (w : World) (hn : isNm nm.data.toList = true) :
    Calls Tryz.prog 20 #[.agg #[.int .i64 3, .slice A n c, .string vn, .int .i64 vk, .slice oA on oc, .slice aA an ac, .string vl, .string nm]] w fun e w' => ∃ v', e = .returned (.tuple #[v', .bool true]) ∧ OwnB w' w.heap.size 5 v' (3 :: nm.data.toList) ∧ Below w.heap.size w w' := by
  have hb0 : Below w.heap.size w (w.alloc (.cells #[.int .i64 3, .slice A n c, .string vn, .int .i64 vk, .slice oA on oc, .slice aA an ac, .string vl, .string nm] 28)) := (Below.refl _ _).alloc (Nat.le_refl _) _
  have hx0 := heap_alloc_new w (.cells #[.int .i64 3, .slice A n c, .string vn, .int .i64 vk, .slice oA on oc, .slice aA an ac, .string vl, .string nm] 28)
  obtain ⟨c0, c1, c2, c3, c4, c5, c6, c7⟩ := box8 hx0
  have his := fun W => isNmB_any nm W
  rw [hn] at his
  have hl : nm.data.toList.length = nm.size := Array.length_toList
  have hm : ∀ W, Calls Tryz.prog 33 #[.int .u8 3, .string nm] W fun e w' => ∃ v', e = .returned v' ∧ OwnB w' W.heap.size 5 v' (3 :: nm.data.toList) ∧ Below W.heap.size W w' := fun W => marked_any 3 nm W (by have := isNm_len hn; omega)
  have HI := Lib.hid his
  have HM := Lib.hid hm
  have HB := Lib.hid hb0
  clear hb0 hx0 his hm hl hn
  go_enter Tryz.func20, Tryz.ntmps20
  go_wp2_with (first
    | (go_at_call 34; (with_reducible refine (HI.out _).mono ?_); rintro e w1 ⟨rfl, rfl⟩)
    | (go_at_call 33; (with_reducible refine (HM.out _).mono ?_); rintro e w2 ⟨v2, rfl, o2, b2⟩; have B2 := Lib.hid (And.intro (own_mono o2 HB.out.size) (HB.out.trans (lower' b2 HB.out.size))); clear o2 b2))
  go_ret2
  exact ⟨v2, rfl, B2.out.1, B2.out.2⟩
/-- What Encode of a commit answers. -/
def encCode (l : List ChV) : Int := if goodC l = false then 1 else if 4000 < (wcB l).length then 3 else 0
def encByt (l : List ChV) : List UInt8 := if goodC l = false then [] else if 4000 < (wcB l).length then [] else wcB l
def EncPost (w : World) (l : List ChV) (e : Ending) (w' : World) : Prop := ∃ v', e = .returned (.tuple #[v', .int .i64 (encCode l)]) ∧ OwnB w' w.heap.size 5 v' (encByt l) ∧ Below w.heap.size w w'
set_option maxRecDepth 100000 in
set_option maxHeartbeats 1000000 in
theorem enc_commit (A : Option Addr) (c : Nat) (l : List ChV) (w : World) (h : Chs w A c l) (hT : Tabs w) :
    Calls Tryz.prog 10 #[.agg #[.int .i64 1, .slice A l.length c, .string vn, .int .i64 vk, .slice oA on oc, .slice aA an ac, .string vl, .string nm]] w (EncPost w l) := by
  have hb0 : Below w.heap.size w (w.alloc (.cells #[.int .i64 1, .slice A l.length c, .string vn, .int .i64 vk, .slice oA on oc, .slice aA an ac, .string vl, .string nm] 28)) := (Below.refl _ _).alloc (Nat.le_refl _) _
  have hx0 := heap_alloc_new w (.cells #[.int .i64 1, .slice A l.length c, .string vn, .int .i64 vk, .slice oA on oc, .slice aA an ac, .string vl, .string nm] 28)
  obtain ⟨c0, c1, c2, c3, c4, c5, c6, c7⟩ := box8 hx0
  have hw := write_commit vn vl nm vk oA aA on oc an ac A c l _ (h.below hb0) (hT.below hb0)
  unfold WcPost at hw
  have HB := Lib.hid hb0
  clear hb0 hx0 h hT
  cases hg : goodC l with
  | false =>
    have HF := Lib.hid (hw.mono (R' := fun e w' => e = .returned (.tuple #[.slice none 0 0, .bool false]) ∧ Below w.heap.size w w') fun e w' h => by
      rcases h with ⟨_, h2, h3⟩ | ⟨h1, _⟩
      · exact ⟨h2, HB.out.trans (lower' h3 HB.out.size)⟩
      · rw [hg] at h1; cases h1)
    have HG := Lib.hid (show encCode l = 1 ∧ encByt l = [] from by unfold encCode encByt; rw [if_pos hg, if_pos hg]; exact ⟨rfl, rfl⟩)
    clear hw hg
    go_enter Tryz.func10, Tryz.ntmps10
    go_wp2_with (go_at_call 20; (with_reducible refine HF.out.mono ?_); rintro e w2 ⟨rfl, b2⟩; have B2 := Lib.hid b2; clear b2)
    go_ret2
    exact ⟨_, by rw [HG.out.1]; rfl, by rw [HG.out.2]; exact OwnB.nil _ _ _, B2.out⟩
  | true =>
    have HF := Lib.hid (hw.mono (R' := fun e w' => ∃ A2 c2, e = .returned (.tuple #[.slice A2 (wcB l).length c2, .bool true]) ∧ OwnB w' w.heap.size 5 (.slice A2 (wcB l).length c2) (wcB l) ∧ Below w.heap.size w w') fun e w' h => by
      rcases h with ⟨h1, _⟩ | ⟨_, v', h2, h3, h4⟩
      · rw [hg] at h1; cases h1
      · obtain ⟨A2, c2, rfl, _⟩ := h3.shape
        exact ⟨A2, c2, h2, own_mono h3 HB.out.size, HB.out.trans (lower' h4 HB.out.size)⟩)
    have hgn : ¬ goodC l = false := by rw [hg]; simp
    by_cases h4 : 4000 < (wcB l).length
    · have HG := Lib.hid (show encCode l = 3 ∧ encByt l = [] from by unfold encCode encByt; rw [if_neg hgn, if_neg hgn, if_pos h4, if_pos h4]; exact ⟨rfl, rfl⟩)
      have h4I : (4000 : Int) < ((wcB l).length : Int) := by omega
      generalize wcB l = L at HF h4I
      clear hw hg hgn h4
      go_enter Tryz.func10, Tryz.ntmps10
      go_wp2_with (go_at_call 20; (with_reducible refine HF.out.mono ?_); rintro e w2 ⟨A2, c2', rfl, o2, b2⟩; have B2 := Lib.hid (And.intro o2 b2); clear o2 b2)
      go_ret2
      exact ⟨_, by rw [HG.out.1]; rfl, by rw [HG.out.2]; exact OwnB.nil _ _ _, B2.out.2⟩
    · have HG := Lib.hid (show encCode l = 0 ∧ encByt l = wcB l from by unfold encCode encByt; rw [if_neg hgn, if_neg hgn, if_neg h4, if_neg h4]; exact ⟨rfl, rfl⟩)
      have h4I : ¬ (4000 : Int) < ((wcB l).length : Int) := by omega
      generalize wcB l = L at HF h4I HG
      clear hw hg hgn h4
      go_enter Tryz.func10, Tryz.ntmps10
      go_wp2_with (go_at_call 20; (with_reducible refine HF.out.mono ?_); rintro e w2 ⟨A2, c2', rfl, o2, b2⟩; have B2 := Lib.hid (And.intro o2 b2); clear o2 b2)
      go_ret2
      exact ⟨_, by rw [HG.out.1]; rfl, by rw [HG.out.2]; exact B2.out.1, B2.out.2⟩
set_option maxRecDepth 100000 in
set_option maxHeartbeats 1000000 in
theorem enc_drop (A : Option Addr) (n c : Nat) (w : World) (hn : isNm nm.data.toList = true) :
    Calls Tryz.prog 10 #[.agg #[.int .i64 3, .slice A n c, .string vn, .int .i64 vk, .slice oA on oc, .slice aA an ac, .string vl, .string nm]] w fun e w' => ∃ v', e = .returned (.tuple #[v', .int .i64 0]) ∧ OwnB w' w.heap.size 5 v' (3 :: nm.data.toList) ∧ Below w.heap.size w w' := by
  have hb0 : Below w.heap.size w (w.alloc (.cells #[.int .i64 3, .slice A n c, .string vn, .int .i64 vk, .slice oA on oc, .slice aA an ac, .string vl, .string nm] 28)) := (Below.refl _ _).alloc (Nat.le_refl _) _
  have hx0 := heap_alloc_new w (.cells #[.int .i64 3, .slice A n c, .string vn, .int .i64 vk, .slice oA on oc, .slice aA an ac, .string vl, .string nm] 28)
  obtain ⟨c0, c1, c2, c3, c4, c5, c6, c7⟩ := box8 hx0
  have hw := write_drop vn vl nm vk oA aA on oc an ac A n c (w.alloc (.cells #[.int .i64 3, .slice A n c, .string vn, .int .i64 vk, .slice oA on oc, .slice aA an ac, .string vl, .string nm] 28)) hn
  have HB := Lib.hid hb0
  have hl : nm.data.toList.length = nm.size := Array.length_toList
  have hlen : (3 :: nm.data.toList).length ≤ 17 := by rw [List.length_cons]; have := isNm_len hn; omega
  generalize (3 :: nm.data.toList : List UInt8) = L at hw hlen ⊢
  have HF := Lib.hid (hw.mono (R' := fun e w' => ∃ A2 c2, e = .returned (.tuple #[.slice A2 L.length c2, .bool true]) ∧ OwnB w' w.heap.size 5 (.slice A2 L.length c2) L ∧ Below w.heap.size w w') fun e w' h => by
      obtain ⟨v', h2, h3, h4⟩ := h
      obtain ⟨A2, c2, rfl, _⟩ := h3.shape
      exact ⟨A2, c2, h2, own_mono h3 HB.out.size, HB.out.trans (lower' h4 HB.out.size)⟩)
  have h4I : ¬ (4000 : Int) < (L.length : Int) := by omega
  clear hb0 hx0 hw hl hn hlen
  go_enter Tryz.func10, Tryz.ntmps10
  go_wp2_with (go_at_call 20; (with_reducible refine HF.out.mono ?_); rintro e w2 ⟨A2, c2', rfl, o2, b2⟩; have B2 := Lib.hid (And.intro o2 b2); clear o2 b2)
  go_ret2
  exact ⟨_, rfl, B2.out.1, B2.out.2⟩
end
end Go.Proofs.YtgjjdmkoamjdpaaGreatDoor
