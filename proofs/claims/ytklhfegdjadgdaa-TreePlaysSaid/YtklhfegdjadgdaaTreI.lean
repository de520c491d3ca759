/- without: a key is gone. -/
import Derived.Test.YtklhfegdjadgdaaTreH
namespace Go.Proofs.Ytklhfegdjadgdaa
open Go.RowKit Go.Maps

theorem delL_len (k : List UInt8) (l : List Pr) : (delL k l).length ≤ l.length := List.length_filter_le _ _
theorem num_del {key : List UInt8} {t t' : Tn} (h : t'.flat = delL key t.flat) : t'.num ≤ t.num := by
  have := delL_len key t.flat
  rw [← h, t'.flat_len, t.flat_len] at this
  exact this
set_option maxRecDepth 100000 in
set_option maxHeartbeats 4000000 in
theorem without_node (b : Nat) (k x : Bs) (l r : Tn)
    (ihl : ∀ (w : World) (key : Bs) (B : Nat), Rd w B key.A (u8s key.l) → l.At w → l.blks.Nodup → l.Bal → Rises l.flat → l.num ≤ 1000000 →
      Calls Try.prog 28 #[.pointer l.adr, .slice key.A key.l.length key.c] w (LessPost w l (delL key.l l.flat)))
    (ihr : ∀ (w : World) (key : Bs) (B : Nat), Rd w B key.A (u8s key.l) → r.At w → r.blks.Nodup → r.Bal → Rises r.flat → r.num ≤ 1000000 →
      Calls Try.prog 28 #[.pointer r.adr, .slice key.A key.l.length key.c] w (LessPost w r (delL key.l r.flat)))
    (w : World) (key : Bs) (B : Nat) (hk : Rd w B key.A (u8s key.l)) (h : (Tn.node b k x l r).At w) (hnd : (Tn.node b k x l r).blks.Nodup) (hbal : (Tn.node b k x l r).Bal) (hri : Rises (Tn.node b k x l r).flat) (hn : (Tn.node b k x l r).num ≤ 1000000) :
    Calls Try.prog 28 #[.pointer (Tn.node b k x l r).adr, .slice key.A key.l.length key.c] w (LessPost w (.node b k x l r) (delL key.l (Tn.node b k x l r).flat)) := by
  obtain ⟨c0, c1, c2, c3⟩ := node_cells h
  have hcmp := compare_any key.A k.A key.l k.l key.c k.c B w.heap.size w hk h.2.1.1.1
  obtain ⟨hndl, hndr, _⟩ := List.nodup_append.1 (List.nodup_cons.1 hnd).2
  obtain ⟨hrl, hrr, _, _, _⟩ := rises_mid hri
  have hnl : l.num ≤ 1000000 := by simp only [Tn.num] at hn; omega
  have hnr : r.num ≤ 1000000 := by simp only [Tn.num] at hn; omega
  obtain ⟨c, hc⟩ : ∃ c, c = cmpB key.l k.l := ⟨_, rfl⟩
  rw [← hc] at hcmp
  have HCM := Lib.hid hcmp
  have HN := Lib.hid (And.intro h (And.intro hnd (And.intro hbal (And.intro hri hn))))
  show Calls Try.prog 28 #[.pointer (some ⟨b, 0, none⟩), .slice key.A key.l.length key.c] w (LessPost w (.node b k x l r) (delL key.l (Tn.node b k x l r).flat))
  have h3 : c < 0 ∨ 0 < c ∨ c = 0 := by omega
  rcases h3 with h3 | h3 | h3
  · have hcall := ihl w key B hk h.2.2.2.1 hndl hbal.1 hrl hnl
    have HCA := Lib.hid hcall
    have HC := Lib.hid hc
    clear h hnd hbal hri hn hndl hndr hrl hrr hnl hnr hcmp hcall hk ihl ihr hc
    go_enter Try.func28, Try.ntmps28
    go_wp2_with (first
      | (go_at_call 26; (with_reducible refine HCM.out.mono ?_); rintro e w1 ⟨rfl, rfl⟩; clear HCM)
      | (go_at_call 28; (with_reducible refine HCA.out.mono ?_); rintro e w1 ⟨l', rfl, p1, p2, ⟨p3, p4, p5⟩, p6, p7, p8, p9⟩; obtain ⟨g1, g2, hre⟩ := rebal_left HN.out.1 HN.out.2.1 p1 p8 p6 (fun z hz => .inl (p7 z hz)) (by have := num_del p2; have := HN.out.2.2.2.2; simp only [Tn.num] at this ⊢; omega); have HRE := Lib.hid hre; have HP := Lib.hid (And.intro p2 (And.intro p3 (And.intro p4 (And.intro p5 (And.intro p7 p9))))); clear p1 p2 p3 p4 p5 p6 p7 p8 p9 hre HCA)
      | (go_at_call 32; (with_reducible refine HRE.out.mono ?_); rintro e w2 ⟨rfl, q1, q2, q3, q4, _⟩; have HQ := Lib.hid (And.intro q1 (And.intro q2 (And.intro q3 q4))); clear q1 q2 q3 q4 HRE))
    go_ret
    obtain ⟨q1, q2, q3, q4⟩ := HQ.out
    obtain ⟨p2, p3, p4, p5, p7, p9⟩ := HP.out
    refine ⟨_, rfl, q1, ?_, del_left HN.out.2.2.1 p3 p4 p5, q3, fun z hz => ?_, q2, fun z hz => ?_⟩
    · rw [Tn.bal_flat]
      simp only [Tn.flat]
      rw [p2, delL_left HN.out.2.2.2.1 (by rw [← HC.out]; exact h3)]
    · have hz2 := (Tn.bal_blks _).mem_iff.1 hz
      simp only [Tn.blks, List.mem_cons, List.mem_append] at hz2 ⊢
      rcases hz2 with rfl | hz2 | hz2
      · exact .inl rfl
      · exact .inr (.inl (p7 z hz2))
      · exact .inr (.inr hz2)
    · have hz2 := Tn.bal_bys _ z hz
      simp only [Tn.bys, List.mem_append] at hz2 ⊢
      rcases hz2 with ((h | h) | h) | h
      · exact .inl (.inl (.inl h))
      · exact .inl (.inl (.inr h))
      · exact .inl (.inr (p9 z h))
      · exact .inr h
  · have hcall := ihr w key B hk h.2.2.2.2 hndr hbal.2.1 hrr hnr
    have HCA := Lib.hid hcall
    have HC := Lib.hid hc
    have h4 : ¬ c < 0 := by omega
    clear h hnd hbal hri hn hndl hndr hrl hrr hnl hnr hcmp hcall hk ihl ihr hc
    go_enter Try.func28, Try.ntmps28
    go_wp2_with (first
      | (go_at_call 26; (with_reducible refine HCM.out.mono ?_); rintro e w1 ⟨rfl, rfl⟩; clear HCM)
      | (go_at_call 28; (with_reducible refine HCA.out.mono ?_); rintro e w1 ⟨r', rfl, p1, p2, ⟨p3, p4, p5⟩, p6, p7, p8, p9⟩; obtain ⟨g1, g2, hre⟩ := rebal_right HN.out.1 HN.out.2.1 p1 p8 p6 (fun z hz => .inl (p7 z hz)) (by have := num_del p2; have := HN.out.2.2.2.2; simp only [Tn.num] at this ⊢; omega); have HRE := Lib.hid hre; have HP := Lib.hid (And.intro p2 (And.intro p3 (And.intro p4 (And.intro p5 (And.intro p7 p9))))); clear p1 p2 p3 p4 p5 p6 p7 p8 p9 hre HCA)
      | (go_at_call 32; (with_reducible refine HRE.out.mono ?_); rintro e w2 ⟨rfl, q1, q2, q3, q4, _⟩; have HQ := Lib.hid (And.intro q1 (And.intro q2 (And.intro q3 q4))); clear q1 q2 q3 q4 HRE))
    go_ret
    obtain ⟨q1, q2, q3, q4⟩ := HQ.out
    obtain ⟨p2, p3, p4, p5, p7, p9⟩ := HP.out
    refine ⟨_, rfl, q1, ?_, del_right HN.out.2.2.1 p3 p4 p5, q3, fun z hz => ?_, q2, fun z hz => ?_⟩
    · rw [Tn.bal_flat]
      simp only [Tn.flat]
      rw [p2, delL_right HN.out.2.2.2.1 (by rw [← HC.out]; exact h3)]
    · have hz2 := (Tn.bal_blks _).mem_iff.1 hz
      simp only [Tn.blks, List.mem_cons, List.mem_append] at hz2 ⊢
      rcases hz2 with rfl | hz2 | hz2
      · exact .inl rfl
      · exact .inr (.inl hz2)
      · exact .inr (.inr (p7 z hz2))
    · have hz2 := Tn.bal_bys _ z hz
      simp only [Tn.bys, List.mem_append] at hz2 ⊢
      rcases hz2 with ((h | h) | h) | h
      · exact .inl (.inl (.inl h))
      · exact .inl (.inl (.inr h))
      · exact .inl (.inr h)
      · exact .inr (p9 z h)
  · have hcall := sides_any b k x l r w h hnd hbal hn
    have hfl : delL key.l (Tn.node b k x l r).flat = l.flat ++ r.flat := delL_same hri (by rw [← hc]; exact h3)
    rw [hfl]
    have HCA := Lib.hid hcall
    have h4 : ¬ c < 0 := by omega
    have h5 : ¬ 0 < c := by omega
    clear h hnd hbal hri hn hndl hndr hrl hrr hnl hnr hcmp hcall hk ihl ihr hc h3 hfl
    go_enter Try.func28, Try.ntmps28
    go_wp2_with (first
      | (go_at_call 26; (with_reducible refine HCM.out.mono ?_); rintro e w1 ⟨rfl, rfl⟩; clear HCM)
      | (go_at_call 34; (with_reducible refine HCA.out.mono ?_); rintro e w1 ⟨t', rfl, hp⟩; have HP := Lib.hid hp; clear hp HCA))
    go_ret
    exact ⟨t', rfl, HP.out⟩
set_option maxRecDepth 100000 in
/-- without. -/
theorem without_any (t : Tn) : ∀ (w : World) (key : Bs) (B : Nat), Rd w B key.A (u8s key.l) → t.At w → t.blks.Nodup → t.Bal → Rises t.flat → t.num ≤ 1000000 →
      Calls Try.prog 28 #[.pointer t.adr, .slice key.A key.l.length key.c] w (LessPost w t (delL key.l t.flat)) := by
  induction t with
  | nil =>
    intro w key B _ _ _ _ _ _
    unfold Tn.adr
    go_enter Try.func28, Try.ntmps28
    go_wp2_with (fail)
    go_ret
    exact ⟨.nil, rfl, trivial, rfl, ⟨trivial, Nat.le_refl _, Nat.le_succ _⟩, List.nodup_nil, fun z hz => hz, Fr.refl _ _, fun z hz => hz⟩
  | node b k x l r ihl ihr => intro w key B h1 h6 h7 h8 h9 h10; exact without_node b k x l r ihl ihr w key B h1 h6 h7 h8 h9 h10
end Go.Proofs.Ytklhfegdjadgdaa
