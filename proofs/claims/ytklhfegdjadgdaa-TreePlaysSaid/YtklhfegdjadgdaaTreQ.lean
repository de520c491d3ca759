/- A tree: Get. -/
import Derived.Test.YtklhfegdjadgdaaTreL
namespace Go.Proofs.Ytklhfegdjadgdaa
open Go.RowKit Go.Maps

def getL (key : List UInt8) (L : List Pr) : Option (List UInt8) := (L.find? fun p => p.1 == key).map (·.2)
theorem getL_no {key : List UInt8} {L : List Pr} (h : ∀ p ∈ L, p.1 ≠ key) : L.find? (fun p => p.1 == key) = none := by
  rw [List.find?_eq_none]
  intro p hp e
  exact h p hp (eq_of_beq e)
theorem getL_left {key a x : List UInt8} {l r : List Pr} (hr : Rises (l ++ (a, x) :: r)) (h : cmpB key a < 0) : getL key (l ++ (a, x) :: r) = getL key l := by
  obtain ⟨_, _, _, h4, _⟩ := rises_mid hr
  have h1 := getL_no (key := key) (L := (a, x) :: r) fun p hp => by
    rcases List.mem_cons.1 hp with rfl | hp
    · exact (cmp_ne h).symm
    · exact (cmp_ne (cmp_trans h (h4 p hp))).symm
  unfold getL
  rw [List.find?_append, h1]
  simp
theorem getL_mid {key a x : List UInt8} {l r : List Pr} (hr : Rises (l ++ (a, x) :: r)) (h : ¬ cmpB key a < 0) : getL key (l ++ (a, x) :: r) = getL key ((a, x) :: r) := by
  obtain ⟨_, _, h3, _, _⟩ := rises_mid hr
  have h1 := getL_no (key := key) (L := l) fun p hp e => h (by rw [← e]; exact h3 p hp)
  unfold getL
  rw [List.find?_append, h1]
  simp
theorem getL_right {key a x : List UInt8} {l r : List Pr} (hr : Rises (l ++ (a, x) :: r)) (h : 0 < cmpB key a) : getL key (l ++ (a, x) :: r) = getL key r := by
  rw [getL_mid hr (by omega)]
  have hne : a ≠ key := cmp_ne (cmp_pos.1 h)
  unfold getL
  rw [List.find?_cons_of_neg (by simpa using hne)]
theorem getL_same {key a x : List UInt8} {l r : List Pr} (hr : Rises (l ++ (a, x) :: r)) (h : cmpB key a = 0) : getL key (l ++ (a, x) :: r) = some x := by
  rw [getL_mid hr (by omega)]
  have he : key = a := cmp_eq h
  subst he
  unfold getL
  rw [List.find?_cons_of_pos (by simp)]
  rfl
/-- What a Get answers. -/
def GetPost (w : World) (o : Option (List UInt8)) (e : Ending) (w' : World) : Prop :=
  (o = none ∧ e = .returned (.tuple #[.slice none 0 0, .bool false]) ∧ w = w') ∨
  ∃ v : Bs, o = some v.l ∧ e = .returned (.tuple #[.slice v.A v.l.length v.c, .bool true]) ∧ v.ok w' ∧ (∀ a, v.A = some a → w.heap.size ≤ a.block) ∧ Below w.heap.size w w'
set_option maxRecDepth 100000 in
set_option maxHeartbeats 1000000 in
theorem tget_any {w : World} {lo p : Nat} {L : List Pr} (h : TreeW w lo p L) (key : Bs) (B : Nat) (hk : Rd w B key.A (u8s key.l)) :
    Calls Try.prog 17 #[.pointer (some ⟨p, 0, none⟩), .slice key.A key.l.length key.c] w (GetPost w (getL key.l L)) := by
  obtain ⟨t, h1, rfl, _, _⟩ := h
  obtain ⟨c0, _⟩ := h1.root
  have HT := Lib.hid (And.intro h1 hk)
  clear h1 hk
  go_enter Try.func17, Try.ntmps17
  go_wp2_with (fail)
  go_loop [6] (fun n => ∃ s : Tn, s.At w ∧ Rises s.flat ∧ n = .pointer s.adr ∧ getL key.l s.flat = getL key.l t.flat) (fun n => measP w n)
  case atStart => exact ⟨t, HT.out.1.nodes, HT.out.1.ris, rfl, rfl⟩
  case round =>
    obtain ⟨s, hs, hr, rfl, hg⟩ := hrel
    cases s with
    | nil =>
      have HK := Lib.hid hg
      clear hs hr hg
      rw [show Tn.nil.adr = none from rfl]
      go_wp2_with (fail)
      go_ret2
      exact .inl ⟨HK.out.symm, rfl, rfl⟩
    | node b kk x l r =>
      obtain ⟨d0, d1, d2, d3⟩ := node_cells hs
      have hcmp := compare_any key.A kk.A key.l kk.l key.c kk.c B w.heap.size w HT.out.2 hs.2.1.1.1
      have hcl := clone_any x w.heap.size w hs.2.2.1.1.1 (Nat.le_refl _) hs.2.2.1.2.2.2
      have hms := measP_at hs
      have hml := measP_at hs.2.2.2.1
      have hmr := measP_at hs.2.2.2.2
      obtain ⟨c, hc⟩ : ∃ c, c = cmpB key.l kk.l := ⟨_, rfl⟩
      rw [← hc] at hcmp
      have HCM := Lib.hid hcmp
      have HCL := Lib.hid hcl
      have HS := Lib.hid (And.intro hs (And.intro hr (And.intro hg (And.intro hms (And.intro hml hmr)))))
      have HC := Lib.hid hc
      clear hs hr hg hms hml hmr hc hcmp hcl
      rw [show (Tn.node b kk x l r).adr = some ⟨b, 0, none⟩ from rfl]
      rcases (show c < 0 ∨ 0 < c ∨ c = 0 by omega) with h3 | h3 | h3
      · clear d1 d3 HCL
        go_wp2_with (go_at_call 26; (with_reducible refine HCM.out.mono ?_); rintro e w1 ⟨rfl, rfl⟩; clear HCM)
        obtain ⟨hs, hr, hg, hms, hml, hmr⟩ := HS.out
        go_round
        case rel => exact ⟨l, hs.2.2.2.1, (rises_mid hr).1, rfl, (getL_left hr (by rw [← HC.out]; exact h3)).symm.trans hg⟩
        case measure =>
          have e1 : measP w (.pointer (some ⟨b, 0, none⟩)) = (Tn.node b kk x l r).ht := hms
          simp only [Tn.ht] at e1
          simp
          omega
      · clear d1 d2 HCL
        go_wp2_with (go_at_call 26; (with_reducible refine HCM.out.mono ?_); rintro e w1 ⟨rfl, rfl⟩; clear HCM)
        obtain ⟨hs, hr, hg, hms, hml, hmr⟩ := HS.out
        go_round
        case rel => exact ⟨r, hs.2.2.2.2, (rises_mid hr).2.1, rfl, (getL_right hr (by rw [← HC.out]; exact h3)).symm.trans hg⟩
        case measure =>
          have e1 : measP w (.pointer (some ⟨b, 0, none⟩)) = (Tn.node b kk x l r).ht := hms
          simp only [Tn.ht] at e1
          simp
          omega
      · clear d2 d3
        subst h3
        go_wp2_with (first
          | (go_at_call 26; (with_reducible refine HCM.out.mono ?_); rintro e w1 ⟨rfl, rfl⟩; clear HCM)
          | (go_at_call 29; (with_reducible refine HCL.out.mono ?_); rintro e w1 ⟨v, rfl, v1, v2, v3, v4⟩; have HV := Lib.hid (And.intro v1 (And.intro v2 (And.intro v3 v4))); clear v1 v2 v3 v4 HCL))
        go_ret2
        obtain ⟨hs, hr, hg, hms, hml, hmr⟩ := HS.out
        exact .inr ⟨v, by rw [HV.out.1]; exact hg.symm.trans (getL_same hr HC.out.symm), rfl, HV.out.2.1, HV.out.2.2.1, HV.out.2.2.2⟩
end Go.Proofs.Ytklhfegdjadgdaa
