/- A list of changes in memory; writeCommit. -/
import Derived.Test.YtgjjdmkoamjdpaaGreatDoorRcD
namespace Go.Proofs.YtgjjdmkoamjdpaaGreatDoor
open Go.RowKit Go.Maps

def chC (c : ChV) : List Value := c.cells.toList
def chsC (l : List ChV) : List Value := l.flatMap chC
theorem chsC_len (l : List ChV) : (chsC l).length = l.length * 9 := by
  induction l with
  | nil => rfl
  | cons a l ih =>
    show (chC a ++ chsC l).length = _
    rw [List.length_append, ih, List.length_cons]
    show 9 + _ = _
    omega
theorem chsC_app (a b : List ChV) : chsC (a ++ b) = chsC a ++ chsC b := List.flatMap_append
theorem chsC_get : ∀ (l : List ChV) (k j : Nat) (hk : k < l.length), j < 9 → (chsC l)[k * 9 + j]? = (chC l[k])[j]?
  | [], k, _, hk, _ => absurd hk (by simp)
  | a :: l, 0, j, _, hj => by
    show (chC a ++ chsC l)[0 * 9 + j]? = _
    rw [List.getElem?_append_left (by show _ < 9; omega)]
    simp
  | a :: l, k + 1, j, hk, hj => by
    show (chC a ++ chsC l)[(k + 1) * 9 + j]? = _
    rw [List.getElem?_append_right (by show 9 ≤ _; omega), show (k + 1) * 9 + j - (chC a).length = k * 9 + j by show _ - 9 = _; omega, chsC_get l k j (by simpa using hk) hj]
    rfl
/-- Changes that can be read. -/
structure Chs (w : World) (A : Option Addr) (c : Nat) (l : List ChV) : Prop where
  rd : Rd w w.heap.size A (chsC l)
  cap : l.length ≤ c
  fit : ∀ x ∈ l, x.fits
theorem Chs.below {w w' : World} {A : Option Addr} {c : Nat} {l : List ChV} (h : Chs w A c l) (hb : Below w.heap.size w w') : Chs w' A c l := ⟨(h.rd.below hb (Nat.le_refl _)).more hb.size, h.cap, h.fit⟩
theorem Chs.cell {w : World} {A : Option Addr} {c : Nat} {l : List ChV} (h : Chs w A c l) {k : Nat} (hk : k < l.length) : ∃ b o, A = some ⟨b, o, none⟩ ∧ b < w.heap.size ∧
    w.cell? ⟨b, o + k * 9, none⟩ = some (.int .i64 l[k].kind) ∧ w.cell? ⟨b, o + k * 9 + 1, none⟩ = some (.int .i64 l[k].node) ∧ w.cell? ⟨b, o + k * 9 + 2, none⟩ = some (.int .i64 l[k].ef) ∧ w.cell? ⟨b, o + k * 9 + 3, none⟩ = some (.string l[k].lab) ∧ w.cell? ⟨b, o + k * 9 + 4, none⟩ = some (.int .i64 l[k].et) ∧ w.cell? ⟨b, o + k * 9 + 5, none⟩ = some (.string l[k].key) ∧ w.cell? ⟨b, o + k * 9 + 6, none⟩ = some (.int .i64 l[k].v.kind) ∧ w.cell? ⟨b, o + k * 9 + 7, none⟩ = some (.int .i64 l[k].v.n) ∧ w.cell? ⟨b, o + k * 9 + 8, none⟩ = some (.string l[k].v.s) := by
  obtain ⟨b, o, e, hb, hc⟩ := h.rd (by intro e; have := chsC_len l; rw [e] at this; simp at this; omega)
  refine ⟨b, o, e, hb, ?_, ?_, ?_, ?_, ?_, ?_, ?_, ?_, ?_⟩
  · exact hc (k * 9 + 0) _ (by rw [chsC_get l k 0 hk (by omega)]; rfl)
  all_goals rw [Nat.add_assoc]
  · exact hc (k * 9 + 1) _ (by rw [chsC_get l k 1 hk (by omega)]; rfl)
  · exact hc (k * 9 + 2) _ (by rw [chsC_get l k 2 hk (by omega)]; rfl)
  · exact hc (k * 9 + 3) _ (by rw [chsC_get l k 3 hk (by omega)]; rfl)
  · exact hc (k * 9 + 4) _ (by rw [chsC_get l k 4 hk (by omega)]; rfl)
  · exact hc (k * 9 + 5) _ (by rw [chsC_get l k 5 hk (by omega)]; rfl)
  · exact hc (k * 9 + 6) _ (by rw [chsC_get l k 6 hk (by omega)]; rfl)
  · exact hc (k * 9 + 7) _ (by rw [chsC_get l k 7 hk (by omega)]; rfl)
  · exact hc (k * 9 + 8) _ (by rw [chsC_get l k 8 hk (by omega)]; rfl)
def goodC (l : List ChV) : Bool := decide (l.length ≤ 60) && l.all formB
def bodyC (l : List ChV) : List UInt8 := l.flatMap chB
def wcB (l : List ChV) : List UInt8 := 1 :: UInt8.ofNat l.length :: bodyC l
theorem bodyC_take {l : List ChV} {k : Nat} (h : k < l.length) : bodyC (l.take (k + 1)) = bodyC (l.take k) ++ chB l[k] := by
  unfold bodyC
  rw [List.take_succ_eq_append_getElem h, List.flatMap_append]
  simp
theorem bodyC_len : ∀ {l : List ChV}, l.all formB = true → (∀ x ∈ l, x.fits) → (bodyC l).length ≤ l.length * 133
  | [], _, _ => by simp [bodyC]
  | a :: l, h, hf => by
    rw [List.all_cons, Bool.and_eq_true] at h
    have h1 := (chB_len h.1 (hf a (List.mem_cons_self ..))).2
    have h2 := bodyC_len h.2 fun x hx => hf x (List.mem_cons_of_mem _ hx)
    show (chB a ++ bodyC l).length ≤ _
    rw [List.length_append, List.length_cons]
    omega
def WcPost (w : World) (l : List ChV) (e : Ending) (w' : World) : Prop :=
  (goodC l = false ∧ e = .returned (.tuple #[.slice none 0 0, .bool false]) ∧ Below w.heap.size w w') ∨ (goodC l = true ∧ ∃ v', e = .returned (.tuple #[v', .bool true]) ∧ OwnB w' w.heap.size 5 v' (wcB l) ∧ Below w.heap.size w w')
set_option maxRecDepth 100000 in
set_option maxHeartbeats 4000000 in
theorem wc_any (A : Option Addr) (c : Nat) (l : List ChV) (w : World) (h : Chs w A c l) (hT : Tabs w) : Calls Tryz.prog 31 #[.slice A l.length c] w (WcPost w l) := by
  by_cases h60 : l.length ≤ 60
  · have hlI : ¬ (60 : Int) < (l.length : Int) := by omega
    obtain ⟨n, hn⟩ : ∃ n, n = l.length := ⟨_, rfl⟩
    have hno : (UInt8.ofNat n).toNat = n := by rw [UInt8.toNat_ofNat_of_lt']; simp [UInt8.size]; omega
    have hcv : IntKind.u8.wrap (n : Int) = (n : Int) := IntWalk.u8_in _ (by omega)
    have HA := Lib.hid (And.intro h (And.intro hT (And.intro hn hno)))
    rw [← hn] at h60 hlI ⊢
    clear h hT hn hno
    go_enter Tryz.func31, Tryz.ntmps31
    go_wp2_with (fail)
    go_loopw [4, 16] (fun v4 v16 wr => ∃ (k : Nat) (A4 : Option Addr) (n4 c4 : Nat) (L : List UInt8), k ≤ n ∧ n4 = L.length ∧ v4 = .slice A4 L.length c4 ∧ v16 = .int .i64 (k : Int) ∧ Hid (OwnB wr w.heap.size 5 (.slice A4 L.length c4) L ∧ L = 1 :: UInt8.ofNat n :: bodyC (l.take k) ∧ (l.take k).all formB = true ∧ Below w.heap.size w wr)) (fun _ v16 _ => n - (intOf v16).toNat)
    case atStart =>
      have h1 := OwnB.litN (base := w.heap.size) (e := 5) w [1, UInt8.ofNat n] (Nat.le_refl _) (by simp)
      have e : (u8s [1, UInt8.ofNat n]).toArray = #[.int .u8 1, .int .u8 (n : Int)] := by unfold u8s; simp only [List.map_cons, List.map_nil, HA.out.2.2.2]; rfl
      rw [e] at h1
      exact ⟨0, _, _, _, [1, UInt8.ofNat n], by omega, rfl, rfl, rfl, Lib.hid ⟨h1, by simp [bodyC], by simp, (Below.refl _ _).alloc (Nat.le_refl _) _⟩⟩
    case round =>
      obtain ⟨k, A4, n4, c4, L, hk, -, rfl, rfl, hrel⟩ := hrel
      rename World => wr
      by_cases hlt : k < n
      · have hkI : (k : Int) < (n : Int) := by omega
        have hkl : k < l.length := by rw [← HA.out.2.2.1]; exact hlt
        have hLl : L.length ≤ 8000 := by
          have h1 := bodyC_len hrel.out.2.2.1 fun x hx => HA.out.1.fit x (List.mem_of_mem_take hx)
          rw [List.length_take] at h1
          rw [hrel.out.2.1, List.length_cons, List.length_cons]
          omega
        obtain ⟨b, o, hAe, hbl, q0, q1, q2, q3, q4, q5, q6, q7, q8⟩ := (HA.out.1.below hrel.out.2.2.2).cell hkl
        have HX := Lib.hid (And.intro (bodyC_take hkl) (And.intro (show (l.take (k + 1)).all formB = (formB l[k] && (l.take k).all formB) from by rw [List.take_succ_eq_append_getElem hkl, List.all_append]; simp [Bool.and_comm]) (And.intro (show l.all formB = true → formB l[k] = true from fun h => List.all_eq_true.1 h _ (List.getElem_mem hkl)) (HA.out.1.fit _ (List.getElem_mem hkl)))))
        rw [hAe]
        generalize l[k] = x at q0 q1 q2 q3 q4 q5 q6 q7 q8 HX
        have hbW : Below wr.heap.size wr (wr.alloc (.cells x.cells 53)) := (Below.refl _ _).alloc (Nat.le_refl _) _
        have hxW := heap_alloc_new wr (.cells x.cells 53)
        have hT1 : Tabs (wr.alloc (.cells x.cells 53)) := HA.out.2.1.below (hrel.out.2.2.2.trans (lower' hbW hrel.out.2.2.2.size))
        have hif := isInForm_any x _ HX.out.2.2.2 hT1
        have HO := Lib.hid (And.intro hrel.out.1 (And.intro hrel.out.2.1 (And.intro hrel.out.2.2.1 hrel.out.2.2.2)))
        cases hfx : formB x with
        | false =>
          rw [hfx] at hif
          have hng : goodC l = false := by
            cases hg : l.all formB with
            | false => unfold goodC; rw [hg, Bool.and_false]
            | true => have := HX.out.2.2.1 hg; rw [hfx] at this; cases this
          obtain ⟨kk, nn, ef, lab, et, key, vk, vn, vs⟩ := x
          dsimp only [ChV.cells] at q0 q1 q2 q3 q4 q5 q6 q7 q8 hbW hxW hT1 hif
          obtain ⟨d0, d1, d2, d3, d4, d5, d6, d7, d8⟩ := box9 hxW
          have HI := Lib.hid hif
          have HG := Lib.hid (And.intro hng hbW)
          clear hrel hif hng hfx hbW hxW hT1 hAe hbl
          go_wp2_with (go_at_call 56; (with_reducible refine HI.out.mono ?_); rintro e w2 ⟨rfl, b2⟩; have B2 := Lib.hid (HG.out.2.trans (lower' b2 HG.out.2.size)); clear b2)
          go_ret2
          exact .inl ⟨HG.out.1, rfl, HO.out.2.2.2.trans (lower' B2.out HO.out.2.2.2.size)⟩
        | true =>
          rw [hfx] at hif
          have hap : ∀ w2, Below wr.heap.size wr w2 → Calls Tryz.prog 57 #[.slice A4 L.length c4, .agg x.cells] w2 (ApPost w2 w.heap.size L x) := fun w2 hb2 =>
            appendChange_any w w2 w.heap.size A4 c4 L x (HO.out.1.below hb2 (Nat.le_refl _)) (Nat.le_trans HO.out.2.2.2.size hb2.size) (by omega) hfx HX.out.2.2.2 HA.out.2.1 (HO.out.2.2.2.trans (lower' hb2 HO.out.2.2.2.size)) (Nat.le_refl _)
          have hcl := (chB_len hfx HX.out.2.2.2).2
          obtain ⟨CB, hCB⟩ : ∃ CB, CB = chB x := ⟨_, rfl⟩
          have HTK := Lib.hid (show bodyC (l.take (k + 1)) = bodyC (l.take k) ++ CB ∧ (l.take (k + 1)).all formB = true from ⟨by rw [HX.out.1, hCB], by rw [HX.out.2.1, hfx, HO.out.2.2.1]; rfl⟩)
          unfold ApPost at hap
          rw [← hCB] at hap hcl
          obtain ⟨kk, nn, ef, lab, et, key, vk, vn, vs⟩ := x
          dsimp only [ChV.cells] at q0 q1 q2 q3 q4 q5 q6 q7 q8 hbW hxW hT1 hif hap
          obtain ⟨d0, d1, d2, d3, d4, d5, d6, d7, d8⟩ := box9 hxW
          have HI := Lib.hid hif
          have HP := Lib.hid hap
          have HBW := Lib.hid (And.intro hbW hxW)
          clear hrel hif hap hfx hbW hxW hT1 hAe hbl hCB HX
          go_wp2_with (first
            | (go_at_call 56; (with_reducible refine HI.out.mono ?_); rintro e w2 ⟨rfl, b2⟩; clear d0 d1 d2 d3 d4 d5 d6 d7 d8; obtain ⟨d0, d1, d2, d3, d4, d5, d6, d7, d8⟩ := box9 ((b2.block wr.heap.size (by simp)).trans HBW.out.2); have B2 := Lib.hid (HBW.out.1.trans (lower' b2 HBW.out.1.size)); clear b2)
            | (go_at_call 57; (with_reducible refine (HP.out _ B2.out).mono ?_); rintro e w3 ⟨v3, rfl, o3, b3⟩; obtain ⟨A3, c3, rfl, _⟩ := o3.shape; have O3 := Lib.hid (And.intro o3 ((HO.out.2.2.2.trans (lower' B2.out HO.out.2.2.2.size)).trans b3)); clear o3 b3))
          go_roundw
          case rel => exact ⟨k + 1, A3, _, c3, L ++ CB, by omega, rfl, by rw [List.length_append], by go_num, Lib.hid ⟨O3.out.1, by rw [HTK.out.1, HO.out.2.1]; rfl, HTK.out.2, O3.out.2⟩⟩
          case measure => simp [intOf]; omega
      · obtain rfl : k = n := by omega
        have hkI : ¬ (k : Int) < (k : Int) := by omega
        have hg : goodC l = true ∧ L = wcB l := by
          have h1 : l.take k = l := by rw [HA.out.2.2.1]; exact List.take_length
          have h2 := hrel.out.2.1
          have h3 := hrel.out.2.2.1
          rw [h1] at h2 h3
          refine ⟨?_, by rw [h2, HA.out.2.2.1]; rfl⟩
          unfold goodC
          rw [decide_eq_true (by rw [← HA.out.2.2.1]; exact h60), h3]
          rfl
        have HF := Lib.hid (And.intro hg (And.intro hrel.out.1 hrel.out.2.2.2))
        clear hrel hg
        go_wp2_with (fail)
        go_ret2
        exact .inr ⟨HF.out.1.1, _, rfl, by rw [← HF.out.1.2]; exact HF.out.2.1, HF.out.2.2⟩
  · have hlI : (60 : Int) < (l.length : Int) := by omega
    have HG := Lib.hid (show goodC l = false from by unfold goodC; rw [decide_eq_false h60, Bool.false_and])
    clear h hT h60
    go_enter Tryz.func31, Tryz.ntmps31
    go_wp2_with (fail)
    go_ret2
    exact .inl ⟨HG.out, rfl, Below.refl _ _⟩
end Go.Proofs.YtgjjdmkoamjdpaaGreatDoor
