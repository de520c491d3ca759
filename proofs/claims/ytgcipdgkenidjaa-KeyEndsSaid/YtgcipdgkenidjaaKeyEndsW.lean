/- KeyEnds: the walk. -/
import Derived.Test.YtgcipdgkenidjaaProg
import Derived.Test.YtgcipdgkenidjaaKeyA
import Derived.Test.YtgcipdgkenidjaaKeyD
import Derived.WalkKit
import Derived.WalkSpells
import Derived.WalkLawsBesides
import Derived.Deep.QuietTactic
import Derived.Deep.RegionHeld
import Derived.BigQuiet
import Derived.KernelRfl
import Derived.Lib.Hide
namespace Go.Proofs.Ytgcipdgkenidjaa
open Go.RowKit

theorem strAt {w : World} {A : Option Addr} {n c B : Nat} {l : List UInt8} (hr : Rd w B A (u8s l)) (hn : n = l.length) :
    (convert 26 9 (.slice A n c)).run Try.prog w = .ok (.string ⟨l.toArray⟩) w :=
  run_strB (P := Try.prog) w 26 9 5 A n c B l Try.underlying26 Try.underlying5 Try.underlying9 hn hr

/-- The document's end, from the front. -/
def endF : List UInt8 → List UInt8
  | [] => []
  | b :: t => if endF t = [] then (if b < 255 then [b + 1] else []) else b :: endF t

theorem endN_snoc_le (l : List UInt8) (k : List UInt8) : ∀ n, n ≤ l.length → endN (l ++ k) n = endN l n
  | 0, _ => rfl
  | n + 1, h => by
    have e : (l ++ k).getD n 0 = l.getD n 0 := by simp [List.getD, List.getElem?_append_left (show n < l.length by omega)]
    rw [endN, endN, e, List.take_append_of_le_length h, endN_snoc_le l k n (by omega)]

theorem endF_snoc (b : UInt8) : ∀ l : List UInt8, endF (l ++ [b]) = if b < 255 then l ++ [b + 1] else endF l
  | [] => by simp [endF]
  | a :: t => by
    rw [List.cons_append, endF, endF_snoc b t]
    by_cases hb : b < 255
    · simp [hb]
    · simp [hb, endF]

theorem endN_eq (l : List UInt8) : endN l l.length = endF l := by
  generalize hn : l.length = n
  induction n generalizing l with
  | zero => rw [List.eq_nil_of_length_eq_zero hn]; rfl
  | succ n ih =>
    have hne : l ≠ [] := by rintro rfl; simp at hn
    obtain ⟨t, b, rfl⟩ : ∃ t b, l = t ++ [b] := ⟨l.dropLast, l.getLast hne, (List.dropLast_concat_getLast hne).symm⟩
    have ht : t.length = n := by simpa using hn
    have e : (t ++ [b]).getD n 0 = b := by simp [List.getD, ← ht]
    rw [endN, e, endF_snoc, endN_snoc_le t [b] n (by omega), ih t ht]
    by_cases hb : b < 255
    · simp only [hb, if_true]
      rw [List.take_of_length_le (by simp; omega), List.set_append]
      simp [ht]
    · simp [hb]

theorem less_irr : ∀ l : List UInt8, Op.bytesLess l l = false
  | [] => rfl
  | a :: l => by simp [Op.bytesLess, less_irr l]

/-- What begins with l is all that stands from l on and ahead of l's end. -/
theorem end_within : ∀ (l x : List UInt8), (decide (l <+: x)) = (!Op.bytesLess x l && ((endF l).isEmpty || Op.bytesLess x (endF l)))
  | [], x => by simp [endF, Op.bytesLess]
  | b :: t, [] => by simp [Op.bytesLess]
  | b :: t, y :: r => by
    have ih := end_within t r
    have hlt : ∀ u v : UInt8, (u < v) = (u.toNat < v.toNat) := fun u v => by rw [UInt8.lt_iff_toNat_lt]
    have hb1 : b < 255 → (b + 1).toNat = b.toNat + 1 := fun h => by
      have : b.toNat < 255 := by simpa [hlt] using h
      rw [UInt8.toNat_add]; simp; omega
    have hy := y.toNat_lt
    rw [show decide (b :: t <+: y :: r) = (decide (b = y) && decide (t <+: r)) from by rw [← Bool.decide_and]; exact decide_eq_decide.2 List.cons_prefix_cons]
    rcases Nat.lt_trichotomy y.toNat b.toNat with h | h | h
    · have h1 : y < b := by rw [hlt]; exact h
      have h2 : ¬ b = y := by rintro rfl; omega
      simp [Op.bytesLess, h1, h2]
    · obtain rfl : y = b := UInt8.toNat_inj.1 h
      have hi : ¬ y < y := by rw [hlt]; omega
      by_cases he : endF t = []
      · rw [he] at ih
        simp at ih
        by_cases hb : y < 255
        · have h3 : y < y + 1 := by rw [hlt, hb1 hb]; omega
          simp [Op.bytesLess, endF, he, hb, hi, h3, ih]
        · simp [Op.bytesLess, endF, he, hb, hi, ih]
      · have he' : (endF t).isEmpty = false := by simpa using he
        rw [he'] at ih
        simp [Op.bytesLess, endF, he, hi, ih]
    · have h1 : ¬ y < b := by rw [hlt]; omega
      have h2 : ¬ b = y := by rintro rfl; omega
      have h2' : ¬ y = b := fun e => h2 e.symm
      have hb : b < 255 := by rw [hlt]; show b.toNat < 255; omega
      by_cases he : endF t = []
      · have h3 : ¬ y < b + 1 := by rw [hlt, hb1 hb]; omega
        simp [Op.bytesLess, endF, he, hb, h2, h3]
      · simp [Op.bytesLess, endF, he, h1, h2, h2']

theorem prefix_take (l x : List UInt8) : decide (l <+: x) = (decide (l.length ≤ x.length) && (x.take l.length == l)) := by
  by_cases h : l <+: x
  · have h1 := h.length_le
    have h2 : x.take l.length = l := (List.prefix_iff_eq_take.1 h).symm
    simp [h, h1, h2]
  · have : ¬ (x.take l.length = l) := fun e => h (List.prefix_iff_eq_take.2 e.symm)
    simp [h, this]

set_option maxRecDepth 100000 in
set_option maxHeartbeats 2000000 in
theorem keyEnds_walk (A1 : Option Addr) (l1 : List UInt8) (c1 : Nat) (A2 : Option Addr) (l2 : List UInt8) (c2 : Nat) (w : World) (hr1 : Rd w w.heap.size A1 (u8s l1)) (hc1 : l1.length ≤ c1) (hm1 : c1 ≤ 140737488351232)
    (hr2 : Rd w w.heap.size A2 (u8s l2)) (hc2 : l2.length ≤ c2) (hm2 : c2 ≤ 140737488351232) :
    Calls Try.prog 6 #[.slice A1 l1.length c1, .slice A2 l2.length c2] w fun e w' => e = .returned (.bool true) ∧ Below w.heap.size w w' := by
  obtain ⟨i0, hi, hz0, hz1, hz2⟩ := info_parts infoU8
  by_cases hbig : 5000 < (l1.length : Int) + (l2.length : Int)
  · go_enter Try.func6, Try.ntmps6
    go_wp2_with fail
    refine (awake_any _).mono ?_
    rintro e w1 ⟨rfl, hb1⟩
    go_wp2_with fail
    refine (awake_any _).mono ?_
    rintro e w2 ⟨rfl, hb2⟩
    go_wp2
    go_ret
    exact ⟨rfl, hb1.trans (hb2.mono hb1.size)⟩
  · go_enter Try.func6, Try.ntmps6
    go_wp2_with fail
    refine (awake_any _).mono ?_
    rintro e w1 ⟨rfl, hb1⟩
    have hs1 := hb1.size
    have hr1' := hr1.below hb1 (Nat.le_refl _)
    have hr2' := hr2.below hb1 (Nat.le_refl _)
    go_wp2_with (at_builtin; refine wpList_appB _ rfl (.tmp 20) (.tmp 21) _ rfl w1.heap.size 5 i0 _ Try.underlying26 hi hz0 hz1 hz2 rfl (.slice (some ⟨w1.heap.size, 0, none⟩) 0 0) [] rfl (OwnB.lit0 w1 (Nat.le_refl _)) w.heap.size A1 l1.length c1 l1 rfl rfl (hr1'.alloc hs1 _) (by simp; omega) (by simp) ?_; intro v2 w2 hown2 hg2 hat2; rw [List.nil_append] at hown2)
    have hb2 : Below w1.heap.size w1 w2 := ((Below.refl _ _).alloc (Nat.le_refl _) _).grown hg2 (by simp) (by intro k hk; simp [Value.ownBlock] at hk; omega)
    clear hg2 hat2
    obtain ⟨Ai, ci, rfl, hci, hmi, hri, _⟩ := hown2.shape
    have hmi' : ci ≤ 9223372036854775807 := by unfold maxLen at hmi; exact hmi
    refine (end_any Ai l1 _ ci w2.heap.size w2 rfl hri (Nat.le_refl _) (by omega) hci hmi').mono ?_
    rintro e w3 ⟨v3, rfl, hown3, hb3⟩
    have href := fun (W : World) (hW : Rd W w.heap.size A1 (u8s l1)) (hs : w.heap.size ≤ W.heap.size) => refEnd_any A1 l1 _ c1 w.heap.size W rfl hW hs (by omega) hc1 (by omega)
    obtain ⟨E, hE⟩ : ∃ E, E = endN l1 l1.length := ⟨_, rfl⟩
    rw [← hE] at hown3 href
    have HR := Lib.hid href
    have HE := Lib.hid hE
    clear hE href
    obtain ⟨Ae, ce, rfl, hce, hme, hre, _⟩ := hown3.shape
    have hri3 := (hri.below hb3 (Nat.le_refl _)).more hb3.size
    have hB3 : Below w.heap.size w w3 := (hb1.trans (hb2.mono hs1)).trans (hb3.mono (by have := hb2.size; omega))
    have hr13 := hr1.below hB3 (Nat.le_refl _)
    have hr23 := hr2.below hB3 (Nat.le_refl _)
    have hs3 := hB3.size
    clear hown2 hown3 hb2 hb3 hb1 hr1' hr2' hri
    go_wp2_with fail
    go_region_held (fun w' => Below w3.heap.size w3 w' ∧ (convert 26 9 (.slice Ae E.length ce)).run Try.prog w' = .ok (.string ⟨E.toArray⟩) w' ∧
        (convert 26 9 (.slice Ai l1.length ci)).run Try.prog w' = .ok (.string ⟨l1.toArray⟩) w' ∧ (convert 26 9 (.slice A1 l1.length c1)).run Try.prog w' = .ok (.string ⟨l1.toArray⟩) w')
      (first
        | exact ⟨(Below.refl _ _).drew, strAt hre rfl, strAt hri3 rfl, strAt hr13 rfl⟩
        | exact ⟨hB4, strAt (hre.below hB4 (Nat.le_refl _)) rfl, strAt (hri3.below hB4 (Nat.le_refl _)) rfl, strAt (hr13.below hB4 hs3) rfl⟩
        | assumption)
      ((go_at_call 23; refine (HR.out w3.drew hr13 hs3).mono ?_; rintro e w4 ⟨v4, rfl, hown4, hb4'⟩; obtain ⟨A4, c4, rfl, hc4, hm4, hr4, _⟩ := hown4.shape; have hB4 : Below w3.heap.size w3 w4 := (Below.refl _ _).drew.trans hb4'; have hcv4 := strAt (c := c4) hr4 rfl))
    have hB5 : Below w.heap.size w w4 := hB3.trans (hB4.mono hs3)
    have hr15 := hr1.below hB5 (Nat.le_refl _)
    have hr25 := hr2.below hB5 (Nat.le_refl _)
    have hre5 := hre.below hB4 (Nat.le_refl _)
    clear hcv4 hB4 hown4 hr4 hr13 hr23 hre hri3 hB3
    have q1 := fun n => strAt (n := l1.length) (c := c1) (hr15.drewN n) rfl
    have L : (decide (l1.length ≤ l2.length) && (l2.take l1.length == l1)) = (!Op.bytesLess l2 l1 && (E.isEmpty || Op.bytesLess l2 E)) := by
      rw [← prefix_take, HE.out, endN_eq]; exact end_within l1 l2
    have HL := Lib.hid L
    clear L
    have q3 := fun n => strAt (n := l2.length) (c := c2) (hr25.drewN n) rfl
    have q4 := fun n => strAt (n := E.length) (c := ce) (hre5.drewN n) rfl
    by_cases hlen : (l1.length : Int) ≤ (l2.length : Int)
    · have q1 := fun n => strAt (n := l1.length) (c := c1) (hr15.drewN n) rfl
      have q2 : ∀ n, (convert 26 9 (.slice A2 l1.length c2)).run Try.prog (w4.drewN n) = .ok (.string ⟨(l2.take l1.length).toArray⟩) (w4.drewN n) := fun n =>
        strAt (n := l1.length) (c := c2) (B := w.heap.size) (l := l2.take l1.length) (by rw [u8s_take]; exact (hr25.drewN n).take _) (by rw [List.length_take]; omega)
      have hd : decide ((l1.length : Int) ≤ (l2.length : Int)) = true := by simpa using hlen
      have hlc : (l1.length : Int) ≤ (c2 : Int) := by omega
      go_wp2
      go_quiet (fail)
      go_wp2
      all_goals go_ret
      all_goals refine ⟨?_, below_draws hB5 _⟩
      all_goals refine congrArg Ending.returned (?_ : Value.bool _ = Value.bool true)
      all_goals refine congrArg Value.bool ?_
      all_goals have hn : l1.length ≤ l2.length := by omega
      all_goals have L := HL.out
      all_goals rw [decide_eq_true hn, Bool.true_and] at L
      · have h1 : Op.bytesLess l2 l1 = true := by assumption
        rw [L, h1]; rfl
      · have h1 : ¬ Op.bytesLess l2 l1 = true := by assumption
        have h2 : E = [] := by assumption
        rw [L, h2]; simpa using h1
      · have h1 : ¬ Op.bytesLess l2 l1 = true := by assumption
        have h2 : ¬ E = [] := by assumption
        have h3 : E.isEmpty = false := by simpa using h2
        have h4 : ((E.length : Int) == 0) = false := by simpa using h2
        have h5 : Op.bytesLess l2 l1 = false := by simpa using h1
        rw [L, h3, h4, h5]; simp
    · have hlen' : decide (l1.length ≤ l2.length) = false := by simp; omega
      clear hlen
      go_wp2
      go_quiet (fail)
      go_wp2
      all_goals go_ret
      all_goals refine ⟨?_, below_draws hB5 _⟩
      all_goals refine congrArg Ending.returned (?_ : Value.bool _ = Value.bool true)
      all_goals refine congrArg Value.bool ?_
      all_goals have L := HL.out
      all_goals rw [hlen', Bool.false_and] at L
      all_goals first
        | rfl
        | (have h1 : ¬ Op.bytesLess l2 l1 = true := by assumption
           have h2 : E = [] := by assumption
           exfalso
           rw [h2] at L
           simp at L
           exact h1 L)
        | (have h1 : ¬ Op.bytesLess l2 l1 = true := by assumption
           have h2 : ¬ E = [] := by assumption
           have h3 : E.isEmpty = false := by simpa using h2
           have h4 : ((E.length : Int) == 0) = false := by simpa using h2
           have h5 : Op.bytesLess l2 l1 = false := by simpa using h1
           rw [h3, h5] at L
           rw [h4]
           simp at L ⊢
           exact L)
end Go.Proofs.Ytgcipdgkenidjaa
