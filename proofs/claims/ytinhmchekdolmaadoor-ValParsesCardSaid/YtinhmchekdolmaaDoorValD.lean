/- val.showText, val.Show. -/
import Derived.Test.YtinhmchekdolmaaDoorProg
import Derived.Test.YtinhmchekdolmaaDoorValC
import Derived.WalkKit
import Derived.WalkSpells
import Derived.WalkLawsBesides
import Derived.Lib.OthersKept
import Derived.Lib.RuneCount
import Derived.Deep.QuietTactic
import Derived.BigQuiet
import Derived.KernelRfl
import Derived.Lib.Hide
namespace Go.Proofs.YtinhmchekdolmaaDoor
open Go.RowKit

theorem own_iterAt {w : World} {base k pos : Nat} {e : TypeId} {size n : Nat} {v : Value} {xs : List Value} {s : ByteArray} (h : w.ownsRow base e size v n xs) (hk : w.heap[k]? = some (.stringIter s pos)) (pos' : Nat) : (w.iterAt k s pos').ownsRow base e size v n xs := by
  refine ⟨h.1, ?_⟩
  rcases h.2 with h2 | ⟨g, cap, cur, hv, hg, hh, r⟩
  · exact .inl h2
  · refine .inr ⟨g, cap, cur, hv, hg, ?_, r⟩
    rw [Lib.iterAt_other w k g s pos' (by rintro rfl; rw [hk] at hh; injection hh with hh; cases hh)]
    exact hh
theorem own_notIter {w : World} {base k pos : Nat} {e : TypeId} {size n : Nat} {v : Value} {xs : List Value} {s : ByteArray} (h : w.ownsRow base e size v n xs) (hk : w.heap[k]? = some (.stringIter s pos)) : some k ≠ v.ownBlock := by
  rcases h.2 with ⟨hv, _⟩ | ⟨g, cap, cur, hv, hg, hh, r⟩
  · rw [hv]; intro e; cases e
  · rw [hv]
    intro e
    injection e with e
    have : k = g := e
    subst this
    rw [hk] at hh
    injection hh with hh
    cases hh
/-- The iterator stays behind an append to a row of the call's own. -/
theorem iter_app {w w' : World} {base k pos : Nat} {e : TypeId} {size n : Nat} {v : Value} {xs : List Value} {s : ByteArray} {o : Obj} (h : w.ownsRow base e size v n xs) (hk : w.heap[k]? = some (.stringIter s pos)) (hg : (w.alloc o).grownBy w' v.ownBlock) : w'.heap[k]? = some (.stringIter s pos) := by
  have hlt : k < w.heap.size := (Array.getElem?_eq_some_iff.1 hk).1
  rw [hg.block k (by simp; omega) (own_notIter h hk)]
  exact ((World.grownBy_alloc w o none).block k hlt (by simp)).trans hk
theorem iter_grown {w w' : World} {base k pos : Nat} {e : TypeId} {size n : Nat} {v : Value} {xs : List Value} {s : ByteArray} (h : w.ownsRow base e size v n xs) (hk : w.heap[k]? = some (.stringIter s pos)) (hg : w.grownBy w' v.ownBlock) : w'.heap[k]? = some (.stringIter s pos) := by
  rw [hg.block k (Array.getElem?_eq_some_iff.1 hk).1 (own_notIter h hk)]
  exact hk

theorem strAt0 {w : World} {A : Option Addr} {n c B : Nat} {l : List UInt8} (hr : Rd w B A (u8s l)) (hn : n = l.length) :
    (convert 26 9 (.slice A n c)).run Tryd.prog w = .ok (.string ⟨l.toArray⟩) w :=
  run_strB (P := Tryd.prog) w 26 9 5 A n c B l Tryd.underlying26 Tryd.underlying5 Tryd.underlying9 hn hr

set_option maxRecDepth 100000 in
theorem isControl_yes (r : Nat) (w : World) (h : r < 32 ∨ r = 127) : Calls Tryd.prog 48 #[.int .i32 (r : Int)] w fun e w' => e = .returned (.bool true) ∧ w = w' := by
  by_cases h1 : r < 32
  · have h1' : (r : Int) < 32 := by omega
    clear h h1
    go_enter Tryd.func48, Tryd.ntmps48
    go_wp2
    go_ret
    exact ⟨rfl, rfl⟩
  · obtain rfl : r = 127 := by omega
    clear h h1
    go_enter Tryd.func48, Tryd.ntmps48
    go_wp2
    go_ret
    exact ⟨rfl, rfl⟩
set_option maxRecDepth 100000 in
theorem isControl_no (r : Nat) (w : World) (h : ¬ (r < 32 ∨ r = 127)) : Calls Tryd.prog 48 #[.int .i32 (r : Int)] w fun e w' => e = .returned (.bool false) ∧ w = w' := by
  have h1' : ¬ (r : Int) < 32 := by omega
  have h2' : ((r : Int) == 127) = false := by rw [beq_eq_false_iff_ne]; omega
  clear h
  go_enter Tryd.func48, Tryd.ntmps48
  go_wp2
  go_ret
  exact ⟨rfl, rfl⟩

/-- What a rune is shown as. -/
def shR (r : Nat) : List UInt8 :=
  if r = 34 ∨ r = 92 then [92, UInt8.ofNat r] else if r = 10 then [92, 110] else if r = 9 then [92, 116]
  else if r < 32 ∨ r = 127 then [92, 117, 123] ++ hexB r ++ [125] else Lib.encodeRune r
def showFrom (s : ByteArray) : Nat → Nat → List UInt8
  | 0, _ => []
  | fuel + 1, pos => if pos < s.size then shR (Utf8.decode s pos).1 ++ showFrom s fuel (pos + (Utf8.decode s pos).2) else []
def showT (s : ByteArray) : List UInt8 := [34] ++ showFrom s s.size 0 ++ [34]
theorem showFrom_end (s : ByteArray) (fuel pos : Nat) (h : ¬ pos < s.size) : showFrom s fuel pos = [] := by
  cases fuel with
  | zero => rfl
  | succ f => simp [showFrom, h]
theorem hexB_le (r : Nat) : (hexB r).length ≤ 2 := by unfold hexB; split <;> simp
theorem shR_le (r : Nat) : (shR r).length ≤ 6 := by
  unfold shR
  split
  · simp
  · split
    · simp
    · split
      · simp
      · split
        · have := hexB_le r
          simp
          omega
        · have := Lib.runeCells_le (r : Int)
          rw [Lib.runeCells_length] at this
          omega

theorem showFrom_len (s : ByteArray) : ∀ (f pos : Nat), (showFrom s f pos).length ≤ 6 * f
  | 0, _ => by simp [showFrom]
  | f + 1, pos => by
    rw [showFrom]
    split
    · rw [List.length_append]
      have := shR_le (Utf8.decode s pos).1
      have := showFrom_len s f (pos + (Utf8.decode s pos).2)
      omega
    · simp

set_option maxRecDepth 100000 in
set_option maxHeartbeats 4000000 in
theorem showText_any (s : ByteArray) (w : World) (hs : s.size ≤ 1000) (hT : Tabs w) :
    Calls Tryd.prog 35 #[.string s] w fun e w' => e = .returned (.string ⟨(showT s).toArray⟩) ∧ Below w.heap.size w w' := by
  obtain ⟨i0, hi, hz0, hz1, hz2⟩ := info_parts infoU8
  obtain ⟨R, hR⟩ : ∃ R, R = [34] ++ showFrom s s.size 0 := ⟨_, rfl⟩
  have hsh : showT s = R ++ [34] := by rw [hR]; rfl
  have hRl : R.length ≤ 6001 := by rw [hR, List.length_append]; have := showFrom_len s s.size 0; simp; omega
  have HSH := Lib.hid hsh
  have HR := Lib.hid hR
  clear hsh hR
  have hlow : ∀ W, Below w.heap.size w W → W.cell? ⟨7, 15, none⟩ = some (.int .u8 4) := fun W h => (hT.below h).low
  have HLOW := Lib.hid hlow
  clear hlow hT
  go_enter Tryd.func35, Tryd.ntmps35
  go_wp2
  have hown0 : OwnB (w.alloc (.cells #[.int .u8 34] 5)) w.heap.size 5 (.slice (some ⟨w.heap.size, 0, none⟩) 1 1) [34] := OwnB.litN w [34] (Nat.le_refl _) (by simp)
  have hit0 := World.iter_heap (w.alloc (.cells #[.int .u8 34] 5)) s 0
  go_loopw [3] (fun ov wr => ∃ (pos fuel : Nat) (acc : List UInt8), OwnB wr w.heap.size 5 ov acc ∧ wr.heap[w.heap.size + 1]? = some (.stringIter s pos) ∧ Below w.heap.size w wr ∧ acc ++ showFrom s fuel pos = R ∧ s.size ≤ pos + fuel) (fun _ wr => s.size - wr.iterPos (w.heap.size + 1))
  case atStart =>
    exact ⟨0, s.size, [34], hown0.alloc _, by simpa using hit0, ((Below.refl _ w).alloc (Nat.le_refl _) _).alloc (by simp) _, HR.out.symm, by omega⟩
  case round =>
    clear hown0 hit0
    obtain ⟨pos, fuel, acc, hown, hit, hbw, hacc, hfu⟩ := hrel
    have hsz : w.heap.size + 1 < wr.heap.size := (Array.getElem?_eq_some_iff.1 hit).1
    have hal : acc.length ≤ 6001 := by
      have := congrArg List.length hacc
      rw [List.length_append] at this
      omega
    by_cases hp : pos < s.size
    · have hnx : ∀ ty, (Instr.next (.pointer (some ⟨w.heap.size + 1, 0, none⟩)) true ty).run Tryd.prog wr = _ := fun ty => Lib.run_next_any_at wr (w.heap.size + 1) s pos ty hit hp
      have hwd := Lib.decode_width_pos s pos hp
      have hd1 := decode_le s pos
      obtain ⟨f, rfl⟩ : ∃ f, fuel = f + 1 := ⟨fuel - 1, by omega⟩
      have hstep : showFrom s (f + 1) pos = shR (Utf8.decode s pos).1 ++ showFrom s f (pos + (Utf8.decode s pos).2) := by rw [showFrom, if_pos hp]
      have hown2 : OwnB (wr.iterAt (w.heap.size + 1) s (pos + (Utf8.decode s pos).2)) w.heap.size 5 u3 acc := own_iterAt hown hit _
      have hit2 := Lib.iterAt_heap wr (w.heap.size + 1) s pos (pos + (Utf8.decode s pos).2) hit
      have hbw2 := Lib.below_iterAt hbw (k := w.heap.size + 1) (by omega) s (pos + (Utf8.decode s pos).2)
      have hsz2 : w.heap.size + 1 < (wr.iterAt (w.heap.size + 1) s (pos + (Utf8.decode s pos).2)).heap.size := by rw [Lib.iterAt_size]; omega
      rw [hstep] at hacc
      have hmea : ∀ W : World, W.heap[w.heap.size + 1]? = some (.stringIter s (pos + (Utf8.decode s pos).2)) → s.size - W.iterPos (w.heap.size + 1) < s.size - wr.iterPos (w.heap.size + 1) := by
        intro W h
        simp only [World.iterPos, h, hit]
        omega
      have HMEA := Lib.hid hmea
      obtain ⟨r, hr⟩ : ∃ r, r = (Utf8.decode s pos).1 := ⟨_, rfl⟩
      obtain ⟨d, hd⟩ : ∃ d, d = (Utf8.decode s pos).2 := ⟨_, rfl⟩
      rw [← hr] at hd1 hacc hnx
      rw [← hd] at hwd hacc hnx hown2 hit2 hbw2 hsz2 HMEA
      have hacc2 : ∀ l, shR r = l → (acc ++ l) ++ showFrom s f (pos + d) = R := by
        intro l hl
        rw [← hl, List.append_assoc]
        exact hacc
      have HACC := Lib.hid hacc2
      have HIT2 := Lib.hid hit2
      obtain ⟨W2, hW2⟩ : ∃ x, x = wr.iterAt (w.heap.size + 1) s (pos + d) := ⟨_, rfl⟩
      rw [← hW2] at hnx hown2 HIT2 hbw2 hsz2
      clear hr hd hacc hacc2 hstep hmea hit2 hit hown hbw hsz hp hW2
      by_cases h34 : r = 34 ∨ r = 92
      · have hsr : shR r = [92, UInt8.ofNat r] := if_pos h34
        have hA := HACC.out _ hsr
        have HA := Lib.hid hA
        have hrr : (UInt8.ofNat r).toNat = r := by rw [UInt8.toNat_ofNat']; omega
        have hrd : Rd (W2.alloc (.cells #[.int .u8 92, .int .u8 (r : Int)] 5)) (W2.heap.size + 1) (some ⟨W2.heap.size, 0, none⟩) (u8s [92, UInt8.ofNat r]) := by
          have e : u8s [92, UInt8.ofNat r] = [.int .u8 92, .int .u8 (r : Int)] := by simp only [u8s, List.map_cons, List.map_nil, hrr]; rfl
          rw [e]
          exact Rd.new W2 _ _ _
        clear hA hsr hrr
        rcases h34 with rfl | rfl
        all_goals
          go_wp2_with (at_builtin; refine wpList_appB _ rfl (.tmp 22) (.tmp 25) _ rfl w.heap.size 5 i0 _ Tryd.underlying26 hi hz0 hz1 hz2 rfl u3 acc rfl (hown2.alloc _) (W2.heap.size + 1) (some ⟨W2.heap.size, 0, none⟩) 2 2 _ rfl rfl hrd (by simp; omega) (by simp; omega) ?_; intro v3 w3 hown3 hg3 hat3)
          go_roundw
          case rel => exact ⟨pos + d, f, _, hown3, iter_app hown2 HIT2.out hg3, hbw2.trans (((Below.refl _ _).alloc (by omega) _).grown hg3 (by simp; omega) (fun k hk => (World.ownsRow.lt hown2 k hk).1)), HA.out, by omega⟩
          case measure => exact HMEA.out _ (iter_app hown2 HIT2.out hg3)
      · have n34 : ((r : Int) == 34) = false := by rw [beq_eq_false_iff_ne]; omega
        have n92 : ((r : Int) == 92) = false := by rw [beq_eq_false_iff_ne]; omega
        by_cases h10 : r = 10
        · have hsr : shR r = [92, 110] := by rw [shR, if_neg h34, if_pos h10]
          have hA := HACC.out _ hsr
          have HA := Lib.hid hA
          have hrd : Rd (W2.alloc (.cells #[.int .u8 92, .int .u8 110] 5)) (W2.heap.size + 1) (some ⟨W2.heap.size, 0, none⟩) (u8s [92, 110]) := Rd.new W2 _ _ _
          clear hA hsr h34 n34 n92
          subst h10
          go_wp2_with (at_builtin; refine wpList_appB _ rfl (.tmp 30) (.tmp 31) _ rfl w.heap.size 5 i0 _ Tryd.underlying26 hi hz0 hz1 hz2 rfl u3 acc rfl (hown2.alloc _) (W2.heap.size + 1) (some ⟨W2.heap.size, 0, none⟩) 2 2 [92, 110] rfl rfl hrd (by simp; omega) (by simp; omega) ?_; intro v3 w3 hown3 hg3 hat3)
          go_roundw
          case rel => exact ⟨pos + d, f, _, hown3, iter_app hown2 HIT2.out hg3, hbw2.trans (((Below.refl _ _).alloc (by omega) _).grown hg3 (by simp; omega) (fun k hk => (World.ownsRow.lt hown2 k hk).1)), HA.out, by omega⟩
          case measure => exact HMEA.out _ (iter_app hown2 HIT2.out hg3)
        · have n10 : ((r : Int) == 10) = false := by rw [beq_eq_false_iff_ne]; omega
          by_cases h9 : r = 9
          · have hsr : shR r = [92, 116] := by rw [shR, if_neg h34, if_neg h10, if_pos h9]
            have hA := HACC.out _ hsr
            have HA := Lib.hid hA
            have hrd : Rd (W2.alloc (.cells #[.int .u8 92, .int .u8 116] 5)) (W2.heap.size + 1) (some ⟨W2.heap.size, 0, none⟩) (u8s [92, 116]) := Rd.new W2 _ _ _
            clear hA hsr h34 h10 n34 n92 n10
            subst h9
            go_wp2_with (at_builtin; refine wpList_appB _ rfl (.tmp 36) (.tmp 37) _ rfl w.heap.size 5 i0 _ Tryd.underlying26 hi hz0 hz1 hz2 rfl u3 acc rfl (hown2.alloc _) (W2.heap.size + 1) (some ⟨W2.heap.size, 0, none⟩) 2 2 [92, 116] rfl rfl hrd (by simp; omega) (by simp; omega) ?_; intro v3 w3 hown3 hg3 hat3)
            go_roundw
            case rel => exact ⟨pos + d, f, _, hown3, iter_app hown2 HIT2.out hg3, hbw2.trans (((Below.refl _ _).alloc (by omega) _).grown hg3 (by simp; omega) (fun k hk => (World.ownsRow.lt hown2 k hk).1)), HA.out, by omega⟩
            case measure => exact HMEA.out _ (iter_app hown2 HIT2.out hg3)
          · have n9 : ((r : Int) == 9) = false := by rw [beq_eq_false_iff_ne]; omega
            by_cases hc : r < 32 ∨ r = 127
            · have hsr : shR r = [92, 117, 123] ++ hexB r ++ [125] := by rw [shR, if_neg h34, if_neg h10, if_neg h9, if_pos hc]
              have hA := HACC.out _ hsr
              have HA := Lib.hid hA
              have hr128 : r < 128 := by omega
              have hrd : Rd (W2.alloc (.cells #[.int .u8 92, .int .u8 117, .int .u8 123] 5)) (W2.heap.size + 1) (some ⟨W2.heap.size, 0, none⟩) (u8s [92, 117, 123]) := Rd.new W2 _ _ _
              have hct : ∀ W, Calls Tryd.prog 48 #[.int .i32 (r : Int)] W fun e w' => e = .returned (.bool true) ∧ W = w' := fun W => isControl_yes r W hc
              have HCT := Lib.hid hct
              have hhx := hexB_le r
              have hap := fun (v : Value) (l : List UInt8) (W : World) (h1 : OwnB W w.heap.size 5 v l) (h2 : w.heap.size ≤ W.heap.size) (h3 : l.length ≤ 100000) (h4 : Below w.heap.size w W) => appendInt16_any w.heap.size v l r hr128 W h1 h2 h3 (HLOW.out W h4)
              obtain ⟨X, hX⟩ : ∃ X, X = hexB r := ⟨_, rfl⟩
              rw [← hX] at HA hhx hap
              have HAP := Lib.hid hap
              clear hA hsr h34 h10 h9 hc hct hX hap
              go_wp2_with (first
                | (at_builtin; refine wpList_appB _ rfl (.tmp 42) (.tmp 43) _ rfl w.heap.size 5 i0 _ Tryd.underlying26 hi hz0 hz1 hz2 rfl u3 acc rfl (hown2.alloc _) (W2.heap.size + 1) (some ⟨W2.heap.size, 0, none⟩) 3 3 [92, 117, 123] rfl rfl hrd (by simp; omega) (by simp; omega) ?_; intro v3 w3 hown3 hg3 hat3; have hb3 : Below w.heap.size W2 w3 := (((Below.refl _ _).alloc (by omega) _).grown hg3 (by simp; omega) (fun k hk => (World.ownsRow.lt hown2 k hk).1)); have HIT3 := Lib.hid (iter_app hown2 HIT2.out hg3); clear hg3 hat3; have hs3 := hb3.size)
                | (go_at_call 48; (with_reducible refine (HCT.out _).mono ?_); rintro e w' ⟨rfl, rfl⟩)
                | (go_at_call 49; (with_reducible refine (HAP.out v3 _ _ hown3 (by omega) (by rw [List.length_append]; simp; omega) (hbw2.trans hb3)).mono ?_); rintro e w4 ⟨v4, rfl, hown4, hg4⟩; have hb4 : Below w.heap.size w3 w4 := (Below.refl _ _).grown hg4 (by omega) (fun k hk => (World.ownsRow.lt hown3 k hk).1); have HIT4 := Lib.hid (iter_grown hown3 HIT3.out hg4); clear hg4; have hs4 := hb4.size)
                | (at_builtin; refine wpList_appB _ rfl (.tmp 49) (.tmp 50) _ rfl w.heap.size 5 i0 _ Tryd.underlying26 hi hz0 hz1 hz2 rfl v4 _ rfl (hown4.alloc _) (w4.heap.size + 1) (some ⟨w4.heap.size, 0, none⟩) 1 1 [125] rfl rfl (Rd.new w4 _ _ _) (by simp; omega) (by simp; omega) ?_; intro v5 w5 hown5 hg5 hat5))
              go_roundw
              case rel =>
                refine ⟨pos + d, f, _, hown5, iter_app hown4 HIT4.out hg5, ((hbw2.trans hb3).trans hb4).trans (((Below.refl _ _).alloc (by omega) _).grown hg5 (by simp; omega) (fun k hk => (World.ownsRow.lt hown4 k hk).1)), ?_, by omega⟩
                rw [← HA.out]
                simp only [List.append_assoc]
              case measure => exact HMEA.out _ (iter_app hown4 HIT4.out hg5)
            · have hsr : shR r = Lib.encodeRune r := by rw [shR, if_neg h34, if_neg h10, if_neg h9, if_neg hc]
              have hA := HACC.out _ hsr
              have HA := Lib.hid hA
              have hct : ∀ W, Calls Tryd.prog 48 #[.int .i32 (r : Int)] W fun e w' => e = .returned (.bool false) ∧ W = w' := fun W => isControl_no r W hc
              have HCT := Lib.hid hct
              have hap := Tryd.utf8_AppendRune_plain w.heap.size u3 acc.length (u8s acc) (r : Int) (by omega) (by omega) W2 hown2 (by omega) (by omega)
              have HAP := Lib.hid hap
              clear hA hsr h34 h10 h9 hc hct hap
              go_wp2_with (first
                | (go_at_call 48; (with_reducible refine (HCT.out _).mono ?_); rintro e w' ⟨rfl, rfl⟩)
                | (go_at_call 50; (with_reducible refine HAP.out.mono ?_); rintro e w3 ⟨v3, rfl, hown3, o3, hg3⟩))
              go_roundw
              case rel =>
                refine ⟨pos + d, f, _, ?_, iter_app hown2 HIT2.out hg3, hbw2.trans (((Below.refl _ _).alloc (by omega) _).grown hg3 (by simp; omega) (fun k hk => (World.ownsRow.lt hown2 k hk).1)), HA.out, by omega⟩
                have e : Lib.runeCells (r : Int) = u8s (Lib.encodeRune r) := (Lib.byteCells_encodeRune (r : Int)).symm
                unfold OwnB
                rw [List.length_append, u8s_append, ← e, ← u8s_length (Lib.encodeRune r), ← e]
                exact hown3
              case measure => exact HMEA.out _ (iter_app hown2 HIT2.out hg3)
    · have hnx : ∀ ty, (Instr.next (.pointer (some ⟨w.heap.size + 1, 0, none⟩)) true ty).run Tryd.prog wr = _ := fun ty => Lib.run_next_end_at wr (w.heap.size + 1) s pos ty hit hp
      have haR : acc = R := by rw [← hacc, showFrom_end s fuel pos hp, List.append_nil]
      have HAR := Lib.hid haR
      clear haR hacc hit
      have hsz1 : w.heap.size ≤ wr.heap.size := by omega
      go_wp2_with (first
        | (at_builtin; refine wpList_appB _ rfl (.tmp 52) (.tmp 53) _ rfl w.heap.size 5 i0 _ Tryd.underlying26 hi hz0 hz1 hz2 rfl u3 acc rfl (hown.alloc _) (wr.heap.size + 1) (some ⟨wr.heap.size, 0, none⟩) 1 1 [34] rfl rfl (Rd.new wr _ _ _) (by simp; omega) (by simp; omega) ?_; intro v3 w3 hown3 hg3 hat3; obtain ⟨A3, c3, rfl, -, -, hr3, -⟩ := hown3.shape; have q3 := strAt0 (n := acc.length + 1) (c := c3) hr3 (by simp)))
      go_ret
      refine ⟨?_, hbw.trans (((Below.refl _ _).alloc (by omega) _).grown hg3 (by simp; omega) (fun k hk => (World.ownsRow.lt hown k hk).1))⟩
      rw [HSH.out, ← HAR.out]
      rfl
end Go.Proofs.YtinhmchekdolmaaDoor
