/- The reference's Encode. -/
import Derived.Test.YtinhmchekdolmaaDoorProg
import Derived.Test.YtinhmchekdolmaaDoorValC
import Derived.WalkKit
import Derived.WalkSpells
import Derived.WalkLawsBesides
import Derived.Deep.QuietTactic
import Derived.BigQuiet
import Derived.KernelRfl
import Derived.Lib.Hide
namespace Go.Proofs.YtinhmchekdolmaaDoor
open Go.RowKit

set_option maxRecDepth 100000 in
set_option maxHeartbeats 2000000 in
theorem refEncode_flag (m : Nat) (s : ByteArray) (w : World) (hm1 : m ≤ 1) :
    Calls Tryd.prog 16 #[.agg #[.int .i64 3, .int .i64 (m : Int), .string s]] w fun e w' => ∃ v', e = .returned v' ∧ OwnB w' w.heap.size 5 v' [3, UInt8.ofNat m] ∧ Below w.heap.size w w' := by
  have hmb : (UInt8.ofNat m).toNat = m := by rw [UInt8.toNat_ofNat']; omega
  have hown : OwnB ((w.alloc (.cells #[.int .i64 3, .int .i64 (m : Int), .string s] 23)).alloc (.cells #[.int .u8 3, .int .u8 (m : Int)] 5)) w.heap.size 5 (.slice (some ⟨w.heap.size + 1, 0, none⟩) 2 2) [3, UInt8.ofNat m] := by
    have := OwnB.litN (e := 5) (base := w.heap.size) (w.alloc (.cells #[.int .i64 3, .int .i64 (m : Int), .string s] 23)) [3, UInt8.ofNat m] (by simp) (by simp)
    simpa [u8s, hmb] using this
  clear hmb
  go_enter Tryd.func16, Tryd.ntmps16
  go_wp2
  go_ret
  exact ⟨_, rfl, hown, ((Below.refl _ _).alloc (Nat.le_refl _) _).alloc (by simp) _⟩

set_option maxRecDepth 100000 in
set_option maxHeartbeats 2000000 in
theorem refEncode_num (n : Int) (s : ByteArray) (w : World) (f1 : -9223372036854775808 ≤ n) (f2 : n ≤ 9223372036854775807) :
    Calls Tryd.prog 16 #[.agg #[.int .i64 1, .int .i64 n, .string s]] w fun e w' => ∃ v', e = .returned v' ∧ OwnB w' w.heap.size 5 v' (1 :: digs (foldN n)) ∧ Below w.heap.size w w' := by
  obtain ⟨i0, hi, hz0, hz1, hz2⟩ := info_parts infoU8
  have hfl := foldN_lt n f1 f2
  have hdl := digs_length 10 (foldN n) (by omega)
  obtain ⟨F, hF⟩ : ∃ F, F = foldN n := ⟨_, rfl⟩
  rw [← hF] at hfl hdl ⊢
  obtain ⟨D, hD⟩ : ∃ D, D = 1 :: digs F := ⟨_, rfl⟩
  have hDl : D.length ≤ 1100 := by rw [hD, List.length_cons]; omega
  rw [← hD]
  have HD := Lib.hid hD
  have HF := Lib.hid hF
  clear hD hdl hF
  go_enter Tryd.func16, Tryd.ntmps16
  have hown0 : OwnB ((w.alloc (.cells #[.int .i64 1, .int .i64 n, .string s] 23)).alloc (.cells #[.int .u8 1] 5)) w.heap.size 5 (.slice (some ⟨w.heap.size + 1, 0, none⟩) 1 1) [1] := by
    have := OwnB.litN (e := 5) (base := w.heap.size) (w.alloc (.cells #[.int .i64 1, .int .i64 n, .string s] 23)) [1] (by simp) (by simp)
    simpa [u8s] using this
  have hb0 : Below w.heap.size w ((w.alloc (.cells #[.int .i64 1, .int .i64 n, .string s] 23)).alloc (.cells #[.int .u8 1] 5)) := ((Below.refl _ _).alloc (Nat.le_refl _) _).alloc (by simp) _
  by_cases hn : n < 0
  · go_wp2
    go_loopw [3, 4] (fun z v wr => ∃ (m : List UInt8) (x : Nat), z = .int .u64 (x : Int) ∧ x ≤ 18446744073709551615 ∧ OwnB wr w.heap.size 5 v m ∧ Below w.heap.size w wr ∧ m ++ digs x = D) (fun z _ _ => (intOf z).toNat)
    case atStart => exact ⟨[1], F, by rw [HF.out]; unfold foldN; rw [if_pos hn]; congr 1; omega, hfl, hown0, hb0, HD.out.symm⟩
    case round =>
      clear hown0 hb0 HD hn
      obtain ⟨m, x, rfl, hx, hownm, hb, heq⟩ := hrel
      have hsz := hb.size
      have hml : m.length + 1 ≤ 140737488355328 := by
        have := congrArg List.length heq
        rw [List.length_append] at this
        omega
      have HEQ := Lib.hid heq
      clear heq
      by_cases h8 : x < 128
      · have h8' : ¬ (127 : Int) < (x : Int) := by omega
        have hb1 : (UInt8.ofNat x).toNat = x := by rw [UInt8.toNat_ofNat']; omega
        have hdg : digs x = [UInt8.ofNat x] := by rw [digs, dif_pos h8]
        have hrd : Rd (wr.alloc (.cells #[.int .u8 (x : Int)] 5)) (wr.heap.size + 1) (some ⟨wr.heap.size, 0, none⟩) (u8s [UInt8.ofNat x]) := by
          have e : u8s [UInt8.ofNat x] = [.int .u8 (x : Int)] := by simp only [u8s, List.map_cons, List.map_nil, hb1]
          rw [e]
          exact Rd.new wr _ _ _
        have HDG := Lib.hid hdg
        clear hdg hb1
        go_wp2_with (at_builtin; refine wpList_appB _ rfl (.tmp 49) (.tmp 52) _ rfl w.heap.size 5 i0 _ Tryd.underlying26 hi hz0 hz1 hz2 rfl u4 _ rfl (hownm.alloc _) (wr.heap.size + 1) (some ⟨wr.heap.size, 0, none⟩) 1 1 [UInt8.ofNat x] rfl rfl hrd hml (by simp; omega) ?_; intro v2 w2 hown2 hg2 hat2)
        go_ret
        exact ⟨_, rfl, by rw [← HEQ.out, HDG.out]; exact hown2, hb.trans (((Below.refl _ _).alloc (by omega) _).grown hg2 (by simp; omega) (fun k hk => (World.ownsRow.lt hownm k hk).1))⟩
      · have h8' : (127 : Int) < (x : Int) := by omega
        have hb1 : (UInt8.ofNat (x % 128 + 128)).toNat = x % 128 + 128 := by rw [UInt8.toNat_ofNat']; omega
        have hdg : digs x = UInt8.ofNat (x % 128 + 128) :: digs (x / 128) := by rw [digs, dif_neg h8]
        have hrd : Rd (wr.alloc (.cells #[.int .u8 ((x : Int) % 128 + 128)] 5)) (wr.heap.size + 1) (some ⟨wr.heap.size, 0, none⟩) (u8s [UInt8.ofNat (x % 128 + 128)]) := by
          have e : u8s [UInt8.ofNat (x % 128 + 128)] = [.int .u8 ((x : Int) % 128 + 128)] := by simp only [u8s, List.map_cons, List.map_nil, hb1]; simp
          rw [e]
          exact Rd.new wr _ _ _
        have HDG := Lib.hid hdg
        clear hdg hb1
        go_wp2_with (at_builtin; refine wpList_appB _ rfl (.tmp 40) (.tmp 45) _ rfl w.heap.size 5 i0 _ Tryd.underlying26 hi hz0 hz1 hz2 rfl u4 _ rfl (hownm.alloc _) (wr.heap.size + 1) (some ⟨wr.heap.size, 0, none⟩) 1 1 [UInt8.ofNat (x % 128 + 128)] rfl rfl hrd hml (by simp; omega) ?_; intro v2 w2 hown2 hg2 hat2)
        go_roundw
        case rel => exact ⟨m ++ [UInt8.ofNat (x % 128 + 128)], x / 128, by go_num, by omega, hown2, hb.trans (((Below.refl _ _).alloc (by omega) _).grown hg2 (by simp; omega) (fun k hk => (World.ownsRow.lt hownm k hk).1)), by rw [← HEQ.out, HDG.out]; simp⟩
        case measure => simp [intOf]; omega
  · go_wp2
    go_loopw [3, 4] (fun z v wr => ∃ (m : List UInt8) (x : Nat), z = .int .u64 (x : Int) ∧ x ≤ 18446744073709551615 ∧ OwnB wr w.heap.size 5 v m ∧ Below w.heap.size w wr ∧ m ++ digs x = D) (fun z _ _ => (intOf z).toNat)
    case atStart => exact ⟨[1], F, by rw [HF.out]; unfold foldN; rw [if_neg (by omega)]; congr 1; omega, hfl, hown0, hb0, HD.out.symm⟩
    case round =>
      clear hown0 hb0 HD hn
      obtain ⟨m, x, rfl, hx, hownm, hb, heq⟩ := hrel
      have hsz := hb.size
      have hml : m.length + 1 ≤ 140737488355328 := by
        have := congrArg List.length heq
        rw [List.length_append] at this
        omega
      have HEQ := Lib.hid heq
      clear heq
      by_cases h8 : x < 128
      · have h8' : ¬ (127 : Int) < (x : Int) := by omega
        have hb1 : (UInt8.ofNat x).toNat = x := by rw [UInt8.toNat_ofNat']; omega
        have hdg : digs x = [UInt8.ofNat x] := by rw [digs, dif_pos h8]
        have hrd : Rd (wr.alloc (.cells #[.int .u8 (x : Int)] 5)) (wr.heap.size + 1) (some ⟨wr.heap.size, 0, none⟩) (u8s [UInt8.ofNat x]) := by
          have e : u8s [UInt8.ofNat x] = [.int .u8 (x : Int)] := by simp only [u8s, List.map_cons, List.map_nil, hb1]
          rw [e]
          exact Rd.new wr _ _ _
        have HDG := Lib.hid hdg
        clear hdg hb1
        go_wp2_with (at_builtin; refine wpList_appB _ rfl (.tmp 49) (.tmp 52) _ rfl w.heap.size 5 i0 _ Tryd.underlying26 hi hz0 hz1 hz2 rfl u4 _ rfl (hownm.alloc _) (wr.heap.size + 1) (some ⟨wr.heap.size, 0, none⟩) 1 1 [UInt8.ofNat x] rfl rfl hrd hml (by simp; omega) ?_; intro v2 w2 hown2 hg2 hat2)
        go_ret
        exact ⟨_, rfl, by rw [← HEQ.out, HDG.out]; exact hown2, hb.trans (((Below.refl _ _).alloc (by omega) _).grown hg2 (by simp; omega) (fun k hk => (World.ownsRow.lt hownm k hk).1))⟩
      · have h8' : (127 : Int) < (x : Int) := by omega
        have hb1 : (UInt8.ofNat (x % 128 + 128)).toNat = x % 128 + 128 := by rw [UInt8.toNat_ofNat']; omega
        have hdg : digs x = UInt8.ofNat (x % 128 + 128) :: digs (x / 128) := by rw [digs, dif_neg h8]
        have hrd : Rd (wr.alloc (.cells #[.int .u8 ((x : Int) % 128 + 128)] 5)) (wr.heap.size + 1) (some ⟨wr.heap.size, 0, none⟩) (u8s [UInt8.ofNat (x % 128 + 128)]) := by
          have e : u8s [UInt8.ofNat (x % 128 + 128)] = [.int .u8 ((x : Int) % 128 + 128)] := by simp only [u8s, List.map_cons, List.map_nil, hb1]; simp
          rw [e]
          exact Rd.new wr _ _ _
        have HDG := Lib.hid hdg
        clear hdg hb1
        go_wp2_with (at_builtin; refine wpList_appB _ rfl (.tmp 40) (.tmp 45) _ rfl w.heap.size 5 i0 _ Tryd.underlying26 hi hz0 hz1 hz2 rfl u4 _ rfl (hownm.alloc _) (wr.heap.size + 1) (some ⟨wr.heap.size, 0, none⟩) 1 1 [UInt8.ofNat (x % 128 + 128)] rfl rfl hrd hml (by simp; omega) ?_; intro v2 w2 hown2 hg2 hat2)
        go_roundw
        case rel => exact ⟨m ++ [UInt8.ofNat (x % 128 + 128)], x / 128, by go_num, by omega, hown2, hb.trans (((Below.refl _ _).alloc (by omega) _).grown hg2 (by simp; omega) (fun k hk => (World.ownsRow.lt hownm k hk).1)), by rw [← HEQ.out, HDG.out]; simp⟩
        case measure => simp [intOf]; omega

set_option maxRecDepth 100000 in
set_option maxHeartbeats 2000000 in
theorem refEncode_text (n : Int) (s : ByteArray) (w : World) (hsl : s.size ≤ 64) :
    Calls Tryd.prog 16 #[.agg #[.int .i64 2, .int .i64 n, .string s]] w fun e w' => ∃ v', e = .returned v' ∧ OwnB w' w.heap.size 5 v' (2 :: UInt8.ofNat s.size :: s.data.toList) ∧ Below w.heap.size w w' := by
  obtain ⟨i0, hi, hz0, hz1, hz2⟩ := info_parts infoU8
  have hmb : (UInt8.ofNat s.size).toNat = s.size := by rw [UInt8.toNat_ofNat']; omega
  have hown : OwnB ((w.alloc (.cells #[.int .i64 2, .int .i64 n, .string s] 23)).alloc (.cells #[.int .u8 2, .int .u8 (s.size : Int)] 5)) w.heap.size 5 (.slice (some ⟨w.heap.size + 1, 0, none⟩) 2 2) [2, UInt8.ofNat s.size] := by
    have := OwnB.litN (e := 5) (base := w.heap.size) (w.alloc (.cells #[.int .i64 2, .int .i64 n, .string s] 23)) [2, UInt8.ofNat s.size] (by simp) (by simp)
    simpa [u8s, hmb] using this
  have hb0 : Below w.heap.size w ((w.alloc (.cells #[.int .i64 2, .int .i64 n, .string s] 23)).alloc (.cells #[.int .u8 2, .int .u8 (s.size : Int)] 5)) := ((Below.refl _ _).alloc (Nat.le_refl _) _).alloc (by simp) _
  have hs255 : (s.size : Int) ≤ 64 := by omega
  clear hmb
  go_enter Tryd.func16, Tryd.ntmps16
  go_wp2_with (at_builtin; refine Lib.wpList_append_own_string _ rfl (.tmp 19) (.tmp 21) _ _ rfl w.heap.size 5 i0 Tryd.underlying26 Tryd.underlying9 hi hz0 hz1 hz2 (.slice (some ⟨w.heap.size + 1, 0, none⟩) 2 2) 2 (u8s [2, UInt8.ofNat s.size]) rfl hown s rfl (by simp [maxLen]; omega) (by omega) (by simp; omega) ?_; intro v3 w3 hown3 hg3 hat3)
  go_ret
  refine ⟨_, rfl, ?_, hb0.grown hg3 (by simp; omega) (fun k hk => (World.ownsRow.lt hown k hk).1)⟩
  have e : (2 :: UInt8.ofNat s.size :: s.data.toList) = [2, UInt8.ofNat s.size] ++ s.data.toList := rfl
  unfold OwnB
  rw [e, u8s_append, ← strCells_eq, List.length_append]
  simpa using hown3

/-- A good value's bytes, as the document says them. -/
theorem refEncode_any (v : VVal) (w : World) (hf : v.fits) (hg : ckN v = 0) :
    Calls Tryd.prog 16 #[.agg v.cells] w fun e w' => ∃ v', e = .returned v' ∧ OwnB w' w.heap.size 5 v' (encV v) ∧ Below w.heap.size w w' := by
  have hz := ckN_zero hg
  obtain ⟨k, n, s⟩ := v
  obtain ⟨f0, f1, f2⟩ := hf
  simp only at f0 f1 f2 hz
  rcases hz with rfl | ⟨rfl, hn⟩ | ⟨rfl, hsl, -⟩
  · exact refEncode_num n s w f1 f2
  · obtain ⟨m, hm, hm1⟩ : ∃ m : Nat, n = (m : Int) ∧ m ≤ 1 := ⟨n.toNat, by omega, by omega⟩
    subst hm
    have e : encV ⟨3, (m : Int), s⟩ = [3, UInt8.ofNat m] := by unfold encV; simp
    rw [e]
    exact refEncode_flag m s w hm1
  · exact refEncode_text n s w hsl
end Go.Proofs.YtinhmchekdolmaaDoor
