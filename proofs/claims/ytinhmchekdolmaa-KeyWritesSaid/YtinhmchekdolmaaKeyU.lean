/- The document's own Encode (rhizomeref01.Encode). -/
import Derived.Test.YtinhmchekdolmaaProg
import Derived.Test.YtinhmchekdolmaaKeyT
import Derived.WalkKit
import Derived.WalkSpells
import Derived.WalkLawsBesides
import Derived.Deep.QuietTactic
import Derived.BigQuiet
import Derived.KernelRfl
import Derived.Lib.Hide
namespace Go.Proofs.Ytinhmchekdolmaa
open Go.RowKit

theorem keySz_le (ks : List KPart) (k : Nat) : keySz (ks.take k) ≤ keySz ks := by
  have : keySz ks = keySz (ks.take k) + keySz (ks.drop k) := by rw [← keySz_append, List.take_append_drop]
  omega
theorem enc_long (ks : List KPart) (k : Nat) (h : 200 < keySz (ks.take k)) : encE ks = 3 ∧ encB ks = [] := by
  have h1 := keySz_le ks k
  have h2 : ¬ keySz ks ≤ 200 := by omega
  exact ⟨if_neg h2, if_neg h2⟩
theorem partSz_text (p : KPart) (h : p.text = true) : p.s.size + 3 ≤ partSz p := by
  unfold partSz
  rw [if_pos h]
  omega
theorem partSz_small (p : KPart) (h : p.text = true → p.s.size ≤ 200) : partSz p ≤ 1000 := by
  unfold partSz
  split
  · rename_i ht
    have h1 := h ht
    have h2 : Lib.countByte p.s.data.toList 0 ≤ p.s.size := by
      have := List.count_le_length (a := (0 : UInt8)) (l := p.s.data.toList)
      have h0 : p.s.data.toList.length = p.s.size := by simp
      unfold Lib.countByte
      omega
    omega
  · omega

set_option maxRecDepth 100000 in
set_option maxHeartbeats 2000000 in
theorem refEncode_any (A : Option Addr) (ks : List KPart) (n c B : Nat) (w : World) (hn : n = ks.length) (hr : Rd w B A (pcs ks)) (hB : B ≤ w.heap.size) (hl : ks.length ≤ 4611686018427387904)
    (hf : ∀ p ∈ ks, p.fits) :
    Calls Try.prog 14 #[.slice A n c] w fun e w' => ∃ v', e = .returned (.tuple #[v', .int .i64 (encE ks)]) ∧ OwnB w' w.heap.size 5 v' (encB ks) ∧ Below w.heap.size w w' := by
  subst hn
  obtain ⟨i0, hi, hz0, hz1, hz2⟩ := info_parts infoU8
  have HF := Lib.hid hf
  clear hf
  obtain ⟨ee, hee⟩ : ∃ x, x = encE ks := ⟨_, rfl⟩
  obtain ⟨X, hX⟩ : ∃ x, x = encB ks := ⟨_, rfl⟩
  rw [← hee, ← hX]
  have HEE := Lib.hid hee
  have HX := Lib.hid hX
  clear hee hX
  go_enter Try.func14, Try.ntmps14
  go_wp2
  go_loopw [4, 8] (fun v i wr => ∃ k : Nat, k ≤ ks.length ∧ i = .int .i64 (k : Int) ∧ OwnB wr w.heap.size 5 v (keyB (ks.take k)) ∧ keySz (ks.take k) ≤ 200 ∧ Below w.heap.size w wr) (fun _ i _ => ks.length - (intOf i).toNat)
  case atStart => exact ⟨0, by omega, rfl, OwnB.nil _ _ _, by simp [keySz], Below.refl _ _⟩
  case round =>
    obtain ⟨k, hk, rfl, hown, hle, hbk⟩ := hrel
    have hsz := hbk.size
    rcases Nat.lt_or_ge k ks.length with h8 | h8
    · obtain ⟨q, hq⟩ : ∃ q, q = ks[k] := ⟨_, rfl⟩
      have hqf : q.fits := HF.out q (by rw [hq]; exact List.getElem_mem _)
      have hsn : ks.take (k + 1) = ks.take k ++ [q] := by rw [hq]; exact kTake _ _ _
      have hrw := hr.below hbk hB
      obtain ⟨pb, po, rfl, hpB, c0, c1, c2⟩ := hrw.part h8
      rw [← hq] at c0 c1 c2
      have hzs : keySz (ks.take (k + 1)) = keySz (ks.take k) + partSz q := by rw [hsn, keySz_append]; simp [keySz]
      have hbs : keyB (ks.take (k + 1)) = keyB (ks.take k) ++ partB q := by rw [hsn, keyB_append]; simp [keyB]
      have hkl : (keyB (ks.take k)).length = keySz (ks.take k) := keyB_length _
      obtain ⟨Z, hZ⟩ : ∃ Z, Z = keySz (ks.take k) := ⟨_, rfl⟩
      obtain ⟨K, hK⟩ : ∃ K, K = keyB (ks.take k) := ⟨_, rfl⟩
      rw [← hZ] at hzs hkl hle
      rw [← hK] at hbs hkl hown
      have HZS := Lib.hid hzs
      have HBS := Lib.hid hbs
      have HKL := Lib.hid hkl
      have hpl := partB_length q
      have HPL := Lib.hid hpl
      have hpt := partSz_text q
      have hpsm := partSz_small q
      clear hsn hq hzs hbs hkl hZ hK hr hpl
      by_cases hbig : q.text = true ∧ 200 < q.s.size
      · have hz3 := enc_long ks (k + 1) (by rw [HZS.out]; have := hpt hbig.1; omega)
        have HZ3 := Lib.hid hz3
        obtain ⟨h1, h2⟩ := hbig
        have h2' : (200 : Int) < (q.s.size : Int) := by omega
        rw [h1] at c0
        clear hz3 hpt hpsm h1 h2
        go_wp2
        go_ret2
        exact ⟨_, by rw [HEE.out, HZ3.out.1]; rfl, by rw [HX.out, HZ3.out.2]; exact OwnB.nil _ _ _, hbk⟩
      · have hps : partSz q ≤ 1000 := hpsm (fun h => by have : ¬ 200 < q.s.size := fun h2 => hbig ⟨h, h2⟩; omega)
        have hbt := fun W => refBytes_any q W hqf hps
        obtain ⟨P, hP⟩ : ∃ P, P = partB q := ⟨_, rfl⟩
        rw [← hP] at hbt HBS HPL
        have hPl : P.length ≤ 1000 := by rw [HPL.out]; exact hps
        simp only [KPart.cells] at hbt
        have HBT := Lib.hid hbt
        have hKl : K.length ≤ 200 := by rw [HKL.out]; exact hle
        have hKP : K.length + P.length ≤ 140737488355328 := by omega
        have hKPl : (K ++ P).length = K.length + P.length := List.length_append
        clear hpt hpsm hbt hP hqf hps
        rcases ht : q.text with _ | _
        all_goals
          have hs2 : q.text = false ∨ ¬ (200 : Int) < (q.s.size : Int) := by
            rcases h : q.text with _ | _
            · exact .inl rfl
            · refine .inr fun h2 => hbig ⟨h, by omega⟩
          rw [ht] at c0 HBT hs2
          clear hbig ht
        · clear hs2
          by_cases hlong : 200 < K.length + P.length
          · have hz3 := enc_long ks (k + 1) (by rw [HZS.out, ← HKL.out, ← HPL.out]; exact hlong)
            have HZ3 := Lib.hid hz3
            have hlong' : (200 : Int) < (K.length : Int) + (P.length : Int) := by omega
            clear hz3 hlong
            go_wp2_with (first
              | (go_at_call 29; (with_reducible refine (HBT.out _).mono ?_); rintro e w4 ⟨v4, rfl, hown4, hb4⟩; obtain ⟨A4, c4, rfl, -, -, hr4, -⟩ := hown4.shape; have hown' := hown.below hb4 (Nat.le_refl _))
              | (at_builtin; refine wpList_appB _ rfl (.tmp 25) (.tmp 30) _ rfl w.heap.size 5 i0 _ Try.underlying26 hi hz0 hz1 hz2 rfl u4 K rfl hown' w4.heap.size A4 P.length c4 P rfl rfl hr4 hKP (by have := hb4.size; omega) ?_; intro v5 w5 hown5 hg5 hat5; have hb5 : Below w.heap.size w4 w5 := (Below.refl _ _).grown hg5 (by have := hb4.size; omega) (fun k hk => (World.ownsRow.lt hown k hk).1); clear hg5 hat5; obtain ⟨A5, c5, rfl, -, -, hr5, -⟩ := hown5.shape))
            go_ret2
            exact ⟨_, by rw [HEE.out, HZ3.out.1]; rfl, by rw [HX.out, HZ3.out.2]; exact OwnB.nil _ _ _, (hbk.trans (hb4.mono hsz)).trans hb5⟩
          · have hlong' : ¬ (200 : Int) < (K.length : Int) + (P.length : Int) := by omega
            clear hlong
            go_wp2_with (first
              | (go_at_call 29; (with_reducible refine (HBT.out _).mono ?_); rintro e w4 ⟨v4, rfl, hown4, hb4⟩; obtain ⟨A4, c4, rfl, -, -, hr4, -⟩ := hown4.shape; have hown' := hown.below hb4 (Nat.le_refl _))
              | (at_builtin; refine wpList_appB _ rfl (.tmp 25) (.tmp 30) _ rfl w.heap.size 5 i0 _ Try.underlying26 hi hz0 hz1 hz2 rfl u4 K rfl hown' w4.heap.size A4 P.length c4 P rfl rfl hr4 hKP (by have := hb4.size; omega) ?_; intro v5 w5 hown5 hg5 hat5; have hb5 : Below w.heap.size w4 w5 := (Below.refl _ _).grown hg5 (by have := hb4.size; omega) (fun k hk => (World.ownsRow.lt hown k hk).1); clear hg5 hat5; obtain ⟨A5, c5, rfl, -, -, hr5, -⟩ := hown5.shape))
            go_roundw
            case rel => exact ⟨k + 1, by omega, by go_num, by rw [HBS.out]; rw [hKPl] at hown5; exact hown5, by rw [HZS.out, ← HKL.out, ← HPL.out]; omega, (hbk.trans (hb4.mono hsz)).trans hb5⟩
            case measure => simp [intOf]; omega
        · have hs3 : ¬ (200 : Int) < (q.s.size : Int) := by
            rcases hs2 with h | h
            · cases h
            · exact h
          clear hs2
          by_cases hlong : 200 < K.length + P.length
          · have hz3 := enc_long ks (k + 1) (by rw [HZS.out, ← HKL.out, ← HPL.out]; exact hlong)
            have HZ3 := Lib.hid hz3
            have hlong' : (200 : Int) < (K.length : Int) + (P.length : Int) := by omega
            clear hz3 hlong
            go_wp2_with (first
              | (go_at_call 29; (with_reducible refine (HBT.out _).mono ?_); rintro e w4 ⟨v4, rfl, hown4, hb4⟩; obtain ⟨A4, c4, rfl, -, -, hr4, -⟩ := hown4.shape; have hown' := hown.below hb4 (Nat.le_refl _))
              | (at_builtin; refine wpList_appB _ rfl (.tmp 25) (.tmp 30) _ rfl w.heap.size 5 i0 _ Try.underlying26 hi hz0 hz1 hz2 rfl u4 K rfl hown' w4.heap.size A4 P.length c4 P rfl rfl hr4 hKP (by have := hb4.size; omega) ?_; intro v5 w5 hown5 hg5 hat5; have hb5 : Below w.heap.size w4 w5 := (Below.refl _ _).grown hg5 (by have := hb4.size; omega) (fun k hk => (World.ownsRow.lt hown k hk).1); clear hg5 hat5; obtain ⟨A5, c5, rfl, -, -, hr5, -⟩ := hown5.shape))
            go_ret2
            exact ⟨_, by rw [HEE.out, HZ3.out.1]; rfl, by rw [HX.out, HZ3.out.2]; exact OwnB.nil _ _ _, (hbk.trans (hb4.mono hsz)).trans hb5⟩
          · have hlong' : ¬ (200 : Int) < (K.length : Int) + (P.length : Int) := by omega
            clear hlong
            go_wp2_with (first
              | (go_at_call 29; (with_reducible refine (HBT.out _).mono ?_); rintro e w4 ⟨v4, rfl, hown4, hb4⟩; obtain ⟨A4, c4, rfl, -, -, hr4, -⟩ := hown4.shape; have hown' := hown.below hb4 (Nat.le_refl _))
              | (at_builtin; refine wpList_appB _ rfl (.tmp 25) (.tmp 30) _ rfl w.heap.size 5 i0 _ Try.underlying26 hi hz0 hz1 hz2 rfl u4 K rfl hown' w4.heap.size A4 P.length c4 P rfl rfl hr4 hKP (by have := hb4.size; omega) ?_; intro v5 w5 hown5 hg5 hat5; have hb5 : Below w.heap.size w4 w5 := (Below.refl _ _).grown hg5 (by have := hb4.size; omega) (fun k hk => (World.ownsRow.lt hown k hk).1); clear hg5 hat5; obtain ⟨A5, c5, rfl, -, -, hr5, -⟩ := hown5.shape))
            go_roundw
            case rel => exact ⟨k + 1, by omega, by go_num, by rw [HBS.out]; rw [hKPl] at hown5; exact hown5, by rw [HZS.out, ← HKL.out, ← HPL.out]; omega, (hbk.trans (hb4.mono hsz)).trans hb5⟩
            case measure => simp [intOf]; omega
    · obtain rfl : k = ks.length := by omega
      have he0 : encE ks = 0 ∧ encB ks = keyB ks := by
        rw [List.take_length] at hle
        exact ⟨if_pos hle, if_pos hle⟩
      have HE0 := Lib.hid he0
      clear he0
      go_wp2
      go_ret2
      exact ⟨_, by rw [HEE.out, HE0.out.1]; rfl, by rw [HX.out, HE0.out.2]; rw [List.take_length] at hown; exact hown, hbk⟩
end Go.Proofs.Ytinhmchekdolmaa
