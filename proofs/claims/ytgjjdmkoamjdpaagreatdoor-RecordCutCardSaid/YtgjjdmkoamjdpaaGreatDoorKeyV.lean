/- KeyV, what this seat can fill of it. -/
import Derived.Test.YtgjjdmkoamjdpaaGreatDoorProg
import Derived.Test.YtgjjdmkoamjdpaaGreatDoorKeyL
import Derived.Test.YtgjjdmkoamjdpaaGreatDoorKeyQ
namespace Go.Proofs.YtgjjdmkoamjdpaaGreatDoor
set_option maxRecDepth 100000
/- Plain facts on bytes: what is written is read back, what is read is written so again. -/
theorem beV_cons (b : UInt8) (l : List UInt8) : beV (b :: l) = b.toNat * 256 ^ l.length + beV l := by
  have h : ∀ (m : List UInt8) (a : Nat), m.foldl (fun a b => a * 256 + b.toNat) a = a * 256 ^ m.length + m.foldl (fun a b => a * 256 + b.toNat) 0 := by
    intro m
    induction m with
    | nil => intro a; simp
    | cons c m ih =>
      intro a
      rw [List.foldl_cons, List.foldl_cons, ih, ih (0 * 256 + c.toNat), List.length_cons, Nat.pow_succ, Nat.zero_mul, Nat.zero_add, Nat.add_mul, Nat.mul_assoc, Nat.mul_comm 256, Nat.add_assoc]
  unfold beV
  rw [List.foldl_cons, h, Nat.zero_mul, Nat.zero_add]

theorem numB_eq (n : Int) : numB n = [UInt8.ofNat (numU n / 2 ^ 56), UInt8.ofNat (numU n / 2 ^ 48), UInt8.ofNat (numU n / 2 ^ 40), UInt8.ofNat (numU n / 2 ^ 32), UInt8.ofNat (numU n / 2 ^ 24), UInt8.ofNat (numU n / 2 ^ 16), UInt8.ofNat (numU n / 2 ^ 8), UInt8.ofNat (numU n / 2 ^ 0)] := rfl

theorem eight (U : Nat) (h : U ≤ 18446744073709551615) : U / 2 ^ 56 % 256 * 256 ^ 7 + (U / 2 ^ 48 % 256 * 256 ^ 6 + (U / 2 ^ 40 % 256 * 256 ^ 5 + (U / 2 ^ 32 % 256 * 256 ^ 4 + (U / 2 ^ 24 % 256 * 256 ^ 3 + (U / 2 ^ 16 % 256 * 256 ^ 2 + (U / 2 ^ 8 % 256 * 256 ^ 1 + (U / 2 ^ 0 % 256 * 256 ^ 0 + 0))))))) = U := by
  simp only [Nat.reducePow]
  omega

theorem beV_numB (n : Int) (h1 : n ≤ 9223372036854775807) : beV (numB n) = numU n := by
  have h := eight (numU n) (numU_lt n h1)
  rw [numB_eq]
  simp only [beV_cons, UInt8.toNat_ofNat', List.length_cons, List.length_nil]
  exact h

theorem len8 {l : List UInt8} (h : l.length = 8) : ∃ a b c d e f g k, l = [a, b, c, d, e, f, g, k] := by
  match l, h with
  | [a, b, c, d, e, f, g, k], _ => exact ⟨a, b, c, d, e, f, g, k, rfl⟩

theorem digits8 (a b c d e f g k : Nat) (ha : a < 256) (hb : b < 256) (hc : c < 256) (hd : d < 256) (he : e < 256) (hf : f < 256) (hg : g < 256) (hk : k < 256) (U : Nat) (hU : U = a * 72057594037927936 + (b * 281474976710656 + (c * 1099511627776 + (d * 4294967296 + (e * 16777216 + (f * 65536 + (g * 256 + k))))))) :
    U / 72057594037927936 % 256 = a ∧ U / 281474976710656 % 256 = b ∧ U / 1099511627776 % 256 = c ∧ U / 4294967296 % 256 = d ∧ U / 16777216 % 256 = e ∧ U / 65536 % 256 = f ∧ U / 256 % 256 = g ∧ U / 1 % 256 = k := by
  refine ⟨?_, ?_, ?_, ?_, ?_, ?_, ?_, ?_⟩ <;> omega

theorem numB_beV (l : List UInt8) (h : l.length = 8) : numB ((beV l : Int) - 9223372036854775808) = l := by
  obtain ⟨a, b, c, d, e, f, g, k, rfl⟩ := len8 h
  have hu : numU ((beV [a, b, c, d, e, f, g, k] : Int) - 9223372036854775808) = beV [a, b, c, d, e, f, g, k] := by unfold numU; omega
  rw [numB_eq, hu]
  have hv : beV [a, b, c, d, e, f, g, k] = a.toNat * 72057594037927936 + (b.toNat * 281474976710656 + (c.toNat * 1099511627776 + (d.toNat * 4294967296 + (e.toNat * 16777216 + (f.toNat * 65536 + (g.toNat * 256 + k.toNat)))))) := by
    simp [beV_cons, show beV [] = 0 from rfl]
  obtain ⟨h1, h2, h3, h4, h5, h6, h7, h8⟩ := digits8 _ _ _ _ _ _ _ _ a.toNat_lt b.toNat_lt c.toNat_lt d.toNat_lt e.toNat_lt f.toNat_lt g.toNat_lt k.toNat_lt _ hv
  have q : ∀ (x : UInt8) (m : Nat), m % 256 = x.toNat → UInt8.ofNat m = x := by
    intro x m hm
    apply UInt8.toNat_inj.1
    rw [UInt8.toNat_ofNat']
    exact hm
  simp only [Nat.reducePow]
  rw [q a _ h1, q b _ h2, q c _ h3, q d _ h4, q e _ h5, q f _ h6, q g _ h7, q k _ h8]

theorem rdN_numB (n : Int) (r : List UInt8) (h0 : -9223372036854775808 ≤ n) (h1 : n ≤ 9223372036854775807) : rdN (numB n ++ r) = some (⟨false, ⟨#[]⟩, n⟩, r) := by
  have hl := numB_length n
  have h8 : ¬ (numB n ++ r).length < 8 := by rw [List.length_append]; omega
  unfold rdN
  rw [if_neg h8, List.take_left' hl, List.drop_left' hl, beV_numB n h1]
  congr 3
  unfold numU
  omega

theorem rdN_some {l r : List UInt8} {p : KPart} (h : rdN l = some (p, r)) : 1 :: l = partB p ++ r ∧ norm p = p ∧ p.fits := by
  unfold rdN at h
  split at h
  · cases h
  · rename_i h8
    injection h with h
    injection h with h1 h2
    subst h1 h2
    have hl : (l.take 8).length = 8 := by rw [List.length_take]; omega
    have hlt := beV_lt (l.take 8)
    rw [hl] at hlt
    refine ⟨?_, rfl, ?_⟩
    · show 1 :: l = 1 :: numB _ ++ l.drop 8
      rw [numB_beV _ hl, List.cons_append, List.take_append_drop]
    · refine ⟨by simp [ByteArray.size], ?_, ?_⟩
      · show _ ≤ (beV (l.take 8) : Int) - 9223372036854775808; omega
      · show (beV (l.take 8) : Int) - 9223372036854775808 ≤ _
        have : beV (l.take 8) < 18446744073709551616 := by simpa using hlt
        omega

theorem rdT_esc (r : List UInt8) : ∀ l : List UInt8, rdT (escB l ++ (0 :: 1 :: r)) = some (l, r)
  | [] => by simp [escB, rdT]
  | c :: l => by
    have ih := rdT_esc r l
    by_cases hc : c = 0
    · subst hc
      have e : escB (0 :: l) ++ (0 :: 1 :: r) = 0 :: 255 :: (escB l ++ (0 :: 1 :: r)) := rfl
      rw [e, rdT, if_pos rfl, if_pos rfl, ih]
      rfl
    · have e : escB (c :: l) ++ (0 :: 1 :: r) = c :: (escB l ++ (0 :: 1 :: r)) := by
        show (if c = 0 then [0, 255] else [c]) ++ escB l ++ _ = _
        rw [if_neg hc]
        rfl
      rw [e]
      obtain ⟨d, t, hd⟩ : ∃ d t, escB l ++ (0 :: 1 :: r) = d :: t := by
        rcases escB l with _ | ⟨x, y⟩
        · exact ⟨0, 1 :: r, rfl⟩
        · exact ⟨x, y ++ (0 :: 1 :: r), rfl⟩
      rw [hd] at ih ⊢
      rw [rdT, if_neg hc, ih]
      rfl

theorem rdT_some : ∀ (l s r : List UInt8), rdT l = some (s, r) → l = escB s ++ (0 :: 1 :: r)
  | [], _, _, h => by simp [rdT] at h
  | [_], _, _, h => by simp [rdT] at h
  | b :: c :: u, s, r, h => by
    rw [rdT] at h
    split at h
    · rename_i hb
      subst hb
      split at h
      · rename_i hc
        subst hc
        obtain ⟨x, hx, he⟩ := Option.map_eq_some_iff.1 h
        have := rdT_some u x.1 x.2 hx
        injection he with h1 h2
        subst h1 h2
        rw [this]
        rfl
      · split at h
        · rename_i hc
          subst hc
          simp at h
          obtain ⟨rfl, rfl⟩ := h
          rfl
        · cases h
    · rename_i hb
      obtain ⟨x, hx, he⟩ := Option.map_eq_some_iff.1 h
      have := rdT_some (c :: u) x.1 x.2 hx
      injection he with h1 h2
      subst h1 h2
      rw [this]
      show b :: (escB x.1 ++ _) = ((if b = 0 then [0, 255] else [b]) ++ escB x.1) ++ _
      rw [if_neg hb]
      rfl

theorem rdP_partB (p : KPart) (r : List UInt8) (hf : p.fits) : rdP (partB p ++ r) = some (norm p, r) := by
  obtain ⟨tx, s, n⟩ := p
  obtain ⟨f0, f1, f2⟩ := hf
  cases tx
  · show rdP (1 :: (numB n ++ r)) = _
    rw [rdP, if_pos rfl, rdN_numB n r f1 f2]
    rfl
  · show rdP (2 :: (escB s.data.toList ++ [0, 1] ++ r)) = _
    have h2 : ¬ (2 : UInt8) = 1 := by decide
    rw [rdP, if_neg h2, if_pos rfl, List.append_assoc]
    show txt (rdT (escB s.data.toList ++ (0 :: 1 :: r))) = _
    rw [rdT_esc]
    rfl

theorem rdP_some {l r : List UInt8} {p : KPart} (hl : l.length ≤ 140737488355328) (h : rdP l = some (p, r)) : l = partB p ++ r ∧ norm p = p ∧ p.fits := by
  cases l with
  | nil => simp [rdP] at h
  | cons b l =>
    rw [rdP] at h
    split at h
    · rename_i hb
      subst hb
      exact rdN_some h
    · split at h
      · rename_i hb
        subst hb
        obtain ⟨x, hx, he⟩ := Option.map_eq_some_iff.1 h
        have h1 := rdT_some l x.1 x.2 hx
        have h2 := rdT_short l x.1 x.2 hx
        injection he with h3 h4
        subst h3 h4
        refine ⟨?_, rfl, ?_⟩
        · show 2 :: l = 2 :: (escB x.1 ++ [0, 1]) ++ x.2
          rw [h1, List.cons_append, List.append_assoc]
          rfl
        · refine ⟨?_, by show (-9223372036854775808 : Int) ≤ 0; omega, by show (0 : Int) ≤ 9223372036854775807; omega⟩
          show x.1.toArray.size ≤ _
          simp at hl ⊢
          omega
      · cases h

theorem rdKey_nil (f : Nat) : rdKey f [] = some [] := by cases f <;> rfl

theorem partB_pos (p : KPart) : 0 < (partB p).length := by unfold partB; split <;> simp

theorem rdKey_step (f : Nat) (l r : List UInt8) (p : KPart) (h : rdP l = some (p, r)) : rdKey (f + 1) l = (rdKey f r).map (p :: ·) := by
  cases l with
  | nil => simp [rdP] at h
  | cons b l => rw [rdKey, h]

theorem rdKey_keyB : ∀ (ks : List KPart) (f : Nat), (∀ p ∈ ks, p.fits) → (keyB ks).length ≤ f → rdKey f (keyB ks) = some (ks.map norm)
  | [], f, _, _ => rdKey_nil f
  | p :: ks, f, hf, hl => by
    have e : keyB (p :: ks) = partB p ++ keyB ks := rfl
    have h1 := partB_pos p
    rw [e, List.length_append] at hl
    obtain ⟨f', rfl⟩ : ∃ f', f = f' + 1 := ⟨f - 1, by omega⟩
    rw [e, rdKey_step f' _ _ _ (rdP_partB p (keyB ks) (hf p (by simp))), rdKey_keyB ks f' (fun q hq => hf q (by simp [hq])) (by omega)]
    rfl

theorem rdKey_some : ∀ (f : Nat) (l : List UInt8) (ks : List KPart), l.length ≤ 140737488355328 → rdKey f l = some ks → keyB ks = l ∧ ks.map norm = ks ∧ ∀ p ∈ ks, p.fits
  | f, [], ks, _, h => by
    rw [rdKey_nil] at h
    injection h with h
    subst h
    exact ⟨rfl, rfl, fun _ h => by cases h⟩
  | 0, _ :: _, ks, _, h => by simp [rdKey] at h
  | f + 1, b :: l, ks, hl, h => by
    rw [rdKey] at h
    split at h
    · cases h
    · rename_i p r he
      obtain ⟨x, hx, rfl⟩ := Option.map_eq_some_iff.1 h
      have h2 := rdP_short _ _ _ he
      obtain ⟨h3, h4, h5⟩ := rdP_some hl he
      obtain ⟨h6, h7, h8⟩ := rdKey_some f r x (by omega) hx
      refine ⟨?_, ?_, ?_⟩
      · show partB p ++ keyB x = _
        rw [h6, ← h3]
      · rw [List.map_cons, h4, h7]
      · intro q hq
        rcases List.mem_cons.1 hq with rfl | hq
        · exact h5
        · exact h8 q hq

theorem keyB_norm (ks : List KPart) : keyB (ks.map norm) = keyB ks := by
  induction ks with
  | nil => rfl
  | cons p ks ih =>
    show partB (norm p) ++ keyB (ks.map norm) = partB p ++ keyB ks
    rw [ih]
    congr 1
    obtain ⟨tx, s, n⟩ := p
    cases tx <;> rfl
theorem keySz_norm (ks : List KPart) : keySz (ks.map norm) = keySz ks := by rw [← keyB_length, keyB_norm, keyB_length]
theorem encE_norm (ks : List KPart) : encE (ks.map norm) = encE ks := by unfold encE; rw [keySz_norm]
theorem encB_norm (ks : List KPart) : encB (ks.map norm) = encB ks := by unfold encB; rw [keySz_norm, keyB_norm]
theorem norm_norm (p : KPart) : norm (norm p) = norm p := by
  obtain ⟨tx, s, n⟩ := p
  cases tx <;> rfl
theorem map_norm_norm (ks : List KPart) : (ks.map norm).map norm = ks.map norm := by
  rw [List.map_map]
  congr 1
  funext p
  exact norm_norm p
theorem norm_fits {p : KPart} (h : p.fits) : (norm p).fits := by
  obtain ⟨tx, s, n⟩ := p
  obtain ⟨f0, f1, f2⟩ := h
  cases tx
  · exact ⟨by show (0 : Nat) ≤ _; omega, f1, f2⟩
  · exact ⟨f0, by show (-9223372036854775808 : Int) ≤ 0; omega, by show (0 : Int) ≤ 9223372036854775807; omega⟩

/-- What is written is read back. -/
theorem dec_enc (ks : List KPart) (hf : ∀ p ∈ ks, p.fits) (h : encE ks = 0) : decE (encB ks) = 0 ∧ decK (encB ks) = ks.map norm := by
  have hz : keySz ks ≤ 200 := by
    unfold encE at h
    split at h
    · assumption
    · cases h
  have hb : encB ks = keyB ks := if_pos hz
  have hl : ¬ 200 < (keyB ks).length := by rw [keyB_length]; omega
  have hr := rdKey_keyB ks (keyB ks).length hf (Nat.le_refl _)
  rw [hb]
  unfold decE decK
  rw [if_neg hl, if_neg hl, hr]
  exact ⟨rfl, rfl⟩

/-- What is read is written so again. -/
theorem enc_dec (l : List UInt8) (h : decE l = 0) : encE (decK l) = 0 ∧ encB (decK l) = l ∧ (decK l).map norm = decK l ∧ ∀ p ∈ decK l, p.fits := by
  unfold decE at h
  split at h
  · cases h
  · rename_i hl
    split at h
    · cases h
    · rename_i hn
      rcases hr : rdKey l.length l with _ | ks
      · rw [hr] at hn
        exact absurd rfl hn
      · have hk : decK l = ks := by unfold decK; rw [if_neg hl, hr]; rfl
        obtain ⟨h1, h2, h3⟩ := rdKey_some _ _ _ (by omega) hr
        have hz : keySz ks ≤ 200 := by rw [← keyB_length, h1]; omega
        rw [hk]
        exact ⟨if_pos hz, (if_pos hz).trans h1, h2, h3⟩

theorem dec_bad (l : List UInt8) (h : decE l ≠ 0) : decK l = [] := by
  unfold decE at h
  unfold decK
  split at h
  · rename_i hl; rw [if_pos hl]
  · rename_i hl
    rw [if_neg hl]
    split at h
    · rename_i hn
      rcases hr : rdKey l.length l with _ | ks
      · rfl
      · rw [hr] at hn
        cases hn
    · exact absurd rfl h
end Go.Proofs.YtgjjdmkoamjdpaaGreatDoor
