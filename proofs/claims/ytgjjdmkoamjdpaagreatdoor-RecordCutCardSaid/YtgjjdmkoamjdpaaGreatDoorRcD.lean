/- appendChange. -/
import Derived.Test.YtgjjdmkoamjdpaaGreatDoorRcC
namespace Go.Proofs.YtgjjdmkoamjdpaaGreatDoor
open Go.RowKit Go.Maps

theorem encV_len {v : VVal} (h : ckN v = 0) (hf : v.fits) : (encV v).length ≤ 70 := by
  unfold encV
  by_cases h1 : v.kind = 1
  · rw [if_pos h1, List.length_cons]
    have h2 := foldN_lt v.n hf.2.1 hf.2.2
    have h3 := digs_length 10 (foldN v.n) (by omega)
    omega
  · rw [if_neg h1]
    by_cases h3 : v.kind = 3
    · rw [if_pos h3]; simp
    · rw [if_neg h3]
      have hl : v.s.data.toList.length = v.s.size := Array.length_toList
      rcases ckN_zero h with e | e | e
      · exact absurd e h1
      · exact absurd e.1 h3
      · rw [List.length_cons, List.length_cons, hl]; omega
theorem chB_len {c : ChV} (h : formB c = true) (hf : c.fits) : 1 ≤ (chB c).length ∧ (chB c).length ≤ 133 := by
  obtain ⟨_, hsz, _, hck, _⟩ := form_facts h
  have h1 : (keyBs c).length ≤ 62 := by unfold keyBs; rw [keyB_length]; exact hsz
  unfold chB
  rw [List.length_cons, List.length_append]
  by_cases h5 : c.kind = 5
  · rw [if_pos h5]
    have := encV_len (hck h5) hf.v
    omega
  · rw [if_neg h5, List.length_nil]
    omega
def ApPost (w : World) (base : Nat) (l : List UInt8) (c : ChV) (e : Ending) (w' : World) : Prop := ∃ v', e = .returned v' ∧ OwnB w' base 5 v' (l ++ chB c) ∧ Below base w w'
set_option maxRecDepth 100000 in
set_option maxHeartbeats 4000000 in
theorem appendChange_any (w0 w : World) (base : Nat) (A : Option Addr) (cp : Nat) (l : List UInt8) (c : ChV) (hown : OwnB w base 5 (.slice A l.length cp) l) (hbase : base ≤ w.heap.size) (hl : l.length ≤ 20000) (hc : formB c = true) (hf : c.fits)
    (hT : Tabs w0) (h0 : Below w0.heap.size w0 w) (hb0 : w0.heap.size ≤ base) :
    Calls Tryz.prog 57 #[.slice A l.length cp, .agg c.cells] w (ApPost w base l c) := by
  obtain ⟨hk, hsz, hfit, hck, hkl⟩ := form_facts hc
  have hbx : Below w.heap.size w (w.alloc (.cells c.cells 53)) := (Below.refl _ _).alloc (Nat.le_refl _) _
  have hx0 := heap_alloc_new w (.cells c.cells 53)
  obtain ⟨n, hn⟩ : ∃ n, n = (keyBs c).length := ⟨_, rfl⟩
  have hn62 : n ≤ 62 := by rw [hn]; unfold keyBs; rw [keyB_length]; exact hsz
  have hno : (UInt8.ofNat n).toNat = n := by rw [UInt8.toNat_ofNat_of_lt']; simp [UInt8.size]; omega
  have hKO := keyOf_any c (w.alloc (.cells c.cells 53)) hk
  have hEN : ∀ (W : World) (A' : Option Addr) (c' : Nat), Rd W W.heap.size A' (pcs (keyL c)) → (keyL c).length ≤ c' → c' ≤ 100 → Calls Tryz.prog 69 #[.slice A' (keyL c).length c'] W fun e w' => ∃ Ak ck, e = .returned (.tuple #[.slice Ak n ck, .int .i64 0]) ∧ OwnB w' W.heap.size 5 (.slice Ak n ck) (keyBs c) ∧ Below W.heap.size W w' := fun W A' c' hr hc1 hc2 => by
    refine (encode_ok A' (keyL c) _ c' W.heap.size W rfl hr (Nat.le_refl _) hc1 (by omega) hfit (by omega)).mono ?_
    rintro e w' ⟨v', rfl, ho, hb⟩
    obtain ⟨Ak, ck, rfl, _⟩ := ho.shape
    rw [hn]
    exact ⟨Ak, ck, rfl, ho, hb⟩
  obtain ⟨k, nn, ef, lab, et, key, vk, vn, vs⟩ := c
  dsimp only [ChV.cells] at hbx hx0 hKO hk ⊢
  obtain ⟨c0, c1, c2, c3, c4, c5, c6, c7, c8⟩ := box9 hx0
  unfold KoPost at hKO
  have HKO := Lib.hid hKO
  have HEN := Lib.hid hEN
  have HX := Lib.hid (And.intro hbx (And.intro hx0 (And.intro hown (And.intro hbase hl))))
  have HN := Lib.hid (And.intro hn hno)
  have HT := Lib.hid (And.intro hT (And.intro h0 (And.intro hb0 (And.intro hf.v hck))))
  clear hKO hEN hbx hx0 hown hT h0 hb0 hfit hsz hc hf hck hno hkl hn
  go_enter Tryz.func57, Tryz.ntmps57
  go_upto_region 2 with (first
    | (go_at_call 70; (with_reducible refine HKO.out.mono ?_); rintro e w1 ⟨A1, c1', rfl, r1, s1, t1, b1⟩; have HE1 := Lib.hid (HEN.out w1 A1 c1' r1 s1 t1); have B1 := Lib.hid b1; clear r1 s1 t1 b1)
    | (go_at_call 69; (with_reducible refine HE1.out.mono ?_); rintro e w2 ⟨Ak, ck, rfl, o2, b2⟩; have O2 := Lib.hid (And.intro (show OwnB w2 w.heap.size 5 (.slice Ak n ck) _ from own_mono o2 (by have h1 := B1.out.size; rw [alloc1_size] at h1; omega)) (show Below (w.heap.size + 1) (w.alloc (.cells #[.int .i64 k, .int .i64 nn, .int .i64 ef, .string lab, .int .i64 et, .string key, .int .i64 vk, .int .i64 vn, .string vs] 53)) w2 from (lower' B1.out (by simp)).trans (lower' b2 (by have h1 := B1.out.size; rw [alloc1_size] at h1; omega)))); clear o2 b2))
  clear c0 c1 c2 c3 c4 c5 c6 c7 c8 HKO HEN HE1
  have hb02 : Below w.heap.size w w2 := HX.out.1.trans (lower' O2.out.2 (by omega))
  have hx2 := (O2.out.2.block w.heap.size (by omega)).trans HX.out.2.1
  have own2 : OwnB w2 base 5 (.slice A l.length cp) l := HX.out.2.2.1.below hb02 (Nat.le_refl _)
  have hvlt : ∀ s ∈ (Value.slice A l.length cp).ownBlock.toList, s < w.heap.size := fun s hs => (World.ownsRow.lt HX.out.2.2.1 s (by simpa using hs)).2
  have hsz2 : w.heap.size + 1 ≤ w2.heap.size := by have h1 := O2.out.2.size; rw [alloc1_size] at h1; exact h1
  have hr1 : Rd (w2.alloc (.cells #[.int .u8 (n : Int)] 5)) (w2.alloc (.cells #[.int .u8 (n : Int)] 5)).heap.size (some ⟨w2.heap.size, 0, none⟩) (u8s [UInt8.ofNat n]) := by
    rw [alloc1_size]
    have h1 := Rd.new w2 #[.int .u8 (n : Int)] 5 (0, 0)
    have e : u8s [UInt8.ofNat n] = (#[.int .u8 (n : Int)] : Array Value).toList := by unfold u8s; simp only [List.map_cons, List.map_nil, HN.out.2]
    rw [e]
    exact h1
  obtain ⟨v3, w3, hrun1, own3, fr3, at3, b3, s3⟩ := app_onto (w2.alloc (.cells #[.int .u8 (n : Int)] 5)) base _ l (own2.alloc _) (by rw [alloc1_size]; have := HX.out.2.2.2.1; omega) (some ⟨w2.heap.size, 0, none⟩) 1 1 [UInt8.ofNat n] rfl hr1 (by have := HX.out.2.2.2.2; simp; omega)
  have hk3 : OwnB w3 w.heap.size 5 (.slice Ak n ck) (keyBs ⟨k, nn, ef, lab, et, key, ⟨vk, vn, vs⟩⟩) := rowFrS (OwnB.alloc O2.out.1 _) fr3 fun s hs hm => by
    have h1 := own_ge O2.out.1 s hs
    have h2 := hvlt s hm
    omega
  obtain ⟨Ak', ck', hke, _, _, hkr, _⟩ := hk3.shape
  injection hke with hke1 hke2 hke3
  subst hke1 hke3
  clear hke2
  obtain ⟨v4, w4, hrun2, own4, fr4, at4, b4, s4⟩ := app_onto w3 base v3 _ own3 (by rw [alloc1_size] at s3; have := HX.out.2.2.2.1; omega) Ak n ck _ HN.out.1 hkr (by have := HX.out.2.2.2.2; rw [← HN.out.1]; simp; omega)
  have hx4 : w4.heap[w.heap.size]? = some (.cells #[.int .i64 k, .int .i64 nn, .int .i64 ef, .string lab, .int .i64 et, .string key, .int .i64 vk, .int .i64 vn, .string vs] 53) := by
    rw [alloc1_size] at s3
    rw [fr4.block w.heap.size (by omega) (fun hm => by
      rcases at3 _ hm with h | h
      · have := hvlt _ h; omega
      · rw [alloc1_size] at h; omega), fr3.block w.heap.size (by rw [alloc1_size]; omega) (fun hm => by have := hvlt _ hm; omega)]
    exact (((Below.refl w2.heap.size w2).alloc (Nat.le_refl _) _).block w.heap.size (by omega)).trans hx2
  have hB4 : Below base w w4 := (lower' hb02 HX.out.2.2.2.1).trans (((Below.refl base w2).alloc (by have := HX.out.2.2.2.1; omega) _).trans (b3.trans b4))
  have hT4 : Tabs w4 := HT.out.1.below (HT.out.2.1.trans (lower' hB4 HT.out.2.2.1))
  have hs4 : base ≤ w4.heap.size := Nat.le_trans HX.out.2.2.2.1 hB4.size
  obtain ⟨c0, -, -, -, -, -, c6, c7, c8⟩ := box9 hx4
  have hcv : IntKind.u8.wrap (n : Int) = (n : Int) := IntWalk.u8_in _ (by omega)
  have HO4 := Lib.hid (And.intro own4 (And.intro hB4 (And.intro hT4 hs4)))
  clear own2 hr1 own3 fr3 at3 b3 s3 hk3 hkr own4 fr4 at4 b4 s4 hx4 hB4 hT4 hs4 hb02 hx2 hvlt hsz2
  by_cases h5 : k = 5
  · subst h5
    have hck := HT.out.2.2.2.2 rfl
    have hv : chB ⟨5, nn, ef, lab, et, key, ⟨vk, vn, vs⟩⟩ = [UInt8.ofNat n] ++ keyBs ⟨5, nn, ef, lab, et, key, ⟨vk, vn, vs⟩⟩ ++ encV ⟨vk, vn, vs⟩ := by unfold chB; rw [if_pos rfl, HN.out.1]; rfl
    have HV := Lib.hid hv
    have hve := encode_any ⟨vk, vn, vs⟩ w4 HT.out.2.2.2.1 HO4.out.2.2.1
    have hrv : encR ⟨vk, vn, vs⟩ = encV ⟨vk, vn, vs⟩ := by unfold encR; rw [if_pos hck]
    rw [hrv, hck] at hve
    dsimp only [VVal.cells] at hve
    have hel := encV_len hck HT.out.2.2.2.1
    have HVE := Lib.hid hve
    generalize encV ⟨vk, vn, vs⟩ = ev at HVE HV hel
    obtain ⟨m, hm⟩ : ∃ m, m = ev.length := ⟨_, rfl⟩
    have HM := Lib.hid (And.intro hm hel)
    have hlen : ∀ W (hb : Below w4.heap.size w4 W) (A5 : Option Addr) (c5 : Nat), OwnB W w4.heap.size 5 (.slice A5 ev.length c5) ev → ∃ v6 w6, (Builtin.append_ #[32, 32] 32 #[v4, .slice A5 m c5]).run Tryz.prog W = .ok v6 w6 ∧ OwnB w6 base 5 v6 (l ++ [UInt8.ofNat n] ++ keyBs ⟨5, nn, ef, lab, et, key, ⟨vk, vn, vs⟩⟩ ++ ev) ∧ Below base w w6 := fun W hb A5 c5 ho => by
      obtain ⟨A', c', he, _, _, hr, _⟩ := ho.shape
      injection he with he1 he2 he3
      subst he1 he3
      obtain ⟨v6, w6, h1, h2, _, _, h5, _⟩ := app_onto W base v4 _ (HO4.out.1.below hb (Nat.le_refl _)) (Nat.le_trans HO4.out.2.2.2 hb.size) A5 m c5 ev HM.out.1 hr (by have := HX.out.2.2.2.2; rw [List.length_append, List.length_append, ← HN.out.1]; have := HM.out.2; simp; omega)
      exact ⟨v6, w6, h1, h2, HO4.out.2.1.trans ((lower' hb HO4.out.2.2.2).trans h5)⟩
    have HL := Lib.hid hlen
    clear hv hk hve hrv hck hel hm hlen
    go_wp2_with (first
      | (at_builtin; refine wpL_appK _ rfl (.tmp 15) (.tmp 19) 32 rfl rfl _ _ _ _ rfl rfl hrun1 ?_)
      | (at_builtin; refine wpL_appK _ rfl (.tmp 21) (.tmp 22) 32 rfl rfl _ _ _ _ rfl rfl hrun2 ?_)
      | (go_at_call 71; (with_reducible refine HVE.out.mono ?_); rintro e w5 ⟨v5, rfl, o5, b5⟩; obtain ⟨A5, c5, rfl, _⟩ := o5.shape; obtain ⟨v6, w6, hrun3, o6, b6⟩ := HL.out w5 b5 A5 c5 o5; rw [← HM.out.1]; have H6 := Lib.hid (And.intro o6 b6); clear o5 b5 o6 b6)
      | (at_builtin; refine wpL_appK _ rfl (.tmp 33) (.tmp 34) 32 rfl rfl _ _ _ _ rfl rfl hrun3 ?_))
    go_ret
    exact ⟨v6, rfl, by rw [HV.out, ← List.append_assoc, ← List.append_assoc]; exact H6.out.1, H6.out.2⟩
  · have hv : chB ⟨k, nn, ef, lab, et, key, ⟨vk, vn, vs⟩⟩ = [UInt8.ofNat n] ++ keyBs ⟨k, nn, ef, lab, et, key, ⟨vk, vn, vs⟩⟩ := by unfold chB; rw [if_neg h5, List.append_nil, HN.out.1]; rfl
    have HV := Lib.hid hv
    have hk5 : (k == 5) = false := beq_eq_false_iff_ne.2 h5
    clear h5 hv hk
    go_wp2_with (first
      | (at_builtin; refine wpL_appK _ rfl (.tmp 15) (.tmp 19) 32 rfl rfl _ _ _ _ rfl rfl hrun1 ?_)
      | (at_builtin; refine wpL_appK _ rfl (.tmp 21) (.tmp 22) 32 rfl rfl _ _ _ _ rfl rfl hrun2 ?_))
    go_ret
    exact ⟨v4, rfl, by rw [HV.out, ← List.append_assoc]; exact HO4.out.1, HO4.out.2.1⟩
end Go.Proofs.YtgjjdmkoamjdpaaGreatDoor
