/- The document's disk: Crash. -/
import Derived.Test.YtajakmfloeefpaaJnF
namespace Go.Proofs.Ytajakmfloeefpaa
open Go.RowKit Go.Maps

theorem resCrash {w : World} {b : Nat} {v0 v1 v2 v3 v4 : Value} (h : w.heap[b]? = some (.cells #[v0, v1, v2, v3, v4] 33 (0, 0))) (tmps : Array Value) (h2 : tmps.getD 8 undef = .pointer (some ⟨b, 0, none⟩)) :
    (results Try.f19 tmps).run Try.prog w = .ok (.agg #[v0, v1, v2, v3, v4]) w := by
  have e0 : w.cell? ⟨b, 0, none⟩ = some v0 := cell_of_row w b 0 _ _ _ h
  have e1 : w.cell? ⟨b, 1, none⟩ = some v1 := cell_of_row w b 1 _ _ _ h
  have e2 : w.cell? ⟨b, 2, none⟩ = some v2 := cell_of_row w b 2 _ _ _ h
  have e3 : w.cell? ⟨b, 3, none⟩ = some v3 := cell_of_row w b 3 _ _ _ h
  have e4 : w.cell? ⟨b, 4, none⟩ = some v4 := cell_of_row w b 4 _ _ _ h
  have h2' := h2
  simp only [Array.getD_eq_getD_getElem?] at h2'
  simp [results, Try.results19, go_sem, h2', e0, e1, e2, e3, e4]
/-- What a crash leaves of sector i. -/
def RD.left1 (R : RD) (keep : List Bool) (torn cut : Int) (i : Nat) : List UInt8 :=
  if R.fresh.getD i false then (if keep[(upto R.fresh i).length]? = some true then R.now.getD i [] else if ((upto R.fresh i).length : Int) = torn then tearL (R.sure.getD i []) (R.now.getD i []) cut else R.sure.getD i []) else R.sure.getD i []
def RD.lefts (R : RD) (keep : List Bool) (torn cut : Int) (k : Nat) : List (List UInt8) := (List.range k).map (R.left1 keep torn cut)
theorem RD.lefts_succ (R : RD) (keep : List Bool) (torn cut : Int) (k : Nat) : strs (R.lefts keep torn cut k) ++ [.string ⟨(R.left1 keep torn cut k).toArray⟩] = strs (R.lefts keep torn cut (k + 1)) := by
  simp [RD.lefts, List.range_succ, strs]
def RD.crashed (R : RD) (keep : List Bool) (torn cut : Int) : RD := ⟨R.lefts keep torn cut R.now.length, R.lefts keep torn cut R.now.length, List.replicate R.now.length false, 0, -1⟩
theorem tear_bytes (no su : List UInt8) (m : Nat) (h2 : su.length = 64) : (⟨no.toArray⟩ : ByteArray).extract 0 m ++ (⟨su.toArray⟩ : ByteArray).extract m 64 = ⟨(no.take m ++ su.drop m).toArray⟩ := by
  apply ByteArray.ext
  rw [ByteArray.data_append, ByteArray.data_extract, ByteArray.data_extract]
  apply Array.toList_inj.1
  simp [← h2]
  rw [List.take_of_length_le (by simp)]
theorem Mk.drewN {w0 w : World} {b base : Nat} {vs vn v2 v3 v4 : Value} {ns nn : Nat} {S N : List Value} (h : Mk w0 w b base vs vn v2 v3 v4 ns S nn N) (n : Nat) : Mk w0 (w.drewN n) b base vs vn v2 v3 v4 ns S nn N :=
  ⟨Below.drewN' h.below n, h.blk, h.lt, h.size, h.s, h.n, h.apart, h.apart2⟩
theorem tear_bytesM (no su : List UInt8) (cut : Int) (h0 : ¬ cut < 0) (h1 : ¬ 64 < cut) (h2 : su.length = 64) : (⟨no.toArray⟩ : ByteArray).extract 0 cut.toNat ++ (⟨su.toArray⟩ : ByteArray).extract cut.toNat 64 = ⟨(tearL su no cut).toArray⟩ := by
  rw [tear_bytes no su cut.toNat h2]
  have : cutN cut = cut.toNat := by unfold cutN; omega
  unfold tearL
  rw [this]
theorem tear_bytes0 (no su : List UInt8) (cut : Int) (h0 : cut < 0) (h2 : su.length = 64) : (⟨su.toArray⟩ : ByteArray).extract 0 64 = ⟨(tearL su no cut).toArray⟩ := by
  have : cutN cut = 0 := by unfold cutN; omega
  unfold tearL
  rw [this]
  apply ByteArray.ext
  rw [ByteArray.data_extract]
  apply Array.toList_inj.1
  simp [← h2]
theorem tear_bytes64 (no su : List UInt8) (cut : Int) (h0 : 64 < cut) (h2 : su.length = 64) : (⟨no.toArray⟩ : ByteArray).extract 0 64 = ⟨(tearL su no cut).toArray⟩ := by
  have : cutN cut = 64 := by unfold cutN; omega
  unfold tearL
  rw [this, List.drop_of_length_le (by omega), List.append_nil]
  apply ByteArray.ext
  rw [ByteArray.data_extract]
  apply Array.toList_inj.1
  simp
theorem four_new (w : World) (o o' o'' o3 : Obj) : ((((w.alloc o).alloc o').alloc o'').alloc o3).heap[w.heap.size]? = some o ∧ ((((w.alloc o).alloc o').alloc o'').alloc o3).heap[w.heap.size + 1]? = some o' ∧ ((((w.alloc o).alloc o').alloc o'').alloc o3).heap[w.heap.size + 2]? = some o'' ∧ ((((w.alloc o).alloc o').alloc o'').alloc o3).heap[w.heap.size + 3]? = some o3 := by
  obtain ⟨g0, g1⟩ := two_new w o o'
  refine ⟨(Below.heap_alloc _ _ _ (by simp only [alloc1_size]; omega)).trans ((Below.heap_alloc _ _ _ (by simp only [alloc1_size]; omega)).trans g0), (Below.heap_alloc _ _ _ (by simp only [alloc1_size]; omega)).trans ((Below.heap_alloc _ _ _ (by simp only [alloc1_size]; omega)).trans g1), ?_, ?_⟩
  · have := heap_alloc_new ((w.alloc o).alloc o') o''
    simp only [alloc1_size] at this
    exact (Below.heap_alloc _ _ _ (by simp)).trans this
  · have := heap_alloc_new (((w.alloc o).alloc o').alloc o'') o3
    simp only [alloc1_size] at this
    exact this
set_option maxRecDepth 100000 in
set_option maxHeartbeats 4000000 in
theorem rcrash_any (w : World) (X : List Nat) (R : RD) (v : Value) (h : RefV w X R v) (hk : R.Ok) (hX : ∀ x ∈ X, x < w.heap.size) (hs64 : ∀ i (hi : i < R.sure.length), R.sure[i].length = 64) (hn64 : ∀ i (hi : i < R.now.length), R.now[i].length = 64) (Ak : Option Addr) (keep : List Bool) (ck : Nat) (hr : Rd w w.heap.size Ak (keep.map Value.bool)) (torn cut : Int) :
    Calls Try.prog 19 #[v, .slice Ak keep.length ck, .int .i64 torn, .int .i64 cut] w fun e w' => ∃ v', e = .returned v' ∧ RefV w' X (R.crashed keep torn cut) v' ∧ Below w.heap.size w w' := by
  obtain ⟨A1, A2, A3, c1, c2, c3, rfl, h1, h2, h3⟩ := h
  have hmk := makeBools R.now.length hk.n ((w.alloc (.cells #[.slice A1 R.sure.length c1, .slice A2 R.now.length c2, .slice A3 R.fresh.length c3, .int .i64 R.steps, .int .i64 R.left] 33)).alloc (.cells #[.slice none 0 0, .slice none 0 0, .slice none 0 0, .int .i64 0, .int .i64 0] 33))
  have m0 : Mk w ((((w.alloc (.cells #[.slice A1 R.sure.length c1, .slice A2 R.now.length c2, .slice A3 R.fresh.length c3, .int .i64 R.steps, .int .i64 R.left] 33)).alloc (.cells #[.slice none 0 0, .slice none 0 0, .slice none 0 0, .int .i64 0, .int .i64 0] 33)).alloc (.cells (bools (List.replicate R.now.length false)).toArray 4)).alloc (.cells #[.slice none 0 0, .slice none 0 0, (.slice (some ⟨w.heap.size + 2, 0, none⟩) R.now.length R.now.length), .int .i64 0, .int .i64 (-1)] 33)) (w.heap.size + 3) (w.heap.size + 4) (.slice none 0 0) (.slice none 0 0) (.slice (some ⟨w.heap.size + 2, 0, none⟩) R.now.length R.now.length) (.int .i64 0) (.int .i64 (-1)) 0 [] 0 [] :=
    ⟨((((Below.refl _ _).alloc (Nat.le_refl _) _).alloc (by simp) _).alloc (by simp; omega) _).alloc (by simp; omega) _, (four_new w _ _ _ _).2.2.2, by omega, by simp, World.ownsRow_nil _ _ _ _, World.ownsRow_nil _ _ _ _, .inl rfl, .inl rfl⟩
  obtain ⟨d0, d1, d2, _⟩ := four_new w (.cells #[.slice A1 R.sure.length c1, .slice A2 R.now.length c2, .slice A3 R.fresh.length c3, .int .i64 R.steps, .int .i64 R.left] 33) (.cells #[.slice none 0 0, .slice none 0 0, .slice none 0 0, .int .i64 0, .int .i64 0] 33) (.cells (bools (List.replicate R.now.length false)).toArray 4) (.cells #[.slice none 0 0, .slice none 0 0, (.slice (some ⟨w.heap.size + 2, 0, none⟩) R.now.length R.now.length), .int .i64 0, .int .i64 (-1)] 33)
  have HZ := Lib.hid (And.intro m0 (And.intro d0 (And.intro d1 d2)))
  have HH := Lib.hid (And.intro h1 (And.intro h2 (And.intro h3 (And.intro hr (And.intro hX hk)))))
  have H64 := Lib.hid (And.intro hs64 hn64)
  have hn96 : (R.now.length : Int) ≤ 4096 := by have := hk.n; omega
  clear m0 d0 d1 d2 h1 h2 h3 hr hX hs64 hn64 hk
  by_cases hc0 : cut < 0
  · go_enter Try.func19, Try.ntmps19
    go_wp2_with go_in
    clear hmk
    generalize ((((w.alloc (.cells #[.slice A1 R.sure.length c1, .slice A2 R.now.length c2, .slice A3 R.fresh.length c3, .int .i64 R.steps, .int .i64 R.left] 33)).alloc (.cells #[.slice none 0 0, .slice none 0 0, .slice none 0 0, .int .i64 0, .int .i64 0] 33)).alloc (.cells (bools (List.replicate R.now.length false)).toArray 4)).alloc (.cells #[.slice none 0 0, .slice none 0 0, (.slice (some ⟨w.heap.size + 2, 0, none⟩) R.now.length R.now.length), .int .i64 0, .int .i64 (-1)] 33)) = W at HZ ⊢
    go_loopw [10, 11, 12, 25] (fun kc _ _ i wr => ∃ (k : Nat) (vs vn : Value), k ≤ R.now.length ∧ i = .int .i64 (k : Int) ∧ kc = .int .i64 ((upto R.fresh k).length : Int) ∧ Mk w wr (w.heap.size + 3) (w.heap.size + 4) vs vn (.slice (some ⟨w.heap.size + 2, 0, none⟩) R.now.length R.now.length) (.int .i64 0) (.int .i64 (-1)) k (strs (R.lefts keep torn cut k)) k (strs (R.lefts keep torn cut k)) ∧ wr.heap[w.heap.size]? = some (.cells #[.slice A1 R.sure.length c1, .slice A2 R.now.length c2, .slice A3 R.fresh.length c3, .int .i64 R.steps, .int .i64 R.left] 33) ∧ wr.heap[w.heap.size + 1]? = some (.cells #[.slice none 0 0, .slice none 0 0, .slice none 0 0, .int .i64 0, .int .i64 0] 33) ∧ wr.heap[w.heap.size + 2]? = some (.cells (bools (List.replicate R.now.length false)).toArray 4))
      (fun _ _ _ i _ => R.now.length - (intOf i).toNat)
    case atStart => exact ⟨0, _, _, by omega, rfl, rfl, HZ.out.1, HZ.out.2.1, HZ.out.2.2.1, HZ.out.2.2.2⟩
    case round =>
      obtain ⟨k, vs, vn, hkn, rfl, rfl, hm, hd0, hd1, hd2⟩ := hrel
      by_cases hkl : k < R.now.length
      · have hkI : (k : Int) < (R.now.length : Int) := by omega
        have hkb : (k : Int) < 4096 := by omega
        have hkS : k < R.sure.length := by have := HH.out.2.2.2.2.2.sure; omega
        have hkF : k < R.fresh.length := by have := HH.out.2.2.2.2.2.fresh; omega
        have hkSI : (k : Int) < (R.sure.length : Int) := by omega
        have hkFI : (k : Int) < (R.fresh.length : Int) := by omega
        have hbW := hm.below
        obtain ⟨As, cs, rfl, _, _, _⟩ := own_shape hm.s
        obtain ⟨An, cn, rfl, _, _, _⟩ := own_shape hm.n
        obtain ⟨i0, hi, hz0, hz1, hz2⟩ := info_parts infoStr
        have tok1 : True := trivial
        have x0 := cell_of_row wr w.heap.size 0 _ _ _ hd0
        have x1 := cell_of_row wr w.heap.size 1 _ _ _ hd0
        have x2 := cell_of_row wr w.heap.size 2 _ _ _ hd0
        have b0 := cell_of_row wr (w.heap.size + 3) 0 _ _ _ hm.blk
        obtain ⟨p1, o1, rfl, hp1, hq1⟩ := HH.out.1.1.get (k := k) (by simpa using hkS)
        obtain ⟨p2, o2, rfl, hp2, hq2⟩ := HH.out.2.1.1.get (k := k) (by simpa using hkl)
        obtain ⟨p3, o3, rfl, hp3, hq3⟩ := HH.out.2.2.1.1.get (k := k) (by simpa using hkF)
        have hsu : wr.cell? ⟨p1, o1 + k, none⟩ = some (.string ⟨R.sure[k].toArray⟩) := by
          rw [show (Value.string ⟨R.sure[k].toArray⟩) = (strs R.sure)[k]'(by simpa using hkS) by simp [strs], ← hq1]; exact hbW.cell (p := ⟨p1, o1 + k, none⟩) hp1
        have hno : wr.cell? ⟨p2, o2 + k, none⟩ = some (.string ⟨R.now[k].toArray⟩) := by
          rw [show (Value.string ⟨R.now[k].toArray⟩) = (strs R.now)[k]'(by simpa using hkl) by simp [strs], ← hq2]; exact hbW.cell (p := ⟨p2, o2 + k, none⟩) hp2
        have hfr : wr.cell? ⟨p3, o3 + k, none⟩ = some (.bool R.fresh[k]) := by
          rw [show (Value.bool R.fresh[k]) = (bools R.fresh)[k]'(by simpa using hkF) by simp [bools], ← hq3]; exact hbW.cell (p := ⟨p3, o3 + k, none⟩) hp3
        have hsl := H64.out.1 k hkS
        have hnl := H64.out.2 k hkl
        have hlt : R.left1 keep torn cut k = if R.fresh[k] then (if keep[(upto R.fresh k).length]? = some true then R.now[k] else if ((upto R.fresh k).length : Int) = torn then tearL R.sure[k] R.now[k] cut else R.sure[k]) else R.sure[k] := by
          unfold RD.left1
          rw [show R.fresh.getD k false = R.fresh[k] by simp [List.getD, hkF], show R.now.getD k [] = R.now[k] by simp [List.getD, hkl], show R.sure.getD k [] = R.sure[k] by simp [List.getD, hkS]]
        have hup := upto_succ R.fresh k
        rw [show R.fresh.getD k false = R.fresh[k] by simp [List.getD, hkF]] at hup
        have hul := upto_len R.fresh k
        obtain ⟨su, hsu'⟩ : ∃ su, su = R.sure[k] := ⟨_, rfl⟩
        obtain ⟨no, hno'⟩ : ∃ no, no = R.now[k] := ⟨_, rfl⟩
        obtain ⟨fb, hfb'⟩ : ∃ fb, fb = R.fresh[k] := ⟨_, rfl⟩
        rw [← hsu'] at hsu hlt hsl
        rw [← hno'] at hno hlt hnl
        rw [← hfb'] at hfr hlt hup
        obtain ⟨q, hq⟩ : ∃ q, q = (upto R.fresh k).length := ⟨_, rfl⟩
        rw [← hq] at hlt hul ⊢
        have hqb : (q : Int) ≤ 4096 := by omega
        have HM := Lib.hid (And.intro hm (And.intro hd0 (And.intro hd1 hd2)))
        have HK := Lib.hid hkl
        have HQ := Lib.hid hq
        clear hm hd0 hd1 hd2 hsu' hno' hfb' hq1 hq2 hq3 hp1 hp2 hp3 hul hq hbW
        cases fb with
        | false =>
          have HL := Lib.hid (hlt.trans (if_neg (by simp)))
          have HU := Lib.hid (show (upto R.fresh (k + 1)).length = q by rw [hup, HQ.out]; simp)
          clear hlt hup hno hnl hsl
          go_wp2_with (first
            | (at_builtin; have _t := tok1; refine wpList_appR _ rfl (.tmp 74) (.tmp 76) _ rfl (w.heap.size + 4) 9 i0 _ 1 16 Try.underlying30 hi hz0 hz1 hz2 rfl (by omega) (.slice As k cs) k (strs (R.lefts keep torn cut k)) rfl (World.ownsRow.alloc HM.out.1.s _) (wr.heap.size + 1) (some ⟨wr.heap.size, 0, none⟩) 1 1 [.string ⟨su.toArray⟩] rfl rfl (Rd.new wr #[.string ⟨su.toArray⟩] 9 (0, 0)) (by simp [Value.oneCell']) (by have := HK.out; have := HH.out.2.2.2.2.2.n; omega) (by omega) (by have := HM.out.1.size; simp; omega) ?_; intro v5 w5 hown5 hg5 ha5; obtain ⟨g5, c5, rfl, _, _, _, _⟩ := own_form hown5 (by omega); have hm5 := HM.out.1.app0 (w1 := wr.alloc (.cells #[.string ⟨su.toArray⟩] 9)) ((Below.refl _ _).alloc (Nat.le_refl _) _) hown5 hg5 ha5 (by omega); have ho5 := (hg5.block (w.heap.size + 3) (by have := HM.out.1.lt; have := HM.out.1.size; simp; omega) (by intro e; have := HM.out.1.lt; have := (World.ownsRow.lt HM.out.1.s _ e.symm).1; omega)).trans (((Below.refl _ wr).alloc (Nat.le_refl _) (.cells #[.string ⟨su.toArray⟩] 9)).block (w.heap.size + 3) (by have := HM.out.1.lt; have := HM.out.1.size; omega) |>.trans HM.out.1.blk); have e5 := cell_of_row w5 (w.heap.size + 3) 0 _ _ _ ho5; have f5 := frozen_of_row w5 (w.heap.size + 3) 0 _ _ ho5; have s5 : (w5.setCell ⟨w.heap.size + 3, 0, none⟩ (.slice (some ⟨g5, 0, none⟩) (k + 1) c5)).heap.size = w5.heap.size := (by simp [World.setCell]); have b1 := cell_of_row (w5.setCell ⟨w.heap.size + 3, 0, none⟩ (.slice (some ⟨g5, 0, none⟩) (k + 1) c5)) (w.heap.size + 3) 1 _ _ _ hm5.1.blk; have hr5 : Rd ((w5.setCell ⟨w.heap.size + 3, 0, none⟩ (.slice (some ⟨g5, 0, none⟩) (k + 1) c5)).alloc (.cells #[.string ⟨su.toArray⟩] 9)) (w5.heap.size + 1) (some ⟨w5.heap.size, 0, none⟩) [.string ⟨su.toArray⟩] := (by have := Rd.new (w5.setCell ⟨w.heap.size + 3, 0, none⟩ (.slice (some ⟨g5, 0, none⟩) (k + 1) c5)) #[.string ⟨su.toArray⟩] 9 (0, 0); rw [s5] at this; exact this); have hz5 := hm5.1.size; rw [s5] at hz5; have HM5 := Lib.hid hm5; clear hm5 ho5 hown5 hg5 ha5 tok1 _t)
            | (at_builtin; refine wpList_appR _ rfl (.tmp 80) (.tmp 82) _ rfl (w.heap.size + 4) 9 i0 _ 1 16 Try.underlying30 hi hz0 hz1 hz2 rfl (by omega) (.slice An k cn) k (strs (R.lefts keep torn cut k)) rfl (World.ownsRow.alloc HM5.out.1.n _) (w5.heap.size + 1) (some ⟨w5.heap.size, 0, none⟩) 1 1 [.string ⟨su.toArray⟩] rfl rfl hr5 (by simp [Value.oneCell']) (by have := HK.out; have := HH.out.2.2.2.2.2.n; omega) (by omega) (by simp [World.setCell]; omega) ?_; intro v6 w6 hown6 hg6 ha6; obtain ⟨g6, c6, rfl, _, _, _, _⟩ := own_form hown6 (by omega); have hm6 := HM5.out.1.app1 (w1 := (w5.setCell ⟨w.heap.size + 3, 0, none⟩ (.slice (some ⟨g5, 0, none⟩) (k + 1) c5)).alloc (.cells #[.string ⟨su.toArray⟩] 9)) ((Below.refl _ _).alloc (Nat.le_refl _) _) hown6 hg6 ha6 (by omega); have ho6 := (hg6.block (w.heap.size + 3) (by have := HM5.out.1.lt; simp [World.setCell]; omega) (by intro e; have := HM5.out.1.lt; have := (World.ownsRow.lt HM5.out.1.n _ e.symm).1; omega)).trans (((Below.refl _ (w5.setCell ⟨w.heap.size + 3, 0, none⟩ (.slice (some ⟨g5, 0, none⟩) (k + 1) c5))).alloc (Nat.le_refl _) (.cells #[.string ⟨su.toArray⟩] 9)).block (w.heap.size + 3) (by have := HM5.out.1.lt; have := HM5.out.1.size; omega) |>.trans HM5.out.1.blk); have e6 := cell_of_row w6 (w.heap.size + 3) 1 _ _ _ ho6; have f6 := frozen_of_row w6 (w.heap.size + 3) 1 _ _ ho6; have HM6 := Lib.hid hm6; clear hm6 ho6 hown6 hg6 ha6)
            | go_in)
          have hm7 := HM6.out.1
          have hEq : strs (R.lefts keep torn cut k) ++ [.string ⟨su.toArray⟩] = strs (R.lefts keep torn cut (k + 1)) := by rw [← RD.lefts_succ, HL.out]
          rw [hEq] at hm7
          have d0' := (HM6.out.2 w.heap.size (by omega) (by omega)).trans ((HM5.out.2 w.heap.size (by omega) (by omega)).trans HM.out.2.1)
          have d1' := (HM6.out.2 (w.heap.size + 1) (by omega) (by omega)).trans ((HM5.out.2 (w.heap.size + 1) (by omega) (by omega)).trans HM.out.2.2.1)
          have d2' := (HM6.out.2 (w.heap.size + 2) (by omega) (by omega)).trans ((HM5.out.2 (w.heap.size + 2) (by omega) (by omega)).trans HM.out.2.2.2)
          exact ⟨⟨k + 1, _, _, HK.out, by simp, by rw [HU.out], hm7, d0', d1', d2'⟩, by simp [intOf]; have := HK.out; omega⟩
        | true =>
          have HU := Lib.hid (show (upto R.fresh (k + 1)).length = q + 1 by rw [hup, HQ.out]; simp)
          rw [if_pos rfl] at hlt
          clear hup
          by_cases hkp : keep[q]? = some true
          · have hql : q < keep.length := (List.getElem?_eq_some_iff.1 hkp).1
            have hqI : (q : Int) < (keep.length : Int) := by omega
            obtain ⟨p4, o4, rfl, hp4, hq4⟩ := HH.out.2.2.2.1.get (k := q) (by simpa using hql)
            have hke : wr.cell? ⟨p4, o4 + q, none⟩ = some (.bool true) := by
              have e1 : keep[q] = true := by rw [List.getElem?_eq_getElem hql] at hkp; injection hkp
              rw [show (Value.bool true) = (keep.map Value.bool)[q]'(by simpa using hql) by simp [e1], ← hq4]; exact HM.out.1.below.cell (p := ⟨p4, o4 + q, none⟩) hp4
            have HL := Lib.hid (hlt.trans (if_pos hkp))
            clear hlt hkp hql hp4 hq4 hsl hnl
            go_wp2_with (first
              | (at_builtin; have _t := tok1; refine wpList_appR _ rfl (.tmp 74) (.tmp 76) _ rfl (w.heap.size + 4) 9 i0 _ 1 16 Try.underlying30 hi hz0 hz1 hz2 rfl (by omega) (.slice As k cs) k (strs (R.lefts keep torn cut k)) rfl (World.ownsRow.alloc HM.out.1.s _) (wr.heap.size + 1) (some ⟨wr.heap.size, 0, none⟩) 1 1 [.string ⟨no.toArray⟩] rfl rfl (Rd.new wr #[.string ⟨no.toArray⟩] 9 (0, 0)) (by simp [Value.oneCell']) (by have := HK.out; have := HH.out.2.2.2.2.2.n; omega) (by omega) (by have := HM.out.1.size; simp; omega) ?_; intro v5 w5 hown5 hg5 ha5; obtain ⟨g5, c5, rfl, _, _, _, _⟩ := own_form hown5 (by omega); have hm5 := HM.out.1.app0 (w1 := wr.alloc (.cells #[.string ⟨no.toArray⟩] 9)) ((Below.refl _ _).alloc (Nat.le_refl _) _) hown5 hg5 ha5 (by omega); have ho5 := (hg5.block (w.heap.size + 3) (by have := HM.out.1.lt; have := HM.out.1.size; simp; omega) (by intro e; have := HM.out.1.lt; have := (World.ownsRow.lt HM.out.1.s _ e.symm).1; omega)).trans (((Below.refl _ wr).alloc (Nat.le_refl _) (.cells #[.string ⟨no.toArray⟩] 9)).block (w.heap.size + 3) (by have := HM.out.1.lt; have := HM.out.1.size; omega) |>.trans HM.out.1.blk); have e5 := cell_of_row w5 (w.heap.size + 3) 0 _ _ _ ho5; have f5 := frozen_of_row w5 (w.heap.size + 3) 0 _ _ ho5; have s5 : (w5.setCell ⟨w.heap.size + 3, 0, none⟩ (.slice (some ⟨g5, 0, none⟩) (k + 1) c5)).heap.size = w5.heap.size := (by simp [World.setCell]); have b1 := cell_of_row (w5.setCell ⟨w.heap.size + 3, 0, none⟩ (.slice (some ⟨g5, 0, none⟩) (k + 1) c5)) (w.heap.size + 3) 1 _ _ _ hm5.1.blk; have hr5 : Rd ((w5.setCell ⟨w.heap.size + 3, 0, none⟩ (.slice (some ⟨g5, 0, none⟩) (k + 1) c5)).alloc (.cells #[.string ⟨no.toArray⟩] 9)) (w5.heap.size + 1) (some ⟨w5.heap.size, 0, none⟩) [.string ⟨no.toArray⟩] := (by have := Rd.new (w5.setCell ⟨w.heap.size + 3, 0, none⟩ (.slice (some ⟨g5, 0, none⟩) (k + 1) c5)) #[.string ⟨no.toArray⟩] 9 (0, 0); rw [s5] at this; exact this); have hz5 := hm5.1.size; rw [s5] at hz5; have HM5 := Lib.hid hm5; clear hm5 ho5 hown5 hg5 ha5 tok1 _t)
              | (at_builtin; refine wpList_appR _ rfl (.tmp 80) (.tmp 82) _ rfl (w.heap.size + 4) 9 i0 _ 1 16 Try.underlying30 hi hz0 hz1 hz2 rfl (by omega) (.slice An k cn) k (strs (R.lefts keep torn cut k)) rfl (World.ownsRow.alloc HM5.out.1.n _) (w5.heap.size + 1) (some ⟨w5.heap.size, 0, none⟩) 1 1 [.string ⟨no.toArray⟩] rfl rfl hr5 (by simp [Value.oneCell']) (by have := HK.out; have := HH.out.2.2.2.2.2.n; omega) (by omega) (by simp [World.setCell]; omega) ?_; intro v6 w6 hown6 hg6 ha6; obtain ⟨g6, c6, rfl, _, _, _, _⟩ := own_form hown6 (by omega); have hm6 := HM5.out.1.app1 (w1 := (w5.setCell ⟨w.heap.size + 3, 0, none⟩ (.slice (some ⟨g5, 0, none⟩) (k + 1) c5)).alloc (.cells #[.string ⟨no.toArray⟩] 9)) ((Below.refl _ _).alloc (Nat.le_refl _) _) hown6 hg6 ha6 (by omega); have ho6 := (hg6.block (w.heap.size + 3) (by have := HM5.out.1.lt; simp [World.setCell]; omega) (by intro e; have := HM5.out.1.lt; have := (World.ownsRow.lt HM5.out.1.n _ e.symm).1; omega)).trans (((Below.refl _ (w5.setCell ⟨w.heap.size + 3, 0, none⟩ (.slice (some ⟨g5, 0, none⟩) (k + 1) c5))).alloc (Nat.le_refl _) (.cells #[.string ⟨no.toArray⟩] 9)).block (w.heap.size + 3) (by have := HM5.out.1.lt; have := HM5.out.1.size; omega) |>.trans HM5.out.1.blk); have e6 := cell_of_row w6 (w.heap.size + 3) 1 _ _ _ ho6; have f6 := frozen_of_row w6 (w.heap.size + 3) 1 _ _ ho6; have HM6 := Lib.hid hm6; clear hm6 ho6 hown6 hg6 ha6)
              | go_in)
            have hm7 := HM6.out.1
            have hEq : strs (R.lefts keep torn cut k) ++ [.string ⟨no.toArray⟩] = strs (R.lefts keep torn cut (k + 1)) := by rw [← RD.lefts_succ, HL.out]
            rw [hEq] at hm7
            have d0' := (HM6.out.2 w.heap.size (by omega) (by omega)).trans ((HM5.out.2 w.heap.size (by omega) (by omega)).trans HM.out.2.1)
            have d1' := (HM6.out.2 (w.heap.size + 1) (by omega) (by omega)).trans ((HM5.out.2 (w.heap.size + 1) (by omega) (by omega)).trans HM.out.2.2.1)
            have d2' := (HM6.out.2 (w.heap.size + 2) (by omega) (by omega)).trans ((HM5.out.2 (w.heap.size + 2) (by omega) (by omega)).trans HM.out.2.2.2)
            exact ⟨⟨k + 1, _, _, HK.out, by simp, by rw [HU.out]; simp, hm7, d0', d1', d2'⟩, by simp [intOf]; have := HK.out; omega⟩
          · rw [if_neg hkp] at hlt
            by_cases hql : q < keep.length
            · have hqI : (q : Int) < (keep.length : Int) := by omega
              obtain ⟨p4, o4, rfl, hp4, hq4⟩ := HH.out.2.2.2.1.get (k := q) (by simpa using hql)
              have hke : wr.cell? ⟨p4, o4 + q, none⟩ = some (.bool false) := by
                have e1 : keep[q] = false := by rw [List.getElem?_eq_getElem hql] at hkp; cases h : keep[q] with | false => rfl | true => rw [h] at hkp; exact absurd rfl hkp
                rw [show (Value.bool false) = (keep.map Value.bool)[q]'(by simpa using hql) by simp [e1], ← hq4]; exact HM.out.1.below.cell (p := ⟨p4, o4 + q, none⟩) hp4
              clear hkp hql hp4 hq4
              by_cases hto : (q : Int) = torn
              · subst hto
                rw [if_pos rfl] at hlt
                have HL := Lib.hid hlt
                have hnlI : (no.length : Int) = 64 := by omega
                have hslI : (su.length : Int) = 64 := by omega
                have hsz1 : (⟨no.toArray⟩ : ByteArray).size = 64 := hnl
                have hsz2 : (⟨su.toArray⟩ : ByteArray).size = 64 := hsl
                clear hlt
                go_upto_region 15 with go_in
                go_quiet (fail)
                rw [tear_bytes0 no su cut (by omega) hsl]
                have hm' := HM.out.1.drewN nq
                have HM2 := Lib.hid (And.intro hm' (And.intro (show (wr.drewN nq).heap[w.heap.size]? = _ from HM.out.2.1) (And.intro (show (wr.drewN nq).heap[w.heap.size + 1]? = _ from HM.out.2.2.1) (show (wr.drewN nq).heap[w.heap.size + 2]? = _ from HM.out.2.2.2))))
                clear hm' HM b0 x0 x1 x2 hsu hno hfr
                generalize wr.drewN nq = wq at HM2 ⊢
                have b0 := cell_of_row wq (w.heap.size + 3) 0 _ _ _ HM2.out.1.blk
                go_wp2_with (first
                  | (at_builtin; have _t := tok1; refine wpList_appR _ rfl (.tmp 74) (.tmp 76) _ rfl (w.heap.size + 4) 9 i0 _ 1 16 Try.underlying30 hi hz0 hz1 hz2 rfl (by omega) (.slice As k cs) k (strs (R.lefts keep (q : Int) cut k)) rfl (World.ownsRow.alloc HM2.out.1.s _) (wq.heap.size + 1) (some ⟨wq.heap.size, 0, none⟩) 1 1 [.string ⟨(tearL su no cut).toArray⟩] rfl rfl (Rd.new wq #[.string ⟨(tearL su no cut).toArray⟩] 9 (0, 0)) (by simp [Value.oneCell']) (by have := HK.out; have := HH.out.2.2.2.2.2.n; omega) (by omega) (by have := HM2.out.1.size; simp; omega) ?_; intro v5 w5 hown5 hg5 ha5; obtain ⟨g5, c5, rfl, _, _, _, _⟩ := own_form hown5 (by omega); have hm5 := HM2.out.1.app0 (w1 := wq.alloc (.cells #[.string ⟨(tearL su no cut).toArray⟩] 9)) ((Below.refl _ _).alloc (Nat.le_refl _) _) hown5 hg5 ha5 (by omega); have ho5 := (hg5.block (w.heap.size + 3) (by have := HM2.out.1.lt; have := HM2.out.1.size; simp; omega) (by intro e; have := HM2.out.1.lt; have := (World.ownsRow.lt HM2.out.1.s _ e.symm).1; omega)).trans (((Below.refl _ wq).alloc (Nat.le_refl _) (.cells #[.string ⟨(tearL su no cut).toArray⟩] 9)).block (w.heap.size + 3) (by have := HM2.out.1.lt; have := HM2.out.1.size; omega) |>.trans HM2.out.1.blk); have e5 := cell_of_row w5 (w.heap.size + 3) 0 _ _ _ ho5; have f5 := frozen_of_row w5 (w.heap.size + 3) 0 _ _ ho5; have s5 : (w5.setCell ⟨w.heap.size + 3, 0, none⟩ (.slice (some ⟨g5, 0, none⟩) (k + 1) c5)).heap.size = w5.heap.size := (by simp [World.setCell]); have b1 := cell_of_row (w5.setCell ⟨w.heap.size + 3, 0, none⟩ (.slice (some ⟨g5, 0, none⟩) (k + 1) c5)) (w.heap.size + 3) 1 _ _ _ hm5.1.blk; have hr5 : Rd ((w5.setCell ⟨w.heap.size + 3, 0, none⟩ (.slice (some ⟨g5, 0, none⟩) (k + 1) c5)).alloc (.cells #[.string ⟨(tearL su no cut).toArray⟩] 9)) (w5.heap.size + 1) (some ⟨w5.heap.size, 0, none⟩) [.string ⟨(tearL su no cut).toArray⟩] := (by have := Rd.new (w5.setCell ⟨w.heap.size + 3, 0, none⟩ (.slice (some ⟨g5, 0, none⟩) (k + 1) c5)) #[.string ⟨(tearL su no cut).toArray⟩] 9 (0, 0); rw [s5] at this; exact this); have hz5 := hm5.1.size; rw [s5] at hz5; have HM5 := Lib.hid hm5; clear hm5 ho5 hown5 hg5 ha5 tok1 _t)
                  | (at_builtin; refine wpList_appR _ rfl (.tmp 80) (.tmp 82) _ rfl (w.heap.size + 4) 9 i0 _ 1 16 Try.underlying30 hi hz0 hz1 hz2 rfl (by omega) (.slice An k cn) k (strs (R.lefts keep (q : Int) cut k)) rfl (World.ownsRow.alloc HM5.out.1.n _) (w5.heap.size + 1) (some ⟨w5.heap.size, 0, none⟩) 1 1 [.string ⟨(tearL su no cut).toArray⟩] rfl rfl hr5 (by simp [Value.oneCell']) (by have := HK.out; have := HH.out.2.2.2.2.2.n; omega) (by omega) (by simp [World.setCell]; omega) ?_; intro v6 w6 hown6 hg6 ha6; obtain ⟨g6, c6, rfl, _, _, _, _⟩ := own_form hown6 (by omega); have hm6 := HM5.out.1.app1 (w1 := (w5.setCell ⟨w.heap.size + 3, 0, none⟩ (.slice (some ⟨g5, 0, none⟩) (k + 1) c5)).alloc (.cells #[.string ⟨(tearL su no cut).toArray⟩] 9)) ((Below.refl _ _).alloc (Nat.le_refl _) _) hown6 hg6 ha6 (by omega); have ho6 := (hg6.block (w.heap.size + 3) (by have := HM5.out.1.lt; simp [World.setCell]; omega) (by intro e; have := HM5.out.1.lt; have := (World.ownsRow.lt HM5.out.1.n _ e.symm).1; omega)).trans (((Below.refl _ (w5.setCell ⟨w.heap.size + 3, 0, none⟩ (.slice (some ⟨g5, 0, none⟩) (k + 1) c5))).alloc (Nat.le_refl _) (.cells #[.string ⟨(tearL su no cut).toArray⟩] 9)).block (w.heap.size + 3) (by have := HM5.out.1.lt; have := HM5.out.1.size; omega) |>.trans HM5.out.1.blk); have e6 := cell_of_row w6 (w.heap.size + 3) 1 _ _ _ ho6; have f6 := frozen_of_row w6 (w.heap.size + 3) 1 _ _ ho6; have HM6 := Lib.hid hm6; clear hm6 ho6 hown6 hg6 ha6)
                  | go_in)
                have hm7 := HM6.out.1
                have hEq : strs (R.lefts keep (q : Int) cut k) ++ [.string ⟨(tearL su no cut).toArray⟩] = strs (R.lefts keep (q : Int) cut (k + 1)) := by rw [← RD.lefts_succ, HL.out]
                rw [hEq] at hm7
                have d0' := (HM6.out.2 w.heap.size (by omega) (by omega)).trans ((HM5.out.2 w.heap.size (by omega) (by omega)).trans HM2.out.2.1)
                have d1' := (HM6.out.2 (w.heap.size + 1) (by omega) (by omega)).trans ((HM5.out.2 (w.heap.size + 1) (by omega) (by omega)).trans HM2.out.2.2.1)
                have d2' := (HM6.out.2 (w.heap.size + 2) (by omega) (by omega)).trans ((HM5.out.2 (w.heap.size + 2) (by omega) (by omega)).trans HM2.out.2.2.2)
                exact ⟨⟨k + 1, _, _, HK.out, by simp, by rw [HU.out]; simp, hm7, d0', d1', d2'⟩, by simp [intOf]; have := HK.out; omega⟩
              · rw [if_neg hto] at hlt
                have HL := Lib.hid hlt
                have htb : ((q : Int) == torn) = false := beq_eq_false_iff_ne.2 hto
                clear hlt hno hnl hsl
                go_wp2_with (first
                  | (at_builtin; have _t := tok1; refine wpList_appR _ rfl (.tmp 74) (.tmp 76) _ rfl (w.heap.size + 4) 9 i0 _ 1 16 Try.underlying30 hi hz0 hz1 hz2 rfl (by omega) (.slice As k cs) k (strs (R.lefts keep torn cut k)) rfl (World.ownsRow.alloc HM.out.1.s _) (wr.heap.size + 1) (some ⟨wr.heap.size, 0, none⟩) 1 1 [.string ⟨su.toArray⟩] rfl rfl (Rd.new wr #[.string ⟨su.toArray⟩] 9 (0, 0)) (by simp [Value.oneCell']) (by have := HK.out; have := HH.out.2.2.2.2.2.n; omega) (by omega) (by have := HM.out.1.size; simp; omega) ?_; intro v5 w5 hown5 hg5 ha5; obtain ⟨g5, c5, rfl, _, _, _, _⟩ := own_form hown5 (by omega); have hm5 := HM.out.1.app0 (w1 := wr.alloc (.cells #[.string ⟨su.toArray⟩] 9)) ((Below.refl _ _).alloc (Nat.le_refl _) _) hown5 hg5 ha5 (by omega); have ho5 := (hg5.block (w.heap.size + 3) (by have := HM.out.1.lt; have := HM.out.1.size; simp; omega) (by intro e; have := HM.out.1.lt; have := (World.ownsRow.lt HM.out.1.s _ e.symm).1; omega)).trans (((Below.refl _ wr).alloc (Nat.le_refl _) (.cells #[.string ⟨su.toArray⟩] 9)).block (w.heap.size + 3) (by have := HM.out.1.lt; have := HM.out.1.size; omega) |>.trans HM.out.1.blk); have e5 := cell_of_row w5 (w.heap.size + 3) 0 _ _ _ ho5; have f5 := frozen_of_row w5 (w.heap.size + 3) 0 _ _ ho5; have s5 : (w5.setCell ⟨w.heap.size + 3, 0, none⟩ (.slice (some ⟨g5, 0, none⟩) (k + 1) c5)).heap.size = w5.heap.size := (by simp [World.setCell]); have b1 := cell_of_row (w5.setCell ⟨w.heap.size + 3, 0, none⟩ (.slice (some ⟨g5, 0, none⟩) (k + 1) c5)) (w.heap.size + 3) 1 _ _ _ hm5.1.blk; have hr5 : Rd ((w5.setCell ⟨w.heap.size + 3, 0, none⟩ (.slice (some ⟨g5, 0, none⟩) (k + 1) c5)).alloc (.cells #[.string ⟨su.toArray⟩] 9)) (w5.heap.size + 1) (some ⟨w5.heap.size, 0, none⟩) [.string ⟨su.toArray⟩] := (by have := Rd.new (w5.setCell ⟨w.heap.size + 3, 0, none⟩ (.slice (some ⟨g5, 0, none⟩) (k + 1) c5)) #[.string ⟨su.toArray⟩] 9 (0, 0); rw [s5] at this; exact this); have hz5 := hm5.1.size; rw [s5] at hz5; have HM5 := Lib.hid hm5; clear hm5 ho5 hown5 hg5 ha5 tok1 _t)
                  | (at_builtin; refine wpList_appR _ rfl (.tmp 80) (.tmp 82) _ rfl (w.heap.size + 4) 9 i0 _ 1 16 Try.underlying30 hi hz0 hz1 hz2 rfl (by omega) (.slice An k cn) k (strs (R.lefts keep torn cut k)) rfl (World.ownsRow.alloc HM5.out.1.n _) (w5.heap.size + 1) (some ⟨w5.heap.size, 0, none⟩) 1 1 [.string ⟨su.toArray⟩] rfl rfl hr5 (by simp [Value.oneCell']) (by have := HK.out; have := HH.out.2.2.2.2.2.n; omega) (by omega) (by simp [World.setCell]; omega) ?_; intro v6 w6 hown6 hg6 ha6; obtain ⟨g6, c6, rfl, _, _, _, _⟩ := own_form hown6 (by omega); have hm6 := HM5.out.1.app1 (w1 := (w5.setCell ⟨w.heap.size + 3, 0, none⟩ (.slice (some ⟨g5, 0, none⟩) (k + 1) c5)).alloc (.cells #[.string ⟨su.toArray⟩] 9)) ((Below.refl _ _).alloc (Nat.le_refl _) _) hown6 hg6 ha6 (by omega); have ho6 := (hg6.block (w.heap.size + 3) (by have := HM5.out.1.lt; simp [World.setCell]; omega) (by intro e; have := HM5.out.1.lt; have := (World.ownsRow.lt HM5.out.1.n _ e.symm).1; omega)).trans (((Below.refl _ (w5.setCell ⟨w.heap.size + 3, 0, none⟩ (.slice (some ⟨g5, 0, none⟩) (k + 1) c5))).alloc (Nat.le_refl _) (.cells #[.string ⟨su.toArray⟩] 9)).block (w.heap.size + 3) (by have := HM5.out.1.lt; have := HM5.out.1.size; omega) |>.trans HM5.out.1.blk); have e6 := cell_of_row w6 (w.heap.size + 3) 1 _ _ _ ho6; have f6 := frozen_of_row w6 (w.heap.size + 3) 1 _ _ ho6; have HM6 := Lib.hid hm6; clear hm6 ho6 hown6 hg6 ha6)
                  | go_in)
                have hm7 := HM6.out.1
                have hEq : strs (R.lefts keep torn cut k) ++ [.string ⟨su.toArray⟩] = strs (R.lefts keep torn cut (k + 1)) := by rw [← RD.lefts_succ, HL.out]
                rw [hEq] at hm7
                have d0' := (HM6.out.2 w.heap.size (by omega) (by omega)).trans ((HM5.out.2 w.heap.size (by omega) (by omega)).trans HM.out.2.1)
                have d1' := (HM6.out.2 (w.heap.size + 1) (by omega) (by omega)).trans ((HM5.out.2 (w.heap.size + 1) (by omega) (by omega)).trans HM.out.2.2.1)
                have d2' := (HM6.out.2 (w.heap.size + 2) (by omega) (by omega)).trans ((HM5.out.2 (w.heap.size + 2) (by omega) (by omega)).trans HM.out.2.2.2)
                exact ⟨⟨k + 1, _, _, HK.out, by simp, by rw [HU.out]; simp, hm7, d0', d1', d2'⟩, by simp [intOf]; have := HK.out; omega⟩
            · have hqI : ¬ ((q : Int) < (keep.length : Int)) := by omega
              clear hkp hql
              by_cases hto : (q : Int) = torn
              · subst hto
                rw [if_pos rfl] at hlt
                have HL := Lib.hid hlt
                have hnlI : (no.length : Int) = 64 := by omega
                have hslI : (su.length : Int) = 64 := by omega
                have hsz1 : (⟨no.toArray⟩ : ByteArray).size = 64 := hnl
                have hsz2 : (⟨su.toArray⟩ : ByteArray).size = 64 := hsl
                clear hlt
                go_upto_region 15 with go_in
                go_quiet (fail)
                rw [tear_bytes0 no su cut (by omega) hsl]
                have hm' := HM.out.1.drewN nq
                have HM2 := Lib.hid (And.intro hm' (And.intro (show (wr.drewN nq).heap[w.heap.size]? = _ from HM.out.2.1) (And.intro (show (wr.drewN nq).heap[w.heap.size + 1]? = _ from HM.out.2.2.1) (show (wr.drewN nq).heap[w.heap.size + 2]? = _ from HM.out.2.2.2))))
                clear hm' HM b0 x0 x1 x2 hsu hno hfr
                generalize wr.drewN nq = wq at HM2 ⊢
                have b0 := cell_of_row wq (w.heap.size + 3) 0 _ _ _ HM2.out.1.blk
                go_wp2_with (first
                  | (at_builtin; have _t := tok1; refine wpList_appR _ rfl (.tmp 74) (.tmp 76) _ rfl (w.heap.size + 4) 9 i0 _ 1 16 Try.underlying30 hi hz0 hz1 hz2 rfl (by omega) (.slice As k cs) k (strs (R.lefts keep (q : Int) cut k)) rfl (World.ownsRow.alloc HM2.out.1.s _) (wq.heap.size + 1) (some ⟨wq.heap.size, 0, none⟩) 1 1 [.string ⟨(tearL su no cut).toArray⟩] rfl rfl (Rd.new wq #[.string ⟨(tearL su no cut).toArray⟩] 9 (0, 0)) (by simp [Value.oneCell']) (by have := HK.out; have := HH.out.2.2.2.2.2.n; omega) (by omega) (by have := HM2.out.1.size; simp; omega) ?_; intro v5 w5 hown5 hg5 ha5; obtain ⟨g5, c5, rfl, _, _, _, _⟩ := own_form hown5 (by omega); have hm5 := HM2.out.1.app0 (w1 := wq.alloc (.cells #[.string ⟨(tearL su no cut).toArray⟩] 9)) ((Below.refl _ _).alloc (Nat.le_refl _) _) hown5 hg5 ha5 (by omega); have ho5 := (hg5.block (w.heap.size + 3) (by have := HM2.out.1.lt; have := HM2.out.1.size; simp; omega) (by intro e; have := HM2.out.1.lt; have := (World.ownsRow.lt HM2.out.1.s _ e.symm).1; omega)).trans (((Below.refl _ wq).alloc (Nat.le_refl _) (.cells #[.string ⟨(tearL su no cut).toArray⟩] 9)).block (w.heap.size + 3) (by have := HM2.out.1.lt; have := HM2.out.1.size; omega) |>.trans HM2.out.1.blk); have e5 := cell_of_row w5 (w.heap.size + 3) 0 _ _ _ ho5; have f5 := frozen_of_row w5 (w.heap.size + 3) 0 _ _ ho5; have s5 : (w5.setCell ⟨w.heap.size + 3, 0, none⟩ (.slice (some ⟨g5, 0, none⟩) (k + 1) c5)).heap.size = w5.heap.size := (by simp [World.setCell]); have b1 := cell_of_row (w5.setCell ⟨w.heap.size + 3, 0, none⟩ (.slice (some ⟨g5, 0, none⟩) (k + 1) c5)) (w.heap.size + 3) 1 _ _ _ hm5.1.blk; have hr5 : Rd ((w5.setCell ⟨w.heap.size + 3, 0, none⟩ (.slice (some ⟨g5, 0, none⟩) (k + 1) c5)).alloc (.cells #[.string ⟨(tearL su no cut).toArray⟩] 9)) (w5.heap.size + 1) (some ⟨w5.heap.size, 0, none⟩) [.string ⟨(tearL su no cut).toArray⟩] := (by have := Rd.new (w5.setCell ⟨w.heap.size + 3, 0, none⟩ (.slice (some ⟨g5, 0, none⟩) (k + 1) c5)) #[.string ⟨(tearL su no cut).toArray⟩] 9 (0, 0); rw [s5] at this; exact this); have hz5 := hm5.1.size; rw [s5] at hz5; have HM5 := Lib.hid hm5; clear hm5 ho5 hown5 hg5 ha5 tok1 _t)
                  | (at_builtin; refine wpList_appR _ rfl (.tmp 80) (.tmp 82) _ rfl (w.heap.size + 4) 9 i0 _ 1 16 Try.underlying30 hi hz0 hz1 hz2 rfl (by omega) (.slice An k cn) k (strs (R.lefts keep (q : Int) cut k)) rfl (World.ownsRow.alloc HM5.out.1.n _) (w5.heap.size + 1) (some ⟨w5.heap.size, 0, none⟩) 1 1 [.string ⟨(tearL su no cut).toArray⟩] rfl rfl hr5 (by simp [Value.oneCell']) (by have := HK.out; have := HH.out.2.2.2.2.2.n; omega) (by omega) (by simp [World.setCell]; omega) ?_; intro v6 w6 hown6 hg6 ha6; obtain ⟨g6, c6, rfl, _, _, _, _⟩ := own_form hown6 (by omega); have hm6 := HM5.out.1.app1 (w1 := (w5.setCell ⟨w.heap.size + 3, 0, none⟩ (.slice (some ⟨g5, 0, none⟩) (k + 1) c5)).alloc (.cells #[.string ⟨(tearL su no cut).toArray⟩] 9)) ((Below.refl _ _).alloc (Nat.le_refl _) _) hown6 hg6 ha6 (by omega); have ho6 := (hg6.block (w.heap.size + 3) (by have := HM5.out.1.lt; simp [World.setCell]; omega) (by intro e; have := HM5.out.1.lt; have := (World.ownsRow.lt HM5.out.1.n _ e.symm).1; omega)).trans (((Below.refl _ (w5.setCell ⟨w.heap.size + 3, 0, none⟩ (.slice (some ⟨g5, 0, none⟩) (k + 1) c5))).alloc (Nat.le_refl _) (.cells #[.string ⟨(tearL su no cut).toArray⟩] 9)).block (w.heap.size + 3) (by have := HM5.out.1.lt; have := HM5.out.1.size; omega) |>.trans HM5.out.1.blk); have e6 := cell_of_row w6 (w.heap.size + 3) 1 _ _ _ ho6; have f6 := frozen_of_row w6 (w.heap.size + 3) 1 _ _ ho6; have HM6 := Lib.hid hm6; clear hm6 ho6 hown6 hg6 ha6)
                  | go_in)
                have hm7 := HM6.out.1
                have hEq : strs (R.lefts keep (q : Int) cut k) ++ [.string ⟨(tearL su no cut).toArray⟩] = strs (R.lefts keep (q : Int) cut (k + 1)) := by rw [← RD.lefts_succ, HL.out]
                rw [hEq] at hm7
                have d0' := (HM6.out.2 w.heap.size (by omega) (by omega)).trans ((HM5.out.2 w.heap.size (by omega) (by omega)).trans HM2.out.2.1)
                have d1' := (HM6.out.2 (w.heap.size + 1) (by omega) (by omega)).trans ((HM5.out.2 (w.heap.size + 1) (by omega) (by omega)).trans HM2.out.2.2.1)
                have d2' := (HM6.out.2 (w.heap.size + 2) (by omega) (by omega)).trans ((HM5.out.2 (w.heap.size + 2) (by omega) (by omega)).trans HM2.out.2.2.2)
                exact ⟨⟨k + 1, _, _, HK.out, by simp, by rw [HU.out]; simp, hm7, d0', d1', d2'⟩, by simp [intOf]; have := HK.out; omega⟩
              · rw [if_neg hto] at hlt
                have HL := Lib.hid hlt
                have htb : ((q : Int) == torn) = false := beq_eq_false_iff_ne.2 hto
                clear hlt hno hnl hsl
                go_wp2_with (first
                  | (at_builtin; have _t := tok1; refine wpList_appR _ rfl (.tmp 74) (.tmp 76) _ rfl (w.heap.size + 4) 9 i0 _ 1 16 Try.underlying30 hi hz0 hz1 hz2 rfl (by omega) (.slice As k cs) k (strs (R.lefts keep torn cut k)) rfl (World.ownsRow.alloc HM.out.1.s _) (wr.heap.size + 1) (some ⟨wr.heap.size, 0, none⟩) 1 1 [.string ⟨su.toArray⟩] rfl rfl (Rd.new wr #[.string ⟨su.toArray⟩] 9 (0, 0)) (by simp [Value.oneCell']) (by have := HK.out; have := HH.out.2.2.2.2.2.n; omega) (by omega) (by have := HM.out.1.size; simp; omega) ?_; intro v5 w5 hown5 hg5 ha5; obtain ⟨g5, c5, rfl, _, _, _, _⟩ := own_form hown5 (by omega); have hm5 := HM.out.1.app0 (w1 := wr.alloc (.cells #[.string ⟨su.toArray⟩] 9)) ((Below.refl _ _).alloc (Nat.le_refl _) _) hown5 hg5 ha5 (by omega); have ho5 := (hg5.block (w.heap.size + 3) (by have := HM.out.1.lt; have := HM.out.1.size; simp; omega) (by intro e; have := HM.out.1.lt; have := (World.ownsRow.lt HM.out.1.s _ e.symm).1; omega)).trans (((Below.refl _ wr).alloc (Nat.le_refl _) (.cells #[.string ⟨su.toArray⟩] 9)).block (w.heap.size + 3) (by have := HM.out.1.lt; have := HM.out.1.size; omega) |>.trans HM.out.1.blk); have e5 := cell_of_row w5 (w.heap.size + 3) 0 _ _ _ ho5; have f5 := frozen_of_row w5 (w.heap.size + 3) 0 _ _ ho5; have s5 : (w5.setCell ⟨w.heap.size + 3, 0, none⟩ (.slice (some ⟨g5, 0, none⟩) (k + 1) c5)).heap.size = w5.heap.size := (by simp [World.setCell]); have b1 := cell_of_row (w5.setCell ⟨w.heap.size + 3, 0, none⟩ (.slice (some ⟨g5, 0, none⟩) (k + 1) c5)) (w.heap.size + 3) 1 _ _ _ hm5.1.blk; have hr5 : Rd ((w5.setCell ⟨w.heap.size + 3, 0, none⟩ (.slice (some ⟨g5, 0, none⟩) (k + 1) c5)).alloc (.cells #[.string ⟨su.toArray⟩] 9)) (w5.heap.size + 1) (some ⟨w5.heap.size, 0, none⟩) [.string ⟨su.toArray⟩] := (by have := Rd.new (w5.setCell ⟨w.heap.size + 3, 0, none⟩ (.slice (some ⟨g5, 0, none⟩) (k + 1) c5)) #[.string ⟨su.toArray⟩] 9 (0, 0); rw [s5] at this; exact this); have hz5 := hm5.1.size; rw [s5] at hz5; have HM5 := Lib.hid hm5; clear hm5 ho5 hown5 hg5 ha5 tok1 _t)
                  | (at_builtin; refine wpList_appR _ rfl (.tmp 80) (.tmp 82) _ rfl (w.heap.size + 4) 9 i0 _ 1 16 Try.underlying30 hi hz0 hz1 hz2 rfl (by omega) (.slice An k cn) k (strs (R.lefts keep torn cut k)) rfl (World.ownsRow.alloc HM5.out.1.n _) (w5.heap.size + 1) (some ⟨w5.heap.size, 0, none⟩) 1 1 [.string ⟨su.toArray⟩] rfl rfl hr5 (by simp [Value.oneCell']) (by have := HK.out; have := HH.out.2.2.2.2.2.n; omega) (by omega) (by simp [World.setCell]; omega) ?_; intro v6 w6 hown6 hg6 ha6; obtain ⟨g6, c6, rfl, _, _, _, _⟩ := own_form hown6 (by omega); have hm6 := HM5.out.1.app1 (w1 := (w5.setCell ⟨w.heap.size + 3, 0, none⟩ (.slice (some ⟨g5, 0, none⟩) (k + 1) c5)).alloc (.cells #[.string ⟨su.toArray⟩] 9)) ((Below.refl _ _).alloc (Nat.le_refl _) _) hown6 hg6 ha6 (by omega); have ho6 := (hg6.block (w.heap.size + 3) (by have := HM5.out.1.lt; simp [World.setCell]; omega) (by intro e; have := HM5.out.1.lt; have := (World.ownsRow.lt HM5.out.1.n _ e.symm).1; omega)).trans (((Below.refl _ (w5.setCell ⟨w.heap.size + 3, 0, none⟩ (.slice (some ⟨g5, 0, none⟩) (k + 1) c5))).alloc (Nat.le_refl _) (.cells #[.string ⟨su.toArray⟩] 9)).block (w.heap.size + 3) (by have := HM5.out.1.lt; have := HM5.out.1.size; omega) |>.trans HM5.out.1.blk); have e6 := cell_of_row w6 (w.heap.size + 3) 1 _ _ _ ho6; have f6 := frozen_of_row w6 (w.heap.size + 3) 1 _ _ ho6; have HM6 := Lib.hid hm6; clear hm6 ho6 hown6 hg6 ha6)
                  | go_in)
                have hm7 := HM6.out.1
                have hEq : strs (R.lefts keep torn cut k) ++ [.string ⟨su.toArray⟩] = strs (R.lefts keep torn cut (k + 1)) := by rw [← RD.lefts_succ, HL.out]
                rw [hEq] at hm7
                have d0' := (HM6.out.2 w.heap.size (by omega) (by omega)).trans ((HM5.out.2 w.heap.size (by omega) (by omega)).trans HM.out.2.1)
                have d1' := (HM6.out.2 (w.heap.size + 1) (by omega) (by omega)).trans ((HM5.out.2 (w.heap.size + 1) (by omega) (by omega)).trans HM.out.2.2.1)
                have d2' := (HM6.out.2 (w.heap.size + 2) (by omega) (by omega)).trans ((HM5.out.2 (w.heap.size + 2) (by omega) (by omega)).trans HM.out.2.2.2)
                exact ⟨⟨k + 1, _, _, HK.out, by simp, by rw [HU.out]; simp, hm7, d0', d1', d2'⟩, by simp [intOf]; have := HK.out; omega⟩
      · obtain rfl : k = R.now.length := by omega
        have hX2 : ∀ x ∈ (w.heap.size + 1) :: X, x < w.heap.size + 4 := by
          intro x hx
          rcases List.mem_cons.1 hx with rfl | hx
          · omega
          · have := HH.out.2.2.2.2.1 x hx; omega
        obtain ⟨As, cs, rfl, _, _, sA⟩ := own_sl hm.s hX2
        obtain ⟨An, cn, rfl, _, _, sN⟩ := own_sl hm.n hX2
        have k0 := cell_of_row wr (w.heap.size + 3) 0 _ _ _ hm.blk
        have k1 := cell_of_row wr (w.heap.size + 3) 1 _ _ _ hm.blk
        have k2 := cell_of_row wr (w.heap.size + 3) 2 _ _ _ hm.blk
        have k3 := cell_of_row wr (w.heap.size + 3) 3 _ _ _ hm.blk
        have k4 := cell_of_row wr (w.heap.size + 3) 4 _ _ _ hm.blk
        have z0 := cell_of_row wr (w.heap.size + 1) 0 _ _ _ hd1
        have z1 := cell_of_row wr (w.heap.size + 1) 1 _ _ _ hd1
        have z2 := cell_of_row wr (w.heap.size + 1) 2 _ _ _ hd1
        have z3 := cell_of_row wr (w.heap.size + 1) 3 _ _ _ hd1
        have z4 := cell_of_row wr (w.heap.size + 1) 4 _ _ _ hd1
        have zf0 := frozen_of_row wr (w.heap.size + 1) 0 _ _ hd1
        have zf1 := frozen_of_row wr (w.heap.size + 1) 1 _ _ hd1
        have zf2 := frozen_of_row wr (w.heap.size + 1) 2 _ _ hd1
        have zf3 := frozen_of_row wr (w.heap.size + 1) 3 _ _ hd1
        have zf4 := frozen_of_row wr (w.heap.size + 1) 4 _ _ hd1
        have hkI : ¬ ((R.now.length : Int) < (R.now.length : Int)) := by omega
        have HM := Lib.hid (And.intro hm (And.intro hd0 (And.intro hd1 (And.intro hd2 (And.intro sA sN)))))
        clear hm hd0 hd1 hd2 sA sN
        go_wp2_with go_in
        have fF : Fr wr (((((wr.setCell ⟨w.heap.size + 1, 0, none⟩ (.slice As R.now.length cs)).setCell ⟨w.heap.size + 1, 1, none⟩ (.slice An R.now.length cn)).setCell ⟨w.heap.size + 1, 2, none⟩ (.slice (some ⟨w.heap.size + 2, 0, none⟩) R.now.length R.now.length)).setCell ⟨w.heap.size + 1, 3, none⟩ (.int .i64 0)).setCell ⟨w.heap.size + 1, 4, none⟩ (.int .i64 (-1))) [w.heap.size + 1] := (((((Fr.refl _ _).setCell (by simp) _).setCell (by simp) _).setCell (by simp) _).setCell (by simp) _).setCell (by simp) _
        have hBf : Below w.heap.size w (((((wr.setCell ⟨w.heap.size + 1, 0, none⟩ (.slice As R.now.length cs)).setCell ⟨w.heap.size + 1, 1, none⟩ (.slice An R.now.length cn)).setCell ⟨w.heap.size + 1, 2, none⟩ (.slice (some ⟨w.heap.size + 2, 0, none⟩) R.now.length R.now.length)).setCell ⟨w.heap.size + 1, 3, none⟩ (.int .i64 0)).setCell ⟨w.heap.size + 1, 4, none⟩ (.int .i64 (-1))) := HM.out.1.below.trans (fF.below (by have := HM.out.1.below.size; omega) (by simp))
        have sF : Sl wr ((w.heap.size + 1) :: X) (some ⟨w.heap.size + 2, 0, none⟩) (bools (List.replicate R.now.length false)) := by
          refine ⟨fun hn => ⟨w.heap.size + 2, 0, rfl, heap_lt HM.out.2.2.2.1, fun j u hu => ?_⟩, fun a ha => by cases ha; intro hx; rcases List.mem_cons.1 hx with h | h; exact absurd h (by simp); exact absurd (HH.out.2.2.2.2.1 _ h) (by show ¬ (w.heap.size + 2 < w.heap.size); omega)⟩
          rw [cell_of_row wr (w.heap.size + 2) (0 + j) _ _ _ HM.out.2.2.2.1]
          simpa using hu
        refine bodyPost_ret (resCrash (set5 HM.out.2.2.1 _ _ _ _ _) _ rfl) rfl ⟨dv As An (some ⟨w.heap.size + 2, 0, none⟩) R.now.length R.now.length R.now.length cs cn R.now.length 0 (-1), rfl, ?_, hBf⟩
        exact ⟨As, An, some ⟨w.heap.size + 2, 0, none⟩, cs, cn, R.now.length, by simp [dv, RD.crashed, RD.lefts], (HM.out.2.2.2.2.1.fr fF (by simp)).sub (fun y hy => by simp [hy]), (HM.out.2.2.2.2.2.fr fF (by simp)).sub (fun y hy => by simp [hy]), (sF.fr fF (by simp)).sub (fun y hy => by simp [hy])⟩
  · by_cases hc64 : 64 < cut
    · go_enter Try.func19, Try.ntmps19
      go_wp2_with go_in
      clear hmk
      generalize ((((w.alloc (.cells #[.slice A1 R.sure.length c1, .slice A2 R.now.length c2, .slice A3 R.fresh.length c3, .int .i64 R.steps, .int .i64 R.left] 33)).alloc (.cells #[.slice none 0 0, .slice none 0 0, .slice none 0 0, .int .i64 0, .int .i64 0] 33)).alloc (.cells (bools (List.replicate R.now.length false)).toArray 4)).alloc (.cells #[.slice none 0 0, .slice none 0 0, (.slice (some ⟨w.heap.size + 2, 0, none⟩) R.now.length R.now.length), .int .i64 0, .int .i64 (-1)] 33)) = W at HZ ⊢
      go_loopw [10, 11, 12, 25] (fun kc _ _ i wr => ∃ (k : Nat) (vs vn : Value), k ≤ R.now.length ∧ i = .int .i64 (k : Int) ∧ kc = .int .i64 ((upto R.fresh k).length : Int) ∧ Mk w wr (w.heap.size + 3) (w.heap.size + 4) vs vn (.slice (some ⟨w.heap.size + 2, 0, none⟩) R.now.length R.now.length) (.int .i64 0) (.int .i64 (-1)) k (strs (R.lefts keep torn cut k)) k (strs (R.lefts keep torn cut k)) ∧ wr.heap[w.heap.size]? = some (.cells #[.slice A1 R.sure.length c1, .slice A2 R.now.length c2, .slice A3 R.fresh.length c3, .int .i64 R.steps, .int .i64 R.left] 33) ∧ wr.heap[w.heap.size + 1]? = some (.cells #[.slice none 0 0, .slice none 0 0, .slice none 0 0, .int .i64 0, .int .i64 0] 33) ∧ wr.heap[w.heap.size + 2]? = some (.cells (bools (List.replicate R.now.length false)).toArray 4))
        (fun _ _ _ i _ => R.now.length - (intOf i).toNat)
      case atStart => exact ⟨0, _, _, by omega, rfl, rfl, HZ.out.1, HZ.out.2.1, HZ.out.2.2.1, HZ.out.2.2.2⟩
      case round =>
        obtain ⟨k, vs, vn, hkn, rfl, rfl, hm, hd0, hd1, hd2⟩ := hrel
        by_cases hkl : k < R.now.length
        · have hkI : (k : Int) < (R.now.length : Int) := by omega
          have hkb : (k : Int) < 4096 := by omega
          have hkS : k < R.sure.length := by have := HH.out.2.2.2.2.2.sure; omega
          have hkF : k < R.fresh.length := by have := HH.out.2.2.2.2.2.fresh; omega
          have hkSI : (k : Int) < (R.sure.length : Int) := by omega
          have hkFI : (k : Int) < (R.fresh.length : Int) := by omega
          have hbW := hm.below
          obtain ⟨As, cs, rfl, _, _, _⟩ := own_shape hm.s
          obtain ⟨An, cn, rfl, _, _, _⟩ := own_shape hm.n
          obtain ⟨i0, hi, hz0, hz1, hz2⟩ := info_parts infoStr
          have tok1 : True := trivial
          have x0 := cell_of_row wr w.heap.size 0 _ _ _ hd0
          have x1 := cell_of_row wr w.heap.size 1 _ _ _ hd0
          have x2 := cell_of_row wr w.heap.size 2 _ _ _ hd0
          have b0 := cell_of_row wr (w.heap.size + 3) 0 _ _ _ hm.blk
          obtain ⟨p1, o1, rfl, hp1, hq1⟩ := HH.out.1.1.get (k := k) (by simpa using hkS)
          obtain ⟨p2, o2, rfl, hp2, hq2⟩ := HH.out.2.1.1.get (k := k) (by simpa using hkl)
          obtain ⟨p3, o3, rfl, hp3, hq3⟩ := HH.out.2.2.1.1.get (k := k) (by simpa using hkF)
          have hsu : wr.cell? ⟨p1, o1 + k, none⟩ = some (.string ⟨R.sure[k].toArray⟩) := by
            rw [show (Value.string ⟨R.sure[k].toArray⟩) = (strs R.sure)[k]'(by simpa using hkS) by simp [strs], ← hq1]; exact hbW.cell (p := ⟨p1, o1 + k, none⟩) hp1
          have hno : wr.cell? ⟨p2, o2 + k, none⟩ = some (.string ⟨R.now[k].toArray⟩) := by
            rw [show (Value.string ⟨R.now[k].toArray⟩) = (strs R.now)[k]'(by simpa using hkl) by simp [strs], ← hq2]; exact hbW.cell (p := ⟨p2, o2 + k, none⟩) hp2
          have hfr : wr.cell? ⟨p3, o3 + k, none⟩ = some (.bool R.fresh[k]) := by
            rw [show (Value.bool R.fresh[k]) = (bools R.fresh)[k]'(by simpa using hkF) by simp [bools], ← hq3]; exact hbW.cell (p := ⟨p3, o3 + k, none⟩) hp3
          have hsl := H64.out.1 k hkS
          have hnl := H64.out.2 k hkl
          have hlt : R.left1 keep torn cut k = if R.fresh[k] then (if keep[(upto R.fresh k).length]? = some true then R.now[k] else if ((upto R.fresh k).length : Int) = torn then tearL R.sure[k] R.now[k] cut else R.sure[k]) else R.sure[k] := by
            unfold RD.left1
            rw [show R.fresh.getD k false = R.fresh[k] by simp [List.getD, hkF], show R.now.getD k [] = R.now[k] by simp [List.getD, hkl], show R.sure.getD k [] = R.sure[k] by simp [List.getD, hkS]]
          have hup := upto_succ R.fresh k
          rw [show R.fresh.getD k false = R.fresh[k] by simp [List.getD, hkF]] at hup
          have hul := upto_len R.fresh k
          obtain ⟨su, hsu'⟩ : ∃ su, su = R.sure[k] := ⟨_, rfl⟩
          obtain ⟨no, hno'⟩ : ∃ no, no = R.now[k] := ⟨_, rfl⟩
          obtain ⟨fb, hfb'⟩ : ∃ fb, fb = R.fresh[k] := ⟨_, rfl⟩
          rw [← hsu'] at hsu hlt hsl
          rw [← hno'] at hno hlt hnl
          rw [← hfb'] at hfr hlt hup
          obtain ⟨q, hq⟩ : ∃ q, q = (upto R.fresh k).length := ⟨_, rfl⟩
          rw [← hq] at hlt hul ⊢
          have hqb : (q : Int) ≤ 4096 := by omega
          have HM := Lib.hid (And.intro hm (And.intro hd0 (And.intro hd1 hd2)))
          have HK := Lib.hid hkl
          have HQ := Lib.hid hq
          clear hm hd0 hd1 hd2 hsu' hno' hfb' hq1 hq2 hq3 hp1 hp2 hp3 hul hq hbW
          cases fb with
          | false =>
            have HL := Lib.hid (hlt.trans (if_neg (by simp)))
            have HU := Lib.hid (show (upto R.fresh (k + 1)).length = q by rw [hup, HQ.out]; simp)
            clear hlt hup hno hnl hsl
            go_wp2_with (first
              | (at_builtin; have _t := tok1; refine wpList_appR _ rfl (.tmp 74) (.tmp 76) _ rfl (w.heap.size + 4) 9 i0 _ 1 16 Try.underlying30 hi hz0 hz1 hz2 rfl (by omega) (.slice As k cs) k (strs (R.lefts keep torn cut k)) rfl (World.ownsRow.alloc HM.out.1.s _) (wr.heap.size + 1) (some ⟨wr.heap.size, 0, none⟩) 1 1 [.string ⟨su.toArray⟩] rfl rfl (Rd.new wr #[.string ⟨su.toArray⟩] 9 (0, 0)) (by simp [Value.oneCell']) (by have := HK.out; have := HH.out.2.2.2.2.2.n; omega) (by omega) (by have := HM.out.1.size; simp; omega) ?_; intro v5 w5 hown5 hg5 ha5; obtain ⟨g5, c5, rfl, _, _, _, _⟩ := own_form hown5 (by omega); have hm5 := HM.out.1.app0 (w1 := wr.alloc (.cells #[.string ⟨su.toArray⟩] 9)) ((Below.refl _ _).alloc (Nat.le_refl _) _) hown5 hg5 ha5 (by omega); have ho5 := (hg5.block (w.heap.size + 3) (by have := HM.out.1.lt; have := HM.out.1.size; simp; omega) (by intro e; have := HM.out.1.lt; have := (World.ownsRow.lt HM.out.1.s _ e.symm).1; omega)).trans (((Below.refl _ wr).alloc (Nat.le_refl _) (.cells #[.string ⟨su.toArray⟩] 9)).block (w.heap.size + 3) (by have := HM.out.1.lt; have := HM.out.1.size; omega) |>.trans HM.out.1.blk); have e5 := cell_of_row w5 (w.heap.size + 3) 0 _ _ _ ho5; have f5 := frozen_of_row w5 (w.heap.size + 3) 0 _ _ ho5; have s5 : (w5.setCell ⟨w.heap.size + 3, 0, none⟩ (.slice (some ⟨g5, 0, none⟩) (k + 1) c5)).heap.size = w5.heap.size := (by simp [World.setCell]); have b1 := cell_of_row (w5.setCell ⟨w.heap.size + 3, 0, none⟩ (.slice (some ⟨g5, 0, none⟩) (k + 1) c5)) (w.heap.size + 3) 1 _ _ _ hm5.1.blk; have hr5 : Rd ((w5.setCell ⟨w.heap.size + 3, 0, none⟩ (.slice (some ⟨g5, 0, none⟩) (k + 1) c5)).alloc (.cells #[.string ⟨su.toArray⟩] 9)) (w5.heap.size + 1) (some ⟨w5.heap.size, 0, none⟩) [.string ⟨su.toArray⟩] := (by have := Rd.new (w5.setCell ⟨w.heap.size + 3, 0, none⟩ (.slice (some ⟨g5, 0, none⟩) (k + 1) c5)) #[.string ⟨su.toArray⟩] 9 (0, 0); rw [s5] at this; exact this); have hz5 := hm5.1.size; rw [s5] at hz5; have HM5 := Lib.hid hm5; clear hm5 ho5 hown5 hg5 ha5 tok1 _t)
              | (at_builtin; refine wpList_appR _ rfl (.tmp 80) (.tmp 82) _ rfl (w.heap.size + 4) 9 i0 _ 1 16 Try.underlying30 hi hz0 hz1 hz2 rfl (by omega) (.slice An k cn) k (strs (R.lefts keep torn cut k)) rfl (World.ownsRow.alloc HM5.out.1.n _) (w5.heap.size + 1) (some ⟨w5.heap.size, 0, none⟩) 1 1 [.string ⟨su.toArray⟩] rfl rfl hr5 (by simp [Value.oneCell']) (by have := HK.out; have := HH.out.2.2.2.2.2.n; omega) (by omega) (by simp [World.setCell]; omega) ?_; intro v6 w6 hown6 hg6 ha6; obtain ⟨g6, c6, rfl, _, _, _, _⟩ := own_form hown6 (by omega); have hm6 := HM5.out.1.app1 (w1 := (w5.setCell ⟨w.heap.size + 3, 0, none⟩ (.slice (some ⟨g5, 0, none⟩) (k + 1) c5)).alloc (.cells #[.string ⟨su.toArray⟩] 9)) ((Below.refl _ _).alloc (Nat.le_refl _) _) hown6 hg6 ha6 (by omega); have ho6 := (hg6.block (w.heap.size + 3) (by have := HM5.out.1.lt; simp [World.setCell]; omega) (by intro e; have := HM5.out.1.lt; have := (World.ownsRow.lt HM5.out.1.n _ e.symm).1; omega)).trans (((Below.refl _ (w5.setCell ⟨w.heap.size + 3, 0, none⟩ (.slice (some ⟨g5, 0, none⟩) (k + 1) c5))).alloc (Nat.le_refl _) (.cells #[.string ⟨su.toArray⟩] 9)).block (w.heap.size + 3) (by have := HM5.out.1.lt; have := HM5.out.1.size; omega) |>.trans HM5.out.1.blk); have e6 := cell_of_row w6 (w.heap.size + 3) 1 _ _ _ ho6; have f6 := frozen_of_row w6 (w.heap.size + 3) 1 _ _ ho6; have HM6 := Lib.hid hm6; clear hm6 ho6 hown6 hg6 ha6)
              | go_in)
            have hm7 := HM6.out.1
            have hEq : strs (R.lefts keep torn cut k) ++ [.string ⟨su.toArray⟩] = strs (R.lefts keep torn cut (k + 1)) := by rw [← RD.lefts_succ, HL.out]
            rw [hEq] at hm7
            have d0' := (HM6.out.2 w.heap.size (by omega) (by omega)).trans ((HM5.out.2 w.heap.size (by omega) (by omega)).trans HM.out.2.1)
            have d1' := (HM6.out.2 (w.heap.size + 1) (by omega) (by omega)).trans ((HM5.out.2 (w.heap.size + 1) (by omega) (by omega)).trans HM.out.2.2.1)
            have d2' := (HM6.out.2 (w.heap.size + 2) (by omega) (by omega)).trans ((HM5.out.2 (w.heap.size + 2) (by omega) (by omega)).trans HM.out.2.2.2)
            exact ⟨⟨k + 1, _, _, HK.out, by simp, by rw [HU.out], hm7, d0', d1', d2'⟩, by simp [intOf]; have := HK.out; omega⟩
          | true =>
            have HU := Lib.hid (show (upto R.fresh (k + 1)).length = q + 1 by rw [hup, HQ.out]; simp)
            rw [if_pos rfl] at hlt
            clear hup
            by_cases hkp : keep[q]? = some true
            · have hql : q < keep.length := (List.getElem?_eq_some_iff.1 hkp).1
              have hqI : (q : Int) < (keep.length : Int) := by omega
              obtain ⟨p4, o4, rfl, hp4, hq4⟩ := HH.out.2.2.2.1.get (k := q) (by simpa using hql)
              have hke : wr.cell? ⟨p4, o4 + q, none⟩ = some (.bool true) := by
                have e1 : keep[q] = true := by rw [List.getElem?_eq_getElem hql] at hkp; injection hkp
                rw [show (Value.bool true) = (keep.map Value.bool)[q]'(by simpa using hql) by simp [e1], ← hq4]; exact HM.out.1.below.cell (p := ⟨p4, o4 + q, none⟩) hp4
              have HL := Lib.hid (hlt.trans (if_pos hkp))
              clear hlt hkp hql hp4 hq4 hsl hnl
              go_wp2_with (first
                | (at_builtin; have _t := tok1; refine wpList_appR _ rfl (.tmp 74) (.tmp 76) _ rfl (w.heap.size + 4) 9 i0 _ 1 16 Try.underlying30 hi hz0 hz1 hz2 rfl (by omega) (.slice As k cs) k (strs (R.lefts keep torn cut k)) rfl (World.ownsRow.alloc HM.out.1.s _) (wr.heap.size + 1) (some ⟨wr.heap.size, 0, none⟩) 1 1 [.string ⟨no.toArray⟩] rfl rfl (Rd.new wr #[.string ⟨no.toArray⟩] 9 (0, 0)) (by simp [Value.oneCell']) (by have := HK.out; have := HH.out.2.2.2.2.2.n; omega) (by omega) (by have := HM.out.1.size; simp; omega) ?_; intro v5 w5 hown5 hg5 ha5; obtain ⟨g5, c5, rfl, _, _, _, _⟩ := own_form hown5 (by omega); have hm5 := HM.out.1.app0 (w1 := wr.alloc (.cells #[.string ⟨no.toArray⟩] 9)) ((Below.refl _ _).alloc (Nat.le_refl _) _) hown5 hg5 ha5 (by omega); have ho5 := (hg5.block (w.heap.size + 3) (by have := HM.out.1.lt; have := HM.out.1.size; simp; omega) (by intro e; have := HM.out.1.lt; have := (World.ownsRow.lt HM.out.1.s _ e.symm).1; omega)).trans (((Below.refl _ wr).alloc (Nat.le_refl _) (.cells #[.string ⟨no.toArray⟩] 9)).block (w.heap.size + 3) (by have := HM.out.1.lt; have := HM.out.1.size; omega) |>.trans HM.out.1.blk); have e5 := cell_of_row w5 (w.heap.size + 3) 0 _ _ _ ho5; have f5 := frozen_of_row w5 (w.heap.size + 3) 0 _ _ ho5; have s5 : (w5.setCell ⟨w.heap.size + 3, 0, none⟩ (.slice (some ⟨g5, 0, none⟩) (k + 1) c5)).heap.size = w5.heap.size := (by simp [World.setCell]); have b1 := cell_of_row (w5.setCell ⟨w.heap.size + 3, 0, none⟩ (.slice (some ⟨g5, 0, none⟩) (k + 1) c5)) (w.heap.size + 3) 1 _ _ _ hm5.1.blk; have hr5 : Rd ((w5.setCell ⟨w.heap.size + 3, 0, none⟩ (.slice (some ⟨g5, 0, none⟩) (k + 1) c5)).alloc (.cells #[.string ⟨no.toArray⟩] 9)) (w5.heap.size + 1) (some ⟨w5.heap.size, 0, none⟩) [.string ⟨no.toArray⟩] := (by have := Rd.new (w5.setCell ⟨w.heap.size + 3, 0, none⟩ (.slice (some ⟨g5, 0, none⟩) (k + 1) c5)) #[.string ⟨no.toArray⟩] 9 (0, 0); rw [s5] at this; exact this); have hz5 := hm5.1.size; rw [s5] at hz5; have HM5 := Lib.hid hm5; clear hm5 ho5 hown5 hg5 ha5 tok1 _t)
                | (at_builtin; refine wpList_appR _ rfl (.tmp 80) (.tmp 82) _ rfl (w.heap.size + 4) 9 i0 _ 1 16 Try.underlying30 hi hz0 hz1 hz2 rfl (by omega) (.slice An k cn) k (strs (R.lefts keep torn cut k)) rfl (World.ownsRow.alloc HM5.out.1.n _) (w5.heap.size + 1) (some ⟨w5.heap.size, 0, none⟩) 1 1 [.string ⟨no.toArray⟩] rfl rfl hr5 (by simp [Value.oneCell']) (by have := HK.out; have := HH.out.2.2.2.2.2.n; omega) (by omega) (by simp [World.setCell]; omega) ?_; intro v6 w6 hown6 hg6 ha6; obtain ⟨g6, c6, rfl, _, _, _, _⟩ := own_form hown6 (by omega); have hm6 := HM5.out.1.app1 (w1 := (w5.setCell ⟨w.heap.size + 3, 0, none⟩ (.slice (some ⟨g5, 0, none⟩) (k + 1) c5)).alloc (.cells #[.string ⟨no.toArray⟩] 9)) ((Below.refl _ _).alloc (Nat.le_refl _) _) hown6 hg6 ha6 (by omega); have ho6 := (hg6.block (w.heap.size + 3) (by have := HM5.out.1.lt; simp [World.setCell]; omega) (by intro e; have := HM5.out.1.lt; have := (World.ownsRow.lt HM5.out.1.n _ e.symm).1; omega)).trans (((Below.refl _ (w5.setCell ⟨w.heap.size + 3, 0, none⟩ (.slice (some ⟨g5, 0, none⟩) (k + 1) c5))).alloc (Nat.le_refl _) (.cells #[.string ⟨no.toArray⟩] 9)).block (w.heap.size + 3) (by have := HM5.out.1.lt; have := HM5.out.1.size; omega) |>.trans HM5.out.1.blk); have e6 := cell_of_row w6 (w.heap.size + 3) 1 _ _ _ ho6; have f6 := frozen_of_row w6 (w.heap.size + 3) 1 _ _ ho6; have HM6 := Lib.hid hm6; clear hm6 ho6 hown6 hg6 ha6)
                | go_in)
              have hm7 := HM6.out.1
              have hEq : strs (R.lefts keep torn cut k) ++ [.string ⟨no.toArray⟩] = strs (R.lefts keep torn cut (k + 1)) := by rw [← RD.lefts_succ, HL.out]
              rw [hEq] at hm7
              have d0' := (HM6.out.2 w.heap.size (by omega) (by omega)).trans ((HM5.out.2 w.heap.size (by omega) (by omega)).trans HM.out.2.1)
              have d1' := (HM6.out.2 (w.heap.size + 1) (by omega) (by omega)).trans ((HM5.out.2 (w.heap.size + 1) (by omega) (by omega)).trans HM.out.2.2.1)
              have d2' := (HM6.out.2 (w.heap.size + 2) (by omega) (by omega)).trans ((HM5.out.2 (w.heap.size + 2) (by omega) (by omega)).trans HM.out.2.2.2)
              exact ⟨⟨k + 1, _, _, HK.out, by simp, by rw [HU.out]; simp, hm7, d0', d1', d2'⟩, by simp [intOf]; have := HK.out; omega⟩
            · rw [if_neg hkp] at hlt
              by_cases hql : q < keep.length
              · have hqI : (q : Int) < (keep.length : Int) := by omega
                obtain ⟨p4, o4, rfl, hp4, hq4⟩ := HH.out.2.2.2.1.get (k := q) (by simpa using hql)
                have hke : wr.cell? ⟨p4, o4 + q, none⟩ = some (.bool false) := by
                  have e1 : keep[q] = false := by rw [List.getElem?_eq_getElem hql] at hkp; cases h : keep[q] with | false => rfl | true => rw [h] at hkp; exact absurd rfl hkp
                  rw [show (Value.bool false) = (keep.map Value.bool)[q]'(by simpa using hql) by simp [e1], ← hq4]; exact HM.out.1.below.cell (p := ⟨p4, o4 + q, none⟩) hp4
                clear hkp hql hp4 hq4
                by_cases hto : (q : Int) = torn
                · subst hto
                  rw [if_pos rfl] at hlt
                  have HL := Lib.hid hlt
                  have hnlI : (no.length : Int) = 64 := by omega
                  have hslI : (su.length : Int) = 64 := by omega
                  have hsz1 : (⟨no.toArray⟩ : ByteArray).size = 64 := hnl
                  have hsz2 : (⟨su.toArray⟩ : ByteArray).size = 64 := hsl
                  clear hlt
                  go_upto_region 15 with go_in
                  go_quiet (fail)
                  rw [tear_bytes64 no su cut (by omega) hsl]
                  have hm' := HM.out.1.drewN nq
                  have HM2 := Lib.hid (And.intro hm' (And.intro (show (wr.drewN nq).heap[w.heap.size]? = _ from HM.out.2.1) (And.intro (show (wr.drewN nq).heap[w.heap.size + 1]? = _ from HM.out.2.2.1) (show (wr.drewN nq).heap[w.heap.size + 2]? = _ from HM.out.2.2.2))))
                  clear hm' HM b0 x0 x1 x2 hsu hno hfr
                  generalize wr.drewN nq = wq at HM2 ⊢
                  have b0 := cell_of_row wq (w.heap.size + 3) 0 _ _ _ HM2.out.1.blk
                  go_wp2_with (first
                    | (at_builtin; have _t := tok1; refine wpList_appR _ rfl (.tmp 74) (.tmp 76) _ rfl (w.heap.size + 4) 9 i0 _ 1 16 Try.underlying30 hi hz0 hz1 hz2 rfl (by omega) (.slice As k cs) k (strs (R.lefts keep (q : Int) cut k)) rfl (World.ownsRow.alloc HM2.out.1.s _) (wq.heap.size + 1) (some ⟨wq.heap.size, 0, none⟩) 1 1 [.string ⟨(tearL su no cut).toArray⟩] rfl rfl (Rd.new wq #[.string ⟨(tearL su no cut).toArray⟩] 9 (0, 0)) (by simp [Value.oneCell']) (by have := HK.out; have := HH.out.2.2.2.2.2.n; omega) (by omega) (by have := HM2.out.1.size; simp; omega) ?_; intro v5 w5 hown5 hg5 ha5; obtain ⟨g5, c5, rfl, _, _, _, _⟩ := own_form hown5 (by omega); have hm5 := HM2.out.1.app0 (w1 := wq.alloc (.cells #[.string ⟨(tearL su no cut).toArray⟩] 9)) ((Below.refl _ _).alloc (Nat.le_refl _) _) hown5 hg5 ha5 (by omega); have ho5 := (hg5.block (w.heap.size + 3) (by have := HM2.out.1.lt; have := HM2.out.1.size; simp; omega) (by intro e; have := HM2.out.1.lt; have := (World.ownsRow.lt HM2.out.1.s _ e.symm).1; omega)).trans (((Below.refl _ wq).alloc (Nat.le_refl _) (.cells #[.string ⟨(tearL su no cut).toArray⟩] 9)).block (w.heap.size + 3) (by have := HM2.out.1.lt; have := HM2.out.1.size; omega) |>.trans HM2.out.1.blk); have e5 := cell_of_row w5 (w.heap.size + 3) 0 _ _ _ ho5; have f5 := frozen_of_row w5 (w.heap.size + 3) 0 _ _ ho5; have s5 : (w5.setCell ⟨w.heap.size + 3, 0, none⟩ (.slice (some ⟨g5, 0, none⟩) (k + 1) c5)).heap.size = w5.heap.size := (by simp [World.setCell]); have b1 := cell_of_row (w5.setCell ⟨w.heap.size + 3, 0, none⟩ (.slice (some ⟨g5, 0, none⟩) (k + 1) c5)) (w.heap.size + 3) 1 _ _ _ hm5.1.blk; have hr5 : Rd ((w5.setCell ⟨w.heap.size + 3, 0, none⟩ (.slice (some ⟨g5, 0, none⟩) (k + 1) c5)).alloc (.cells #[.string ⟨(tearL su no cut).toArray⟩] 9)) (w5.heap.size + 1) (some ⟨w5.heap.size, 0, none⟩) [.string ⟨(tearL su no cut).toArray⟩] := (by have := Rd.new (w5.setCell ⟨w.heap.size + 3, 0, none⟩ (.slice (some ⟨g5, 0, none⟩) (k + 1) c5)) #[.string ⟨(tearL su no cut).toArray⟩] 9 (0, 0); rw [s5] at this; exact this); have hz5 := hm5.1.size; rw [s5] at hz5; have HM5 := Lib.hid hm5; clear hm5 ho5 hown5 hg5 ha5 tok1 _t)
                    | (at_builtin; refine wpList_appR _ rfl (.tmp 80) (.tmp 82) _ rfl (w.heap.size + 4) 9 i0 _ 1 16 Try.underlying30 hi hz0 hz1 hz2 rfl (by omega) (.slice An k cn) k (strs (R.lefts keep (q : Int) cut k)) rfl (World.ownsRow.alloc HM5.out.1.n _) (w5.heap.size + 1) (some ⟨w5.heap.size, 0, none⟩) 1 1 [.string ⟨(tearL su no cut).toArray⟩] rfl rfl hr5 (by simp [Value.oneCell']) (by have := HK.out; have := HH.out.2.2.2.2.2.n; omega) (by omega) (by simp [World.setCell]; omega) ?_; intro v6 w6 hown6 hg6 ha6; obtain ⟨g6, c6, rfl, _, _, _, _⟩ := own_form hown6 (by omega); have hm6 := HM5.out.1.app1 (w1 := (w5.setCell ⟨w.heap.size + 3, 0, none⟩ (.slice (some ⟨g5, 0, none⟩) (k + 1) c5)).alloc (.cells #[.string ⟨(tearL su no cut).toArray⟩] 9)) ((Below.refl _ _).alloc (Nat.le_refl _) _) hown6 hg6 ha6 (by omega); have ho6 := (hg6.block (w.heap.size + 3) (by have := HM5.out.1.lt; simp [World.setCell]; omega) (by intro e; have := HM5.out.1.lt; have := (World.ownsRow.lt HM5.out.1.n _ e.symm).1; omega)).trans (((Below.refl _ (w5.setCell ⟨w.heap.size + 3, 0, none⟩ (.slice (some ⟨g5, 0, none⟩) (k + 1) c5))).alloc (Nat.le_refl _) (.cells #[.string ⟨(tearL su no cut).toArray⟩] 9)).block (w.heap.size + 3) (by have := HM5.out.1.lt; have := HM5.out.1.size; omega) |>.trans HM5.out.1.blk); have e6 := cell_of_row w6 (w.heap.size + 3) 1 _ _ _ ho6; have f6 := frozen_of_row w6 (w.heap.size + 3) 1 _ _ ho6; have HM6 := Lib.hid hm6; clear hm6 ho6 hown6 hg6 ha6)
                    | go_in)
                  have hm7 := HM6.out.1
                  have hEq : strs (R.lefts keep (q : Int) cut k) ++ [.string ⟨(tearL su no cut).toArray⟩] = strs (R.lefts keep (q : Int) cut (k + 1)) := by rw [← RD.lefts_succ, HL.out]
                  rw [hEq] at hm7
                  have d0' := (HM6.out.2 w.heap.size (by omega) (by omega)).trans ((HM5.out.2 w.heap.size (by omega) (by omega)).trans HM2.out.2.1)
                  have d1' := (HM6.out.2 (w.heap.size + 1) (by omega) (by omega)).trans ((HM5.out.2 (w.heap.size + 1) (by omega) (by omega)).trans HM2.out.2.2.1)
                  have d2' := (HM6.out.2 (w.heap.size + 2) (by omega) (by omega)).trans ((HM5.out.2 (w.heap.size + 2) (by omega) (by omega)).trans HM2.out.2.2.2)
                  exact ⟨⟨k + 1, _, _, HK.out, by simp, by rw [HU.out]; simp, hm7, d0', d1', d2'⟩, by simp [intOf]; have := HK.out; omega⟩
                · rw [if_neg hto] at hlt
                  have HL := Lib.hid hlt
                  have htb : ((q : Int) == torn) = false := beq_eq_false_iff_ne.2 hto
                  clear hlt hno hnl hsl
                  go_wp2_with (first
                    | (at_builtin; have _t := tok1; refine wpList_appR _ rfl (.tmp 74) (.tmp 76) _ rfl (w.heap.size + 4) 9 i0 _ 1 16 Try.underlying30 hi hz0 hz1 hz2 rfl (by omega) (.slice As k cs) k (strs (R.lefts keep torn cut k)) rfl (World.ownsRow.alloc HM.out.1.s _) (wr.heap.size + 1) (some ⟨wr.heap.size, 0, none⟩) 1 1 [.string ⟨su.toArray⟩] rfl rfl (Rd.new wr #[.string ⟨su.toArray⟩] 9 (0, 0)) (by simp [Value.oneCell']) (by have := HK.out; have := HH.out.2.2.2.2.2.n; omega) (by omega) (by have := HM.out.1.size; simp; omega) ?_; intro v5 w5 hown5 hg5 ha5; obtain ⟨g5, c5, rfl, _, _, _, _⟩ := own_form hown5 (by omega); have hm5 := HM.out.1.app0 (w1 := wr.alloc (.cells #[.string ⟨su.toArray⟩] 9)) ((Below.refl _ _).alloc (Nat.le_refl _) _) hown5 hg5 ha5 (by omega); have ho5 := (hg5.block (w.heap.size + 3) (by have := HM.out.1.lt; have := HM.out.1.size; simp; omega) (by intro e; have := HM.out.1.lt; have := (World.ownsRow.lt HM.out.1.s _ e.symm).1; omega)).trans (((Below.refl _ wr).alloc (Nat.le_refl _) (.cells #[.string ⟨su.toArray⟩] 9)).block (w.heap.size + 3) (by have := HM.out.1.lt; have := HM.out.1.size; omega) |>.trans HM.out.1.blk); have e5 := cell_of_row w5 (w.heap.size + 3) 0 _ _ _ ho5; have f5 := frozen_of_row w5 (w.heap.size + 3) 0 _ _ ho5; have s5 : (w5.setCell ⟨w.heap.size + 3, 0, none⟩ (.slice (some ⟨g5, 0, none⟩) (k + 1) c5)).heap.size = w5.heap.size := (by simp [World.setCell]); have b1 := cell_of_row (w5.setCell ⟨w.heap.size + 3, 0, none⟩ (.slice (some ⟨g5, 0, none⟩) (k + 1) c5)) (w.heap.size + 3) 1 _ _ _ hm5.1.blk; have hr5 : Rd ((w5.setCell ⟨w.heap.size + 3, 0, none⟩ (.slice (some ⟨g5, 0, none⟩) (k + 1) c5)).alloc (.cells #[.string ⟨su.toArray⟩] 9)) (w5.heap.size + 1) (some ⟨w5.heap.size, 0, none⟩) [.string ⟨su.toArray⟩] := (by have := Rd.new (w5.setCell ⟨w.heap.size + 3, 0, none⟩ (.slice (some ⟨g5, 0, none⟩) (k + 1) c5)) #[.string ⟨su.toArray⟩] 9 (0, 0); rw [s5] at this; exact this); have hz5 := hm5.1.size; rw [s5] at hz5; have HM5 := Lib.hid hm5; clear hm5 ho5 hown5 hg5 ha5 tok1 _t)
                    | (at_builtin; refine wpList_appR _ rfl (.tmp 80) (.tmp 82) _ rfl (w.heap.size + 4) 9 i0 _ 1 16 Try.underlying30 hi hz0 hz1 hz2 rfl (by omega) (.slice An k cn) k (strs (R.lefts keep torn cut k)) rfl (World.ownsRow.alloc HM5.out.1.n _) (w5.heap.size + 1) (some ⟨w5.heap.size, 0, none⟩) 1 1 [.string ⟨su.toArray⟩] rfl rfl hr5 (by simp [Value.oneCell']) (by have := HK.out; have := HH.out.2.2.2.2.2.n; omega) (by omega) (by simp [World.setCell]; omega) ?_; intro v6 w6 hown6 hg6 ha6; obtain ⟨g6, c6, rfl, _, _, _, _⟩ := own_form hown6 (by omega); have hm6 := HM5.out.1.app1 (w1 := (w5.setCell ⟨w.heap.size + 3, 0, none⟩ (.slice (some ⟨g5, 0, none⟩) (k + 1) c5)).alloc (.cells #[.string ⟨su.toArray⟩] 9)) ((Below.refl _ _).alloc (Nat.le_refl _) _) hown6 hg6 ha6 (by omega); have ho6 := (hg6.block (w.heap.size + 3) (by have := HM5.out.1.lt; simp [World.setCell]; omega) (by intro e; have := HM5.out.1.lt; have := (World.ownsRow.lt HM5.out.1.n _ e.symm).1; omega)).trans (((Below.refl _ (w5.setCell ⟨w.heap.size + 3, 0, none⟩ (.slice (some ⟨g5, 0, none⟩) (k + 1) c5))).alloc (Nat.le_refl _) (.cells #[.string ⟨su.toArray⟩] 9)).block (w.heap.size + 3) (by have := HM5.out.1.lt; have := HM5.out.1.size; omega) |>.trans HM5.out.1.blk); have e6 := cell_of_row w6 (w.heap.size + 3) 1 _ _ _ ho6; have f6 := frozen_of_row w6 (w.heap.size + 3) 1 _ _ ho6; have HM6 := Lib.hid hm6; clear hm6 ho6 hown6 hg6 ha6)
                    | go_in)
                  have hm7 := HM6.out.1
                  have hEq : strs (R.lefts keep torn cut k) ++ [.string ⟨su.toArray⟩] = strs (R.lefts keep torn cut (k + 1)) := by rw [← RD.lefts_succ, HL.out]
                  rw [hEq] at hm7
                  have d0' := (HM6.out.2 w.heap.size (by omega) (by omega)).trans ((HM5.out.2 w.heap.size (by omega) (by omega)).trans HM.out.2.1)
                  have d1' := (HM6.out.2 (w.heap.size + 1) (by omega) (by omega)).trans ((HM5.out.2 (w.heap.size + 1) (by omega) (by omega)).trans HM.out.2.2.1)
                  have d2' := (HM6.out.2 (w.heap.size + 2) (by omega) (by omega)).trans ((HM5.out.2 (w.heap.size + 2) (by omega) (by omega)).trans HM.out.2.2.2)
                  exact ⟨⟨k + 1, _, _, HK.out, by simp, by rw [HU.out]; simp, hm7, d0', d1', d2'⟩, by simp [intOf]; have := HK.out; omega⟩
              · have hqI : ¬ ((q : Int) < (keep.length : Int)) := by omega
                clear hkp hql
                by_cases hto : (q : Int) = torn
                · subst hto
                  rw [if_pos rfl] at hlt
                  have HL := Lib.hid hlt
                  have hnlI : (no.length : Int) = 64 := by omega
                  have hslI : (su.length : Int) = 64 := by omega
                  have hsz1 : (⟨no.toArray⟩ : ByteArray).size = 64 := hnl
                  have hsz2 : (⟨su.toArray⟩ : ByteArray).size = 64 := hsl
                  clear hlt
                  go_upto_region 15 with go_in
                  go_quiet (fail)
                  rw [tear_bytes64 no su cut (by omega) hsl]
                  have hm' := HM.out.1.drewN nq
                  have HM2 := Lib.hid (And.intro hm' (And.intro (show (wr.drewN nq).heap[w.heap.size]? = _ from HM.out.2.1) (And.intro (show (wr.drewN nq).heap[w.heap.size + 1]? = _ from HM.out.2.2.1) (show (wr.drewN nq).heap[w.heap.size + 2]? = _ from HM.out.2.2.2))))
                  clear hm' HM b0 x0 x1 x2 hsu hno hfr
                  generalize wr.drewN nq = wq at HM2 ⊢
                  have b0 := cell_of_row wq (w.heap.size + 3) 0 _ _ _ HM2.out.1.blk
                  go_wp2_with (first
                    | (at_builtin; have _t := tok1; refine wpList_appR _ rfl (.tmp 74) (.tmp 76) _ rfl (w.heap.size + 4) 9 i0 _ 1 16 Try.underlying30 hi hz0 hz1 hz2 rfl (by omega) (.slice As k cs) k (strs (R.lefts keep (q : Int) cut k)) rfl (World.ownsRow.alloc HM2.out.1.s _) (wq.heap.size + 1) (some ⟨wq.heap.size, 0, none⟩) 1 1 [.string ⟨(tearL su no cut).toArray⟩] rfl rfl (Rd.new wq #[.string ⟨(tearL su no cut).toArray⟩] 9 (0, 0)) (by simp [Value.oneCell']) (by have := HK.out; have := HH.out.2.2.2.2.2.n; omega) (by omega) (by have := HM2.out.1.size; simp; omega) ?_; intro v5 w5 hown5 hg5 ha5; obtain ⟨g5, c5, rfl, _, _, _, _⟩ := own_form hown5 (by omega); have hm5 := HM2.out.1.app0 (w1 := wq.alloc (.cells #[.string ⟨(tearL su no cut).toArray⟩] 9)) ((Below.refl _ _).alloc (Nat.le_refl _) _) hown5 hg5 ha5 (by omega); have ho5 := (hg5.block (w.heap.size + 3) (by have := HM2.out.1.lt; have := HM2.out.1.size; simp; omega) (by intro e; have := HM2.out.1.lt; have := (World.ownsRow.lt HM2.out.1.s _ e.symm).1; omega)).trans (((Below.refl _ wq).alloc (Nat.le_refl _) (.cells #[.string ⟨(tearL su no cut).toArray⟩] 9)).block (w.heap.size + 3) (by have := HM2.out.1.lt; have := HM2.out.1.size; omega) |>.trans HM2.out.1.blk); have e5 := cell_of_row w5 (w.heap.size + 3) 0 _ _ _ ho5; have f5 := frozen_of_row w5 (w.heap.size + 3) 0 _ _ ho5; have s5 : (w5.setCell ⟨w.heap.size + 3, 0, none⟩ (.slice (some ⟨g5, 0, none⟩) (k + 1) c5)).heap.size = w5.heap.size := (by simp [World.setCell]); have b1 := cell_of_row (w5.setCell ⟨w.heap.size + 3, 0, none⟩ (.slice (some ⟨g5, 0, none⟩) (k + 1) c5)) (w.heap.size + 3) 1 _ _ _ hm5.1.blk; have hr5 : Rd ((w5.setCell ⟨w.heap.size + 3, 0, none⟩ (.slice (some ⟨g5, 0, none⟩) (k + 1) c5)).alloc (.cells #[.string ⟨(tearL su no cut).toArray⟩] 9)) (w5.heap.size + 1) (some ⟨w5.heap.size, 0, none⟩) [.string ⟨(tearL su no cut).toArray⟩] := (by have := Rd.new (w5.setCell ⟨w.heap.size + 3, 0, none⟩ (.slice (some ⟨g5, 0, none⟩) (k + 1) c5)) #[.string ⟨(tearL su no cut).toArray⟩] 9 (0, 0); rw [s5] at this; exact this); have hz5 := hm5.1.size; rw [s5] at hz5; have HM5 := Lib.hid hm5; clear hm5 ho5 hown5 hg5 ha5 tok1 _t)
                    | (at_builtin; refine wpList_appR _ rfl (.tmp 80) (.tmp 82) _ rfl (w.heap.size + 4) 9 i0 _ 1 16 Try.underlying30 hi hz0 hz1 hz2 rfl (by omega) (.slice An k cn) k (strs (R.lefts keep (q : Int) cut k)) rfl (World.ownsRow.alloc HM5.out.1.n _) (w5.heap.size + 1) (some ⟨w5.heap.size, 0, none⟩) 1 1 [.string ⟨(tearL su no cut).toArray⟩] rfl rfl hr5 (by simp [Value.oneCell']) (by have := HK.out; have := HH.out.2.2.2.2.2.n; omega) (by omega) (by simp [World.setCell]; omega) ?_; intro v6 w6 hown6 hg6 ha6; obtain ⟨g6, c6, rfl, _, _, _, _⟩ := own_form hown6 (by omega); have hm6 := HM5.out.1.app1 (w1 := (w5.setCell ⟨w.heap.size + 3, 0, none⟩ (.slice (some ⟨g5, 0, none⟩) (k + 1) c5)).alloc (.cells #[.string ⟨(tearL su no cut).toArray⟩] 9)) ((Below.refl _ _).alloc (Nat.le_refl _) _) hown6 hg6 ha6 (by omega); have ho6 := (hg6.block (w.heap.size + 3) (by have := HM5.out.1.lt; simp [World.setCell]; omega) (by intro e; have := HM5.out.1.lt; have := (World.ownsRow.lt HM5.out.1.n _ e.symm).1; omega)).trans (((Below.refl _ (w5.setCell ⟨w.heap.size + 3, 0, none⟩ (.slice (some ⟨g5, 0, none⟩) (k + 1) c5))).alloc (Nat.le_refl _) (.cells #[.string ⟨(tearL su no cut).toArray⟩] 9)).block (w.heap.size + 3) (by have := HM5.out.1.lt; have := HM5.out.1.size; omega) |>.trans HM5.out.1.blk); have e6 := cell_of_row w6 (w.heap.size + 3) 1 _ _ _ ho6; have f6 := frozen_of_row w6 (w.heap.size + 3) 1 _ _ ho6; have HM6 := Lib.hid hm6; clear hm6 ho6 hown6 hg6 ha6)
                    | go_in)
                  have hm7 := HM6.out.1
                  have hEq : strs (R.lefts keep (q : Int) cut k) ++ [.string ⟨(tearL su no cut).toArray⟩] = strs (R.lefts keep (q : Int) cut (k + 1)) := by rw [← RD.lefts_succ, HL.out]
                  rw [hEq] at hm7
                  have d0' := (HM6.out.2 w.heap.size (by omega) (by omega)).trans ((HM5.out.2 w.heap.size (by omega) (by omega)).trans HM2.out.2.1)
                  have d1' := (HM6.out.2 (w.heap.size + 1) (by omega) (by omega)).trans ((HM5.out.2 (w.heap.size + 1) (by omega) (by omega)).trans HM2.out.2.2.1)
                  have d2' := (HM6.out.2 (w.heap.size + 2) (by omega) (by omega)).trans ((HM5.out.2 (w.heap.size + 2) (by omega) (by omega)).trans HM2.out.2.2.2)
                  exact ⟨⟨k + 1, _, _, HK.out, by simp, by rw [HU.out]; simp, hm7, d0', d1', d2'⟩, by simp [intOf]; have := HK.out; omega⟩
                · rw [if_neg hto] at hlt
                  have HL := Lib.hid hlt
                  have htb : ((q : Int) == torn) = false := beq_eq_false_iff_ne.2 hto
                  clear hlt hno hnl hsl
                  go_wp2_with (first
                    | (at_builtin; have _t := tok1; refine wpList_appR _ rfl (.tmp 74) (.tmp 76) _ rfl (w.heap.size + 4) 9 i0 _ 1 16 Try.underlying30 hi hz0 hz1 hz2 rfl (by omega) (.slice As k cs) k (strs (R.lefts keep torn cut k)) rfl (World.ownsRow.alloc HM.out.1.s _) (wr.heap.size + 1) (some ⟨wr.heap.size, 0, none⟩) 1 1 [.string ⟨su.toArray⟩] rfl rfl (Rd.new wr #[.string ⟨su.toArray⟩] 9 (0, 0)) (by simp [Value.oneCell']) (by have := HK.out; have := HH.out.2.2.2.2.2.n; omega) (by omega) (by have := HM.out.1.size; simp; omega) ?_; intro v5 w5 hown5 hg5 ha5; obtain ⟨g5, c5, rfl, _, _, _, _⟩ := own_form hown5 (by omega); have hm5 := HM.out.1.app0 (w1 := wr.alloc (.cells #[.string ⟨su.toArray⟩] 9)) ((Below.refl _ _).alloc (Nat.le_refl _) _) hown5 hg5 ha5 (by omega); have ho5 := (hg5.block (w.heap.size + 3) (by have := HM.out.1.lt; have := HM.out.1.size; simp; omega) (by intro e; have := HM.out.1.lt; have := (World.ownsRow.lt HM.out.1.s _ e.symm).1; omega)).trans (((Below.refl _ wr).alloc (Nat.le_refl _) (.cells #[.string ⟨su.toArray⟩] 9)).block (w.heap.size + 3) (by have := HM.out.1.lt; have := HM.out.1.size; omega) |>.trans HM.out.1.blk); have e5 := cell_of_row w5 (w.heap.size + 3) 0 _ _ _ ho5; have f5 := frozen_of_row w5 (w.heap.size + 3) 0 _ _ ho5; have s5 : (w5.setCell ⟨w.heap.size + 3, 0, none⟩ (.slice (some ⟨g5, 0, none⟩) (k + 1) c5)).heap.size = w5.heap.size := (by simp [World.setCell]); have b1 := cell_of_row (w5.setCell ⟨w.heap.size + 3, 0, none⟩ (.slice (some ⟨g5, 0, none⟩) (k + 1) c5)) (w.heap.size + 3) 1 _ _ _ hm5.1.blk; have hr5 : Rd ((w5.setCell ⟨w.heap.size + 3, 0, none⟩ (.slice (some ⟨g5, 0, none⟩) (k + 1) c5)).alloc (.cells #[.string ⟨su.toArray⟩] 9)) (w5.heap.size + 1) (some ⟨w5.heap.size, 0, none⟩) [.string ⟨su.toArray⟩] := (by have := Rd.new (w5.setCell ⟨w.heap.size + 3, 0, none⟩ (.slice (some ⟨g5, 0, none⟩) (k + 1) c5)) #[.string ⟨su.toArray⟩] 9 (0, 0); rw [s5] at this; exact this); have hz5 := hm5.1.size; rw [s5] at hz5; have HM5 := Lib.hid hm5; clear hm5 ho5 hown5 hg5 ha5 tok1 _t)
                    | (at_builtin; refine wpList_appR _ rfl (.tmp 80) (.tmp 82) _ rfl (w.heap.size + 4) 9 i0 _ 1 16 Try.underlying30 hi hz0 hz1 hz2 rfl (by omega) (.slice An k cn) k (strs (R.lefts keep torn cut k)) rfl (World.ownsRow.alloc HM5.out.1.n _) (w5.heap.size + 1) (some ⟨w5.heap.size, 0, none⟩) 1 1 [.string ⟨su.toArray⟩] rfl rfl hr5 (by simp [Value.oneCell']) (by have := HK.out; have := HH.out.2.2.2.2.2.n; omega) (by omega) (by simp [World.setCell]; omega) ?_; intro v6 w6 hown6 hg6 ha6; obtain ⟨g6, c6, rfl, _, _, _, _⟩ := own_form hown6 (by omega); have hm6 := HM5.out.1.app1 (w1 := (w5.setCell ⟨w.heap.size + 3, 0, none⟩ (.slice (some ⟨g5, 0, none⟩) (k + 1) c5)).alloc (.cells #[.string ⟨su.toArray⟩] 9)) ((Below.refl _ _).alloc (Nat.le_refl _) _) hown6 hg6 ha6 (by omega); have ho6 := (hg6.block (w.heap.size + 3) (by have := HM5.out.1.lt; simp [World.setCell]; omega) (by intro e; have := HM5.out.1.lt; have := (World.ownsRow.lt HM5.out.1.n _ e.symm).1; omega)).trans (((Below.refl _ (w5.setCell ⟨w.heap.size + 3, 0, none⟩ (.slice (some ⟨g5, 0, none⟩) (k + 1) c5))).alloc (Nat.le_refl _) (.cells #[.string ⟨su.toArray⟩] 9)).block (w.heap.size + 3) (by have := HM5.out.1.lt; have := HM5.out.1.size; omega) |>.trans HM5.out.1.blk); have e6 := cell_of_row w6 (w.heap.size + 3) 1 _ _ _ ho6; have f6 := frozen_of_row w6 (w.heap.size + 3) 1 _ _ ho6; have HM6 := Lib.hid hm6; clear hm6 ho6 hown6 hg6 ha6)
                    | go_in)
                  have hm7 := HM6.out.1
                  have hEq : strs (R.lefts keep torn cut k) ++ [.string ⟨su.toArray⟩] = strs (R.lefts keep torn cut (k + 1)) := by rw [← RD.lefts_succ, HL.out]
                  rw [hEq] at hm7
                  have d0' := (HM6.out.2 w.heap.size (by omega) (by omega)).trans ((HM5.out.2 w.heap.size (by omega) (by omega)).trans HM.out.2.1)
                  have d1' := (HM6.out.2 (w.heap.size + 1) (by omega) (by omega)).trans ((HM5.out.2 (w.heap.size + 1) (by omega) (by omega)).trans HM.out.2.2.1)
                  have d2' := (HM6.out.2 (w.heap.size + 2) (by omega) (by omega)).trans ((HM5.out.2 (w.heap.size + 2) (by omega) (by omega)).trans HM.out.2.2.2)
                  exact ⟨⟨k + 1, _, _, HK.out, by simp, by rw [HU.out]; simp, hm7, d0', d1', d2'⟩, by simp [intOf]; have := HK.out; omega⟩
        · obtain rfl : k = R.now.length := by omega
          have hX2 : ∀ x ∈ (w.heap.size + 1) :: X, x < w.heap.size + 4 := by
            intro x hx
            rcases List.mem_cons.1 hx with rfl | hx
            · omega
            · have := HH.out.2.2.2.2.1 x hx; omega
          obtain ⟨As, cs, rfl, _, _, sA⟩ := own_sl hm.s hX2
          obtain ⟨An, cn, rfl, _, _, sN⟩ := own_sl hm.n hX2
          have k0 := cell_of_row wr (w.heap.size + 3) 0 _ _ _ hm.blk
          have k1 := cell_of_row wr (w.heap.size + 3) 1 _ _ _ hm.blk
          have k2 := cell_of_row wr (w.heap.size + 3) 2 _ _ _ hm.blk
          have k3 := cell_of_row wr (w.heap.size + 3) 3 _ _ _ hm.blk
          have k4 := cell_of_row wr (w.heap.size + 3) 4 _ _ _ hm.blk
          have z0 := cell_of_row wr (w.heap.size + 1) 0 _ _ _ hd1
          have z1 := cell_of_row wr (w.heap.size + 1) 1 _ _ _ hd1
          have z2 := cell_of_row wr (w.heap.size + 1) 2 _ _ _ hd1
          have z3 := cell_of_row wr (w.heap.size + 1) 3 _ _ _ hd1
          have z4 := cell_of_row wr (w.heap.size + 1) 4 _ _ _ hd1
          have zf0 := frozen_of_row wr (w.heap.size + 1) 0 _ _ hd1
          have zf1 := frozen_of_row wr (w.heap.size + 1) 1 _ _ hd1
          have zf2 := frozen_of_row wr (w.heap.size + 1) 2 _ _ hd1
          have zf3 := frozen_of_row wr (w.heap.size + 1) 3 _ _ hd1
          have zf4 := frozen_of_row wr (w.heap.size + 1) 4 _ _ hd1
          have hkI : ¬ ((R.now.length : Int) < (R.now.length : Int)) := by omega
          have HM := Lib.hid (And.intro hm (And.intro hd0 (And.intro hd1 (And.intro hd2 (And.intro sA sN)))))
          clear hm hd0 hd1 hd2 sA sN
          go_wp2_with go_in
          have fF : Fr wr (((((wr.setCell ⟨w.heap.size + 1, 0, none⟩ (.slice As R.now.length cs)).setCell ⟨w.heap.size + 1, 1, none⟩ (.slice An R.now.length cn)).setCell ⟨w.heap.size + 1, 2, none⟩ (.slice (some ⟨w.heap.size + 2, 0, none⟩) R.now.length R.now.length)).setCell ⟨w.heap.size + 1, 3, none⟩ (.int .i64 0)).setCell ⟨w.heap.size + 1, 4, none⟩ (.int .i64 (-1))) [w.heap.size + 1] := (((((Fr.refl _ _).setCell (by simp) _).setCell (by simp) _).setCell (by simp) _).setCell (by simp) _).setCell (by simp) _
          have hBf : Below w.heap.size w (((((wr.setCell ⟨w.heap.size + 1, 0, none⟩ (.slice As R.now.length cs)).setCell ⟨w.heap.size + 1, 1, none⟩ (.slice An R.now.length cn)).setCell ⟨w.heap.size + 1, 2, none⟩ (.slice (some ⟨w.heap.size + 2, 0, none⟩) R.now.length R.now.length)).setCell ⟨w.heap.size + 1, 3, none⟩ (.int .i64 0)).setCell ⟨w.heap.size + 1, 4, none⟩ (.int .i64 (-1))) := HM.out.1.below.trans (fF.below (by have := HM.out.1.below.size; omega) (by simp))
          have sF : Sl wr ((w.heap.size + 1) :: X) (some ⟨w.heap.size + 2, 0, none⟩) (bools (List.replicate R.now.length false)) := by
            refine ⟨fun hn => ⟨w.heap.size + 2, 0, rfl, heap_lt HM.out.2.2.2.1, fun j u hu => ?_⟩, fun a ha => by cases ha; intro hx; rcases List.mem_cons.1 hx with h | h; exact absurd h (by simp); exact absurd (HH.out.2.2.2.2.1 _ h) (by show ¬ (w.heap.size + 2 < w.heap.size); omega)⟩
            rw [cell_of_row wr (w.heap.size + 2) (0 + j) _ _ _ HM.out.2.2.2.1]
            simpa using hu
          refine bodyPost_ret (resCrash (set5 HM.out.2.2.1 _ _ _ _ _) _ rfl) rfl ⟨dv As An (some ⟨w.heap.size + 2, 0, none⟩) R.now.length R.now.length R.now.length cs cn R.now.length 0 (-1), rfl, ?_, hBf⟩
          exact ⟨As, An, some ⟨w.heap.size + 2, 0, none⟩, cs, cn, R.now.length, by simp [dv, RD.crashed, RD.lefts], (HM.out.2.2.2.2.1.fr fF (by simp)).sub (fun y hy => by simp [hy]), (HM.out.2.2.2.2.2.fr fF (by simp)).sub (fun y hy => by simp [hy]), (sF.fr fF (by simp)).sub (fun y hy => by simp [hy])⟩
    · go_enter Try.func19, Try.ntmps19
      go_wp2_with go_in
      clear hmk
      generalize ((((w.alloc (.cells #[.slice A1 R.sure.length c1, .slice A2 R.now.length c2, .slice A3 R.fresh.length c3, .int .i64 R.steps, .int .i64 R.left] 33)).alloc (.cells #[.slice none 0 0, .slice none 0 0, .slice none 0 0, .int .i64 0, .int .i64 0] 33)).alloc (.cells (bools (List.replicate R.now.length false)).toArray 4)).alloc (.cells #[.slice none 0 0, .slice none 0 0, (.slice (some ⟨w.heap.size + 2, 0, none⟩) R.now.length R.now.length), .int .i64 0, .int .i64 (-1)] 33)) = W at HZ ⊢
      go_loopw [10, 11, 12, 25] (fun kc _ _ i wr => ∃ (k : Nat) (vs vn : Value), k ≤ R.now.length ∧ i = .int .i64 (k : Int) ∧ kc = .int .i64 ((upto R.fresh k).length : Int) ∧ Mk w wr (w.heap.size + 3) (w.heap.size + 4) vs vn (.slice (some ⟨w.heap.size + 2, 0, none⟩) R.now.length R.now.length) (.int .i64 0) (.int .i64 (-1)) k (strs (R.lefts keep torn cut k)) k (strs (R.lefts keep torn cut k)) ∧ wr.heap[w.heap.size]? = some (.cells #[.slice A1 R.sure.length c1, .slice A2 R.now.length c2, .slice A3 R.fresh.length c3, .int .i64 R.steps, .int .i64 R.left] 33) ∧ wr.heap[w.heap.size + 1]? = some (.cells #[.slice none 0 0, .slice none 0 0, .slice none 0 0, .int .i64 0, .int .i64 0] 33) ∧ wr.heap[w.heap.size + 2]? = some (.cells (bools (List.replicate R.now.length false)).toArray 4))
        (fun _ _ _ i _ => R.now.length - (intOf i).toNat)
      case atStart => exact ⟨0, _, _, by omega, rfl, rfl, HZ.out.1, HZ.out.2.1, HZ.out.2.2.1, HZ.out.2.2.2⟩
      case round =>
        obtain ⟨k, vs, vn, hkn, rfl, rfl, hm, hd0, hd1, hd2⟩ := hrel
        by_cases hkl : k < R.now.length
        · have hkI : (k : Int) < (R.now.length : Int) := by omega
          have hkb : (k : Int) < 4096 := by omega
          have hkS : k < R.sure.length := by have := HH.out.2.2.2.2.2.sure; omega
          have hkF : k < R.fresh.length := by have := HH.out.2.2.2.2.2.fresh; omega
          have hkSI : (k : Int) < (R.sure.length : Int) := by omega
          have hkFI : (k : Int) < (R.fresh.length : Int) := by omega
          have hbW := hm.below
          obtain ⟨As, cs, rfl, _, _, _⟩ := own_shape hm.s
          obtain ⟨An, cn, rfl, _, _, _⟩ := own_shape hm.n
          obtain ⟨i0, hi, hz0, hz1, hz2⟩ := info_parts infoStr
          have tok1 : True := trivial
          have x0 := cell_of_row wr w.heap.size 0 _ _ _ hd0
          have x1 := cell_of_row wr w.heap.size 1 _ _ _ hd0
          have x2 := cell_of_row wr w.heap.size 2 _ _ _ hd0
          have b0 := cell_of_row wr (w.heap.size + 3) 0 _ _ _ hm.blk
          obtain ⟨p1, o1, rfl, hp1, hq1⟩ := HH.out.1.1.get (k := k) (by simpa using hkS)
          obtain ⟨p2, o2, rfl, hp2, hq2⟩ := HH.out.2.1.1.get (k := k) (by simpa using hkl)
          obtain ⟨p3, o3, rfl, hp3, hq3⟩ := HH.out.2.2.1.1.get (k := k) (by simpa using hkF)
          have hsu : wr.cell? ⟨p1, o1 + k, none⟩ = some (.string ⟨R.sure[k].toArray⟩) := by
            rw [show (Value.string ⟨R.sure[k].toArray⟩) = (strs R.sure)[k]'(by simpa using hkS) by simp [strs], ← hq1]; exact hbW.cell (p := ⟨p1, o1 + k, none⟩) hp1
          have hno : wr.cell? ⟨p2, o2 + k, none⟩ = some (.string ⟨R.now[k].toArray⟩) := by
            rw [show (Value.string ⟨R.now[k].toArray⟩) = (strs R.now)[k]'(by simpa using hkl) by simp [strs], ← hq2]; exact hbW.cell (p := ⟨p2, o2 + k, none⟩) hp2
          have hfr : wr.cell? ⟨p3, o3 + k, none⟩ = some (.bool R.fresh[k]) := by
            rw [show (Value.bool R.fresh[k]) = (bools R.fresh)[k]'(by simpa using hkF) by simp [bools], ← hq3]; exact hbW.cell (p := ⟨p3, o3 + k, none⟩) hp3
          have hsl := H64.out.1 k hkS
          have hnl := H64.out.2 k hkl
          have hlt : R.left1 keep torn cut k = if R.fresh[k] then (if keep[(upto R.fresh k).length]? = some true then R.now[k] else if ((upto R.fresh k).length : Int) = torn then tearL R.sure[k] R.now[k] cut else R.sure[k]) else R.sure[k] := by
            unfold RD.left1
            rw [show R.fresh.getD k false = R.fresh[k] by simp [List.getD, hkF], show R.now.getD k [] = R.now[k] by simp [List.getD, hkl], show R.sure.getD k [] = R.sure[k] by simp [List.getD, hkS]]
          have hup := upto_succ R.fresh k
          rw [show R.fresh.getD k false = R.fresh[k] by simp [List.getD, hkF]] at hup
          have hul := upto_len R.fresh k
          obtain ⟨su, hsu'⟩ : ∃ su, su = R.sure[k] := ⟨_, rfl⟩
          obtain ⟨no, hno'⟩ : ∃ no, no = R.now[k] := ⟨_, rfl⟩
          obtain ⟨fb, hfb'⟩ : ∃ fb, fb = R.fresh[k] := ⟨_, rfl⟩
          rw [← hsu'] at hsu hlt hsl
          rw [← hno'] at hno hlt hnl
          rw [← hfb'] at hfr hlt hup
          obtain ⟨q, hq⟩ : ∃ q, q = (upto R.fresh k).length := ⟨_, rfl⟩
          rw [← hq] at hlt hul ⊢
          have hqb : (q : Int) ≤ 4096 := by omega
          have HM := Lib.hid (And.intro hm (And.intro hd0 (And.intro hd1 hd2)))
          have HK := Lib.hid hkl
          have HQ := Lib.hid hq
          clear hm hd0 hd1 hd2 hsu' hno' hfb' hq1 hq2 hq3 hp1 hp2 hp3 hul hq hbW
          cases fb with
          | false =>
            have HL := Lib.hid (hlt.trans (if_neg (by simp)))
            have HU := Lib.hid (show (upto R.fresh (k + 1)).length = q by rw [hup, HQ.out]; simp)
            clear hlt hup hno hnl hsl
            go_wp2_with (first
              | (at_builtin; have _t := tok1; refine wpList_appR _ rfl (.tmp 74) (.tmp 76) _ rfl (w.heap.size + 4) 9 i0 _ 1 16 Try.underlying30 hi hz0 hz1 hz2 rfl (by omega) (.slice As k cs) k (strs (R.lefts keep torn cut k)) rfl (World.ownsRow.alloc HM.out.1.s _) (wr.heap.size + 1) (some ⟨wr.heap.size, 0, none⟩) 1 1 [.string ⟨su.toArray⟩] rfl rfl (Rd.new wr #[.string ⟨su.toArray⟩] 9 (0, 0)) (by simp [Value.oneCell']) (by have := HK.out; have := HH.out.2.2.2.2.2.n; omega) (by omega) (by have := HM.out.1.size; simp; omega) ?_; intro v5 w5 hown5 hg5 ha5; obtain ⟨g5, c5, rfl, _, _, _, _⟩ := own_form hown5 (by omega); have hm5 := HM.out.1.app0 (w1 := wr.alloc (.cells #[.string ⟨su.toArray⟩] 9)) ((Below.refl _ _).alloc (Nat.le_refl _) _) hown5 hg5 ha5 (by omega); have ho5 := (hg5.block (w.heap.size + 3) (by have := HM.out.1.lt; have := HM.out.1.size; simp; omega) (by intro e; have := HM.out.1.lt; have := (World.ownsRow.lt HM.out.1.s _ e.symm).1; omega)).trans (((Below.refl _ wr).alloc (Nat.le_refl _) (.cells #[.string ⟨su.toArray⟩] 9)).block (w.heap.size + 3) (by have := HM.out.1.lt; have := HM.out.1.size; omega) |>.trans HM.out.1.blk); have e5 := cell_of_row w5 (w.heap.size + 3) 0 _ _ _ ho5; have f5 := frozen_of_row w5 (w.heap.size + 3) 0 _ _ ho5; have s5 : (w5.setCell ⟨w.heap.size + 3, 0, none⟩ (.slice (some ⟨g5, 0, none⟩) (k + 1) c5)).heap.size = w5.heap.size := (by simp [World.setCell]); have b1 := cell_of_row (w5.setCell ⟨w.heap.size + 3, 0, none⟩ (.slice (some ⟨g5, 0, none⟩) (k + 1) c5)) (w.heap.size + 3) 1 _ _ _ hm5.1.blk; have hr5 : Rd ((w5.setCell ⟨w.heap.size + 3, 0, none⟩ (.slice (some ⟨g5, 0, none⟩) (k + 1) c5)).alloc (.cells #[.string ⟨su.toArray⟩] 9)) (w5.heap.size + 1) (some ⟨w5.heap.size, 0, none⟩) [.string ⟨su.toArray⟩] := (by have := Rd.new (w5.setCell ⟨w.heap.size + 3, 0, none⟩ (.slice (some ⟨g5, 0, none⟩) (k + 1) c5)) #[.string ⟨su.toArray⟩] 9 (0, 0); rw [s5] at this; exact this); have hz5 := hm5.1.size; rw [s5] at hz5; have HM5 := Lib.hid hm5; clear hm5 ho5 hown5 hg5 ha5 tok1 _t)
              | (at_builtin; refine wpList_appR _ rfl (.tmp 80) (.tmp 82) _ rfl (w.heap.size + 4) 9 i0 _ 1 16 Try.underlying30 hi hz0 hz1 hz2 rfl (by omega) (.slice An k cn) k (strs (R.lefts keep torn cut k)) rfl (World.ownsRow.alloc HM5.out.1.n _) (w5.heap.size + 1) (some ⟨w5.heap.size, 0, none⟩) 1 1 [.string ⟨su.toArray⟩] rfl rfl hr5 (by simp [Value.oneCell']) (by have := HK.out; have := HH.out.2.2.2.2.2.n; omega) (by omega) (by simp [World.setCell]; omega) ?_; intro v6 w6 hown6 hg6 ha6; obtain ⟨g6, c6, rfl, _, _, _, _⟩ := own_form hown6 (by omega); have hm6 := HM5.out.1.app1 (w1 := (w5.setCell ⟨w.heap.size + 3, 0, none⟩ (.slice (some ⟨g5, 0, none⟩) (k + 1) c5)).alloc (.cells #[.string ⟨su.toArray⟩] 9)) ((Below.refl _ _).alloc (Nat.le_refl _) _) hown6 hg6 ha6 (by omega); have ho6 := (hg6.block (w.heap.size + 3) (by have := HM5.out.1.lt; simp [World.setCell]; omega) (by intro e; have := HM5.out.1.lt; have := (World.ownsRow.lt HM5.out.1.n _ e.symm).1; omega)).trans (((Below.refl _ (w5.setCell ⟨w.heap.size + 3, 0, none⟩ (.slice (some ⟨g5, 0, none⟩) (k + 1) c5))).alloc (Nat.le_refl _) (.cells #[.string ⟨su.toArray⟩] 9)).block (w.heap.size + 3) (by have := HM5.out.1.lt; have := HM5.out.1.size; omega) |>.trans HM5.out.1.blk); have e6 := cell_of_row w6 (w.heap.size + 3) 1 _ _ _ ho6; have f6 := frozen_of_row w6 (w.heap.size + 3) 1 _ _ ho6; have HM6 := Lib.hid hm6; clear hm6 ho6 hown6 hg6 ha6)
              | go_in)
            have hm7 := HM6.out.1
            have hEq : strs (R.lefts keep torn cut k) ++ [.string ⟨su.toArray⟩] = strs (R.lefts keep torn cut (k + 1)) := by rw [← RD.lefts_succ, HL.out]
            rw [hEq] at hm7
            have d0' := (HM6.out.2 w.heap.size (by omega) (by omega)).trans ((HM5.out.2 w.heap.size (by omega) (by omega)).trans HM.out.2.1)
            have d1' := (HM6.out.2 (w.heap.size + 1) (by omega) (by omega)).trans ((HM5.out.2 (w.heap.size + 1) (by omega) (by omega)).trans HM.out.2.2.1)
            have d2' := (HM6.out.2 (w.heap.size + 2) (by omega) (by omega)).trans ((HM5.out.2 (w.heap.size + 2) (by omega) (by omega)).trans HM.out.2.2.2)
            exact ⟨⟨k + 1, _, _, HK.out, by simp, by rw [HU.out], hm7, d0', d1', d2'⟩, by simp [intOf]; have := HK.out; omega⟩
          | true =>
            have HU := Lib.hid (show (upto R.fresh (k + 1)).length = q + 1 by rw [hup, HQ.out]; simp)
            rw [if_pos rfl] at hlt
            clear hup
            by_cases hkp : keep[q]? = some true
            · have hql : q < keep.length := (List.getElem?_eq_some_iff.1 hkp).1
              have hqI : (q : Int) < (keep.length : Int) := by omega
              obtain ⟨p4, o4, rfl, hp4, hq4⟩ := HH.out.2.2.2.1.get (k := q) (by simpa using hql)
              have hke : wr.cell? ⟨p4, o4 + q, none⟩ = some (.bool true) := by
                have e1 : keep[q] = true := by rw [List.getElem?_eq_getElem hql] at hkp; injection hkp
                rw [show (Value.bool true) = (keep.map Value.bool)[q]'(by simpa using hql) by simp [e1], ← hq4]; exact HM.out.1.below.cell (p := ⟨p4, o4 + q, none⟩) hp4
              have HL := Lib.hid (hlt.trans (if_pos hkp))
              clear hlt hkp hql hp4 hq4 hsl hnl
              go_wp2_with (first
                | (at_builtin; have _t := tok1; refine wpList_appR _ rfl (.tmp 74) (.tmp 76) _ rfl (w.heap.size + 4) 9 i0 _ 1 16 Try.underlying30 hi hz0 hz1 hz2 rfl (by omega) (.slice As k cs) k (strs (R.lefts keep torn cut k)) rfl (World.ownsRow.alloc HM.out.1.s _) (wr.heap.size + 1) (some ⟨wr.heap.size, 0, none⟩) 1 1 [.string ⟨no.toArray⟩] rfl rfl (Rd.new wr #[.string ⟨no.toArray⟩] 9 (0, 0)) (by simp [Value.oneCell']) (by have := HK.out; have := HH.out.2.2.2.2.2.n; omega) (by omega) (by have := HM.out.1.size; simp; omega) ?_; intro v5 w5 hown5 hg5 ha5; obtain ⟨g5, c5, rfl, _, _, _, _⟩ := own_form hown5 (by omega); have hm5 := HM.out.1.app0 (w1 := wr.alloc (.cells #[.string ⟨no.toArray⟩] 9)) ((Below.refl _ _).alloc (Nat.le_refl _) _) hown5 hg5 ha5 (by omega); have ho5 := (hg5.block (w.heap.size + 3) (by have := HM.out.1.lt; have := HM.out.1.size; simp; omega) (by intro e; have := HM.out.1.lt; have := (World.ownsRow.lt HM.out.1.s _ e.symm).1; omega)).trans (((Below.refl _ wr).alloc (Nat.le_refl _) (.cells #[.string ⟨no.toArray⟩] 9)).block (w.heap.size + 3) (by have := HM.out.1.lt; have := HM.out.1.size; omega) |>.trans HM.out.1.blk); have e5 := cell_of_row w5 (w.heap.size + 3) 0 _ _ _ ho5; have f5 := frozen_of_row w5 (w.heap.size + 3) 0 _ _ ho5; have s5 : (w5.setCell ⟨w.heap.size + 3, 0, none⟩ (.slice (some ⟨g5, 0, none⟩) (k + 1) c5)).heap.size = w5.heap.size := (by simp [World.setCell]); have b1 := cell_of_row (w5.setCell ⟨w.heap.size + 3, 0, none⟩ (.slice (some ⟨g5, 0, none⟩) (k + 1) c5)) (w.heap.size + 3) 1 _ _ _ hm5.1.blk; have hr5 : Rd ((w5.setCell ⟨w.heap.size + 3, 0, none⟩ (.slice (some ⟨g5, 0, none⟩) (k + 1) c5)).alloc (.cells #[.string ⟨no.toArray⟩] 9)) (w5.heap.size + 1) (some ⟨w5.heap.size, 0, none⟩) [.string ⟨no.toArray⟩] := (by have := Rd.new (w5.setCell ⟨w.heap.size + 3, 0, none⟩ (.slice (some ⟨g5, 0, none⟩) (k + 1) c5)) #[.string ⟨no.toArray⟩] 9 (0, 0); rw [s5] at this; exact this); have hz5 := hm5.1.size; rw [s5] at hz5; have HM5 := Lib.hid hm5; clear hm5 ho5 hown5 hg5 ha5 tok1 _t)
                | (at_builtin; refine wpList_appR _ rfl (.tmp 80) (.tmp 82) _ rfl (w.heap.size + 4) 9 i0 _ 1 16 Try.underlying30 hi hz0 hz1 hz2 rfl (by omega) (.slice An k cn) k (strs (R.lefts keep torn cut k)) rfl (World.ownsRow.alloc HM5.out.1.n _) (w5.heap.size + 1) (some ⟨w5.heap.size, 0, none⟩) 1 1 [.string ⟨no.toArray⟩] rfl rfl hr5 (by simp [Value.oneCell']) (by have := HK.out; have := HH.out.2.2.2.2.2.n; omega) (by omega) (by simp [World.setCell]; omega) ?_; intro v6 w6 hown6 hg6 ha6; obtain ⟨g6, c6, rfl, _, _, _, _⟩ := own_form hown6 (by omega); have hm6 := HM5.out.1.app1 (w1 := (w5.setCell ⟨w.heap.size + 3, 0, none⟩ (.slice (some ⟨g5, 0, none⟩) (k + 1) c5)).alloc (.cells #[.string ⟨no.toArray⟩] 9)) ((Below.refl _ _).alloc (Nat.le_refl _) _) hown6 hg6 ha6 (by omega); have ho6 := (hg6.block (w.heap.size + 3) (by have := HM5.out.1.lt; simp [World.setCell]; omega) (by intro e; have := HM5.out.1.lt; have := (World.ownsRow.lt HM5.out.1.n _ e.symm).1; omega)).trans (((Below.refl _ (w5.setCell ⟨w.heap.size + 3, 0, none⟩ (.slice (some ⟨g5, 0, none⟩) (k + 1) c5))).alloc (Nat.le_refl _) (.cells #[.string ⟨no.toArray⟩] 9)).block (w.heap.size + 3) (by have := HM5.out.1.lt; have := HM5.out.1.size; omega) |>.trans HM5.out.1.blk); have e6 := cell_of_row w6 (w.heap.size + 3) 1 _ _ _ ho6; have f6 := frozen_of_row w6 (w.heap.size + 3) 1 _ _ ho6; have HM6 := Lib.hid hm6; clear hm6 ho6 hown6 hg6 ha6)
                | go_in)
              have hm7 := HM6.out.1
              have hEq : strs (R.lefts keep torn cut k) ++ [.string ⟨no.toArray⟩] = strs (R.lefts keep torn cut (k + 1)) := by rw [← RD.lefts_succ, HL.out]
              rw [hEq] at hm7
              have d0' := (HM6.out.2 w.heap.size (by omega) (by omega)).trans ((HM5.out.2 w.heap.size (by omega) (by omega)).trans HM.out.2.1)
              have d1' := (HM6.out.2 (w.heap.size + 1) (by omega) (by omega)).trans ((HM5.out.2 (w.heap.size + 1) (by omega) (by omega)).trans HM.out.2.2.1)
              have d2' := (HM6.out.2 (w.heap.size + 2) (by omega) (by omega)).trans ((HM5.out.2 (w.heap.size + 2) (by omega) (by omega)).trans HM.out.2.2.2)
              exact ⟨⟨k + 1, _, _, HK.out, by simp, by rw [HU.out]; simp, hm7, d0', d1', d2'⟩, by simp [intOf]; have := HK.out; omega⟩
            · rw [if_neg hkp] at hlt
              by_cases hql : q < keep.length
              · have hqI : (q : Int) < (keep.length : Int) := by omega
                obtain ⟨p4, o4, rfl, hp4, hq4⟩ := HH.out.2.2.2.1.get (k := q) (by simpa using hql)
                have hke : wr.cell? ⟨p4, o4 + q, none⟩ = some (.bool false) := by
                  have e1 : keep[q] = false := by rw [List.getElem?_eq_getElem hql] at hkp; cases h : keep[q] with | false => rfl | true => rw [h] at hkp; exact absurd rfl hkp
                  rw [show (Value.bool false) = (keep.map Value.bool)[q]'(by simpa using hql) by simp [e1], ← hq4]; exact HM.out.1.below.cell (p := ⟨p4, o4 + q, none⟩) hp4
                clear hkp hql hp4 hq4
                by_cases hto : (q : Int) = torn
                · subst hto
                  rw [if_pos rfl] at hlt
                  have HL := Lib.hid hlt
                  have hnlI : (no.length : Int) = 64 := by omega
                  have hslI : (su.length : Int) = 64 := by omega
                  have hsz1 : (⟨no.toArray⟩ : ByteArray).size = 64 := hnl
                  have hsz2 : (⟨su.toArray⟩ : ByteArray).size = 64 := hsl
                  clear hlt
                  go_upto_region 15 with go_in
                  go_quiet (fail)
                  rw [tear_bytesM no su cut (by omega) (by omega) hsl]
                  have hm' := HM.out.1.drewN nq
                  have HM2 := Lib.hid (And.intro hm' (And.intro (show (wr.drewN nq).heap[w.heap.size]? = _ from HM.out.2.1) (And.intro (show (wr.drewN nq).heap[w.heap.size + 1]? = _ from HM.out.2.2.1) (show (wr.drewN nq).heap[w.heap.size + 2]? = _ from HM.out.2.2.2))))
                  clear hm' HM b0 x0 x1 x2 hsu hno hfr
                  generalize wr.drewN nq = wq at HM2 ⊢
                  have b0 := cell_of_row wq (w.heap.size + 3) 0 _ _ _ HM2.out.1.blk
                  go_wp2_with (first
                    | (at_builtin; have _t := tok1; refine wpList_appR _ rfl (.tmp 74) (.tmp 76) _ rfl (w.heap.size + 4) 9 i0 _ 1 16 Try.underlying30 hi hz0 hz1 hz2 rfl (by omega) (.slice As k cs) k (strs (R.lefts keep (q : Int) cut k)) rfl (World.ownsRow.alloc HM2.out.1.s _) (wq.heap.size + 1) (some ⟨wq.heap.size, 0, none⟩) 1 1 [.string ⟨(tearL su no cut).toArray⟩] rfl rfl (Rd.new wq #[.string ⟨(tearL su no cut).toArray⟩] 9 (0, 0)) (by simp [Value.oneCell']) (by have := HK.out; have := HH.out.2.2.2.2.2.n; omega) (by omega) (by have := HM2.out.1.size; simp; omega) ?_; intro v5 w5 hown5 hg5 ha5; obtain ⟨g5, c5, rfl, _, _, _, _⟩ := own_form hown5 (by omega); have hm5 := HM2.out.1.app0 (w1 := wq.alloc (.cells #[.string ⟨(tearL su no cut).toArray⟩] 9)) ((Below.refl _ _).alloc (Nat.le_refl _) _) hown5 hg5 ha5 (by omega); have ho5 := (hg5.block (w.heap.size + 3) (by have := HM2.out.1.lt; have := HM2.out.1.size; simp; omega) (by intro e; have := HM2.out.1.lt; have := (World.ownsRow.lt HM2.out.1.s _ e.symm).1; omega)).trans (((Below.refl _ wq).alloc (Nat.le_refl _) (.cells #[.string ⟨(tearL su no cut).toArray⟩] 9)).block (w.heap.size + 3) (by have := HM2.out.1.lt; have := HM2.out.1.size; omega) |>.trans HM2.out.1.blk); have e5 := cell_of_row w5 (w.heap.size + 3) 0 _ _ _ ho5; have f5 := frozen_of_row w5 (w.heap.size + 3) 0 _ _ ho5; have s5 : (w5.setCell ⟨w.heap.size + 3, 0, none⟩ (.slice (some ⟨g5, 0, none⟩) (k + 1) c5)).heap.size = w5.heap.size := (by simp [World.setCell]); have b1 := cell_of_row (w5.setCell ⟨w.heap.size + 3, 0, none⟩ (.slice (some ⟨g5, 0, none⟩) (k + 1) c5)) (w.heap.size + 3) 1 _ _ _ hm5.1.blk; have hr5 : Rd ((w5.setCell ⟨w.heap.size + 3, 0, none⟩ (.slice (some ⟨g5, 0, none⟩) (k + 1) c5)).alloc (.cells #[.string ⟨(tearL su no cut).toArray⟩] 9)) (w5.heap.size + 1) (some ⟨w5.heap.size, 0, none⟩) [.string ⟨(tearL su no cut).toArray⟩] := (by have := Rd.new (w5.setCell ⟨w.heap.size + 3, 0, none⟩ (.slice (some ⟨g5, 0, none⟩) (k + 1) c5)) #[.string ⟨(tearL su no cut).toArray⟩] 9 (0, 0); rw [s5] at this; exact this); have hz5 := hm5.1.size; rw [s5] at hz5; have HM5 := Lib.hid hm5; clear hm5 ho5 hown5 hg5 ha5 tok1 _t)
                    | (at_builtin; refine wpList_appR _ rfl (.tmp 80) (.tmp 82) _ rfl (w.heap.size + 4) 9 i0 _ 1 16 Try.underlying30 hi hz0 hz1 hz2 rfl (by omega) (.slice An k cn) k (strs (R.lefts keep (q : Int) cut k)) rfl (World.ownsRow.alloc HM5.out.1.n _) (w5.heap.size + 1) (some ⟨w5.heap.size, 0, none⟩) 1 1 [.string ⟨(tearL su no cut).toArray⟩] rfl rfl hr5 (by simp [Value.oneCell']) (by have := HK.out; have := HH.out.2.2.2.2.2.n; omega) (by omega) (by simp [World.setCell]; omega) ?_; intro v6 w6 hown6 hg6 ha6; obtain ⟨g6, c6, rfl, _, _, _, _⟩ := own_form hown6 (by omega); have hm6 := HM5.out.1.app1 (w1 := (w5.setCell ⟨w.heap.size + 3, 0, none⟩ (.slice (some ⟨g5, 0, none⟩) (k + 1) c5)).alloc (.cells #[.string ⟨(tearL su no cut).toArray⟩] 9)) ((Below.refl _ _).alloc (Nat.le_refl _) _) hown6 hg6 ha6 (by omega); have ho6 := (hg6.block (w.heap.size + 3) (by have := HM5.out.1.lt; simp [World.setCell]; omega) (by intro e; have := HM5.out.1.lt; have := (World.ownsRow.lt HM5.out.1.n _ e.symm).1; omega)).trans (((Below.refl _ (w5.setCell ⟨w.heap.size + 3, 0, none⟩ (.slice (some ⟨g5, 0, none⟩) (k + 1) c5))).alloc (Nat.le_refl _) (.cells #[.string ⟨(tearL su no cut).toArray⟩] 9)).block (w.heap.size + 3) (by have := HM5.out.1.lt; have := HM5.out.1.size; omega) |>.trans HM5.out.1.blk); have e6 := cell_of_row w6 (w.heap.size + 3) 1 _ _ _ ho6; have f6 := frozen_of_row w6 (w.heap.size + 3) 1 _ _ ho6; have HM6 := Lib.hid hm6; clear hm6 ho6 hown6 hg6 ha6)
                    | go_in)
                  have hm7 := HM6.out.1
                  have hEq : strs (R.lefts keep (q : Int) cut k) ++ [.string ⟨(tearL su no cut).toArray⟩] = strs (R.lefts keep (q : Int) cut (k + 1)) := by rw [← RD.lefts_succ, HL.out]
                  rw [hEq] at hm7
                  have d0' := (HM6.out.2 w.heap.size (by omega) (by omega)).trans ((HM5.out.2 w.heap.size (by omega) (by omega)).trans HM2.out.2.1)
                  have d1' := (HM6.out.2 (w.heap.size + 1) (by omega) (by omega)).trans ((HM5.out.2 (w.heap.size + 1) (by omega) (by omega)).trans HM2.out.2.2.1)
                  have d2' := (HM6.out.2 (w.heap.size + 2) (by omega) (by omega)).trans ((HM5.out.2 (w.heap.size + 2) (by omega) (by omega)).trans HM2.out.2.2.2)
                  exact ⟨⟨k + 1, _, _, HK.out, by simp, by rw [HU.out]; simp, hm7, d0', d1', d2'⟩, by simp [intOf]; have := HK.out; omega⟩
                · rw [if_neg hto] at hlt
                  have HL := Lib.hid hlt
                  have htb : ((q : Int) == torn) = false := beq_eq_false_iff_ne.2 hto
                  clear hlt hno hnl hsl
                  go_wp2_with (first
                    | (at_builtin; have _t := tok1; refine wpList_appR _ rfl (.tmp 74) (.tmp 76) _ rfl (w.heap.size + 4) 9 i0 _ 1 16 Try.underlying30 hi hz0 hz1 hz2 rfl (by omega) (.slice As k cs) k (strs (R.lefts keep torn cut k)) rfl (World.ownsRow.alloc HM.out.1.s _) (wr.heap.size + 1) (some ⟨wr.heap.size, 0, none⟩) 1 1 [.string ⟨su.toArray⟩] rfl rfl (Rd.new wr #[.string ⟨su.toArray⟩] 9 (0, 0)) (by simp [Value.oneCell']) (by have := HK.out; have := HH.out.2.2.2.2.2.n; omega) (by omega) (by have := HM.out.1.size; simp; omega) ?_; intro v5 w5 hown5 hg5 ha5; obtain ⟨g5, c5, rfl, _, _, _, _⟩ := own_form hown5 (by omega); have hm5 := HM.out.1.app0 (w1 := wr.alloc (.cells #[.string ⟨su.toArray⟩] 9)) ((Below.refl _ _).alloc (Nat.le_refl _) _) hown5 hg5 ha5 (by omega); have ho5 := (hg5.block (w.heap.size + 3) (by have := HM.out.1.lt; have := HM.out.1.size; simp; omega) (by intro e; have := HM.out.1.lt; have := (World.ownsRow.lt HM.out.1.s _ e.symm).1; omega)).trans (((Below.refl _ wr).alloc (Nat.le_refl _) (.cells #[.string ⟨su.toArray⟩] 9)).block (w.heap.size + 3) (by have := HM.out.1.lt; have := HM.out.1.size; omega) |>.trans HM.out.1.blk); have e5 := cell_of_row w5 (w.heap.size + 3) 0 _ _ _ ho5; have f5 := frozen_of_row w5 (w.heap.size + 3) 0 _ _ ho5; have s5 : (w5.setCell ⟨w.heap.size + 3, 0, none⟩ (.slice (some ⟨g5, 0, none⟩) (k + 1) c5)).heap.size = w5.heap.size := (by simp [World.setCell]); have b1 := cell_of_row (w5.setCell ⟨w.heap.size + 3, 0, none⟩ (.slice (some ⟨g5, 0, none⟩) (k + 1) c5)) (w.heap.size + 3) 1 _ _ _ hm5.1.blk; have hr5 : Rd ((w5.setCell ⟨w.heap.size + 3, 0, none⟩ (.slice (some ⟨g5, 0, none⟩) (k + 1) c5)).alloc (.cells #[.string ⟨su.toArray⟩] 9)) (w5.heap.size + 1) (some ⟨w5.heap.size, 0, none⟩) [.string ⟨su.toArray⟩] := (by have := Rd.new (w5.setCell ⟨w.heap.size + 3, 0, none⟩ (.slice (some ⟨g5, 0, none⟩) (k + 1) c5)) #[.string ⟨su.toArray⟩] 9 (0, 0); rw [s5] at this; exact this); have hz5 := hm5.1.size; rw [s5] at hz5; have HM5 := Lib.hid hm5; clear hm5 ho5 hown5 hg5 ha5 tok1 _t)
                    | (at_builtin; refine wpList_appR _ rfl (.tmp 80) (.tmp 82) _ rfl (w.heap.size + 4) 9 i0 _ 1 16 Try.underlying30 hi hz0 hz1 hz2 rfl (by omega) (.slice An k cn) k (strs (R.lefts keep torn cut k)) rfl (World.ownsRow.alloc HM5.out.1.n _) (w5.heap.size + 1) (some ⟨w5.heap.size, 0, none⟩) 1 1 [.string ⟨su.toArray⟩] rfl rfl hr5 (by simp [Value.oneCell']) (by have := HK.out; have := HH.out.2.2.2.2.2.n; omega) (by omega) (by simp [World.setCell]; omega) ?_; intro v6 w6 hown6 hg6 ha6; obtain ⟨g6, c6, rfl, _, _, _, _⟩ := own_form hown6 (by omega); have hm6 := HM5.out.1.app1 (w1 := (w5.setCell ⟨w.heap.size + 3, 0, none⟩ (.slice (some ⟨g5, 0, none⟩) (k + 1) c5)).alloc (.cells #[.string ⟨su.toArray⟩] 9)) ((Below.refl _ _).alloc (Nat.le_refl _) _) hown6 hg6 ha6 (by omega); have ho6 := (hg6.block (w.heap.size + 3) (by have := HM5.out.1.lt; simp [World.setCell]; omega) (by intro e; have := HM5.out.1.lt; have := (World.ownsRow.lt HM5.out.1.n _ e.symm).1; omega)).trans (((Below.refl _ (w5.setCell ⟨w.heap.size + 3, 0, none⟩ (.slice (some ⟨g5, 0, none⟩) (k + 1) c5))).alloc (Nat.le_refl _) (.cells #[.string ⟨su.toArray⟩] 9)).block (w.heap.size + 3) (by have := HM5.out.1.lt; have := HM5.out.1.size; omega) |>.trans HM5.out.1.blk); have e6 := cell_of_row w6 (w.heap.size + 3) 1 _ _ _ ho6; have f6 := frozen_of_row w6 (w.heap.size + 3) 1 _ _ ho6; have HM6 := Lib.hid hm6; clear hm6 ho6 hown6 hg6 ha6)
                    | go_in)
                  have hm7 := HM6.out.1
                  have hEq : strs (R.lefts keep torn cut k) ++ [.string ⟨su.toArray⟩] = strs (R.lefts keep torn cut (k + 1)) := by rw [← RD.lefts_succ, HL.out]
                  rw [hEq] at hm7
                  have d0' := (HM6.out.2 w.heap.size (by omega) (by omega)).trans ((HM5.out.2 w.heap.size (by omega) (by omega)).trans HM.out.2.1)
                  have d1' := (HM6.out.2 (w.heap.size + 1) (by omega) (by omega)).trans ((HM5.out.2 (w.heap.size + 1) (by omega) (by omega)).trans HM.out.2.2.1)
                  have d2' := (HM6.out.2 (w.heap.size + 2) (by omega) (by omega)).trans ((HM5.out.2 (w.heap.size + 2) (by omega) (by omega)).trans HM.out.2.2.2)
                  exact ⟨⟨k + 1, _, _, HK.out, by simp, by rw [HU.out]; simp, hm7, d0', d1', d2'⟩, by simp [intOf]; have := HK.out; omega⟩
              · have hqI : ¬ ((q : Int) < (keep.length : Int)) := by omega
                clear hkp hql
                by_cases hto : (q : Int) = torn
                · subst hto
                  rw [if_pos rfl] at hlt
                  have HL := Lib.hid hlt
                  have hnlI : (no.length : Int) = 64 := by omega
                  have hslI : (su.length : Int) = 64 := by omega
                  have hsz1 : (⟨no.toArray⟩ : ByteArray).size = 64 := hnl
                  have hsz2 : (⟨su.toArray⟩ : ByteArray).size = 64 := hsl
                  clear hlt
                  go_upto_region 15 with go_in
                  go_quiet (fail)
                  rw [tear_bytesM no su cut (by omega) (by omega) hsl]
                  have hm' := HM.out.1.drewN nq
                  have HM2 := Lib.hid (And.intro hm' (And.intro (show (wr.drewN nq).heap[w.heap.size]? = _ from HM.out.2.1) (And.intro (show (wr.drewN nq).heap[w.heap.size + 1]? = _ from HM.out.2.2.1) (show (wr.drewN nq).heap[w.heap.size + 2]? = _ from HM.out.2.2.2))))
                  clear hm' HM b0 x0 x1 x2 hsu hno hfr
                  generalize wr.drewN nq = wq at HM2 ⊢
                  have b0 := cell_of_row wq (w.heap.size + 3) 0 _ _ _ HM2.out.1.blk
                  go_wp2_with (first
                    | (at_builtin; have _t := tok1; refine wpList_appR _ rfl (.tmp 74) (.tmp 76) _ rfl (w.heap.size + 4) 9 i0 _ 1 16 Try.underlying30 hi hz0 hz1 hz2 rfl (by omega) (.slice As k cs) k (strs (R.lefts keep (q : Int) cut k)) rfl (World.ownsRow.alloc HM2.out.1.s _) (wq.heap.size + 1) (some ⟨wq.heap.size, 0, none⟩) 1 1 [.string ⟨(tearL su no cut).toArray⟩] rfl rfl (Rd.new wq #[.string ⟨(tearL su no cut).toArray⟩] 9 (0, 0)) (by simp [Value.oneCell']) (by have := HK.out; have := HH.out.2.2.2.2.2.n; omega) (by omega) (by have := HM2.out.1.size; simp; omega) ?_; intro v5 w5 hown5 hg5 ha5; obtain ⟨g5, c5, rfl, _, _, _, _⟩ := own_form hown5 (by omega); have hm5 := HM2.out.1.app0 (w1 := wq.alloc (.cells #[.string ⟨(tearL su no cut).toArray⟩] 9)) ((Below.refl _ _).alloc (Nat.le_refl _) _) hown5 hg5 ha5 (by omega); have ho5 := (hg5.block (w.heap.size + 3) (by have := HM2.out.1.lt; have := HM2.out.1.size; simp; omega) (by intro e; have := HM2.out.1.lt; have := (World.ownsRow.lt HM2.out.1.s _ e.symm).1; omega)).trans (((Below.refl _ wq).alloc (Nat.le_refl _) (.cells #[.string ⟨(tearL su no cut).toArray⟩] 9)).block (w.heap.size + 3) (by have := HM2.out.1.lt; have := HM2.out.1.size; omega) |>.trans HM2.out.1.blk); have e5 := cell_of_row w5 (w.heap.size + 3) 0 _ _ _ ho5; have f5 := frozen_of_row w5 (w.heap.size + 3) 0 _ _ ho5; have s5 : (w5.setCell ⟨w.heap.size + 3, 0, none⟩ (.slice (some ⟨g5, 0, none⟩) (k + 1) c5)).heap.size = w5.heap.size := (by simp [World.setCell]); have b1 := cell_of_row (w5.setCell ⟨w.heap.size + 3, 0, none⟩ (.slice (some ⟨g5, 0, none⟩) (k + 1) c5)) (w.heap.size + 3) 1 _ _ _ hm5.1.blk; have hr5 : Rd ((w5.setCell ⟨w.heap.size + 3, 0, none⟩ (.slice (some ⟨g5, 0, none⟩) (k + 1) c5)).alloc (.cells #[.string ⟨(tearL su no cut).toArray⟩] 9)) (w5.heap.size + 1) (some ⟨w5.heap.size, 0, none⟩) [.string ⟨(tearL su no cut).toArray⟩] := (by have := Rd.new (w5.setCell ⟨w.heap.size + 3, 0, none⟩ (.slice (some ⟨g5, 0, none⟩) (k + 1) c5)) #[.string ⟨(tearL su no cut).toArray⟩] 9 (0, 0); rw [s5] at this; exact this); have hz5 := hm5.1.size; rw [s5] at hz5; have HM5 := Lib.hid hm5; clear hm5 ho5 hown5 hg5 ha5 tok1 _t)
                    | (at_builtin; refine wpList_appR _ rfl (.tmp 80) (.tmp 82) _ rfl (w.heap.size + 4) 9 i0 _ 1 16 Try.underlying30 hi hz0 hz1 hz2 rfl (by omega) (.slice An k cn) k (strs (R.lefts keep (q : Int) cut k)) rfl (World.ownsRow.alloc HM5.out.1.n _) (w5.heap.size + 1) (some ⟨w5.heap.size, 0, none⟩) 1 1 [.string ⟨(tearL su no cut).toArray⟩] rfl rfl hr5 (by simp [Value.oneCell']) (by have := HK.out; have := HH.out.2.2.2.2.2.n; omega) (by omega) (by simp [World.setCell]; omega) ?_; intro v6 w6 hown6 hg6 ha6; obtain ⟨g6, c6, rfl, _, _, _, _⟩ := own_form hown6 (by omega); have hm6 := HM5.out.1.app1 (w1 := (w5.setCell ⟨w.heap.size + 3, 0, none⟩ (.slice (some ⟨g5, 0, none⟩) (k + 1) c5)).alloc (.cells #[.string ⟨(tearL su no cut).toArray⟩] 9)) ((Below.refl _ _).alloc (Nat.le_refl _) _) hown6 hg6 ha6 (by omega); have ho6 := (hg6.block (w.heap.size + 3) (by have := HM5.out.1.lt; simp [World.setCell]; omega) (by intro e; have := HM5.out.1.lt; have := (World.ownsRow.lt HM5.out.1.n _ e.symm).1; omega)).trans (((Below.refl _ (w5.setCell ⟨w.heap.size + 3, 0, none⟩ (.slice (some ⟨g5, 0, none⟩) (k + 1) c5))).alloc (Nat.le_refl _) (.cells #[.string ⟨(tearL su no cut).toArray⟩] 9)).block (w.heap.size + 3) (by have := HM5.out.1.lt; have := HM5.out.1.size; omega) |>.trans HM5.out.1.blk); have e6 := cell_of_row w6 (w.heap.size + 3) 1 _ _ _ ho6; have f6 := frozen_of_row w6 (w.heap.size + 3) 1 _ _ ho6; have HM6 := Lib.hid hm6; clear hm6 ho6 hown6 hg6 ha6)
                    | go_in)
                  have hm7 := HM6.out.1
                  have hEq : strs (R.lefts keep (q : Int) cut k) ++ [.string ⟨(tearL su no cut).toArray⟩] = strs (R.lefts keep (q : Int) cut (k + 1)) := by rw [← RD.lefts_succ, HL.out]
                  rw [hEq] at hm7
                  have d0' := (HM6.out.2 w.heap.size (by omega) (by omega)).trans ((HM5.out.2 w.heap.size (by omega) (by omega)).trans HM2.out.2.1)
                  have d1' := (HM6.out.2 (w.heap.size + 1) (by omega) (by omega)).trans ((HM5.out.2 (w.heap.size + 1) (by omega) (by omega)).trans HM2.out.2.2.1)
                  have d2' := (HM6.out.2 (w.heap.size + 2) (by omega) (by omega)).trans ((HM5.out.2 (w.heap.size + 2) (by omega) (by omega)).trans HM2.out.2.2.2)
                  exact ⟨⟨k + 1, _, _, HK.out, by simp, by rw [HU.out]; simp, hm7, d0', d1', d2'⟩, by simp [intOf]; have := HK.out; omega⟩
                · rw [if_neg hto] at hlt
                  have HL := Lib.hid hlt
                  have htb : ((q : Int) == torn) = false := beq_eq_false_iff_ne.2 hto
                  clear hlt hno hnl hsl
                  go_wp2_with (first
                    | (at_builtin; have _t := tok1; refine wpList_appR _ rfl (.tmp 74) (.tmp 76) _ rfl (w.heap.size + 4) 9 i0 _ 1 16 Try.underlying30 hi hz0 hz1 hz2 rfl (by omega) (.slice As k cs) k (strs (R.lefts keep torn cut k)) rfl (World.ownsRow.alloc HM.out.1.s _) (wr.heap.size + 1) (some ⟨wr.heap.size, 0, none⟩) 1 1 [.string ⟨su.toArray⟩] rfl rfl (Rd.new wr #[.string ⟨su.toArray⟩] 9 (0, 0)) (by simp [Value.oneCell']) (by have := HK.out; have := HH.out.2.2.2.2.2.n; omega) (by omega) (by have := HM.out.1.size; simp; omega) ?_; intro v5 w5 hown5 hg5 ha5; obtain ⟨g5, c5, rfl, _, _, _, _⟩ := own_form hown5 (by omega); have hm5 := HM.out.1.app0 (w1 := wr.alloc (.cells #[.string ⟨su.toArray⟩] 9)) ((Below.refl _ _).alloc (Nat.le_refl _) _) hown5 hg5 ha5 (by omega); have ho5 := (hg5.block (w.heap.size + 3) (by have := HM.out.1.lt; have := HM.out.1.size; simp; omega) (by intro e; have := HM.out.1.lt; have := (World.ownsRow.lt HM.out.1.s _ e.symm).1; omega)).trans (((Below.refl _ wr).alloc (Nat.le_refl _) (.cells #[.string ⟨su.toArray⟩] 9)).block (w.heap.size + 3) (by have := HM.out.1.lt; have := HM.out.1.size; omega) |>.trans HM.out.1.blk); have e5 := cell_of_row w5 (w.heap.size + 3) 0 _ _ _ ho5; have f5 := frozen_of_row w5 (w.heap.size + 3) 0 _ _ ho5; have s5 : (w5.setCell ⟨w.heap.size + 3, 0, none⟩ (.slice (some ⟨g5, 0, none⟩) (k + 1) c5)).heap.size = w5.heap.size := (by simp [World.setCell]); have b1 := cell_of_row (w5.setCell ⟨w.heap.size + 3, 0, none⟩ (.slice (some ⟨g5, 0, none⟩) (k + 1) c5)) (w.heap.size + 3) 1 _ _ _ hm5.1.blk; have hr5 : Rd ((w5.setCell ⟨w.heap.size + 3, 0, none⟩ (.slice (some ⟨g5, 0, none⟩) (k + 1) c5)).alloc (.cells #[.string ⟨su.toArray⟩] 9)) (w5.heap.size + 1) (some ⟨w5.heap.size, 0, none⟩) [.string ⟨su.toArray⟩] := (by have := Rd.new (w5.setCell ⟨w.heap.size + 3, 0, none⟩ (.slice (some ⟨g5, 0, none⟩) (k + 1) c5)) #[.string ⟨su.toArray⟩] 9 (0, 0); rw [s5] at this; exact this); have hz5 := hm5.1.size; rw [s5] at hz5; have HM5 := Lib.hid hm5; clear hm5 ho5 hown5 hg5 ha5 tok1 _t)
                    | (at_builtin; refine wpList_appR _ rfl (.tmp 80) (.tmp 82) _ rfl (w.heap.size + 4) 9 i0 _ 1 16 Try.underlying30 hi hz0 hz1 hz2 rfl (by omega) (.slice An k cn) k (strs (R.lefts keep torn cut k)) rfl (World.ownsRow.alloc HM5.out.1.n _) (w5.heap.size + 1) (some ⟨w5.heap.size, 0, none⟩) 1 1 [.string ⟨su.toArray⟩] rfl rfl hr5 (by simp [Value.oneCell']) (by have := HK.out; have := HH.out.2.2.2.2.2.n; omega) (by omega) (by simp [World.setCell]; omega) ?_; intro v6 w6 hown6 hg6 ha6; obtain ⟨g6, c6, rfl, _, _, _, _⟩ := own_form hown6 (by omega); have hm6 := HM5.out.1.app1 (w1 := (w5.setCell ⟨w.heap.size + 3, 0, none⟩ (.slice (some ⟨g5, 0, none⟩) (k + 1) c5)).alloc (.cells #[.string ⟨su.toArray⟩] 9)) ((Below.refl _ _).alloc (Nat.le_refl _) _) hown6 hg6 ha6 (by omega); have ho6 := (hg6.block (w.heap.size + 3) (by have := HM5.out.1.lt; simp [World.setCell]; omega) (by intro e; have := HM5.out.1.lt; have := (World.ownsRow.lt HM5.out.1.n _ e.symm).1; omega)).trans (((Below.refl _ (w5.setCell ⟨w.heap.size + 3, 0, none⟩ (.slice (some ⟨g5, 0, none⟩) (k + 1) c5))).alloc (Nat.le_refl _) (.cells #[.string ⟨su.toArray⟩] 9)).block (w.heap.size + 3) (by have := HM5.out.1.lt; have := HM5.out.1.size; omega) |>.trans HM5.out.1.blk); have e6 := cell_of_row w6 (w.heap.size + 3) 1 _ _ _ ho6; have f6 := frozen_of_row w6 (w.heap.size + 3) 1 _ _ ho6; have HM6 := Lib.hid hm6; clear hm6 ho6 hown6 hg6 ha6)
                    | go_in)
                  have hm7 := HM6.out.1
                  have hEq : strs (R.lefts keep torn cut k) ++ [.string ⟨su.toArray⟩] = strs (R.lefts keep torn cut (k + 1)) := by rw [← RD.lefts_succ, HL.out]
                  rw [hEq] at hm7
                  have d0' := (HM6.out.2 w.heap.size (by omega) (by omega)).trans ((HM5.out.2 w.heap.size (by omega) (by omega)).trans HM.out.2.1)
                  have d1' := (HM6.out.2 (w.heap.size + 1) (by omega) (by omega)).trans ((HM5.out.2 (w.heap.size + 1) (by omega) (by omega)).trans HM.out.2.2.1)
                  have d2' := (HM6.out.2 (w.heap.size + 2) (by omega) (by omega)).trans ((HM5.out.2 (w.heap.size + 2) (by omega) (by omega)).trans HM.out.2.2.2)
                  exact ⟨⟨k + 1, _, _, HK.out, by simp, by rw [HU.out]; simp, hm7, d0', d1', d2'⟩, by simp [intOf]; have := HK.out; omega⟩
        · obtain rfl : k = R.now.length := by omega
          have hX2 : ∀ x ∈ (w.heap.size + 1) :: X, x < w.heap.size + 4 := by
            intro x hx
            rcases List.mem_cons.1 hx with rfl | hx
            · omega
            · have := HH.out.2.2.2.2.1 x hx; omega
          obtain ⟨As, cs, rfl, _, _, sA⟩ := own_sl hm.s hX2
          obtain ⟨An, cn, rfl, _, _, sN⟩ := own_sl hm.n hX2
          have k0 := cell_of_row wr (w.heap.size + 3) 0 _ _ _ hm.blk
          have k1 := cell_of_row wr (w.heap.size + 3) 1 _ _ _ hm.blk
          have k2 := cell_of_row wr (w.heap.size + 3) 2 _ _ _ hm.blk
          have k3 := cell_of_row wr (w.heap.size + 3) 3 _ _ _ hm.blk
          have k4 := cell_of_row wr (w.heap.size + 3) 4 _ _ _ hm.blk
          have z0 := cell_of_row wr (w.heap.size + 1) 0 _ _ _ hd1
          have z1 := cell_of_row wr (w.heap.size + 1) 1 _ _ _ hd1
          have z2 := cell_of_row wr (w.heap.size + 1) 2 _ _ _ hd1
          have z3 := cell_of_row wr (w.heap.size + 1) 3 _ _ _ hd1
          have z4 := cell_of_row wr (w.heap.size + 1) 4 _ _ _ hd1
          have zf0 := frozen_of_row wr (w.heap.size + 1) 0 _ _ hd1
          have zf1 := frozen_of_row wr (w.heap.size + 1) 1 _ _ hd1
          have zf2 := frozen_of_row wr (w.heap.size + 1) 2 _ _ hd1
          have zf3 := frozen_of_row wr (w.heap.size + 1) 3 _ _ hd1
          have zf4 := frozen_of_row wr (w.heap.size + 1) 4 _ _ hd1
          have hkI : ¬ ((R.now.length : Int) < (R.now.length : Int)) := by omega
          have HM := Lib.hid (And.intro hm (And.intro hd0 (And.intro hd1 (And.intro hd2 (And.intro sA sN)))))
          clear hm hd0 hd1 hd2 sA sN
          go_wp2_with go_in
          have fF : Fr wr (((((wr.setCell ⟨w.heap.size + 1, 0, none⟩ (.slice As R.now.length cs)).setCell ⟨w.heap.size + 1, 1, none⟩ (.slice An R.now.length cn)).setCell ⟨w.heap.size + 1, 2, none⟩ (.slice (some ⟨w.heap.size + 2, 0, none⟩) R.now.length R.now.length)).setCell ⟨w.heap.size + 1, 3, none⟩ (.int .i64 0)).setCell ⟨w.heap.size + 1, 4, none⟩ (.int .i64 (-1))) [w.heap.size + 1] := (((((Fr.refl _ _).setCell (by simp) _).setCell (by simp) _).setCell (by simp) _).setCell (by simp) _).setCell (by simp) _
          have hBf : Below w.heap.size w (((((wr.setCell ⟨w.heap.size + 1, 0, none⟩ (.slice As R.now.length cs)).setCell ⟨w.heap.size + 1, 1, none⟩ (.slice An R.now.length cn)).setCell ⟨w.heap.size + 1, 2, none⟩ (.slice (some ⟨w.heap.size + 2, 0, none⟩) R.now.length R.now.length)).setCell ⟨w.heap.size + 1, 3, none⟩ (.int .i64 0)).setCell ⟨w.heap.size + 1, 4, none⟩ (.int .i64 (-1))) := HM.out.1.below.trans (fF.below (by have := HM.out.1.below.size; omega) (by simp))
          have sF : Sl wr ((w.heap.size + 1) :: X) (some ⟨w.heap.size + 2, 0, none⟩) (bools (List.replicate R.now.length false)) := by
            refine ⟨fun hn => ⟨w.heap.size + 2, 0, rfl, heap_lt HM.out.2.2.2.1, fun j u hu => ?_⟩, fun a ha => by cases ha; intro hx; rcases List.mem_cons.1 hx with h | h; exact absurd h (by simp); exact absurd (HH.out.2.2.2.2.1 _ h) (by show ¬ (w.heap.size + 2 < w.heap.size); omega)⟩
            rw [cell_of_row wr (w.heap.size + 2) (0 + j) _ _ _ HM.out.2.2.2.1]
            simpa using hu
          refine bodyPost_ret (resCrash (set5 HM.out.2.2.1 _ _ _ _ _) _ rfl) rfl ⟨dv As An (some ⟨w.heap.size + 2, 0, none⟩) R.now.length R.now.length R.now.length cs cn R.now.length 0 (-1), rfl, ?_, hBf⟩
          exact ⟨As, An, some ⟨w.heap.size + 2, 0, none⟩, cs, cn, R.now.length, by simp [dv, RD.crashed, RD.lefts], (HM.out.2.2.2.2.1.fr fF (by simp)).sub (fun y hy => by simp [hy]), (HM.out.2.2.2.2.2.fr fF (by simp)).sub (fun y hy => by simp [hy]), (sF.fr fF (by simp)).sub (fun y hy => by simp [hy])⟩
end Go.Proofs.Ytajakmfloeefpaa
