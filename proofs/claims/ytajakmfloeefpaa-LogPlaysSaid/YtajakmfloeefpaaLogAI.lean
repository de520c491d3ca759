/- The document's log: Append where it goes through. -/
import Derived.Test.YtajakmfloeefpaaLogAH
import Derived.Test.YtajakmfloeefpaaJnL
import Derived.Deep.CutBlock
import Derived.Deep.CutRange
import Derived.Outline
import Derived.Deep.LoopGhost
namespace Go.Proofs.Ytajakmfloeefpaa
open Go.RowKit Go.Maps

theorem ba_from (x : List UInt8) (a n : Nat) (h : n = x.length) : (⟨x.toArray⟩ : ByteArray).extract a n = ⟨(x.drop a).toArray⟩ := by
  apply ByteArray.ext
  apply Array.ext'
  simp only [ByteArray.data_extract, Array.toList_extract, List.extract]
  exact List.take_of_length_le (by rw [List.length_drop]; omega)
theorem ba_to (x : List UInt8) (n : Nat) : (⟨x.toArray⟩ : ByteArray).extract 0 n = ⟨(x.take n).toArray⟩ := by
  apply ByteArray.ext
  apply Array.ext'
  simp only [ByteArray.data_extract, Array.toList_extract, List.extract]
  rfl
theorem chunk_of (d : List UInt8) (k : Nat) (h : k * 64 ≤ d.length) : ((d ++ zero64).drop (k * 64)).take 64 = chunk d k := by
  rw [List.drop_append_of_le_length h, List.take_append]
  unfold chunk
  congr 1
  unfold zero64
  rw [List.take_replicate, List.length_take]
  congr 1
  omega
theorem chunks_take (d : List UInt8) {k : Nat} (h : k < secs d.length) : (chunks d).take (k + 1) = (chunks d).take k ++ [chunk d k] := by
  have hl : k < (chunks d).length := by rw [chunks_len]; exact h
  rw [List.take_succ_eq_append_getElem hl]
  congr 1
  simp [chunks, chunk]
theorem runOps_live {a : DOp} {r : List DOp} {M : DM} (h : M.dead = false) : runOps (a :: r) M = runOps r (doneOp M a) := by
  have e : runOps (a :: r) M = if M.dead then (30, M) else runOps r (doneOp M a) := rfl
  rw [e, h]
  rfl
theorem ok_done {M : DM} {T n : Nat} (o : DOp) (h : M.Ok T) (hs : M.steps + (n + 1) ≤ 1000000000) : (doneOp M o).Ok T ∧ (doneOp M o).steps + n ≤ 1000000000 ∧ (doneOp M o).size = M.size := by
  obtain ⟨h1, h2, h3, h4⟩ := doneOp_size M o
  exact ⟨⟨by rw [h1]; exact h.size, by omega, by have := h.left; rw [h4]; split <;> omega, h.T⟩, by omega, h1⟩
theorem ApX.put {w wr w' : World} {X : List Nat} {M M' : DM} {lo c : Nat} {A : Option Addr} {rs : List Rec} {first count next : Int} (h : ApX w wr X M lo A c rs first count next) (hlt : ∀ s ∈ (Value.slice A rs.length c).ownBlock.toList, s < w.heap.size) (hb : Below wr.heap.size wr w') {B1 B2 B3 : Option Addr} {m1 m2 m3 d1 d2 d3 : Nat} {s l : Int} (hR : RefV w' (w.heap.size :: (w.heap.size + 1) :: (w.heap.size + 2) :: (w.heap.size + 3) :: X) (refOf M') (.agg #[.slice B1 m1 d1, .slice B2 m2 d2, .slice B3 m3 d3, .int .i64 s, .int .i64 l])) :
    ApX w (((((w'.setCell ⟨w.heap.size, 0, none⟩ (.slice B1 m1 d1)).setCell ⟨w.heap.size, 1, none⟩ (.slice B2 m2 d2)).setCell ⟨w.heap.size, 2, none⟩ (.slice B3 m3 d3)).setCell ⟨w.heap.size, 3, none⟩ (.int .i64 s)).setCell ⟨w.heap.size, 4, none⟩ (.int .i64 l)) X M' lo A c rs first count next := by
  have h7 := h.kept hb
  obtain ⟨A1, A2, A3, n1, n2, n3, c1, c2, c3, s', l', hg, hv⟩ := h7.box
  have hf := fr5 w' w.heap.size (.slice B1 m1 d1) (.slice B2 m2 d2) (.slice B3 m3 d3) (.int .i64 s) (.int .i64 l)
  have hown := rowFrS h7.recs hf (fun s hs hm => by have := hlt s hs; simp at hm; omega)
  exact ⟨⟨_, _, _, _, _, _, _, _, _, _, _, set5 hg _ _ _ _ _, hR.fr hf (by simp)⟩, (hf.block _ (heap_lt h7.log) (by simp)).trans h7.log, hown, (hf.block _ (heap_lt h7.res1) (by simp)).trans h7.res1, (hf.block _ (heap_lt h7.res2) (by simp)).trans h7.res2, h7.below.trans (hf.below h7.below.size (by simp)), by have := hf.size; have := h7.size; omega⟩
theorem ApX.refs {w wr : World} {X : List Nat} {M : DM} {lo c : Nat} {A : Option Addr} {rs : List Rec} {first count next : Int} (h : ApX w wr X M lo A c rs first count next) (hX : ∀ x ∈ X, x < w.heap.size) : ∀ x ∈ w.heap.size :: (w.heap.size + 1) :: (w.heap.size + 2) :: (w.heap.size + 3) :: X, x < wr.heap.size := by
  have hz := h.size
  intro x hx
  simp only [List.mem_cons] at hx
  rcases hx with rfl | rfl | rfl | rfl | hx
  · omega
  · omega
  · omega
  · omega
  · have := hX x hx
    omega
/-- What the document's Append answers. -/
def AppendedR (w w' : World) (X : List Nat) (Rz : Int × DM) (lo : Nat) (first C next : Nat) (rs : List Rec) (d : List UInt8) (e : Ending) : Prop :=
  (Rz.1 = 0 → TurnedR w w' X Rz.2 0 lo first C ((next : Int) + 1) (rs ++ [(next, d)]) e) ∧ (Rz.1 ≠ 0 → TurnedR w w' X Rz.2 30 lo first C next rs e)
set_option maxRecDepth 100000 in
set_option maxHeartbeats 4000000 in
theorem rappend_ok (w : World) (X : List Nat) (M : DM) (T : Nat) (v : Value) (hv : RefV w X (refOf M) v) (hk : M.Ok T) (hst : M.steps + 70 ≤ 1000000000) (hp : 0 < M.size) (hX : ∀ x ∈ X, x < w.heap.size) (L : LG) (hok : L.Ok) (lo : Nat) (A : Option Addr) (c : Nat) (ho : w.ownsRow lo 80 2 (.slice A L.recs.length c) L.recs.length (recS L.recs)) (hlo : lo ≤ w.heap.size) (hd : ∀ x ∈ L.recs, x.2.length ≤ 4000) (d : List UInt8) (hd4 : d.length ≤ 4000) (hroom : ¬ L.room < (d.length : Int)) (C : Nat) (hC : L.first + C = L.behind) (hsz : L.behind ≤ M.size) :
    Calls Try.prog 10 #[v, .agg #[.int .i64 (L.first : Int), .int .i64 (C : Int), .slice A L.recs.length c, .int .i64 (L.next : Int)], .string ⟨d.toArray⟩] w fun e w' => AppendedR w w' X (runOps (appOps L.first L.recs L.next d) M) lo L.first C L.next L.recs d e := by
  have hv' := hv
  obtain ⟨A1, A2, A3, c1, c2, c3, rfl, _, _, _⟩ := hv'
  obtain ⟨n1, hn1⟩ : ∃ n, n = (refOf M).sure.length := ⟨_, rfl⟩
  obtain ⟨n2, hn2⟩ : ∃ n, n = (refOf M).now.length := ⟨_, rfl⟩
  obtain ⟨n3, hn3⟩ : ∃ n, n = (refOf M).fresh.length := ⟨_, rfl⟩
  obtain ⟨s, hsx⟩ : ∃ n, n = (refOf M).steps := ⟨_, rfl⟩
  obtain ⟨l, hlx⟩ : ∃ n, n = (refOf M).left := ⟨_, rfl⟩
  rw [← hn1, ← hn2, ← hn3, ← hsx, ← hlx] at hv ⊢
  obtain ⟨Rz, hRz⟩ : ∃ Rz, Rz = runOps (appOps L.first L.recs L.next d) M := ⟨_, rfl⟩
  rw [← hRz]
  unfold appOps at hRz
  have hfits := room_fits hok hroom
  have hnx := hok.next
  have hbh := hok.behind
  obtain ⟨E, hE⟩ : ∃ E, E = endR L.first L.recs := ⟨_, rfl⟩
  have hEe : L.endd = E := hE.symm
  rw [hEe] at hfits
  rw [← hE] at hRz
  have hsd : secs d.length ≤ 63 := by unfold secs; omega
  have hlt : ∀ s ∈ (Value.slice A L.recs.length c).ownBlock.toList, s < w.heap.size := fun s hs => (World.ownsRow.lt ho s (by simpa using hs)).2
  have hX4 := ApX.new (first := (L.first : Int)) (count := (C : Int)) (next := (L.next : Int)) hv hp ho
  have hen := fun (W : World) (B : Nat) (hr : Rd W B A (recS L.recs)) (hB : B ≤ W.heap.size) => rEnd_any L.first (C : Int) (L.next : Int) L.recs A c B W hr hB hd (by rw [← hE]; omega)
  rw [← hE] at hen
  have hRL : L.recs.length ≤ 4096 := by
    have h1 := endR_le L.first L.recs
    have h2 := hok.endd
    have h3 : endR L.first L.recs = E := hE.symm
    omega
  have HRL0 := Lib.hid hRL
  clear hRL
  generalize L.recs = R at hX4 hen hlt ⊢ hRz HRL0
  generalize L.first = first at *
  generalize L.next = next at *
  have h2 : ¬ (4611686018427387904 : Int) < (next : Int) := by omega
  have h1 : ¬ (4000 : Int) < (d.length : Int) := by omega
  have hsc := fun W => rsecs_big d.length W (by omega)
  obtain ⟨S, hS⟩ : ∃ S, S = secs d.length := ⟨_, rfl⟩
  rw [← hS] at hsc hsd hfits
  have h3 : ¬ (first : Int) + (C : Int) < (E : Int) + 1 + (S : Int) := by omega
  have hfI : (first : Int) ≤ 4096 := by omega
  have hCI : (C : Int) ≤ 4096 := by omega
  have hEI : (E : Int) ≤ 4096 := by omega
  have hSI : (S : Int) ≤ 63 := by omega
  have hdI : (d.length : Int) ≤ 4000 := by omega
  have hnI : (next : Int) ≤ 4611686018427387904 := by omega
  have hESM : E + 1 + S ≤ M.size := by omega
  have HRL := HRL0
  clear HRL0
  have HSC := Lib.hid hsc
  have HEN := Lib.hid hen
  have HX4 := Lib.hid (And.intro hX4 hlt)
  have HRZ := Lib.hid hRz
  have HK := Lib.hid (And.intro hk (And.intro hst (And.intro hX (And.intro hS (And.intro hESM (And.intro hlo hd4))))))
  clear hn1 hn2 hn3 hsx hlx hv hX4 hlt hsc hen ho hd hp hok hE hEe hbh hfits hnx hroom hC hsz hRz hk hst hX hS hESM hlo hd4 hsd
  go_enter Try.func10, Try.ntmps10
  go_upto_region 1 with (fail)
  generalize ((((w.alloc (.cells #[.slice A1 n1 c1, .slice A2 n2 c2, .slice A3 n3 c3, .int .i64 s, .int .i64 l] 33)).alloc (lgV (first : Int) (C : Int) A R.length c (next : Int))).alloc dkZ0).alloc lgZ0) = W4 at HX4 ⊢
  have hlg := HX4.out.1.log
  have k0 := cell_of_row W4 (w.heap.size + 1) 0 _ _ _ hlg; have k1 := cell_of_row W4 (w.heap.size + 1) 1 _ _ _ hlg; have k2 := cell_of_row W4 (w.heap.size + 1) 2 _ _ _ hlg; have k3 := cell_of_row W4 (w.heap.size + 1) 3 _ _ _ hlg
  have hen := HEN.out W4 W4.heap.size (Rd.ofOwn HX4.out.1.recs) (Nat.le_refl _)
  have HE := Lib.hid hen
  clear hlg hen
  go_upto_region 2 with (go_at_call 37; (with_reducible refine (HSC.out W4).mono ?_); rintro e w3 ⟨rfl, rfl⟩)
  go_upto_region 3 with (go_at_call 33; (with_reducible refine HE.out.mono ?_); rintro e w5 ⟨rfl, hb5⟩)
  have hX5 := HX4.out.1.kept hb5
  have hlg := hX5.log
  have k0 := cell_of_row w5 (w.heap.size + 1) 0 _ _ _ hlg; have k1 := cell_of_row w5 (w.heap.size + 1) 1 _ _ _ hlg; have k2 := cell_of_row w5 (w.heap.size + 1) 2 _ _ _ hlg; have k3 := cell_of_row w5 (w.heap.size + 1) 3 _ _ _ hlg
  have hmk := make64 w5
  have hst := strAt (n := 64) (c := 64) (Rd.new w5 (u8s zero64).toArray 5 (0, 0)) zero64_len.symm
  have hns : ¬ 9223372036854775807 < d.length + zero64.length := by rw [zero64_len]; omega
  have HX5 := Lib.hid (hX5.kept ((Below.refl _ _).alloc (Nat.le_refl _) (.cells (u8s zero64).toArray 5)))
  clear hlg hX5 hb5 HE HSC HEN
  go_upto_region 8 with (fail)
  rw [ba_app]
  clear hmk hst hns k0 k1 k2 k3
  generalize w5.alloc (.cells (u8s zero64).toArray 5) = W5 at HX5 ⊢
  go_wp2_with (fail)
  go_loopw [12, 13, 14] (fun cd i _ wr => ∃ (k : Nat) (Mk : DM), k ≤ S ∧ i = .int .i64 (k : Int) ∧ cd = .int .i64 0 ∧ runOps (wrs (E + 1) ((chunks d).take k)) M = (0, Mk) ∧ Hid (ApX w wr X Mk lo A c R (first : Int) (C : Int) (next : Int)))
    (fun _ i _ _ => S - (intOf i).toNat)
  case atStart => exact ⟨0, M, by omega, rfl, rfl, rfl, HX5⟩
  case round =>
    obtain ⟨k, Mk, hkS, rfl, rfl, hrun, HX⟩ := hrel
    have hfa := runOps_facts (wrs (E + 1) ((chunks d).take k)) M
    rw [hrun, wrs_len, List.length_take] at hfa
    dsimp only at hfa
    have hok : Mk.Ok T := ⟨by rw [hfa.1]; exact HK.out.1.size, by have := HK.out.2.1; omega, Nat.le_trans hfa.2.2.1 HK.out.1.left, HK.out.1.T⟩
    have hXk := HX.out.refs HK.out.2.2.1
    obtain ⟨P1, P2, P3, p1, p2, p3, e1, e2, e3, sk, lk, hg, hvk⟩ := HX.out.box
    have HG := Lib.hid hg
    by_cases hkn : k < S
    · have hkI : (k : Int) < (S : Int) := by omega
      have hkd : k * 64 < d.length := by have := HK.out.2.2.2.1; unfold secs at this; omega
      obtain ⟨Z, hZ⟩ : ∃ Z, Z = (d ++ zero64).drop (k * 64) := ⟨_, rfl⟩
      have hZl : 64 ≤ Z.length := by rw [hZ, List.length_drop, List.length_append, zero64_len]; omega
      have hZI : (64 : Int) ≤ (Z.length : Int) := by omega
      have hZI2 : (Z.length : Int) ≤ 5000 := by rw [hZ, List.length_drop, List.length_append, zero64_len]; omega
      have hkz : (k : Int) * 64 ≤ (d.length : Int) := by omega
      have hch : Z.take 64 = chunk d k := by rw [hZ]; exact chunk_of d k (by omega)
      have hex := ba_from (d ++ zero64) (k * 64) (d.length + zero64.length) (by rw [List.length_append])
      rw [← hZ] at hex
      obtain ⟨b, hb⟩ : ∃ b, b = chunk d k := ⟨_, rfl⟩
      have htk : (chunks d).take (k + 1) = (chunks d).take k ++ [b] := by rw [hb]; exact chunks_take d (by rw [← HK.out.2.2.2.1]; exact hkn)
      have hb64 : b.length = 64 := by rw [hb, ← hch, List.length_take]; omega
      have hki : E + 1 + k < Mk.size := by rw [hfa.1]; have := HK.out.2.2.2.2.1; omega
      have hsn : wrs (E + 1) ((chunks d).take (k + 1)) = wrs (E + 1) ((chunks d).take k) ++ [some (E + 1 + k, b)] := by
        rw [htk, wrs_snoc, List.length_take, Nat.min_eq_left (by rw [chunks_len, ← HK.out.2.2.2.1]; omega)]
      have hw := hvk.rwrite hok hXk ((E + 1 + k : Nat) : Int) b
      rw [(write_eq hki hb64).1, (write_eq hki hb64).2, show ((E + 1 + k : Nat) : Int) = (E : Int) + 1 + (k : Int) by omega] at hw
      rw [← hb] at hch
      clear hZ
      have v0 := cell_of_row wr (w.heap.size) 0 _ _ _ hg; have v1 := cell_of_row wr (w.heap.size) 1 _ _ _ hg; have v2 := cell_of_row wr (w.heap.size) 2 _ _ _ hg; have v3 := cell_of_row wr (w.heap.size) 3 _ _ _ hg; have v4 := cell_of_row wr (w.heap.size) 4 _ _ _ hg
      go_upto_region 13 with (fail)
      rw [hex]
      go_upto_region 15 with (fail)
      rw [ba_to, hch]
      clear hZl hZI hZI2 hkz hch hex hb htk hb64 hki hkd
      cases hd : Mk.dead with
      | true =>
        rw [if_pos hd, if_pos hd] at hw
        have hz : Rz = (30, Mk) := by
          rw [HRZ.out, ← List.take_append_drop k (wrs (E + 1) (chunks d)), wrs_take, List.append_assoc, runOps_append, hrun, if_pos rfl]
          exact runOps_dead hd (by simp)
        have HZ := Lib.hid hz
        have HW := Lib.hid hw
        clear hw hz hd hrun hfa hok hvk hXk hsn hg
        go_upto_region 16 with (go_at_call 17; (with_reducible refine HW.out.mono ?_); rintro e w9 ⟨B1, B2, B3, r1, r2, r3, f1, f2, f3, s9, l9, rfl, hR9, hb9⟩; have hg9 := (hb9.block _ (heap_lt HG.out)).trans HG.out; have u0 := cell_of_row w9 (w.heap.size) 0 _ _ _ hg9; have u1 := cell_of_row w9 (w.heap.size) 1 _ _ _ hg9; have u2 := cell_of_row w9 (w.heap.size) 2 _ _ _ hg9; have u3 := cell_of_row w9 (w.heap.size) 3 _ _ _ hg9; have u4 := cell_of_row w9 (w.heap.size) 4 _ _ _ hg9; have t0 := frozen_of_row w9 (w.heap.size) 0 _ _ hg9; have t1 := frozen_of_row w9 (w.heap.size) 1 _ _ hg9; have t2 := frozen_of_row w9 (w.heap.size) 2 _ _ hg9; have t3 := frozen_of_row w9 (w.heap.size) 3 _ _ hg9; have t4 := frozen_of_row w9 (w.heap.size) 4 _ _ hg9)
        have HX9 := Lib.hid (HX.out.put HX4.out.2 hb9 hR9)
        generalize (((((w9.setCell ⟨w.heap.size, 0, none⟩ (.slice B1 r1 f1)).setCell ⟨w.heap.size, 1, none⟩ (.slice B2 r2 f2)).setCell ⟨w.heap.size, 2, none⟩ (.slice B3 r3 f3)).setCell ⟨w.heap.size, 3, none⟩ (.int .i64 s9)).setCell ⟨w.heap.size, 4, none⟩ (.int .i64 l9)) = w10 at HX9 ⊢
        clear hb9 hR9 hg9 u0 u1 u2 u3 u4 t0 t1 t2 t3 t4
        go_upto_region 17 with (fail)
        refine wp_noway (ra17 HX9 (fun s hs hm => by have := HX4.out.2 s hs; simp at hm; omega) _ _ _ _ _ _ _ _ _ _ _ _ _ _ _ _ _ _ _ _ _ _ _ _ _ _ _ _ _ _ _ _ _ _ _ _ _ _ _ _ _ _ _ _ _ _ _ _ _ _ _ _ _ _ _ _ _ _ _ _ _ _ _ _ _ _ _ _ _ _ _ _ _ _ _ _ _ _ _ _ _ _ _ _ _ _ _ _ _ _ _ _ _ _ _ _ _ _ _ _ _ _ _ _ _ _ _ _ _ _ _ _ _ _ _ _ _ _ _ _ _ _ _ ?_)
        intro Q1 Q2 Q3 q1 q2 q3 g1 g2 g3 sq lq v72 v73 v74 w20 hz1 hz2 hz3 hz4 hz5
        go_wp2_with (fail)
        exact (bodyPost_ret (resAppend hz1 hz2 _ rfl rfl) rfl (by rw [HZ.out]; exact ⟨fun h => absurd h (by simp), fun _ => ⟨_, _, _, _, _, _, _, _, _, _, _, _, _, rfl, hz3, hz4, hz5⟩⟩))
      | false =>
        rw [if_neg (by simp [hd]), if_neg (by simp [hd])] at hw
        have hrn : runOps (wrs (E + 1) ((chunks d).take (k + 1))) M = (0, Mk.written (E + 1 + k) b) := by
          rw [hsn, runOps_append, hrun, if_pos rfl]
          simp only [runOps]
          rw [if_neg (by simp [hd])]
          rfl
        have HRN := Lib.hid hrn
        have HW := Lib.hid hw
        have HKN := Lib.hid hkn
        clear hw hrn hd hrun hfa hok hvk hXk hsn hg hkn hkS
        go_upto_region 16 with (go_at_call 17; (with_reducible refine HW.out.mono ?_); rintro e w9 ⟨B1, B2, B3, r1, r2, r3, f1, f2, f3, s9, l9, rfl, hR9, hb9⟩; have hg9 := (hb9.block _ (heap_lt HG.out)).trans HG.out; have u0 := cell_of_row w9 (w.heap.size) 0 _ _ _ hg9; have u1 := cell_of_row w9 (w.heap.size) 1 _ _ _ hg9; have u2 := cell_of_row w9 (w.heap.size) 2 _ _ _ hg9; have u3 := cell_of_row w9 (w.heap.size) 3 _ _ _ hg9; have u4 := cell_of_row w9 (w.heap.size) 4 _ _ _ hg9; have t0 := frozen_of_row w9 (w.heap.size) 0 _ _ hg9; have t1 := frozen_of_row w9 (w.heap.size) 1 _ _ hg9; have t2 := frozen_of_row w9 (w.heap.size) 2 _ _ hg9; have t3 := frozen_of_row w9 (w.heap.size) 3 _ _ hg9; have t4 := frozen_of_row w9 (w.heap.size) 4 _ _ hg9)
        have HX9 := Lib.hid (HX.out.put HX4.out.2 hb9 hR9)
        generalize (((((w9.setCell ⟨w.heap.size, 0, none⟩ (.slice B1 r1 f1)).setCell ⟨w.heap.size, 1, none⟩ (.slice B2 r2 f2)).setCell ⟨w.heap.size, 2, none⟩ (.slice B3 r3 f3)).setCell ⟨w.heap.size, 3, none⟩ (.int .i64 s9)).setCell ⟨w.heap.size, 4, none⟩ (.int .i64 l9)) = w10 at HX9 ⊢
        clear hb9 hR9 hg9 u0 u1 u2 u3 u4 t0 t1 t2 t3 t4
        go_wp2_with (fail)
        exact ⟨⟨k + 1, _, HKN.out, by simp, rfl, HRN.out, HX9⟩, by simp [intOf]; have := HKN.out; omega⟩
    · have hkI : ¬ (k : Int) < (S : Int) := by omega
      have htk : (chunks d).take k = chunks d := List.take_of_length_le (by rw [chunks_len, ← HK.out.2.2.2.1]; omega)
      rw [htk] at hrun
      have hz : Rz = runOps (none :: some (E, headL next d.length) :: none :: []) Mk := by rw [HRZ.out, runOps_append, hrun, if_pos rfl]
      have hss : Mk.steps + (3 + 1) ≤ 1000000000 := by have := HK.out.2.1; omega
      have v0 := cell_of_row wr (w.heap.size) 0 _ _ _ hg; have v1 := cell_of_row wr (w.heap.size) 1 _ _ _ hg; have v2 := cell_of_row wr (w.heap.size) 2 _ _ _ hg; have v3 := cell_of_row wr (w.heap.size) 3 _ _ _ hg; have v4 := cell_of_row wr (w.heap.size) 4 _ _ _ hg
      clear hrun htk
      go_upto_region 18 with (fail)
      rename_i K9 hK9
      refine wp_noway ?_
      obtain ⟨KR, HKR, hKR⟩ := onlyret_k hK9
      clear hK9
      have hw := hvk.rflush hok hXk
      unfold DM.flushE DM.flushM at hw
      cases hd : Mk.dead with
      | true =>
        rw [if_pos hd, if_pos hd] at hw
        have hz' := hz.trans (runOps_dead hd (by simp))
        have HZ := Lib.hid hz'
        have HW := Lib.hid hw
        clear hw hz hz' hd hok hvk hXk hg
        go_upto_region 19 with (go_at_call 38; (with_reducible refine HW.out.mono ?_); rintro e w9 ⟨B1, B2, B3, r1, r2, r3, f1, f2, f3, s9, l9, rfl, hR9, hb9⟩; have hg9 := (hb9.block _ (heap_lt HG.out)).trans HG.out; have u0 := cell_of_row w9 (w.heap.size) 0 _ _ _ hg9; have u1 := cell_of_row w9 (w.heap.size) 1 _ _ _ hg9; have u2 := cell_of_row w9 (w.heap.size) 2 _ _ _ hg9; have u3 := cell_of_row w9 (w.heap.size) 3 _ _ _ hg9; have u4 := cell_of_row w9 (w.heap.size) 4 _ _ _ hg9; have t0 := frozen_of_row w9 (w.heap.size) 0 _ _ hg9; have t1 := frozen_of_row w9 (w.heap.size) 1 _ _ hg9; have t2 := frozen_of_row w9 (w.heap.size) 2 _ _ hg9; have t3 := frozen_of_row w9 (w.heap.size) 3 _ _ hg9; have t4 := frozen_of_row w9 (w.heap.size) 4 _ _ hg9)
        have HX9 := Lib.hid (HX.out.put HX4.out.2 hb9 hR9)
        generalize (((((w9.setCell ⟨w.heap.size, 0, none⟩ (.slice B1 r1 f1)).setCell ⟨w.heap.size, 1, none⟩ (.slice B2 r2 f2)).setCell ⟨w.heap.size, 2, none⟩ (.slice B3 r3 f3)).setCell ⟨w.heap.size, 3, none⟩ (.int .i64 s9)).setCell ⟨w.heap.size, 4, none⟩ (.int .i64 l9)) = w10 at HX9 ⊢
        clear hb9 hR9 hg9 u0 u1 u2 u3 u4 t0 t1 t2 t3 t4
        go_upto_region 20 with (fail)
        refine wp_noway (ra20 HX9 (fun s hs hm => by have := HX4.out.2 s hs; simp at hm; omega) _ _ _ _ _ _ _ _ _ _ _ _ _ _ _ _ _ _ _ _ _ _ _ _ _ _ _ _ _ _ _ _ _ _ _ _ _ _ _ _ _ _ _ _ _ _ _ _ _ _ _ _ _ _ _ _ _ _ _ _ _ _ _ _ _ _ _ _ _ _ _ _ _ _ _ _ _ _ _ _ _ _ _ _ _ _ _ _ _ _ _ _ _ _ _ _ _ _ _ _ _ _ _ _ _ _ _ _ _ _ _ _ _ _ _ _ _ _ _ _ _ _ _ ?_)
        intro Q1 Q2 Q3 q1 q2 q3 g1 g2 g3 sq lq v82 v83 v84 w20 hz1 hz2 hz3 hz4 hz5
        go_wp2_with (fail)
        exact HKR.out _ _ (bodyPost_ret (resAppend hz1 hz2 _ rfl rfl) rfl (by rw [HZ.out]; exact ⟨fun h => absurd h (by simp), fun _ => ⟨_, _, _, _, _, _, _, _, _, _, _, _, _, rfl, hz3, hz4, hz5⟩⟩))
      | false =>
        rw [if_neg (by simp [hd]), if_neg (by simp [hd])] at hw
        have hz' := hz.trans (runOps_live hd)
        have HZ := Lib.hid hz'
        have HW := Lib.hid hw
        have HD1 := Lib.hid (ok_done none hok hss)
        clear hw hz hz' hd hok hvk hXk hg hss
        go_upto_region 19 with (go_at_call 38; (with_reducible refine HW.out.mono ?_); rintro e w9 ⟨B1, B2, B3, r1, r2, r3, f1, f2, f3, s9, l9, rfl, hR9, hb9⟩; have hg9 := (hb9.block _ (heap_lt HG.out)).trans HG.out; have u0 := cell_of_row w9 (w.heap.size) 0 _ _ _ hg9; have u1 := cell_of_row w9 (w.heap.size) 1 _ _ _ hg9; have u2 := cell_of_row w9 (w.heap.size) 2 _ _ _ hg9; have u3 := cell_of_row w9 (w.heap.size) 3 _ _ _ hg9; have u4 := cell_of_row w9 (w.heap.size) 4 _ _ _ hg9; have t0 := frozen_of_row w9 (w.heap.size) 0 _ _ hg9; have t1 := frozen_of_row w9 (w.heap.size) 1 _ _ hg9; have t2 := frozen_of_row w9 (w.heap.size) 2 _ _ hg9; have t3 := frozen_of_row w9 (w.heap.size) 3 _ _ hg9; have t4 := frozen_of_row w9 (w.heap.size) 4 _ _ hg9)
        have HX9 := Lib.hid (HX.out.put HX4.out.2 hb9 hR9)
        generalize (((((w9.setCell ⟨w.heap.size, 0, none⟩ (.slice B1 r1 f1)).setCell ⟨w.heap.size, 1, none⟩ (.slice B2 r2 f2)).setCell ⟨w.heap.size, 2, none⟩ (.slice B3 r3 f3)).setCell ⟨w.heap.size, 3, none⟩ (.int .i64 s9)).setCell ⟨w.heap.size, 4, none⟩ (.int .i64 l9)) = w10 at HX9 ⊢
        clear hb9 hR9 hg9 u0 u1 u2 u3 u4 t0 t1 t2 t3 t4
        have hz := HZ.out
        generalize hM1 : Mk.flushed = M1 at HX9
        have hD1 := HD1.out
        have hz1 : Rz = runOps (some (E, headL next d.length) :: none :: []) M1 := by rw [← hM1]; exact hz
        have hok : M1.Ok T := by rw [← hM1]; exact hD1.1
        have hss : M1.steps + (2 + 1) ≤ 1000000000 := by rw [← hM1]; exact hD1.2.1
        have hs1 : M1.size = M.size := by rw [← hM1]; exact hD1.2.2.trans hfa.1
        have hE1 : E < M1.size := by rw [hs1]; have := HK.out.2.2.2.2.1; omega
        clear hz hD1 hM1 HX HZ
        obtain ⟨P1, P2, P3, p1, p2, p3, e1, e2, e3, sk, lk, hg, hvk⟩ := HX9.out.box
        have HG := Lib.hid hg
        have hXk := HX9.out.refs HK.out.2.2.1
        have hw0 := fun (W : World) (hW : Below w10.heap.size w10 W) => (hvk.below hW).rwrite hok (fun x hx => Nat.lt_of_lt_of_le (hXk x hx) hW.size) (E : Int) (headL next d.length)
        have HHD := Lib.hid fun W => rHead_any next d.length W (by omega) (by omega)
        have HX := HX9
        clear HX9
        cases hdd : M1.dead with
        | true =>
          have hwE : M1.writeE (E : Int) (headL next d.length) = 30 := by rw [(write_eq hE1 (headL_len _ _)).1, if_pos hdd]
          have hwM : M1.writeM (E : Int) (headL next d.length) = M1 := by rw [(write_eq hE1 (headL_len _ _)).2, if_pos hdd]
          simp only [hwE, hwM] at hw0
          have hz' := hz1.trans (runOps_dead hdd (by simp))
          have HZ := Lib.hid hz'
          have HW := Lib.hid hw0
          clear hw0 hz1 hz' hdd hok hvk hXk hg hss hwE hwM hs1 hE1 HD1
          have hsa : ∀ WW, Below w10.heap.size w10 WW → (WW.cell? ⟨w.heap.size, 0, none⟩ = some (.slice P1 p1 e1) ∧ WW.cell? ⟨w.heap.size, 1, none⟩ = some (.slice P2 p2 e2) ∧ WW.cell? ⟨w.heap.size, 2, none⟩ = some (.slice P3 p3 e3) ∧ WW.cell? ⟨w.heap.size, 3, none⟩ = some (.int .i64 sk) ∧ WW.cell? ⟨w.heap.size, 4, none⟩ = some (.int .i64 lk)) ∧ WW.cell? ⟨w.heap.size + 1, 3, none⟩ = some (.int .i64 (next : Int)) := fun WW hW => by
            have g1 := (hW.block _ (heap_lt HG.out)).trans HG.out
            have g2 := (hW.block _ (heap_lt HX.out.log)).trans HX.out.log
            exact ⟨⟨cell_of_row _ _ 0 _ _ _ g1, cell_of_row _ _ 1 _ _ _ g1, cell_of_row _ _ 2 _ _ _ g1, cell_of_row _ _ 3 _ _ _ g1, cell_of_row _ _ 4 _ _ _ g1⟩, cell_of_row _ _ 3 _ _ _ g2⟩
          have KS := Lib.hid hsa
          clear hsa
          go_upto_region 21 with (fail)
          have hS0 := KS.out w10.drew (Below.refl _ _).drew
          refine wp_region_M (fun j => decide (j < 8)) (fun w' => (w'.cell? ⟨w.heap.size, 0, none⟩ = some (.slice P1 p1 e1) ∧ w'.cell? ⟨w.heap.size, 1, none⟩ = some (.slice P2 p2 e2) ∧ w'.cell? ⟨w.heap.size, 2, none⟩ = some (.slice P3 p3 e3) ∧ w'.cell? ⟨w.heap.size, 3, none⟩ = some (.int .i64 sk) ∧ w'.cell? ⟨w.heap.size, 4, none⟩ = some (.int .i64 lk)) ∧ w'.cell? ⟨w.heap.size + 1, 3, none⟩ = some (.int .i64 (next : Int))) (by kernel_rfl) ?_
          refine wpAnyM_take (i := 0) (v := ?_) rfl (by kernel_rfl) (by kernel_rfl) (by kernel_rfl) (by kernel_rfl) (fun _ _ _ h => h) (Or.inl ⟨by rfl, ?_⟩) hS0 ?_
          rotate_left
          · intro w hSw; (try dsimp only at hSw); go_simp; (try with_reducible rfl)
          simp only [Act.put, List.getElem_toArray, List.getElem_cons_zero, List.getElem_cons_succ, List.setIfInBounds_toArray, List.set_cons_zero, List.set_cons_succ]
          refine wpAnyM_take (i := 1) (v := ?_) rfl (by kernel_rfl) (by kernel_rfl) (by kernel_rfl) (by kernel_rfl) (fun _ _ _ h => h) (Or.inl ⟨by rfl, ?_⟩) hS0 ?_
          rotate_left
          · intro w hSw; (try dsimp only at hSw); go_simp; (try with_reducible rfl)
          simp only [Act.put, List.getElem_toArray, List.getElem_cons_zero, List.getElem_cons_succ, List.setIfInBounds_toArray, List.set_cons_zero, List.set_cons_succ]
          refine wpAnyM_take (i := 2) (v := ?_) rfl (by kernel_rfl) (by kernel_rfl) (by kernel_rfl) (by kernel_rfl) (fun _ _ _ h => h) (Or.inl ⟨by rfl, ?_⟩) hS0 ?_
          rotate_left
          · intro w hSw; (try dsimp only at hSw); go_simp; (try with_reducible rfl)
          simp only [Act.put, List.getElem_toArray, List.getElem_cons_zero, List.getElem_cons_succ, List.setIfInBounds_toArray, List.set_cons_zero, List.set_cons_succ]
          refine wpAnyM_take (i := 3) (v := ?_) rfl (by kernel_rfl) (by kernel_rfl) (by kernel_rfl) (by kernel_rfl) (fun _ _ _ h => h) (Or.inl ⟨by rfl, ?_⟩) hS0 ?_
          rotate_left
          · intro w hSw; (try dsimp only at hSw); go_simp; (try with_reducible rfl)
          simp only [Act.put, List.getElem_toArray, List.getElem_cons_zero, List.getElem_cons_succ, List.setIfInBounds_toArray, List.set_cons_zero, List.set_cons_succ]
          refine wpAnyM_take (i := 4) (v := ?_) rfl (by kernel_rfl) (by kernel_rfl) (by kernel_rfl) (by kernel_rfl) (fun _ _ _ h => h) (Or.inl ⟨by rfl, ?_⟩) hS0 ?_
          rotate_left
          · intro w hSw; (try dsimp only at hSw); go_simp; (try with_reducible rfl)
          simp only [Act.put, List.getElem_toArray, List.getElem_cons_zero, List.getElem_cons_succ, List.setIfInBounds_toArray, List.set_cons_zero, List.set_cons_succ]
          refine wpAnyM_one (i := 5) (by kernel_rfl) rfl (fun K hK => ?_)
          go_simp
          refine hK.out _ _ (fun _ => hS0) ?_
          clear hK K
          refine wpAnyM_one (i := 6) (by kernel_rfl) rfl (fun K hK => ?_)
          go_simp
          go_wp2_with (go_at_call 39; (with_reducible refine (HHD.out _).mono ?_); rintro e w8 ⟨rfl, hb8⟩)
          have hb8' : Below w10.heap.size w10 w8 := (Below.refl w10.heap.size w10).drew.trans hb8
          have hS8 := KS.out w8 hb8'
          refine hK.out _ _ (fun _ => hS8) ?_
          clear hK K
          refine wpAnyM_one (i := 7) (by kernel_rfl) rfl (fun K hK => ?_)
          go_simp
          go_wp2_with (go_at_call 17; (with_reducible refine (HW.out _ hb8').mono ?_); rintro e w9 ⟨B1, B2, B3, r1, r2, r3, f1, f2, f3, s9, l9, rfl, hR9, hb9⟩)
          have hb9' : Below w10.heap.size w10 w9 := hb8'.trans (lower' hb9 hb8'.size)
          have hS9 := KS.out w9 hb9'
          have hg9 := (hb9'.block _ (heap_lt HG.out)).trans HG.out
          have u0 := cell_of_row w9 (w.heap.size) 0 _ _ _ hg9; have u1 := cell_of_row w9 (w.heap.size) 1 _ _ _ hg9; have u2 := cell_of_row w9 (w.heap.size) 2 _ _ _ hg9; have u3 := cell_of_row w9 (w.heap.size) 3 _ _ _ hg9; have u4 := cell_of_row w9 (w.heap.size) 4 _ _ _ hg9; have t0 := frozen_of_row w9 (w.heap.size) 0 _ _ hg9; have t1 := frozen_of_row w9 (w.heap.size) 1 _ _ hg9; have t2 := frozen_of_row w9 (w.heap.size) 2 _ _ hg9; have t3 := frozen_of_row w9 (w.heap.size) 3 _ _ hg9; have t4 := frozen_of_row w9 (w.heap.size) 4 _ _ hg9
          refine hK.out _ _ (fun _ => hS9) ?_
          clear hK K
          refine wpAnyM_value (i := 8) (v := ?_) rfl (by kernel_rfl) (by kernel_rfl) (by kernel_rfl) (by kernel_rfl) (fun _ _ _ h => h) (Or.inl ⟨by rfl, ?_⟩) ?_
          rotate_left
          · intro w hSw; go_simp; (try with_reducible rfl)
          simp only [Act.put, List.getElem_toArray, List.getElem_cons_zero, List.getElem_cons_succ, List.setIfInBounds_toArray, List.set_cons_zero, List.set_cons_succ]
          refine wpAnyM_value (i := 9) (v := ?_) rfl (by kernel_rfl) (by kernel_rfl) (by kernel_rfl) (by kernel_rfl) (fun _ _ _ h => h) (Or.inl ⟨by rfl, ?_⟩) ?_
          rotate_left
          · intro w hSw; go_simp; (try with_reducible rfl)
          simp only [Act.put, List.getElem_toArray, List.getElem_cons_zero, List.getElem_cons_succ, List.setIfInBounds_toArray, List.set_cons_zero, List.set_cons_succ]
          refine wpAnyM_value (i := 10) (v := ?_) rfl (by kernel_rfl) (by kernel_rfl) (by kernel_rfl) (by kernel_rfl) (fun _ _ _ h => h) (Or.inl ⟨by rfl, ?_⟩) ?_
          rotate_left
          · intro w hSw; go_simp; (try with_reducible rfl)
          simp only [Act.put, List.getElem_toArray, List.getElem_cons_zero, List.getElem_cons_succ, List.setIfInBounds_toArray, List.set_cons_zero, List.set_cons_succ]
          refine wpAnyM_one (i := 11) (by kernel_rfl) rfl (fun K hK => ?_)
          go_simp
          refine hK.out _ _ (fun h => absurd h (by decide)) ?_
          clear hK K
          refine wpAnyM_value (i := 12) (v := ?_) rfl (by kernel_rfl) (by kernel_rfl) (by kernel_rfl) (by kernel_rfl) (fun _ _ _ h => h) (Or.inl ⟨by rfl, ?_⟩) ?_
          rotate_left
          · intro w hSw; go_simp; (try with_reducible rfl)
          simp only [Act.put, List.getElem_toArray, List.getElem_cons_zero, List.getElem_cons_succ, List.setIfInBounds_toArray, List.set_cons_zero, List.set_cons_succ]
          refine wpAnyM_done (by kernel_rfl) ?_ _
          have HX9 := Lib.hid (HX.out.put HX4.out.2 hb9' hR9)
          generalize (((((w9.setCell ⟨w.heap.size, 0, none⟩ (.slice B1 r1 f1)).setCell ⟨w.heap.size, 1, none⟩ (.slice B2 r2 f2)).setCell ⟨w.heap.size, 2, none⟩ (.slice B3 r3 f3)).setCell ⟨w.heap.size, 3, none⟩ (.int .i64 s9)).setCell ⟨w.heap.size, 4, none⟩ (.int .i64 l9)) = w12 at HX9 ⊢
          clear hb9 hb9' hS9 hS8 hb8 hb8' hR9 hg9 u0 u1 u2 u3 u4 t0 t1 t2 t3 t4
          go_upto_region 22 with (fail)
          go_upto_region 23 with (fail)
          refine wp_noway (ra23 HX9 (fun s hs hm => by have := HX4.out.2 s hs; simp at hm; omega) _ _ _ _ _ _ _ _ _ _ _ _ _ _ _ _ _ _ _ _ _ _ _ _ _ _ _ _ _ _ _ _ _ _ _ _ _ _ _ _ _ _ _ _ _ _ _ _ _ _ _ _ _ _ _ _ _ _ _ _ _ _ _ _ _ _ _ _ _ _ _ _ _ _ _ _ _ _ _ _ _ _ _ _ _ _ _ _ _ _ _ _ _ _ _ _ _ _ _ _ _ _ _ _ _ _ _ _ _ _ _ _ _ _ _ _ _ _ _ _ _ _ _ ?_)
          intro Q1 Q2 Q3 q1 q2 q3 g1 g2 g3 sq lq v98 v99 v100 w20 hz1 hz2 hz3 hz4 hz5
          go_wp2_with (fail)
          exact HKR.out _ _ (bodyPost_ret (resAppend hz1 hz2 _ rfl rfl) rfl (by rw [HZ.out]; exact ⟨fun h => absurd h (by simp), fun _ => ⟨_, _, _, _, _, _, _, _, _, _, _, _, _, rfl, hz3, hz4, hz5⟩⟩))
        | false =>
          have hwE : M1.writeE (E : Int) (headL next d.length) = 0 := by rw [(write_eq hE1 (headL_len _ _)).1, if_neg (by simp [hdd])]
          have hwM : M1.writeM (E : Int) (headL next d.length) = doneOp M1 (some (E, headL next d.length)) := by rw [(write_eq hE1 (headL_len _ _)).2, if_neg (by simp [hdd])]; rfl
          simp only [hwE, hwM] at hw0
          have hz' := hz1.trans (runOps_live hdd)
          have HZ := Lib.hid hz'
          have HW := Lib.hid hw0
          have HD2 := Lib.hid (ok_done (some (E, headL next d.length)) hok hss)
          clear hw0 hz1 hz' hdd hok hvk hXk hg hss hwE hwM hs1 hE1 HD1
          have hsa : ∀ WW, Below w10.heap.size w10 WW → (WW.cell? ⟨w.heap.size, 0, none⟩ = some (.slice P1 p1 e1) ∧ WW.cell? ⟨w.heap.size, 1, none⟩ = some (.slice P2 p2 e2) ∧ WW.cell? ⟨w.heap.size, 2, none⟩ = some (.slice P3 p3 e3) ∧ WW.cell? ⟨w.heap.size, 3, none⟩ = some (.int .i64 sk) ∧ WW.cell? ⟨w.heap.size, 4, none⟩ = some (.int .i64 lk)) ∧ WW.cell? ⟨w.heap.size + 1, 3, none⟩ = some (.int .i64 (next : Int)) := fun WW hW => by
            have g1 := (hW.block _ (heap_lt HG.out)).trans HG.out
            have g2 := (hW.block _ (heap_lt HX.out.log)).trans HX.out.log
            exact ⟨⟨cell_of_row _ _ 0 _ _ _ g1, cell_of_row _ _ 1 _ _ _ g1, cell_of_row _ _ 2 _ _ _ g1, cell_of_row _ _ 3 _ _ _ g1, cell_of_row _ _ 4 _ _ _ g1⟩, cell_of_row _ _ 3 _ _ _ g2⟩
          have KS := Lib.hid hsa
          clear hsa
          go_upto_region 21 with (fail)
          have hS0 := KS.out w10.drew (Below.refl _ _).drew
          refine wp_region_M (fun j => decide (j < 8)) (fun w' => (w'.cell? ⟨w.heap.size, 0, none⟩ = some (.slice P1 p1 e1) ∧ w'.cell? ⟨w.heap.size, 1, none⟩ = some (.slice P2 p2 e2) ∧ w'.cell? ⟨w.heap.size, 2, none⟩ = some (.slice P3 p3 e3) ∧ w'.cell? ⟨w.heap.size, 3, none⟩ = some (.int .i64 sk) ∧ w'.cell? ⟨w.heap.size, 4, none⟩ = some (.int .i64 lk)) ∧ w'.cell? ⟨w.heap.size + 1, 3, none⟩ = some (.int .i64 (next : Int))) (by kernel_rfl) ?_
          refine wpAnyM_take (i := 0) (v := ?_) rfl (by kernel_rfl) (by kernel_rfl) (by kernel_rfl) (by kernel_rfl) (fun _ _ _ h => h) (Or.inl ⟨by rfl, ?_⟩) hS0 ?_
          rotate_left
          · intro w hSw; (try dsimp only at hSw); go_simp; (try with_reducible rfl)
          simp only [Act.put, List.getElem_toArray, List.getElem_cons_zero, List.getElem_cons_succ, List.setIfInBounds_toArray, List.set_cons_zero, List.set_cons_succ]
          refine wpAnyM_take (i := 1) (v := ?_) rfl (by kernel_rfl) (by kernel_rfl) (by kernel_rfl) (by kernel_rfl) (fun _ _ _ h => h) (Or.inl ⟨by rfl, ?_⟩) hS0 ?_
          rotate_left
          · intro w hSw; (try dsimp only at hSw); go_simp; (try with_reducible rfl)
          simp only [Act.put, List.getElem_toArray, List.getElem_cons_zero, List.getElem_cons_succ, List.setIfInBounds_toArray, List.set_cons_zero, List.set_cons_succ]
          refine wpAnyM_take (i := 2) (v := ?_) rfl (by kernel_rfl) (by kernel_rfl) (by kernel_rfl) (by kernel_rfl) (fun _ _ _ h => h) (Or.inl ⟨by rfl, ?_⟩) hS0 ?_
          rotate_left
          · intro w hSw; (try dsimp only at hSw); go_simp; (try with_reducible rfl)
          simp only [Act.put, List.getElem_toArray, List.getElem_cons_zero, List.getElem_cons_succ, List.setIfInBounds_toArray, List.set_cons_zero, List.set_cons_succ]
          refine wpAnyM_take (i := 3) (v := ?_) rfl (by kernel_rfl) (by kernel_rfl) (by kernel_rfl) (by kernel_rfl) (fun _ _ _ h => h) (Or.inl ⟨by rfl, ?_⟩) hS0 ?_
          rotate_left
          · intro w hSw; (try dsimp only at hSw); go_simp; (try with_reducible rfl)
          simp only [Act.put, List.getElem_toArray, List.getElem_cons_zero, List.getElem_cons_succ, List.setIfInBounds_toArray, List.set_cons_zero, List.set_cons_succ]
          refine wpAnyM_take (i := 4) (v := ?_) rfl (by kernel_rfl) (by kernel_rfl) (by kernel_rfl) (by kernel_rfl) (fun _ _ _ h => h) (Or.inl ⟨by rfl, ?_⟩) hS0 ?_
          rotate_left
          · intro w hSw; (try dsimp only at hSw); go_simp; (try with_reducible rfl)
          simp only [Act.put, List.getElem_toArray, List.getElem_cons_zero, List.getElem_cons_succ, List.setIfInBounds_toArray, List.set_cons_zero, List.set_cons_succ]
          refine wpAnyM_one (i := 5) (by kernel_rfl) rfl (fun K hK => ?_)
          go_simp
          refine hK.out _ _ (fun _ => hS0) ?_
          clear hK K
          refine wpAnyM_one (i := 6) (by kernel_rfl) rfl (fun K hK => ?_)
          go_simp
          go_wp2_with (go_at_call 39; (with_reducible refine (HHD.out _).mono ?_); rintro e w8 ⟨rfl, hb8⟩)
          have hb8' : Below w10.heap.size w10 w8 := (Below.refl w10.heap.size w10).drew.trans hb8
          have hS8 := KS.out w8 hb8'
          refine hK.out _ _ (fun _ => hS8) ?_
          clear hK K
          refine wpAnyM_one (i := 7) (by kernel_rfl) rfl (fun K hK => ?_)
          go_simp
          go_wp2_with (go_at_call 17; (with_reducible refine (HW.out _ hb8').mono ?_); rintro e w9 ⟨B1, B2, B3, r1, r2, r3, f1, f2, f3, s9, l9, rfl, hR9, hb9⟩)
          have hb9' : Below w10.heap.size w10 w9 := hb8'.trans (lower' hb9 hb8'.size)
          have hS9 := KS.out w9 hb9'
          have hg9 := (hb9'.block _ (heap_lt HG.out)).trans HG.out
          have u0 := cell_of_row w9 (w.heap.size) 0 _ _ _ hg9; have u1 := cell_of_row w9 (w.heap.size) 1 _ _ _ hg9; have u2 := cell_of_row w9 (w.heap.size) 2 _ _ _ hg9; have u3 := cell_of_row w9 (w.heap.size) 3 _ _ _ hg9; have u4 := cell_of_row w9 (w.heap.size) 4 _ _ _ hg9; have t0 := frozen_of_row w9 (w.heap.size) 0 _ _ hg9; have t1 := frozen_of_row w9 (w.heap.size) 1 _ _ hg9; have t2 := frozen_of_row w9 (w.heap.size) 2 _ _ hg9; have t3 := frozen_of_row w9 (w.heap.size) 3 _ _ hg9; have t4 := frozen_of_row w9 (w.heap.size) 4 _ _ hg9
          refine hK.out _ _ (fun _ => hS9) ?_
          clear hK K
          refine wpAnyM_value (i := 8) (v := ?_) rfl (by kernel_rfl) (by kernel_rfl) (by kernel_rfl) (by kernel_rfl) (fun _ _ _ h => h) (Or.inl ⟨by rfl, ?_⟩) ?_
          rotate_left
          · intro w hSw; go_simp; (try with_reducible rfl)
          simp only [Act.put, List.getElem_toArray, List.getElem_cons_zero, List.getElem_cons_succ, List.setIfInBounds_toArray, List.set_cons_zero, List.set_cons_succ]
          refine wpAnyM_value (i := 9) (v := ?_) rfl (by kernel_rfl) (by kernel_rfl) (by kernel_rfl) (by kernel_rfl) (fun _ _ _ h => h) (Or.inl ⟨by rfl, ?_⟩) ?_
          rotate_left
          · intro w hSw; go_simp; (try with_reducible rfl)
          simp only [Act.put, List.getElem_toArray, List.getElem_cons_zero, List.getElem_cons_succ, List.setIfInBounds_toArray, List.set_cons_zero, List.set_cons_succ]
          refine wpAnyM_value (i := 10) (v := ?_) rfl (by kernel_rfl) (by kernel_rfl) (by kernel_rfl) (by kernel_rfl) (fun _ _ _ h => h) (Or.inl ⟨by rfl, ?_⟩) ?_
          rotate_left
          · intro w hSw; go_simp; (try with_reducible rfl)
          simp only [Act.put, List.getElem_toArray, List.getElem_cons_zero, List.getElem_cons_succ, List.setIfInBounds_toArray, List.set_cons_zero, List.set_cons_succ]
          refine wpAnyM_one (i := 11) (by kernel_rfl) rfl (fun K hK => ?_)
          go_simp
          refine hK.out _ _ (fun h => absurd h (by decide)) ?_
          clear hK K
          refine wpAnyM_value (i := 12) (v := ?_) rfl (by kernel_rfl) (by kernel_rfl) (by kernel_rfl) (by kernel_rfl) (fun _ _ _ h => h) (Or.inl ⟨by rfl, ?_⟩) ?_
          rotate_left
          · intro w hSw; go_simp; (try with_reducible rfl)
          simp only [Act.put, List.getElem_toArray, List.getElem_cons_zero, List.getElem_cons_succ, List.setIfInBounds_toArray, List.set_cons_zero, List.set_cons_succ]
          refine wpAnyM_done (by kernel_rfl) ?_ _
          have HX9 := Lib.hid (HX.out.put HX4.out.2 hb9' hR9)
          generalize (((((w9.setCell ⟨w.heap.size, 0, none⟩ (.slice B1 r1 f1)).setCell ⟨w.heap.size, 1, none⟩ (.slice B2 r2 f2)).setCell ⟨w.heap.size, 2, none⟩ (.slice B3 r3 f3)).setCell ⟨w.heap.size, 3, none⟩ (.int .i64 s9)).setCell ⟨w.heap.size, 4, none⟩ (.int .i64 l9)) = w12 at HX9 ⊢
          clear hb9 hb9' hS9 hS8 hb8 hb8' hR9 hg9 u0 u1 u2 u3 u4 t0 t1 t2 t3 t4
          go_upto_region 24 with (fail)
          have hz := HZ.out
          generalize doneOp M1 (some (E, headL next d.length)) = M2 at HX9 HD2 hz
          have hok := HD2.out.1
          have hss := HD2.out.2.1
          obtain ⟨P1, P2, P3, p1, p2, p3, e1, e2, e3, sk, lk, hg, hvk⟩ := HX9.out.box
          have HG := Lib.hid hg
          have hXk := HX9.out.refs HK.out.2.2.1
          have v0 := cell_of_row w12 (w.heap.size) 0 _ _ _ hg; have v1 := cell_of_row w12 (w.heap.size) 1 _ _ _ hg; have v2 := cell_of_row w12 (w.heap.size) 2 _ _ _ hg; have v3 := cell_of_row w12 (w.heap.size) 3 _ _ _ hg; have v4 := cell_of_row w12 (w.heap.size) 4 _ _ _ hg
          clear HX
          have HX := HX9
          clear HX9
          have hw := hvk.rflush hok hXk
          unfold DM.flushE DM.flushM at hw
          cases hd2 : M2.dead with
          | true =>
            rw [if_pos hd2, if_pos hd2] at hw
            have hz' := hz.trans (runOps_dead hd2 (by simp))
            have HZ := Lib.hid hz'
            have HW := Lib.hid hw
            clear hw hz hz' hd2 hok hvk hXk hg
            go_upto_region 25 with (go_at_call 38; (with_reducible refine HW.out.mono ?_); rintro e w9 ⟨B1, B2, B3, r1, r2, r3, f1, f2, f3, s9, l9, rfl, hR9, hb9⟩; have hg9 := (hb9.block _ (heap_lt HG.out)).trans HG.out; have u0 := cell_of_row w9 (w.heap.size) 0 _ _ _ hg9; have u1 := cell_of_row w9 (w.heap.size) 1 _ _ _ hg9; have u2 := cell_of_row w9 (w.heap.size) 2 _ _ _ hg9; have u3 := cell_of_row w9 (w.heap.size) 3 _ _ _ hg9; have u4 := cell_of_row w9 (w.heap.size) 4 _ _ _ hg9; have t0 := frozen_of_row w9 (w.heap.size) 0 _ _ hg9; have t1 := frozen_of_row w9 (w.heap.size) 1 _ _ hg9; have t2 := frozen_of_row w9 (w.heap.size) 2 _ _ hg9; have t3 := frozen_of_row w9 (w.heap.size) 3 _ _ hg9; have t4 := frozen_of_row w9 (w.heap.size) 4 _ _ hg9)
            have HX9 := Lib.hid (HX.out.put HX4.out.2 hb9 hR9)
            generalize (((((w9.setCell ⟨w.heap.size, 0, none⟩ (.slice B1 r1 f1)).setCell ⟨w.heap.size, 1, none⟩ (.slice B2 r2 f2)).setCell ⟨w.heap.size, 2, none⟩ (.slice B3 r3 f3)).setCell ⟨w.heap.size, 3, none⟩ (.int .i64 s9)).setCell ⟨w.heap.size, 4, none⟩ (.int .i64 l9)) = w13 at HX9 ⊢
            clear hb9 hR9 hg9 u0 u1 u2 u3 u4 t0 t1 t2 t3 t4
            go_upto_region 26 with (fail)
            refine wp_noway (ra26 HX9 (fun s hs hm => by have := HX4.out.2 s hs; simp at hm; omega) _ _ _ _ _ _ _ _ _ _ _ _ _ _ _ _ _ _ _ _ _ _ _ _ _ _ _ _ _ _ _ _ _ _ _ _ _ _ _ _ _ _ _ _ _ _ _ _ _ _ _ _ _ _ _ _ _ _ _ _ _ _ _ _ _ _ _ _ _ _ _ _ _ _ _ _ _ _ _ _ _ _ _ _ _ _ _ _ _ _ _ _ _ _ _ _ _ _ _ _ _ _ _ _ _ _ _ _ _ _ _ _ _ _ _ _ _ _ _ _ _ _ _ ?_)
            intro Q1 Q2 Q3 q1 q2 q3 g1 g2 g3 sq lq v108 v109 v110 w20 hz1 hz2 hz3 hz4 hz5
            go_wp2_with (fail)
            exact HKR.out _ _ (bodyPost_ret (resAppend hz1 hz2 _ rfl rfl) rfl (by rw [HZ.out]; exact ⟨fun h => absurd h (by simp), fun _ => ⟨_, _, _, _, _, _, _, _, _, _, _, _, _, rfl, hz3, hz4, hz5⟩⟩))
          | false =>
            rw [if_neg (by simp [hd2]), if_neg (by simp [hd2])] at hw
            have hz' := hz.trans (runOps_live hd2)
            have HZ := Lib.hid hz'
            have HW := Lib.hid hw
            have HD1 := Lib.hid (ok_done none hok hss)
            clear hw hz hz' hd2 hok hvk hXk hg hss
            go_upto_region 25 with (go_at_call 38; (with_reducible refine HW.out.mono ?_); rintro e w9 ⟨B1, B2, B3, r1, r2, r3, f1, f2, f3, s9, l9, rfl, hR9, hb9⟩; have hg9 := (hb9.block _ (heap_lt HG.out)).trans HG.out; have u0 := cell_of_row w9 (w.heap.size) 0 _ _ _ hg9; have u1 := cell_of_row w9 (w.heap.size) 1 _ _ _ hg9; have u2 := cell_of_row w9 (w.heap.size) 2 _ _ _ hg9; have u3 := cell_of_row w9 (w.heap.size) 3 _ _ _ hg9; have u4 := cell_of_row w9 (w.heap.size) 4 _ _ _ hg9; have t0 := frozen_of_row w9 (w.heap.size) 0 _ _ hg9; have t1 := frozen_of_row w9 (w.heap.size) 1 _ _ hg9; have t2 := frozen_of_row w9 (w.heap.size) 2 _ _ hg9; have t3 := frozen_of_row w9 (w.heap.size) 3 _ _ hg9; have t4 := frozen_of_row w9 (w.heap.size) 4 _ _ hg9)
            have HX9 := Lib.hid (HX.out.put HX4.out.2 hb9 hR9)
            generalize (((((w9.setCell ⟨w.heap.size, 0, none⟩ (.slice B1 r1 f1)).setCell ⟨w.heap.size, 1, none⟩ (.slice B2 r2 f2)).setCell ⟨w.heap.size, 2, none⟩ (.slice B3 r3 f3)).setCell ⟨w.heap.size, 3, none⟩ (.int .i64 s9)).setCell ⟨w.heap.size, 4, none⟩ (.int .i64 l9)) = w13 at HX9 ⊢
            clear hb9 hR9 hg9 u0 u1 u2 u3 u4 t0 t1 t2 t3 t4
            have hzz : Rz = (0, doneOp M2 none) := HZ.out
            have HX := HX9
            clear HX9 HZ
            have HZ := Lib.hid hzz
            clear hzz
            go_upto_region 27 with (fail)
            rename_i K27 hK27
            refine wp_noway (ra27 (d := d) HX (by have := HRL.out; omega) _ _ _ _ _ _ _ _ _ _ _ _ _ _ _ _ _ _ _ _ _ _ _ _ _ _ _ _ _ _ _ _ _ _ _ _ _ _ _ _ _ _ _ _ _ _ _ _ _ _ _ _ _ _ _ _ _ _ _ _ _ _ _ _ _ _ _ _ _ _ _ _ _ _ _ _ _ _ _ _ _ _ _ _ _ _ _ _ _ _ _ _ _ _ _ _ _ _ _ _ _ _ _ _ _ _ _ _ _ _ _ _ _ _ _ _ _ _ _ _ _ _ _ _ _ _ ?_)
            intro A6 c6 w6 v111 v112 v113 v114 v115 v116 v117 v118 v119 v120 v121 hown6 hb6
            have hlg6 := (hb6.block _ (heap_lt HX.out.log)).trans HX.out.log
            have hlg7 : (w6.setCell ⟨w.heap.size + 1, 2, none⟩ (.slice A6 (R.length + 1) c6)).heap[w.heap.size + 1]? = some (.cells #[.int .i64 (first : Int), .int .i64 (C : Int), .slice A6 (R.length + 1) c6, .int .i64 (next : Int)] 42 (0, 0)) := by simpa using heap_setCell_same _ _ 2 _ _ (.slice A6 (R.length + 1) c6) hlg6
            have hadd := HX.out.add hb6 (by have := HX.out.below.size; have := HK.out.2.2.2.2.2.1; omega) hown6 ((next : Int) + 1)
            have HOG := Lib.hid (own_ge hown6)
            have HZS := Lib.hid HX.out.size
            have hnw : wrap64 ((next : Int) + 1) = (next : Int) + 1 := by unfold wrap64; omega
            refine hK27 _ _ ?_
            clear hK27
            refine wp_seq_k ?_
            intro K28 hK28
            refine wp_noway (ra28 hlg7 hnw _ _ _ _ _ _ _ _ _ _ _ _ _ _ _ _ _ _ _ _ _ _ _ _ _ _ _ _ _ _ _ _ _ _ _ _ _ _ _ _ _ _ _ _ _ _ _ _ _ _ _ _ _ _ _ _ _ _ _ _ _ _ _ _ _ _ _ _ _ _ _ _ _ _ _ _ _ _ _ _ _ _ _ _ _ _ _ _ _ _ _ _ _ _ _ _ _ _ _ _ _ _ _ _ _ _ _ _ _ _ _ _ _ _ _ _ _ _ _ _ _ _ _ _ _ _ _ ?_)
            intro v122 v123 v124 v125
            refine hK28 _ _ ?_
            clear hK28 hnw
            generalize hW14 : ((w6.setCell ⟨w.heap.size + 1, 2, none⟩ (.slice A6 (R.length + 1) c6)).setCell ⟨w.heap.size + 1, 3, none⟩ (.int .i64 ((next : Int) + 1))) = w14 at hadd ⊢
            clear hW14 hlg6 hlg7 hown6 hb6
            have HX9 := Lib.hid hadd
            clear hadd
            refine wp_seq_k ?_
            intro K29 hK29
            refine wp_noway (ra29 HX9 (fun s hs hm => by have h1 := HOG.out s (by rw [List.length_append] at hs; exact hs); have h2 := HZS.out; simp at hm; omega) _ _ _ _ _ _ _ _ _ _ _ _ _ _ _ _ _ _ _ _ _ _ _ _ _ _ _ _ _ _ _ _ _ _ _ _ _ _ _ _ _ _ _ _ _ _ _ _ _ _ _ _ _ _ _ _ _ _ _ _ _ _ _ _ _ _ _ _ _ _ _ _ _ _ _ _ _ _ _ _ _ _ _ _ _ _ _ _ _ _ _ _ _ _ _ _ _ _ _ _ _ _ _ _ _ _ _ _ _ _ _ _ _ _ _ _ _ _ _ _ _ _ _ _ ?_)
            intro Q1 Q2 Q3 q1 q2 q3 g1 g2 g3 sq lq v126 v127 w20 hz1 hz2 hz3 hz4 hz5
            refine hK29 _ _ ?_
            clear hK29
            go_wp2_with (fail)
            exact HKR.out _ _ (bodyPost_ret (resAppend hz1 hz2 _ rfl rfl) rfl (by rw [HZ.out]; exact ⟨fun _ => ⟨_, _, _, _, _, _, _, _, _, _, _, A6, c6, rfl, hz3, hz4, hz5⟩, fun h => absurd rfl h⟩))
end Go.Proofs.Ytajakmfloeefpaa
