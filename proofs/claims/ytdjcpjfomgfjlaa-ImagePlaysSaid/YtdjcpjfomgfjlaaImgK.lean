/- An image in memory: Load, Save. -/
import Derived.Test.YtdjcpjfomgfjlaaImgJ
namespace Go.Proofs.Ytdjcpjfomgfjlaa
open Go.RowKit Go.Maps

def hdO (g : Nat → List UInt8) (first count : Nat) : Option (Nat × Nat) := if pick (hdA g first count) (hdB g first count) then hdB g first count else hdA g first count
theorem areasV_eq (g : Nat → List UInt8) (first count : Nat) : areasV first count (hdA g first count) (hdB g first count) = .tuple #[arV (areaC g first count) (hdC g first count), arV (areaO g first count) (hdO g first count)] := by
  unfold areasV areaC areaO hdC hdO
  split <;> rfl
/-- An image's place and its disk, in memory. -/
structure ImgD (w : World) (q p bs bw T first count : Nat) (M : DM) : Prop where
  img : ImgAt w q p first count
  disk : DiskM w p bs bw M T
  ap : q ≠ p ∧ q ≠ bs ∧ q ≠ bw
  fits : first + 2 * count ≤ M.size
  size : M.size ≤ 4096
theorem ImgD.below {w w' : World} {q p bs bw T first count : Nat} {M : DM} (h : ImgD w q p bs bw T first count M) (hb : Below w.heap.size w w') : ImgD w' q p bs bw T first count M :=
  ⟨h.img.below hb, h.disk.kept hb, h.ap, h.fits, h.size⟩
theorem ImgD.mono {w : World} {q p bs bw T T' first count : Nat} {M : DM} (h : ImgD w q p bs bw T first count M) (hT : T ≤ T') : ImgD w q p bs bw T' first count M :=
  ⟨h.img, h.disk.mono hT, h.ap, h.fits, h.size⟩
/-- What Load answers. -/
def LoadPost (w w' : World) (x : Option (Nat × List UInt8)) (e : Ending) : Prop :=
  match x with
  | none => e = .returned (.tuple #[.int .i64 0, .slice none 0 0, .bool false]) ∧ Below w.heap.size w w'
  | some (s, d) => ∃ A c, e = .returned (.tuple #[.int .i64 (s : Int), .slice A d.length c, .bool true]) ∧ Own w w' d (.returned (.slice A d.length c))
theorem resLoad (tmps : Array Value) (v2 v3 v4 : Value) (h2 : tmps.getD 2 undef = v2) (h3 : tmps.getD 3 undef = v3) (h4 : tmps.getD 4 undef = v4) (w : World) :
    (results Try.f33 tmps).run Try.prog w = .ok (.tuple #[v2, v3, v4]) w := by
  subst h2 h3 h4
  simp [results, Try.results33, go_sem]
theorem own_from {w w1 w2 : World} {l : List UInt8} {e : Ending} (hb : Below w.heap.size w w1) (h : Own w1 w2 l e) : Own w w2 l e := by
  obtain ⟨A, c, he, h1, h2, h3, h4, h5⟩ := h
  exact ⟨A, c, he, fun a ha => ⟨Nat.le_trans hb.size (h1 a ha).1, (h1 a ha).2⟩, h2, h3, h4, below_via h5 hb⟩
section
variable {w : World} {q p bs bw T first count : Nat} {M : DM}
theorem hdC_zero (g : Nat → List UInt8) (first count : Nat) (h : seqO (hdC g first count) = 0) : hdC g first count = none := by
  unfold hdC at h ⊢
  split at h
  · rename_i hp; rw [if_pos hp]; exact seqO_pos h
  · rename_i hp; rw [if_neg hp]; exact seqO_pos h
theorem hdC_some {g : Nat → List UInt8} {first count s n : Nat} (h : hdC g first count = some (s, n)) : 1 ≤ s ∧ s ≤ 4611686018427387904 ∧ n ≤ roomI count := by
  unfold hdC at h
  split at h
  · exact ⟨(ahd_some h).1, (ahd_some h).2.1, (ahd_some h).2.2.1⟩
  · exact ⟨(ahd_some h).1, (ahd_some h).2.1, (ahd_some h).2.2.1⟩
theorem areaC_le (g : Nat → List UInt8) (first count : Nat) : areaC g first count ≤ first + count := by
  unfold areaC; split <;> omega
theorem areaO_le (g : Nat → List UInt8) (first count : Nat) : areaO g first count ≤ first + count := by
  unfold areaO; split <;> omega
set_option maxRecDepth 100000 in
set_option maxHeartbeats 4000000 in
theorem loadI_any (h : ImgD w q p bs bw T first count M) :
    Calls Try.prog 33 #[.pointer (some ⟨q, 0, none⟩)] w fun e w' => LoadPost w w' (imgOf M.get first count) e := by
  have h2 := h.img.two
  have hfit := h.fits
  have hsz := h.size
  have har := areas_any h.img (by omega) h.disk h.size (by omega)
  rw [areasV_eq] at har
  unfold arV at har
  obtain ⟨C, hC⟩ : ∃ C, C = areaC M.get first count := ⟨_, rfl⟩
  obtain ⟨X, hX⟩ : ∃ X, X = hdC M.get first count := ⟨_, rfl⟩
  have himg : imgOf M.get first count = imgAt M.get C X := by rw [hC, hX]; rfl
  have hCl := areaC_le M.get first count
  rw [← hC, ← hX] at har
  rw [← hC] at hCl
  rw [himg]
  have HAR := Lib.hid har
  have HH := Lib.hid h
  cases hXc : X with
  | none =>
    rw [hXc] at HAR
    have HR := Lib.hid (show ∀ w' e, e = .returned (.tuple #[.int .i64 0, .slice none 0 0, .bool false]) → Below w.heap.size w w' → LoadPost w w' (imgAt M.get C none) e from fun w' e he hb => ⟨he, hb⟩)
    clear har h himg hX hC hXc h2 hfit hsz hCl
    go_enter Try.func33, Try.ntmps33
    go_wp2_with (go_at_call 61; (with_reducible refine HAR.out.mono ?_); rintro e w1 ⟨rfl, hb1⟩; have HB := Lib.hid hb1; clear hb1)
    exact bodyPost_ret (resLoad _ _ _ _ rfl rfl rfl _) rfl (HR.out _ _ rfl (below_al (below_al HB.out _) _))
  | some x =>
    obtain ⟨s, n⟩ := x
    rw [hXc] at HAR
    obtain ⟨hs1, hs2, hn⟩ := hdC_some (hX ▸ hXc)
    have hroom : roomI count ≤ 262144 := by unfold roomI; omega
    have hsn : secs n < count := secs_room hn h2
    have hda := fun (W : World) (hW : Below w.heap.size w W) => dataI_any (h.below hW).img (h.below hW).disk hsz C s n (by omega) (by omega)
    obtain ⟨Z, hZ⟩ : ∃ Z, Z = (cat M.get (C + 1) (secs n)).take n := ⟨_, rfl⟩
    rw [← hZ] at hda
    have HDA := Lib.hid hda
    have HR := Lib.hid (show ∀ w' e A c, e = .returned (.tuple #[.int .i64 (s : Int), .slice A Z.length c, .bool true]) → Own w w' Z (.returned (.slice A Z.length c)) → LoadPost w w' (imgAt M.get C (some (s, n))) e from fun w' e A c he ho => by subst hZ; exact ⟨A, c, he, ho⟩)
    have hs0 : ((s : Int) == 0) = false := by rw [beq_eq_false_iff_ne]; omega
    have hs0' : ¬ (s : Int) = 0 := by omega
    have e1 : (seqO (some (s, n)) : Int) = (s : Int) := rfl
    have e2 : (sizO (some (s, n)) : Int) = (n : Int) := rfl
    rw [e1, e2] at HAR
    obtain ⟨oA, hoA⟩ : ∃ x : Value, x = .int .i64 (areaO M.get first count : Int) := ⟨_, rfl⟩
    obtain ⟨oB, hoB⟩ : ∃ x : Int, x = (seqO (hdO M.get first count) : Int) := ⟨_, rfl⟩
    obtain ⟨oC, hoC⟩ : ∃ x : Int, x = (sizO (hdO M.get first count) : Int) := ⟨_, rfl⟩
    rw [← hoB, ← hoC] at HAR
    clear hZ hoA hoB hoC har h himg hX hC hXc h2 hfit hsz hCl hda hs1 hs2 hn hroom hsn e1 e2
    go_enter Try.func33, Try.ntmps33
    go_upto_region 4 with (go_at_call 61; (with_reducible refine HAR.out.mono ?_); rintro e w1 ⟨rfl, hb1⟩)
    have hg5 := (Below.heap_alloc (w1.alloc (.cells #[.int .i64 (C : Int), .int .i64 (s : Int), .int .i64 (n : Int)] 118)) (.cells #[.int .i64 (areaO M.get first count : Int), .int .i64 oB, .int .i64 oC] 118) w1.heap.size (by simp)).trans (heap_alloc_new w1 (.cells #[.int .i64 (C : Int), .int .i64 (s : Int), .int .i64 (n : Int)] 118))
    have hbW := below_al (below_al hb1 (.cells #[.int .i64 (C : Int), .int .i64 (s : Int), .int .i64 (n : Int)] 118)) (.cells #[.int .i64 (areaO M.get first count : Int), .int .i64 oB, .int .i64 oC] 118)
    generalize (w1.alloc (.cells #[.int .i64 (C : Int), .int .i64 (s : Int), .int .i64 (n : Int)] 118)).alloc (.cells #[.int .i64 (areaO M.get first count : Int), .int .i64 oB, .int .i64 oC] 118) = W2 at hg5 hbW ⊢
    obtain ⟨z, hz⟩ : ∃ z, z = w1.heap.size := ⟨_, rfl⟩
    rw [← hz] at hg5 ⊢
    have hKS : ∀ W', Below W2.heap.size W2 W' → (W'.cell? ⟨z, 0, none⟩ = some (.int .i64 (C : Int)) ∧ W'.cell? ⟨z, 1, none⟩ = some (.int .i64 (s : Int)) ∧ W'.cell? ⟨z, 2, none⟩ = some (.int .i64 (n : Int))) := fun W' hb =>
      have hg := keep0 hb hg5
      ⟨cell_of_row W' z 0 _ _ _ hg, cell_of_row W' z 1 _ _ _ hg, cell_of_row W' z 2 _ _ _ hg⟩
    have KS := Lib.hid hKS
    have HB := Lib.hid hbW
    clear hKS hg5 hbW hb1 hz
    go_region_held3 (fun W' => W'.cell? ⟨z, 0, none⟩ = some (.int .i64 (C : Int)) ∧ W'.cell? ⟨z, 1, none⟩ = some (.int .i64 (s : Int)) ∧ W'.cell? ⟨z, 2, none⟩ = some (.int .i64 (n : Int)))
      (first
        | exact KS.out W2.drew (Below.refl _ _).drew
        | exact hs3
        | with_reducible assumption)
      ((first
        | (go_at_call 67; (with_reducible refine (HDA.out W2.drew HB.out.drew).mono ?_); rintro e w3 hOw; have hOw2 := hOw; obtain ⟨A3, c3, rfl, ho1, ho2, ho3, ho4, hb3⟩ := hOw; have hs3 := KS.out w3 ((Below.refl _ _).drew.trans hb3))))
    all_goals
      have HO := Lib.hid hOw2
      have HB3 := Lib.hid hb3
      clear hOw2 hb3 ho1 ho2 ho3 ho4 KS
      go_wp2_with (fail)
      exact bodyPost_ret (resLoad _ _ _ _ rfl rfl rfl _) rfl (HR.out _ _ _ _ rfl (own_from HB.out.drew HO.out))
/-- What Save answers, and the disk behind it. -/
def saveR (M : DM) (first count : Nat) (s : Int) (d : List UInt8) : Int × DM :=
  if s < 1 ∨ 4611686018427387904 < s then (1, M)
  else if s ≤ (seqI (imgOf M.get first count) : Int) then (2, M)
  else if roomI count < d.length then (3, M)
  else runOps (saveOps (areaO M.get first count) s.toNat d) M
def SaveP (w w' : World) (p bs bw T : Nat) (R : Int × DM) (e : Ending) : Prop := e = .returned (.int .i64 R.1) ∧ DiskM w' p bs bw R.2 (T + 5000) ∧ Fr w w' [p, bs, bw]
set_option maxRecDepth 100000 in
set_option maxHeartbeats 4000000 in
theorem saveI_any (h : ImgD w q p bs bw T first count M) (s : Int) (A : Option Addr) (d : List UInt8) (c B : Nat) (hr : Rd w B A (u8s d)) (hBw : B ≤ w.heap.size) (hB : d ≠ [] → ∀ x, A = some x → x.block ≠ p ∧ x.block ≠ bs ∧ x.block ≠ bw) (hc : d.length ≤ c) (hcm : c ≤ 9223372036854775807) (hfit : Fit M T 5000) :
    Calls Try.prog 31 #[.pointer (some ⟨q, 0, none⟩), .int .i64 s, .slice A d.length c] w fun e w' => SaveP w w' p bs bw T (saveR M first count s d) e := by
  have h2 := h.img.two
  have hfits := h.fits
  have hsz := h.size
  have hsame : ∀ (x : Int) w' e, e = .returned (.int .i64 x) → Below w.heap.size w w' → SaveP w w' p bs bw T (x, M) e := fun x w' e he hb => ⟨he, (h.disk.kept hb).mono (by omega), Fr.of_below hb _⟩
  have HS := Lib.hid hsame
  clear hsame
  by_cases c1 : s < 1 ∨ 4611686018427387904 < s
  · have e : saveR M first count s d = (1, M) := if_pos c1
    rw [e]
    clear e h2 hfits hsz h hr hB hfit hBw
    by_cases c2 : s < 1
    · clear c1
      go_enter Try.func31, Try.ntmps31
      go_wp2_with (fail)
      go_ret
      exact HS.out 1 _ _ rfl (Below.refl _ _)
    · have c3 : 4611686018427387904 < s := c1.resolve_left c2
      clear c1
      go_enter Try.func31, Try.ntmps31
      go_wp2_with (fail)
      go_ret
      exact HS.out 1 _ _ rfl (Below.refl _ _)
  · obtain ⟨n, rfl⟩ : ∃ n : Nat, s = (n : Int) := ⟨s.toNat, by omega⟩
    have n1 : ¬ (n : Int) < 1 := fun h => c1 (.inl h)
    have n2 : ¬ 4611686018427387904 < (n : Int) := fun h => c1 (.inr h)
    have hn2 : n ≤ 4611686018427387904 := by omega
    have har := areas_any h.img (by omega) h.disk h.size (by omega)
    rw [areasV_eq] at har
    unfold arV at har
    obtain ⟨Q, hQ⟩ : ∃ Q, Q = seqO (hdC M.get first count) := ⟨_, rfl⟩
    obtain ⟨O, hO⟩ : ∃ O, O = areaO M.get first count := ⟨_, rfl⟩
    have hOl : O ≤ first + count := by rw [hO]; exact areaO_le _ _ _
    have hR : saveR M first count (n : Int) d = if (n : Int) ≤ (Q : Int) then (2, M) else if roomI count < d.length then (3, M) else runOps (saveOps O n d) M := by
      unfold saveR
      rw [if_neg c1, seqI_of, ← hQ, ← hO, Int.toNat_natCast]
    rw [hR]
    rw [← hQ, ← hO] at har
    obtain ⟨xA, hxA⟩ : ∃ x : Int, x = (areaC M.get first count : Int) := ⟨_, rfl⟩
    obtain ⟨xC, hxC⟩ : ∃ x : Int, x = (sizO (hdC M.get first count) : Int) := ⟨_, rfl⟩
    obtain ⟨oB, hoB⟩ : ∃ x : Int, x = (seqO (hdO M.get first count) : Int) := ⟨_, rfl⟩
    obtain ⟨oC, hoC⟩ : ∃ x : Int, x = (sizO (hdO M.get first count) : Int) := ⟨_, rfl⟩
    rw [← hxA, ← hxC, ← hoB, ← hoC] at har
    have HAR := Lib.hid har
    have hroomC := fun (W : World) (hW : Below w.heap.size w W) => roomI_any (h.below hW).img (show count ≤ 4096 by omega)
    have hrl : roomI count ≤ 262144 := by unfold roomI; omega
    have hwr := fun (W : World) (hW : Below w.heap.size w W) (hd : d.length ≤ roomI count) => writeI_any (h.below hW).img (h.below hW).disk O n A d c B (hr.below hW hBw) (Nat.le_trans hBw hW.size) hB hc hcm h.ap (by omega) (by have := secs_room hd h2; omega) (by omega) hn2 (hfit.less (by have := secs_room hd h2; omega))
    have hfin : ∀ (W W' : World) (e : Ending), Below w.heap.size w W → d.length ≤ roomI count → Ran W W' p bs bw T M (saveOps O n d) e → SaveP w W' p bs bw T (runOps (saveOps O n d) M) e := fun W W' e hW hd hran => ⟨hran.1, hran.2.1.mono (by rw [saveOps_len]; have := secs_room hd h2; omega), (Fr.of_below hW _).trans hran.2.2⟩
    obtain ⟨R, hRm⟩ : ∃ R, R = roomI count := ⟨_, rfl⟩
    rw [← hRm] at hroomC hwr hfin hrl
    have HRM := Lib.hid hroomC
    have HWR := Lib.hid hwr
    have HFN := Lib.hid hfin
    have hrlI : (R : Int) ≤ 262144 := by omega
    have hdI : (d.length : Int) ≤ 9223372036854775807 := by omega
    rw [← hRm]
    clear har hxA hxC hoB hoC hR c1 hroomC hwr hfin hrl hRm hQ hO hOl h hr hB hfit hBw h2 hfits hsz hn2 hc hcm
    by_cases c4 : (n : Int) ≤ (Q : Int)
    · rw [if_pos c4]
      go_enter Try.func31, Try.ntmps31
      go_wp2_with (go_at_call 61; (with_reducible refine HAR.out.mono ?_); rintro e w1 ⟨rfl, hb1⟩; have HB := Lib.hid hb1; clear hb1)
      go_ret
      exact HS.out 2 _ _ rfl (below_al (below_al HB.out _) _)
    · rw [if_neg c4]
      by_cases c5 : R < d.length
      · rw [if_pos c5]
        have c5I : (R : Int) < (d.length : Int) := by omega
        clear c5
        go_enter Try.func31, Try.ntmps31
        go_wp2_with (first
          | (go_at_call 61; (with_reducible refine HAR.out.mono ?_); rintro e w1 ⟨rfl, hb1⟩; have HB := Lib.hid hb1; clear hb1)
          | (go_at_call 62; (with_reducible refine (HRM.out _ (below_al (below_al HB.out _) _)).mono ?_); rintro e w3 ⟨rfl, rfl⟩))
        go_ret
        exact HS.out 3 _ _ rfl (below_al (below_al HB.out _) _)
      · rw [if_neg c5]
        have c5I : ¬ (R : Int) < (d.length : Int) := by omega
        have HC5 := Lib.hid (show d.length ≤ R by omega)
        clear c5
        go_enter Try.func31, Try.ntmps31
        go_wp2_with (first
          | (go_at_call 61; (with_reducible refine HAR.out.mono ?_); rintro e w1 ⟨rfl, hb1⟩; have HB := Lib.hid hb1; clear hb1)
          | (go_at_call 62; (with_reducible refine (HRM.out _ (below_al (below_al HB.out _) _)).mono ?_); rintro e w3 ⟨rfl, rfl⟩)
          | (go_at_call 63; (with_reducible refine (HWR.out _ (below_al (below_al HB.out _) _) HC5.out).mono ?_); rintro e w4 hR; have hR2 := hR; obtain ⟨rfl, _⟩ := hR; have HR4 := Lib.hid (HFN.out _ _ _ (below_al (below_al HB.out _) _) HC5.out hR2); clear hR2))
        go_ret
        exact HR4.out
end
end Go.Proofs.Ytdjcpjfomgfjlaa
