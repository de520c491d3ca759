/- Layer 17: the document's Victim, Without, Break. -/
import Derived.Test.YtiadphgodhfhjabWtP
namespace Go.Proofs.Ytiadphgodhfhjab
open Go.RowKit

/-- The youngest of the first k, or none. -/
structure Best (B : List Int) (l : List Nat) (k v : Nat) : Prop where
  none : k = 0 → v = 0
  some : 0 < k → Yst (birthF B) (l.take k) v ∧ 1 ≤ v ∧ v ≤ 16
theorem Best.zero (B : List Int) (l : List Nat) : Best B l 0 0 := ⟨fun _ => rfl, fun h => absurd h (Nat.lt_irrefl _)⟩
theorem Best.one {B : List Int} {l : List Nat} {k v x : Nat} (h : Best B l k v) (hk : k < l.length) (hx : x = l.getD k 0) (hl : l.Pairwise (· < ·)) (hb : ∀ y ∈ l, 1 ≤ y ∧ y ≤ 16) (hq : v = 0 ∨ birthF B v ≤ birthF B x) : Best B l (k + 1) x := by
  have htk : l.take (k + 1) = l.take k ++ [x] := by rw [List.take_succ_eq_append_getElem hk, hx, List.getD_eq_getElem?_getD, List.getElem?_eq_getElem hk]; rfl
  refine ⟨fun e => absurd e (by omega), fun _ => ⟨?_, hb x (by rw [hx]; exact getD_mem0 hk)⟩⟩
  rw [htk]
  by_cases h0 : k = 0
  · subst h0; exact Yst.one _ _
  · obtain ⟨hy, h1, h2⟩ := h.some (by omega)
    have hr : ∀ s ∈ l.take k, s < x := by
      have hp := hl.sublist (List.take_sublist (k + 1) l)
      rw [htk, List.pairwise_append] at hp
      exact fun s hs => hp.2.2 s hs x (List.mem_singleton.2 rfl)
    have := hy.snoc hr
    rw [if_pos (hq.elim (fun e => absurd e (by omega)) id)] at this
    exact this
theorem Best.keep {B : List Int} {l : List Nat} {k v x : Nat} (h : Best B l k v) (hk : k < l.length) (hx : x = l.getD k 0) (hl : l.Pairwise (· < ·)) (hq : ¬ (v = 0 ∨ birthF B v ≤ birthF B x)) : Best B l (k + 1) v := by
  have htk : l.take (k + 1) = l.take k ++ [x] := by rw [List.take_succ_eq_append_getElem hk, hx, List.getD_eq_getElem?_getD, List.getElem?_eq_getElem hk]; rfl
  have h0 : 0 < k := by
    rcases Nat.eq_zero_or_pos k with e | e
    · exact absurd (h.none e) fun e => hq (.inl e)
    · exact e
  obtain ⟨hy, h1, h2⟩ := h.some h0
  refine ⟨fun e => absurd e (by omega), fun _ => ⟨?_, h1, h2⟩⟩
  rw [htk]
  have hr : ∀ s ∈ l.take k, s < x := by
    have hp := hl.sublist (List.take_sublist (k + 1) l)
    rw [htk, List.pairwise_append] at hp
    exact fun s hs => hp.2.2 s hs x (List.mem_singleton.2 rfl)
  have := hy.snoc hr
  rw [if_neg fun e => hq (.inr e)] at this
  exact this
def VkPost (L : List (Int × Int)) (B : List Int) (w : World) (e : Ending) (w' : World) : Prop := ∃ v : Nat, e = .returned (.int .i64 (v : Int)) ∧ ((caughtL (EdR L) = [] ∧ v = 0) ∨ (Yst (birthF B) (caughtL (EdR L)) v ∧ 1 ≤ v ∧ v ≤ 16)) ∧ Below w.heap.size w w'
set_option maxRecDepth 100000 in
set_option maxHeartbeats 4000000 in
theorem rvictim_any (w : World) {A : Option Addr} {c : Nat} {L : List (Int × Int)} (h : PrL w A c L) (hg : goodE L) {Ab : Option Addr} {cb : Nat} {B : List Int} (hi : IntL w Ab cb B) :
    Calls Try.prog 19 #[.slice A L.length c, .slice Ab B.length cb] w (VkPost L B w) := by
  have HC := Lib.hid (rcaught_any w h hg)
  have HI := Lib.hid hi
  clear h hg hi
  go_enter Try.func19, Try.ntmps19
  go_upto_region 3 with (go_at_call 14; (with_reducible refine HC.out.mono ?_); rintro e w1 ⟨A1, c1, rfl, ho, hb⟩; have H1 := Lib.hid (And.intro ho hb); clear ho hb)
  obtain ⟨l, hl⟩ : ∃ l, l = caughtL (EdR L) := ⟨_, rfl⟩
  rw [← hl] at H1 ⊢
  have hln : l.length ≤ 16 := by rw [hl]; exact caught_len _
  have hlr : l.Pairwise (· < ·) := by rw [hl]; exact caughtL_rise _
  have hlb : ∀ y ∈ l, 1 ≤ y ∧ y ≤ 16 := fun y hy => by rw [hl] at hy; exact (mem_caughtL.1 hy).1
  obtain ⟨A3, c3, e3, hil⟩ := H1.out.1.il
  injection e3 with e3 e4 e5
  subst e3 e5
  clear e4
  have hnI : (l.length : Int) ≤ 16 := by omega
  have HH := Lib.hid (And.intro hl (And.intro hln (And.intro hlr (And.intro hlb hil))))
  clear hl hln hlr hlb hil HC
  go_wp2_with (fail)
  go_loopg [6, 12] 20 (fun gk v6 v12 wr => ∃ k v : Nat, k ≤ l.length ∧ k + gk = 20 ∧ v6 = .int .i64 (v : Int) ∧ v12 = .int .i64 (k : Int) ∧ Hid (Best B l k v ∧ w1 = wr))
  case atStart => exact ⟨0, 0, by omega, by omega, rfl, rfl, Lib.hid ⟨Best.zero _ _, rfl⟩⟩
  case round =>
    obtain ⟨k, v, hk, hkg, rfl, rfl, hrel⟩ := hrel
    obtain rfl : w1 = wr := hrel.out.2
    by_cases hlt : k < l.length
    · have hkI : (k : Int) < (l.length : Int) := by omega
      obtain ⟨x, hx⟩ : ∃ x, x = l.getD k 0 := ⟨_, rfl⟩
      obtain ⟨ab, ao, rfl, -, hc1⟩ := HH.out.2.2.2.2.cell (k := k) (by rw [natZ_len]; exact hlt)
      rw [natZ_at, ← hx] at hc1
      have hxm : x ≤ 16 := by rw [hx]; exact (HH.out.2.2.2.1 _ (getD_mem0 hlt)).2
      have hvm : v ≤ 16 := by
        rcases Nat.eq_zero_or_pos k with e | e
        · rw [hrel.out.1.none e]; omega
        · exact (hrel.out.1.some e).2.2
      have hib := HI.out.below H1.out.2
      have ca := at_any w1 hib x hxm
      have cv := at_any w1 hib v hvm
      have hone := hrel.out.1.one hlt hx HH.out.2.2.1 HH.out.2.2.2.1
      have hkeep := hrel.out.1.keep hlt hx HH.out.2.2.1
      obtain ⟨bx, hbx⟩ : ∃ bx, bx = birthF B x := ⟨_, rfl⟩
      obtain ⟨bv, hbv⟩ : ∃ bv, bv = birthF B v := ⟨_, rfl⟩
      rw [← hbx] at ca hone hkeep
      rw [← hbv] at cv hone hkeep
      have HA := Lib.hid (And.intro ca cv)
      have HO := Lib.hid (And.intro hone (And.intro hkeep (And.intro hlt hkg)))
      clear hx hxm hvm hib ca cv hone hkeep hbx hbv hlt hkg hk
      by_cases hv0 : v = 0
      · subst hv0
        go_wp2_with (fail)
        go_roundg (gk - 1)
        case rel => exact ⟨k + 1, x, HO.out.2.2.1, by have := HO.out.2.2; omega, rfl, by go_num, Lib.hid ⟨HO.out.1 (by simp), rfl⟩⟩
        case measure => have := HO.out.2.2; omega
      · have hvI : ((v : Int) == 0) = false := by rw [beq_eq_false_iff_ne]; omega
        by_cases hle : bv ≤ bx
        · go_wp2_with (first
            | (go_at_call 28; (with_reducible refine HA.out.1.mono ?_); rintro e w2 ⟨rfl, h2⟩; subst h2)
            | (go_at_call 28; (with_reducible refine HA.out.2.mono ?_); rintro e w2 ⟨rfl, h2⟩; subst h2))
          go_roundg (gk - 1)
          case rel => exact ⟨k + 1, x, HO.out.2.2.1, by have := HO.out.2.2; omega, rfl, by go_num, Lib.hid ⟨HO.out.1 (.inr hle), rfl⟩⟩
          case measure => have := HO.out.2.2; omega
        · have hlt2 : bx < bv := by omega
          go_wp2_with (first
            | (go_at_call 28; (with_reducible refine HA.out.1.mono ?_); rintro e w2 ⟨rfl, h2⟩; subst h2)
            | (go_at_call 28; (with_reducible refine HA.out.2.mono ?_); rintro e w2 ⟨rfl, h2⟩; subst h2))
          go_roundg (gk - 1)
          case rel => exact ⟨k + 1, v, HO.out.2.2.1, by have := HO.out.2.2; omega, rfl, by go_num, Lib.hid ⟨HO.out.2.1 (fun h => h.elim hv0 (fun k => by omega)), rfl⟩⟩
          case measure => have := HO.out.2.2; omega
    · have hk2 : k = l.length := by omega
      subst hk2
      have hz : ¬ (l.length : Int) < (l.length : Int) := by omega
      have hfin : (caughtL (EdR L) = [] ∧ v = 0) ∨ (Yst (birthF B) (caughtL (EdR L)) v ∧ 1 ≤ v ∧ v ≤ 16) := by
        rw [← HH.out.1]
        rcases Nat.eq_zero_or_pos l.length with e | e
        · exact .inl ⟨List.eq_nil_of_length_eq_zero e, hrel.out.1.none e⟩
        · have := hrel.out.1.some e
          rw [List.take_length] at this
          exact .inr this
      have HF := Lib.hid hfin
      clear hfin
      go_wp2_with (fail)
      go_ret
      exact ⟨v, rfl, HF.out, H1.out.2⟩
/-- The edges without those of a session. -/
def cutE (L : List (Int × Int)) (s : Int) : List (Int × Int) := L.filter fun e => e.1 != s && e.2 != s
theorem cutE_yes {L : List (Int × Int)} {k : Nat} {s : Int} (hk : k < L.length) (h : L[k].1 ≠ s ∧ L[k].2 ≠ s) : cutE (L.take (k + 1)) s = cutE (L.take k) s ++ [L[k]] := by
  unfold cutE
  rw [List.take_succ_eq_append_getElem hk, List.filter_append]
  congr 1
  simp [h.1, h.2]
theorem cutE_no {L : List (Int × Int)} {k : Nat} {s : Int} (hk : k < L.length) (h : ¬ (L[k].1 ≠ s ∧ L[k].2 ≠ s)) : cutE (L.take (k + 1)) s = cutE (L.take k) s := by
  unfold cutE
  rw [List.take_succ_eq_append_getElem hk, List.filter_append]
  by_cases e : L[k].1 = s
  · simp [e]
  · have e2 : L[k].2 = s := Classical.byContradiction fun e2 => h ⟨e, e2⟩
    simp [e2]
theorem cutE_len (L : List (Int × Int)) (s : Int) : (cutE L s).length ≤ L.length := List.length_filter_le _ _
theorem cutE_good {L : List (Int × Int)} (h : goodE L) (s : Int) : goodE (cutE L s) := ⟨Nat.le_trans (cutE_len L s) h.1, fun e he => h.2 e (List.mem_filter.1 he).1⟩
theorem cutE_off {L : List (Int × Int)} {R : Nat → Nat → Prop} {V : List Nat} {v : Nat} (h : EdR L = Off R V) : EdR (cutE L (v : Int)) = Off R (V ++ [v]) := by
  refine lead_ext fun a b => ?_
  have h1 : EdR (cutE L (v : Int)) a b ↔ EdR L a b ∧ a ≠ v ∧ b ≠ v := by
    unfold EdR cutE
    rw [List.mem_filter]
    simp only [Bool.and_eq_true, bne_iff_ne]
    constructor
    · rintro ⟨h1, h2, h3⟩
      exact ⟨h1, by omega, by omega⟩
    · rintro ⟨h1, h2, h3⟩
      exact ⟨h1, by omega, by omega⟩
  rw [h1, h]
  unfold Off
  simp only [List.mem_append, List.mem_singleton, not_or]
  constructor
  · rintro ⟨⟨h1, h2, h3⟩, h4, h5⟩
    exact ⟨h1, ⟨h2, h4⟩, h3, h5⟩
  · rintro ⟨h1, ⟨h2, h4⟩, h3, h5⟩
    exact ⟨⟨h1, h2, h3⟩, h4, h5⟩
def CuPost (L : List (Int × Int)) (s : Int) (w : World) (e : Ending) (w' : World) : Prop := ∃ (A : Option Addr) (c : Nat), e = .returned (.slice A (cutE L s).length c) ∧ OwnP w' w.heap.size (.slice A (cutE L s).length c) (cutE L s) ∧ Below w.heap.size w w'
theorem app_pr1 (w : World) (base : Nat) (v : Value) (l : List (Int × Int)) (hown : OwnP w base v l) (hB : base ≤ w.heap.size) (x y : Int) (hl : l.length ≤ 5000) :
    ∃ A5 c5 w5, (Builtin.append_ #[22, 22] 22 #[v, .slice (some ⟨w.heap.size, 0, none⟩) 1 1]).run Try.prog (w.alloc (.cells #[.int .i64 x, .int .i64 y] 30)) = .ok (.slice A5 (l.length + 1) c5) w5 ∧ OwnP w5 base (.slice A5 (l.length + 1) c5) (l ++ [(x, y)]) ∧ Below base w w5 := by
  have hb0 : Below w.heap.size w (w.alloc (.cells #[.int .i64 x, .int .i64 y] 30)) := (Below.refl _ _).alloc (Nat.le_refl _) _
  obtain ⟨A5, c5, w5, h1, h2, -, -, h5⟩ := (hown.below hb0).app (A := some ⟨w.heap.size, 0, none⟩) (k := 1) (c := 1) (Nat.le_trans hB hb0.size) (m := [(x, y)]) rfl (rd_prs (l := [(x, y)]) (heap_alloc_new w _)) (by simp; omega)
  exact ⟨A5, c5, w5, h1, h2, (lower' hb0 hB).trans h5⟩
set_option maxRecDepth 100000 in
set_option maxHeartbeats 4000000 in
theorem without_any (w : World) {A : Option Addr} {c : Nat} {L : List (Int × Int)} (h : PrL w A c L) (hg : L.length ≤ 256) (s : Int) :
    Calls Try.prog 29 #[.slice A L.length c, .int .i64 s] w (CuPost L s w) := by
  have hlI : (L.length : Int) ≤ 256 := by omega
  have HL := Lib.hid (And.intro h hg)
  clear h hg
  go_enter Try.func29, Try.ntmps29
  go_wp2_with (fail)
  go_loopg [5, 9] 300 (fun gk v5 v9 wr => ∃ (A5 : Option Addr) (c5 k : Nat), k ≤ L.length ∧ k + gk = 300 ∧ v5 = .slice A5 (cutE (L.take k) s).length c5 ∧ v9 = .int .i64 (k : Int) ∧ Hid (OwnP wr w.heap.size (.slice A5 (cutE (L.take k) s).length c5) (cutE (L.take k) s) ∧ Below w.heap.size w wr))
  case atStart => exact ⟨none, 0, 0, by omega, by omega, rfl, rfl, Lib.hid ⟨OwnP.nil _ _, Below.refl _ _⟩⟩
  case round =>
    obtain ⟨A5, c5, k, hk, hkg, rfl, rfl, hrel⟩ := hrel
    by_cases hlt : k < L.length
    · have hlI2 : (k : Int) < (L.length : Int) := by omega
      obtain ⟨ab, ao, rfl, hab, q0, q1⟩ := (HL.out.1.below hrel.out.2).cell hlt
      have hyes := fun h => cutE_yes (s := s) hlt h
      have hno := fun h => cutE_no (s := s) hlt h
      have hcl := cutE_len (L.take k) s
      have hcl2 := List.length_take_le k L
      obtain ⟨⟨e0, e1⟩, he⟩ : ∃ e, e = L[k] := ⟨_, rfl⟩
      rw [← he] at q0 q1 hyes hno
      dsimp only at q0 q1 hyes hno
      obtain ⟨Q, hQ⟩ : ∃ Q, Q = cutE (L.take k) s := ⟨_, rfl⟩
      rw [← hQ] at hrel hyes hno hcl ⊢
      have HK := Lib.hid (And.intro hlt (And.intro hkg (And.intro hyes (And.intro hno (show Q.length ≤ 256 by have := HL.out.2; omega)))))
      clear hyes hno hcl hcl2 he hQ hlt hkg hk hab
      by_cases h0 : e0 = s
      · have hb0 : (e0 != s) = false := by simp [h0]
        have HN := Lib.hid (HK.out.2.2.2.1 fun h => h.1 h0)
        clear h0
        go_wp2_with (fail)
        go_roundg (gk - 1)
        case rel => exact ⟨A5, c5, k + 1, HK.out.1, by have := HK.out.2.1; omega, by rw [HN.out], by go_num, by rw [HN.out]; exact hrel⟩
        case measure => have := HK.out; omega
      · have hb0 : (e0 != s) = true := by simp [h0]
        by_cases h1 : e1 = s
        · have hb1 : (e1 != s) = false := by simp [h1]
          have HN := Lib.hid (HK.out.2.2.2.1 fun h => h.2 h1)
          clear h0 h1
          go_wp2_with (fail)
          go_roundg (gk - 1)
          case rel => exact ⟨A5, c5, k + 1, HK.out.1, by have := HK.out.2.1; omega, by rw [HN.out], by go_num, by rw [HN.out]; exact hrel⟩
          case measure => have := HK.out; omega
        · have hb1 : (e1 != s) = true := by simp [h1]
          have HN := Lib.hid (HK.out.2.2.1 ⟨h0, h1⟩)
          obtain ⟨A6, c6, w6, hrun, hown, hb6⟩ := app_pr1 wr w.heap.size (.slice A5 Q.length c5) Q hrel.out.1 hrel.out.2.size e0 e1 (by have := HK.out.2.2.2.2; omega)
          have HX := Lib.hid (And.intro hown (hrel.out.2.trans hb6))
          clear h0 h1 hown hb6
          go_wp2_with (at_builtin; refine wpL_appK _ rfl (.tmp 28) (.tmp 33) 22 rfl rfl _ _ _ _ rfl rfl hrun ?_)
          go_roundg (gk - 1)
          case rel => exact ⟨A6, c6, k + 1, HK.out.1, by have := HK.out.2.1; omega, by rw [HN.out, List.length_append]; rfl, by go_num, by rw [HN.out, List.length_append]; exact HX⟩
          case measure => have := HK.out; omega
    · have hk2 : k = L.length := by omega
      subst hk2
      have hz : ¬ (L.length : Int) < (L.length : Int) := by omega
      rw [List.take_length] at hrel ⊢
      go_wp2_with (fail)
      go_ret
      exact ⟨A5, c5, rfl, hrel.out⟩
def RbPost (L : List (Int × Int)) (B : List Int) (w : World) (e : Ending) (w' : World) : Prop := ∃ (A : Option Addr) (c : Nat) (V : List Nat), e = .returned (.slice A V.length c) ∧ OwnZ w' w.heap.size (.slice A V.length c) (natZ V) ∧ AllVics (EdR L) (birthF B) V ∧ Below w.heap.size w w'
set_option maxRecDepth 100000 in
set_option maxHeartbeats 4000000 in
theorem rbreak_any (w : World) {A : Option Addr} {c : Nat} {L : List (Int × Int)} (h : PrL w A c L) (hg : goodE L) {Ab : Option Addr} {cb : Nat} {B : List Int} (hi : IntL w Ab cb B) :
    Calls Try.prog 20 #[.slice A L.length c, .slice Ab B.length cb] w (RbPost L B w) := by
  have HI := Lib.hid (And.intro h (And.intro hg hi))
  clear h hg hi
  go_enter Try.func20, Try.ntmps20
  go_wp2_with (fail)
  go_loopg [0, 5] 17 (fun gk v0 v5 wr => ∃ (A0 : Option Addr) (c0 : Nat) (E : List (Int × Int)) (A5 : Option Addr) (c5 : Nat) (V : List Nat), V.length + gk = 17 ∧ V.length ≤ 16 ∧ v0 = .slice A0 E.length c0 ∧ v5 = .slice A5 V.length c5 ∧ Hid (PrL wr A0 c0 E ∧ goodE E ∧ EdR E = Off (EdR L) V ∧ OwnZ wr w.heap.size (.slice A5 V.length c5) (natZ V) ∧ Vics (EdR L) (birthF B) V ∧ Below w.heap.size w wr ∧ PlE w.heap.size wr A0 E))
  case atStart => exact ⟨A, c, L, none, 0, [], rfl, by simp, rfl, rfl, Lib.hid ⟨HI.out.1, HI.out.2.1, (off_nil _).symm, OwnZ.nil _ _, Vics.nil _ _, Below.refl _ _, HI.out.1.pl⟩⟩
  case round =>
    obtain ⟨A0, c0, E, A5, c5, V, hgk, hV, rfl, rfl, hrel⟩ := hrel
    have hv := rvictim_any wr hrel.out.1 hrel.out.2.1 (HI.out.2.2.below hrel.out.2.2.2.2.2.1)
    have HV := Lib.hid hv
    have HK := Lib.hid (And.intro hgk hV)
    clear hv hgk hV
    by_cases hn : caughtL (EdR E) = []
    · have HN := Lib.hid hn
      clear hn
      go_wp2_with (go_at_call 19; (with_reducible refine HV.out.mono ?_); rintro e w2 ⟨v, rfl, hv, hb2⟩; obtain rfl : v = 0 := hv.elim (fun h => h.2) (fun h => absurd h.1.mem (by rw [HN.out]; exact fun k => nomatch k)); have HX := Lib.hid hb2; clear hb2 hv)
      go_ret
      exact ⟨A5, c5, V, rfl, hrel.out.2.2.2.1.below HX.out, ⟨hrel.out.2.2.2.2.1, by have := HN.out; rw [hrel.out.2.2.1] at this; exact this⟩, hrel.out.2.2.2.2.2.1.trans (lower' HX.out hrel.out.2.2.2.2.2.1.size)⟩
    · have HN := Lib.hid hn
      clear hn
      go_upto_region 3 with (go_at_call 19; (with_reducible refine HV.out.mono ?_); rintro e w2 ⟨v, rfl, hv, hb2⟩; have HX := Lib.hid (And.intro (hv.elim (fun h => absurd h.1 HN.out) id) hb2); clear hb2 hv)
      have hv0 : ((v : Int) == 0) = false := by rw [beq_eq_false_iff_ne]; have := HX.out.1.2; omega
      have hbw := hrel.out.2.2.2.2.2.1.trans (lower' HX.out.2 hrel.out.2.2.2.2.2.1.size)
      have hvs : Vics (EdR L) (birthF B) (V ++ [v]) := hrel.out.2.2.2.2.1.snoc (by rw [← hrel.out.2.2.1]; exact HX.out.1.1)
      obtain ⟨A6, c6, w6, hrun, hown, hfr, -, hb6⟩ := app_intZ w2 w.heap.size (.slice A5 V.length c5) (natZ V) (hrel.out.2.2.2.1.below HX.out.2) hbw.size (v : Int) (by rw [natZ_len]; have := HK.out.2; omega)
      rw [natZ_len] at hrun hown
      have hb26 : Below w.heap.size w w6 := hbw.trans hb6
      have hpe : PrL w6 A0 c0 E := (hrel.out.1.below HX.out.2).fr hfr fun b o hA hne hm => by
        obtain ⟨b', o', e, hpl⟩ := hrel.out.2.2.2.2.2.2 hne
        rw [hA] at e
        injection e with e
        injection e with e1 e2
        subst e1
        rcases hpl with hpl | ⟨cs, hpl⟩
        · have := World.ownsRow.lt hrel.out.2.2.2.1 b (by simpa using hm)
          omega
        · exact hrel.out.2.2.2.1.apart hpl (by decide) hm
      have hwo := without_any w6 hpe hrel.out.2.1.1 (v : Int)
      have HY := Lib.hid (And.intro hown (And.intro hb26 (And.intro hvs (And.intro hvs.len (cutE_good hrel.out.2.1 (v : Int))))))
      have HW := Lib.hid hwo
      have HO := Lib.hid (cutE_off (v := v) hrel.out.2.2.1)
      clear hbw hvs hown hfr hb6 hb26 hpe hwo
      go_wp2_with (first
        | (at_builtin; refine wpL_appK _ rfl (.tmp 13) (.tmp 15) 25 rfl rfl _ _ _ _ rfl rfl hrun ?_)
        | (go_at_call 29; (with_reducible refine HW.out.mono ?_); rintro e w7 ⟨A7, c7, rfl, ho7, hb7⟩; have H7 := Lib.hid (And.intro ho7 hb7); clear ho7 hb7))
      obtain ⟨A8, c8, e8, hp8⟩ := H7.out.1.prl
      injection e8 with e8 e9 e10
      subst e8 e10
      go_roundg (gk - 1)
      case rel => exact ⟨A7, c7, cutE E v, A6, c6, V ++ [v], by rw [List.length_append]; have := HK.out; simp; omega, HY.out.2.2.2.1, rfl, by rw [List.length_append]; rfl, Lib.hid ⟨hp8, HY.out.2.2.2.2, HO.out, by rw [List.length_append, natZ_app]; exact HY.out.1.below H7.out.2, HY.out.2.2.1, HY.out.2.1.trans (lower' H7.out.2 HY.out.2.1.size), H7.out.1.pl⟩⟩
      case measure => have := HK.out; omega
end Go.Proofs.Ytiadphgodhfhjab
