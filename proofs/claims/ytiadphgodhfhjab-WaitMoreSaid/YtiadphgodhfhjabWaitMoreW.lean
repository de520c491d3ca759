/- The walk of WaitMore. -/
import Derived.Test.YtiadphgodhfhjabWtR
import Derived.Deep.Cut
namespace Go.Proofs.Ytiadphgodhfhjab
open Go.RowKit

/-- Two more of one pair. -/
theorem app_twice (w : World) (base : Nat) (v : Value) (l : List (Int × Int)) (hown : OwnP w base v l) (hB : base ≤ w.heap.size) (x y : Int) (hl : l.length ≤ 5000) :
    ∃ A5 c5 w5, (Builtin.append_ #[22, 22] 22 #[v, .slice (some ⟨w.heap.size, 0, none⟩) 2 2]).run Try.prog (w.alloc (.cells #[.int .i64 x, .int .i64 y, .int .i64 x, .int .i64 y] 30)).drew = .ok (.slice A5 (l.length + 2) c5) w5 ∧ OwnP w5 base (.slice A5 (l.length + 2) c5) (l ++ [(x, y), (x, y)]) ∧ Below base w w5 ∧ Fr w w5 v.ownBlock.toList := by
  have hb0 : Below w.heap.size w (w.alloc (.cells #[.int .i64 x, .int .i64 y, .int .i64 x, .int .i64 y] 30)).drew := ((Below.refl _ _).alloc (Nat.le_refl _) _).drew
  obtain ⟨A5, c5, w5, h1, h2, h3, -, h5⟩ := (hown.below hb0).app (A := some ⟨w.heap.size, 0, none⟩) (k := 2) (c := 2) (Nat.le_trans hB hb0.size) (m := [(x, y), (x, y)]) rfl (rd_prs (l := [(x, y), (x, y)]) (show (w.alloc (.cells #[.int .i64 x, .int .i64 y, .int .i64 x, .int .i64 y] 30)).drew.heap[w.heap.size]? = _ from heap_alloc_new w _)) (by simp; omega)
  exact ⟨A5, c5, w5, h1, h2, (lower' hb0 hB).trans h5, (Fr.of_below hb0 _).trans h3⟩
/-- What Caught tells: the code, and those that are caught. -/
structure CqOf (L : List (Int × Int)) (r : Int) (q : List Nat) : Prop where
  yes : goodE L → r = 0 ∧ q = caughtL (EdR L)
  no : ¬ goodE L → r = 1 ∧ q = []
theorem CqOf.ex (L : List (Int × Int)) : ∃ r q, CqOf L r q := by
  by_cases h : goodE L
  · exact ⟨0, caughtL (EdR L), fun _ => ⟨rfl, rfl⟩, fun k => absurd h k⟩
  · exact ⟨1, [], fun k => absurd k h, fun _ => ⟨rfl, rfl⟩⟩
theorem CqOf.len {L : List (Int × Int)} {r : Int} {q : List Nat} (h : CqOf L r q) : q.length ≤ 16 := by
  by_cases e : goodE L
  · rw [(h.yes e).2]; exact caught_len _
  · rw [(h.no e).2]; simp
theorem CqOf.same {L T : List (Int × Int)} {r : Int} {q : List Nat} (h : CqOf L r q) (hm : ∀ e, e ∈ T ↔ e ∈ L) (hl : L.length ≤ 256) (ht : T.length ≤ 256) : CqOf T r q := by
  have hg : goodE T ↔ goodE L := ⟨fun k => ⟨hl, fun e he => k.2 e ((hm e).2 he)⟩, fun k => ⟨ht, fun e he => k.2 e ((hm e).1 he)⟩⟩
  have hE : EdR T = EdR L := lead_ext fun a b => hm _
  exact ⟨fun k => by rw [hE]; exact h.yes (hg.1 k), fun k => h.no fun j => k (hg.2 j)⟩
def CqPost (r : Int) (q : List Nat) (w : World) (e : Ending) (w' : World) : Prop := ∃ (A : Option Addr) (c : Nat), e = .returned (.tuple #[.slice A q.length c, .int .i64 r]) ∧ IntL w' A c (natZ q) ∧ Below w.heap.size w w'
theorem Caught_one (w : World) {A : Option Addr} {c : Nat} {L : List (Int × Int)} (h : PrL w A c L) (hc : L.length ≤ 1000000) {r : Int} {q : List Nat} (hq : CqOf L r q) : Calls Try.prog 11 #[.slice A L.length c] w (CqPost r q w) := by
  by_cases hg : goodE L
  · obtain ⟨rfl, rfl⟩ := hq.yes hg
    refine (Caught_yes w h hg).mono ?_
    rintro e w' ⟨A, c, rfl, ho, hb⟩
    obtain ⟨A2, c2, e2, hi⟩ := ho.il
    injection e2 with e2 _ e4
    subst e2 e4
    exact ⟨A, c, rfl, hi, hb⟩
  · obtain ⟨rfl, rfl⟩ := hq.no hg
    refine (Caught_no w h hc hg).mono ?_
    rintro e w' ⟨rfl, hb⟩
    exact ⟨none, 0, rfl, ⟨Rd.emp _ _ _, Nat.le_refl _⟩, hb⟩
/-- The edges from behind, each twice. -/
def twiceL : List (Int × Int) → List (Int × Int)
  | [] => []
  | e :: r => twiceL r ++ [e, e]
theorem twice_mem : ∀ (L : List (Int × Int)) (e), e ∈ twiceL L ↔ e ∈ L
  | [], e => Iff.rfl
  | a :: L, e => by
    rw [twiceL, List.mem_append, twice_mem L e, List.mem_cons]
    simp only [List.mem_cons, List.not_mem_nil, or_false]
    exact ⟨fun h => h.elim .inr (fun k => .inl (k.elim id id)), fun h => h.elim (fun k => .inr (.inl k)) .inl⟩
theorem twice_len : ∀ L : List (Int × Int), (twiceL L).length = 2 * L.length
  | [] => rfl
  | a :: L => by simp only [twiceL, List.length_append, twice_len L, List.length_cons, List.length_nil]; omega
theorem twice_drop {L : List (Int × Int)} {k : Nat} (h : k < L.length) : twiceL (L.drop k) = twiceL (L.drop (k + 1)) ++ [L[k], L[k]] := by
  rw [List.drop_eq_getElem_cons h, twiceL]
set_option maxRecDepth 100000 in
set_option maxHeartbeats 8000000 in
theorem waitMore_walk (A : Option Addr) (L : List (Int × Int)) (c : Nat) (Am : Option Addr) (M : List (Int × Int)) (cm : Nat) (W : World) (h : PrL W A c L) (hb : L.length ≤ 8796093022208) (hm : PrL W Am cm M) (hbm : M.length ≤ 8796093022208) :
    Calls Try.prog 8 #[.slice A L.length c, .slice Am M.length cm] W fun e W' => e = .returned (.bool true) ∧ Below W.heap.size W W' := by
  have HA := Lib.hid (fun w => awake_any w)
  by_cases hl : L.length + M.length ≤ 120
  · have hlI : (L.length : Int) + (M.length : Int) ≤ 120 := by omega
    have hlI1 : (L.length : Int) ≤ 120 := by omega
    have hlI2 : (M.length : Int) ≤ 120 := by omega
    have HL := Lib.hid (And.intro h (And.intro hl hm))
    have HO := Lib.hid (fun (w : World) (hw : Below W.heap.size W w) => own_any w (h.below hw) (by omega))
    obtain ⟨r, q, hq⟩ := CqOf.ex L
    obtain ⟨r', q', hq'⟩ := CqOf.ex (L ++ M)
    have hql := hq.len
    have hql' := hq'.len
    have hqI : (q.length : Int) ≤ 16 := by omega
    have hqI' : (q'.length : Int) ≤ 16 := by omega
    have HQ := Lib.hid (And.intro hq (And.intro hq' (And.intro hql hql')))
    clear h hl hb hm hbm hq hq' hql hql'
    go_enter Try.func8, Try.ntmps8
    go_upto_region 6 with (first
      | (go_at_call 9; (with_reducible refine (HA.out _).mono ?_); rintro e w1 ⟨rfl, hb1⟩; have H1 := Lib.hid hb1; clear hb1)
      | (go_at_call 10; (with_reducible refine (HO.out _ H1.out).mono ?_); rintro e w2 ⟨A2, c2, rfl, ho2, hb2⟩; have H2 := Lib.hid (And.intro ho2 (H1.out.trans (lower' hb2 H1.out.size))); clear ho2 hb2; obtain ⟨A2', c2', e2, hp2⟩ := H2.out.1.prl; injection e2 with e2 e3 e4; subst e2 e4; clear e3; have HC := Lib.hid (Caught_one w2 hp2 (by have := HL.out.2.1; omega) HQ.out.1); clear hp2)
      | (go_at_call 11; (with_reducible refine HC.out.mono ?_); rintro e w3 ⟨A3, c3, rfl, hi3, hb3⟩; have H3 := Lib.hid (And.intro hi3 (H2.out.2.trans (lower' hb3 H2.out.2.size))); clear hi3 hb3))
    go_loopg [7, 8] 200 (fun gk v7 v8 wr => ∃ (A7 : Option Addr) (c7 k : Nat), k ≤ L.length ∧ k ≤ gk ∧ v7 = .slice A7 (twiceL (L.drop k)).length c7 ∧ v8 = .int .i64 ((k : Int) - 1) ∧ Hid (OwnP wr w3.heap.size (.slice A7 (twiceL (L.drop k)).length c7) (twiceL (L.drop k)) ∧ Below w3.heap.size w3 wr))
    case atStart => exact ⟨none, 0, L.length, by omega, by omega, by rw [List.drop_length]; rfl, rfl, Lib.hid ⟨by rw [List.drop_length]; exact OwnP.nil _ _, Below.refl _ _⟩⟩
    case round =>
      obtain ⟨A7, c7, k, hk, hkg, rfl, rfl, hrel⟩ := hrel
      have hbW := H3.out.2.trans (lower' hrel.out.2 H3.out.2.size)
      have HBW := Lib.hid hbW
      clear hbW
      by_cases hk0 : 0 < k
      · obtain ⟨j, rfl⟩ : ∃ j, k = j + 1 := ⟨k - 1, by omega⟩
        have hjl : j < L.length := by omega
        have hjI : (j : Int) < (L.length : Int) := by omega
        obtain ⟨ab, ao, rfl, -, q0, q1⟩ := (HL.out.1.below HBW.out).cell hjl
        have htd := twice_drop hjl
        obtain ⟨⟨e0, e1⟩, he⟩ : ∃ e, e = L[j] := ⟨_, rfl⟩
        rw [← he] at q0 q1 htd
        dsimp only at q0 q1
        obtain ⟨P, hP⟩ : ∃ P, P = twiceL (L.drop (j + 1)) := ⟨_, rfl⟩
        have hPl : P.length ≤ 240 := by rw [hP, twice_len, List.length_drop]; omega
        rw [← hP] at hrel htd ⊢
        obtain ⟨A8, c8, w8, hrun, hown, hb8, hfr⟩ := app_twice wr w3.heap.size (.slice A7 P.length c7) P hrel.out.1 hrel.out.2.size e0 e1 (by omega)
        have hap : ∀ o, w8.cell? ⟨ab, o, none⟩ = wr.cell? ⟨ab, o, none⟩ := fun o => by
          obtain ⟨b', o', eA, hb', -⟩ := HL.out.1.cell hjl
          injection eA with eA
          injection eA with eA1 eA2
          subst eA1 eA2
          refine World.cell?_of_block (hfr.block ab (Nat.lt_of_lt_of_le hb' HBW.out.size) fun hm => ?_)
          have := World.ownsRow.lt hrel.out.1 ab (by simpa using hm)
          have := H3.out.2.size
          omega
        have y0 := (hap _).trans q0
        have y1 := (hap _).trans q1
        have HX := Lib.hid (And.intro hown (And.intro (hrel.out.2.trans hb8) (And.intro htd (And.intro hkg hjl))))
        have hji : (j : Int) + 1 - 1 = (j : Int) := by omega
        clear hown hb8 hfr hap htd he hP hPl hkg hk hk0 hjl
        go_upto_region 8 with (fail)
        go_region_held3 (fun w' => w'.cell? ⟨ab, ao + j * 2, none⟩ = some (.int .i64 e0) ∧ w'.cell? ⟨ab, ao + j * 2 + 1, none⟩ = some (.int .i64 e1))
          (first | go_keep | (with_reducible exact ⟨y0, y1⟩))
          ((refine step_appK _ (by rfl) (.tmp 42) (.tmp 51) 22 rfl rfl _ _ _ _ rfl rfl hrun ?_))
        go_wp2_with (fail)
        go_roundg (gk - 1)
        case rel => exact ⟨A8, c8, j, by have := HX.out.2.2.2.2; omega, by have := HX.out.2.2.2.1; omega, by rw [HX.out.2.2.1, List.length_append]; rfl, rfl, by rw [HX.out.2.2.1, List.length_append]; exact Lib.hid ⟨HX.out.1, HX.out.2.1⟩⟩
        case measure => have := HX.out.2.2.2.1; omega
      · obtain rfl : k = 0 := by omega
        rw [List.drop_zero] at hrel ⊢
        obtain ⟨A9, c9, e9, hp9⟩ := hrel.out.1.prl
        injection e9 with e9 e10 e11
        subst e9 e11
        clear e10
        have htl := twice_len L
        have HR3 := Lib.hid hrel.out.2
        have hcT := HQ.out.1.same (twice_mem L) (by have := HL.out.2.1; omega) (by have := HL.out.2.1; omega)
        have HCT := Lib.hid (Caught_one wr hp9 (by have := HL.out.2.1; omega) hcT)
        clear hp9 htl hcT hrel hkg hk hk0
        obtain ⟨Tn, hTn⟩ : ∃ Tn, Tn = (twiceL L).length := ⟨_, rfl⟩
        rw [← hTn] at HCT ⊢
        clear hTn
        go_upto_region 11 with (first
          | (go_at_call 11; (with_reducible refine HCT.out.mono ?_); rintro e w10 ⟨A10, c10, rfl, hi10, hb10⟩; have H10 := Lib.hid (And.intro hi10 (And.intro hb10 (HBW.out.trans (lower' hb10 HBW.out.size)))); clear hi10 hb10)
          | (go_at_call 10; (with_reducible refine (HO.out _ H10.out.2.2).mono ?_); rintro e w11 ⟨A11, c11, rfl, ho11, hb11⟩; have h11 := H10.out.2.2.trans (lower' hb11 H10.out.2.2.size); obtain ⟨A12, c12, w12, hrun12, hown12, -, -, hb12⟩ := ho11.app (A := Am) (c := cm) (k := M.length) hb11.size rfl (HL.out.2.2.below h11).rd (by have := HL.out.2.1; omega); have H12 := Lib.hid (And.intro hown12 (And.intro hb11 (And.intro hb12 (H10.out.2.2.trans (lower' (hb11.trans (lower' hb12 (Nat.le_refl _))) H10.out.2.2.size))))); obtain ⟨A13, c13, e13, hp13⟩ := hown12.prl; injection e13 with e13 e14 e15; subst e13 e15; clear e14; have hc3 := Caught_one w12 hp13 (by rw [List.length_append]; have := HL.out.2.1; omega) HQ.out.2.1; rw [List.length_append] at hc3; have HC3 := Lib.hid hc3; clear ho11 hb11 h11 hown12 hb12 hp13 hc3)
          | (go_at_call 11; (with_reducible refine HC3.out.mono ?_); rintro e w14 ⟨A14, c14, rfl, hi14, hb14⟩; have H14 := Lib.hid (And.intro hi14 (And.intro ((H12.out.2.1.trans H12.out.2.2.1).trans (lower' hb14 (Nat.le_trans H12.out.2.1.size H12.out.2.2.1.size))) (H12.out.2.2.2.trans (lower' hb14 H12.out.2.2.2.size)))); clear hi14 hb14)
          | (at_builtin; refine wpL_appK _ rfl (.tmp 60) (.tmp 61) 22 rfl rfl _ _ _ _ rfl rfl hrun12 ?_))
        have h310 := HR3.out.trans (lower' H10.out.2.1 HR3.out.size)
        have hI3 : IntL w14 A3 c3 (natZ q) := H3.out.1.below (h310.trans (lower' H14.out.2.1 h310.size))
        have hI10 : IntL w14 A10 c10 (natZ q) := H10.out.1.below H14.out.2.1
        have hII := intsZ_any w14 hI3 hI10 (by rw [natZ_len]; have := HQ.out.2.2.1; omega)
        rw [natZ_len] at hII
        have HII := Lib.hid (And.intro hII (And.intro hI3 (And.intro H14.out.1 H14.out.2.2)))
        clear h310 hI3 hI10 hII
        by_cases hgL : goodE L
        · obtain ⟨hr0, hqe⟩ := HQ.out.1.yes hgL
          subst hr0
          have hrr : (r' = 0 ∧ q' = caughtL (EdR (L ++ M))) ∨ (r' = 1 ∧ q' = []) := by
            by_cases hgM : goodE (L ++ M)
            · exact .inl (HQ.out.2.1.yes hgM)
            · exact .inr (HQ.out.2.1.no hgM)
          have HR := Lib.hid (And.intro hqe hrr)
          clear hgL hqe hrr
          obtain ⟨g, hg⟩ : ∃ g : Bool, (r' != 0) = g := ⟨_, rfl⟩
          have hg1 : g = true → (r' != 1) = false := fun e => by
            rw [e] at hg
            rcases HR.out.2 with ⟨h, _⟩ | ⟨h, _⟩
            · rw [h] at hg; cases hg
            · rw [h]; rfl
          have hsub : g = false → ∀ s ∈ q, s ∈ q' := fun e s hs => by
            rw [e] at hg
            rcases HR.out.2 with ⟨h, h2⟩ | ⟨h, _⟩
            · rw [h2]
              rw [HR.out.1] at hs
              have hm := mem_caughtL.1 hs
              exact mem_caughtL.2 ⟨hm.1, Ld.mono (fun a b k => List.mem_append.2 (.inl k)) hm.2⟩
            · rw [h] at hg; cases hg
          have HS := Lib.hid hsub
          clear hsub
          cases g
          · clear hg1
            go_upto_region 15 with (go_at_call 13; (with_reducible refine HII.out.1.mono ?_); rintro e w15 ⟨hrt, hb15⟩; rw [decide_eq_true rfl] at hrt; subst hrt; have H15 := Lib.hid hb15; clear hb15)
            have HQ3 := Lib.hid (And.intro (HII.out.2.1.below H15.out) (And.intro (H14.out.1.below H15.out) (HII.out.2.2.2.trans (lower' H15.out HII.out.2.2.2.size))))
            go_wp2_with (fail)
            go_loopg [92] 20 (fun gk v92 wr => ∃ k : Nat, k ≤ q.length ∧ k + gk = 20 ∧ v92 = .int .i64 (k : Int) ∧ Hid (w15 = wr))
            case atStart => exact ⟨0, by omega, by omega, rfl, Lib.hid rfl⟩
            case round =>
              obtain ⟨k, hk, hkg, rfl, hrel⟩ := hrel
              rename World => wx
              obtain rfl : w15 = wx := hrel.out
              by_cases hlt : k < q.length
              · have hkI : (k : Int) < (q.length : Int) := by omega
                obtain ⟨sb, so, rfl, -, s0⟩ := HQ3.out.1.cell (k := k) (by rw [natZ_len]; exact hlt)
                rw [natZ_at] at s0
                obtain ⟨s, hs⟩ : ∃ s, s = q.getD k 0 := ⟨_, rfl⟩
                rw [← hs] at s0
                have hsm : s ∈ q := by rw [hs]; exact getD_mem0 hlt
                have HK := Lib.hid (And.intro hlt (And.intro hkg hsm))
                clear hlt hkg hk hs hsm
                go_wp2_with (fail)
                go_loopg [15, 100] 20 (fun g2 v15 v100 wz => ∃ (j : Nat) (t : Bool), j ≤ q'.length ∧ j + g2 = 20 ∧ v15 = .bool t ∧ v100 = .int .i64 (j : Int) ∧ Hid (w15 = wz ∧ (t = false → false = false ∧ s ∉ q'.take j)))
                case atStart => exact ⟨0, false, by omega, by omega, rfl, rfl, Lib.hid ⟨rfl, fun e => ⟨e, by simp⟩⟩⟩
                case round =>
                  rename Nat => g2
                  rename World => wz
                  obtain ⟨j, t, hj, hjg, rfl, rfl, hrel2⟩ := hrel
                  obtain rfl : w15 = wz := hrel2.out.1
                  by_cases hjl : j < q'.length
                  · have hjI : (j : Int) < (q'.length : Int) := by omega
                    obtain ⟨xb, xo, rfl, -, x0⟩ := HQ3.out.2.1.cell (k := j) (by rw [natZ_len]; exact hjl)
                    rw [natZ_at] at x0
                    obtain ⟨x, hx⟩ : ∃ x, x = q'.getD j 0 := ⟨_, rfl⟩
                    rw [← hx] at x0
                    have htk : q'.take (j + 1) = q'.take j ++ [x] := by rw [List.take_succ_eq_append_getElem hjl, hx, List.getD_eq_getElem?_getD, List.getElem?_eq_getElem hjl]; rfl
                    have HJ := Lib.hid (And.intro hjl (And.intro hjg htk))
                    clear hjl hjg hj hx htk
                    cases t
                    · by_cases e : x = s
                      · subst e
                        go_wp2_with (fail)
                        go_roundg (g2 - 1)
                        case rel => exact ⟨j + 1, true, HJ.out.1, by have := HJ.out.2.1; omega, rfl, by go_num, Lib.hid ⟨rfl, fun e => by cases e⟩⟩
                        case measure => have := HJ.out; have := HQ.out.2.2.2; omega
                      · have hx2 : ((x : Int) == (s : Int)) = false := by rw [beq_eq_false_iff_ne]; omega
                        have HE := Lib.hid e
                        clear e
                        go_wp2_with (fail)
                        go_roundg (g2 - 1)
                        case rel => exact ⟨j + 1, false, HJ.out.1, by have := HJ.out.2.1; omega, rfl, by go_num, Lib.hid ⟨rfl, fun _ => ⟨(hrel2.out.2 (by simp)).1, by
                          rw [HJ.out.2.2, List.mem_append, List.mem_singleton]
                          exact fun h => h.elim (hrel2.out.2 (by simp)).2 fun h => HE.out h.symm⟩⟩⟩
                        case measure => have := HJ.out; have := HQ.out.2.2.2; omega
                    · go_wp2_with (fail)
                      go_roundg (g2 - 1)
                      case rel => exact ⟨j + 1, true, HJ.out.1, by have := HJ.out.2.1; omega, rfl, by go_num, Lib.hid ⟨rfl, fun e => by cases e⟩⟩
                      case measure => have := HJ.out; have := HQ.out.2.2.2; omega
                  · obtain rfl : j = q'.length := by omega
                    have hz : ¬ (q'.length : Int) < (q'.length : Int) := by omega
                    obtain rfl : t = true := by
                      cases t
                      · have h1 := hrel2.out.2 rfl
                        rw [List.take_length] at h1
                        exact absurd (HS.out (by first | exact h1.1 | simp) s HK.out.2.2) h1.2
                      · rfl
                    clear hrel2
                    go_wp2_with (fail)
                    go_roundg (gk - 1)
                    case rel => exact ⟨k + 1, HK.out.1, by have := HK.out.2.1; omega, by go_num, Lib.hid rfl⟩
                    case measure => have := HK.out; have := HQ.out.2.2.1; omega
              · obtain rfl : k = q.length := by omega
                have hz : ¬ (q.length : Int) < (q.length : Int) := by omega
                go_wp2_with (fail)
                go_ret
                exact ⟨rfl, HQ3.out.2.2⟩
          · have hg2 := hg1 rfl
            clear hg1
            go_upto_region 15 with (go_at_call 13; (with_reducible refine HII.out.1.mono ?_); rintro e w15 ⟨hrt, hb15⟩; rw [decide_eq_true rfl] at hrt; subst hrt; have H15 := Lib.hid hb15; clear hb15)
            have HQ3 := Lib.hid (And.intro (HII.out.2.1.below H15.out) (And.intro (H14.out.1.below H15.out) (HII.out.2.2.2.trans (lower' H15.out HII.out.2.2.2.size))))
            go_wp2_with (fail)
            go_loopg [92] 20 (fun gk v92 wr => ∃ k : Nat, k ≤ q.length ∧ k + gk = 20 ∧ v92 = .int .i64 (k : Int) ∧ Hid (w15 = wr))
            case atStart => exact ⟨0, by omega, by omega, rfl, Lib.hid rfl⟩
            case round =>
              obtain ⟨k, hk, hkg, rfl, hrel⟩ := hrel
              rename World => wx
              obtain rfl : w15 = wx := hrel.out
              by_cases hlt : k < q.length
              · have hkI : (k : Int) < (q.length : Int) := by omega
                obtain ⟨sb, so, rfl, -, s0⟩ := HQ3.out.1.cell (k := k) (by rw [natZ_len]; exact hlt)
                rw [natZ_at] at s0
                obtain ⟨s, hs⟩ : ∃ s, s = q.getD k 0 := ⟨_, rfl⟩
                rw [← hs] at s0
                have hsm : s ∈ q := by rw [hs]; exact getD_mem0 hlt
                have HK := Lib.hid (And.intro hlt (And.intro hkg hsm))
                clear hlt hkg hk hs hsm
                go_wp2_with (fail)
                go_loopg [15, 100] 20 (fun g2 v15 v100 wz => ∃ (j : Nat) (t : Bool), j ≤ q'.length ∧ j + g2 = 20 ∧ v15 = .bool t ∧ v100 = .int .i64 (j : Int) ∧ Hid (w15 = wz ∧ (t = false → true = false ∧ s ∉ q'.take j)))
                case atStart => exact ⟨0, true, by omega, by omega, rfl, rfl, Lib.hid ⟨rfl, fun e => ⟨e, by simp⟩⟩⟩
                case round =>
                  rename Nat => g2
                  rename World => wz
                  obtain ⟨j, t, hj, hjg, rfl, rfl, hrel2⟩ := hrel
                  obtain rfl : w15 = wz := hrel2.out.1
                  by_cases hjl : j < q'.length
                  · have hjI : (j : Int) < (q'.length : Int) := by omega
                    obtain ⟨xb, xo, rfl, -, x0⟩ := HQ3.out.2.1.cell (k := j) (by rw [natZ_len]; exact hjl)
                    rw [natZ_at] at x0
                    obtain ⟨x, hx⟩ : ∃ x, x = q'.getD j 0 := ⟨_, rfl⟩
                    rw [← hx] at x0
                    have htk : q'.take (j + 1) = q'.take j ++ [x] := by rw [List.take_succ_eq_append_getElem hjl, hx, List.getD_eq_getElem?_getD, List.getElem?_eq_getElem hjl]; rfl
                    have HJ := Lib.hid (And.intro hjl (And.intro hjg htk))
                    clear hjl hjg hj hx htk
                    cases t
                    · by_cases e : x = s
                      · subst e
                        go_wp2_with (fail)
                        go_roundg (g2 - 1)
                        case rel => exact ⟨j + 1, true, HJ.out.1, by have := HJ.out.2.1; omega, rfl, by go_num, Lib.hid ⟨rfl, fun e => by cases e⟩⟩
                        case measure => have := HJ.out; have := HQ.out.2.2.2; omega
                      · have hx2 : ((x : Int) == (s : Int)) = false := by rw [beq_eq_false_iff_ne]; omega
                        have HE := Lib.hid e
                        clear e
                        go_wp2_with (fail)
                        go_roundg (g2 - 1)
                        case rel => exact ⟨j + 1, false, HJ.out.1, by have := HJ.out.2.1; omega, rfl, by go_num, Lib.hid ⟨rfl, fun _ => ⟨(hrel2.out.2 (by simp)).1, by
                          rw [HJ.out.2.2, List.mem_append, List.mem_singleton]
                          exact fun h => h.elim (hrel2.out.2 (by simp)).2 fun h => HE.out h.symm⟩⟩⟩
                        case measure => have := HJ.out; have := HQ.out.2.2.2; omega
                    · go_wp2_with (fail)
                      go_roundg (g2 - 1)
                      case rel => exact ⟨j + 1, true, HJ.out.1, by have := HJ.out.2.1; omega, rfl, by go_num, Lib.hid ⟨rfl, fun e => by cases e⟩⟩
                      case measure => have := HJ.out; have := HQ.out.2.2.2; omega
                  · obtain rfl : j = q'.length := by omega
                    have hz : ¬ (q'.length : Int) < (q'.length : Int) := by omega
                    obtain rfl : t = true := by
                      cases t
                      · have h1 := hrel2.out.2 rfl
                        rw [List.take_length] at h1
                        exact absurd (HS.out (by first | exact h1.1 | simp) s HK.out.2.2) h1.2
                      · rfl
                    clear hrel2
                    go_wp2_with (fail)
                    go_roundg (gk - 1)
                    case rel => exact ⟨k + 1, HK.out.1, by have := HK.out.2.1; omega, by go_num, Lib.hid rfl⟩
                    case measure => have := HK.out; have := HQ.out.2.2.1; omega
              · obtain rfl : k = q.length := by omega
                have hz : ¬ (q.length : Int) < (q.length : Int) := by omega
                go_wp2_with (fail)
                go_ret
                exact ⟨rfl, HQ3.out.2.2⟩
        · obtain ⟨hr1, hqe⟩ := HQ.out.1.no hgL
          have hgM : ¬ goodE (L ++ M) := fun h => hgL ⟨by have := HL.out.2.1; omega, fun e he => h.2 e (List.mem_append.2 (.inl he))⟩
          obtain ⟨hr2, hqe2⟩ := HQ.out.2.1.no hgM
          subst hr1 hr2
          have HB := Lib.hid HII.out.2.2.2
          clear hgL hgM hqe hqe2 HII
          go_wp2_with (fail)
          go_ret
          exact ⟨rfl, HB.out⟩
  · have hlI : (120 : Int) < (L.length : Int) + (M.length : Int) := by omega
    have hlI2 : (L.length : Int) ≤ 8796093022208 := by omega
    have hlI3 : (M.length : Int) ≤ 8796093022208 := by omega
    clear h hl hb hm hbm
    go_enter Try.func8, Try.ntmps8
    go_wp2_with (first
      | (go_at_call 9; (with_reducible refine (HA.out W).mono ?_); rintro e w1 ⟨rfl, hb1⟩; have H1 := Lib.hid hb1; clear hb1)
      | (go_at_call 9; (with_reducible refine (HA.out w1).mono ?_); rintro e w2 ⟨rfl, hb2⟩; have H2 := Lib.hid hb2; clear hb2))
    go_ret
    exact ⟨rfl, H1.out.trans (lower' H2.out H1.out.size)⟩
end Go.Proofs.Ytiadphgodhfhjab
