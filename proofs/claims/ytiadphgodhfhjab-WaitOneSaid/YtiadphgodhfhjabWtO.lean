/- Layer 17: the document's leads. -/
import Derived.Test.YtiadphgodhfhjabWtN
import Derived.Deep.Cut
namespace Go.Proofs.Ytiadphgodhfhjab
open Go.RowKit

/-- What leads answers. -/
def LeadsPost (L : List (Int × Int)) (s : Nat) (w : World) (e : Ending) (w' : World) : Prop := ∃ F : List Bool, e = .returned (.agg (boolV F)) ∧ F.length = 17 ∧ (∀ b, F.getD b false = true ↔ Ld (EdR L) s b) ∧ Below w.heap.size w w'
/-- One look over the edges, up to the k-th. -/
structure LdK (L : List (Int × Int)) (s : Nat) (k : Nat) (F0 F : List Bool) (ag : Bool) : Prop where
  ok : LdS (EdR L) s F
  more : ag = true → F0.count true < F.count true
  same : ag = false → F = F0 ∧ ∀ a b : Nat, ((a : Int), (b : Int)) ∈ L.take k → (a = s ∨ F.getD a false = true) → F.getD b false = true
  up : F0.count true ≤ F.count true
theorem LdK.yes {L : List (Int × Int)} {s k a b : Nat} {F0 F : List Bool} {ag : Bool} (h : LdK L s k F0 F ag) (hk : k < L.length) (he : L[k] = ((a : Int), (b : Int))) (hb : b < 17) (hq : ((decide (a = s) || F.getD a false) && !F.getD b false) = true) : LdK L s (k + 1) F0 (F.set b true) true := by
  rw [Bool.and_eq_true, Bool.or_eq_true, decide_eq_true_iff] at hq
  have hfb : F.getD b false = false := by simpa using hq.2
  have hc := count_set (F := F) (b := b) (by rw [h.ok.len]; exact hb) hfb
  have hm : EdR L a b := by unfold EdR; rw [← he]; exact List.getElem_mem hk
  refine ⟨h.ok.go hb hm hq.1, fun _ => by rw [hc]; have := h.up; omega, fun h => (by cases h), by rw [hc]; have := h.up; omega⟩
theorem LdK.no {L : List (Int × Int)} {s k a b : Nat} {F0 F : List Bool} {ag : Bool} (h : LdK L s k F0 F ag) (hk : k < L.length) (he : L[k] = ((a : Int), (b : Int))) (hq : ((decide (a = s) || F.getD a false) && !F.getD b false) = false) : LdK L s (k + 1) F0 F ag := by
  refine ⟨h.ok, h.more, fun hag => ⟨(h.same hag).1, fun x y hxy hx => ?_⟩, h.up⟩
  rw [List.take_succ_eq_append_getElem hk, he] at hxy
  rcases List.mem_append.1 hxy with hxy | hxy
  · exact (h.same hag).2 x y hxy hx
  · have e := List.mem_singleton.1 hxy
    rw [Prod.mk.injEq] at e
    obtain rfl : x = a := by omega
    obtain rfl : y = b := by omega
    have : (decide (x = s) || F.getD x false) = true := by rw [Bool.or_eq_true, decide_eq_true_iff]; exact hx
    rw [this] at hq
    simpa using hq
set_option maxRecDepth 100000 in
set_option maxHeartbeats 8000000 in
theorem leads_any (w : World) {A : Option Addr} {c : Nat} {L : List (Int × Int)} (h : PrL w A c L) (hg : goodE L) (s : Nat) :
    Calls Try.prog 24 #[.slice A L.length c, .int .i64 (s : Int)] w (LeadsPost L s w) := by
  have hb0 : Below w.heap.size w ((w.alloc (.cells (boolV noB) 52)).alloc (.cells (boolV noB) 52)) := ((Below.refl _ _).alloc (Nat.le_refl _) _).alloc (by simp) _
  obtain ⟨g0, g1⟩ := two_new w (.cells (boolV noB) 52) (.cells (boolV noB) 52)
  have H0 := Lib.hid (And.intro hb0 (And.intro g0 g1))
  have hl := hg.1
  have hlI : (L.length : Int) ≤ 256 := by omega
  have HL := Lib.hid (And.intro h hg)
  clear hb0 g0 g1 h hg hl
  go_enter Try.func24, Try.ntmps24
  go_upto_region 2 with (fail)
  rw [← noB_cells]
  generalize ((w.alloc (.cells (boolV noB) 52)).alloc (.cells (boolV noB) 52)) = W0 at H0 ⊢
  go_wp2_with (fail)
  go_loopg [6] 40 (fun gk v6 wr => ∃ (ag : Bool) (F : List Bool), v6 = .bool ag ∧ 2 * (17 - F.count true) + ag.toNat ≤ gk ∧ Hid (LdS (EdR L) s F ∧ (ag = false → ∀ a b, EdR L a b → (a = s ∨ F.getD a false = true) → F.getD b false = true) ∧ Below w.heap.size w wr ∧ wr.heap[w.heap.size]? = some (.cells (boolV noB) 52 (0, 0)) ∧ wr.heap[w.heap.size + 1]? = some (.cells (boolV F) 52 (0, 0))))
  case atStart => exact ⟨true, noB, rfl, by simp [noB], Lib.hid ⟨LdS.start _ _, fun h => (by cases h), H0.out.1, H0.out.2.1, H0.out.2.2⟩⟩
  case round =>
    clear H0
    obtain ⟨ag, F0, rfl, hgk, hrel⟩ := hrel
    cases ag
    · have hfin := hrel.out.1.fin (hrel.out.2.1 rfl)
      have HF := Lib.hid hfin
      clear hfin
      go_wp2_with (first
        | (refine wpList_load_row rfl 52 (.tmp 5) rfl (w.heap.size + 1) rfl _ _ _ _ hrel.out.2.2.2.2 Try.underlying52 rfl (bool_size hrel.out.1.len) ?_)
        | (refine wpList_store_row rfl 52 (.tmp 4) (.tmp 43) rfl w.heap.size (boolV F0) rfl rfl _ _ hrel.out.2.2.2.1 (bool_size hrel.out.1.len) (by simp [boolV, noB, hrel.out.1.len]) (bool_one _) ?_))
      refine bodyPost_ret (v := .agg (boolV F0)) (results_cell_row (p := 4) (ty := 52) (by kernel_rfl) _ _ w.heap.size _ _ _ _ rfl (setRow_heap _ _ _ _ _ _ hrel.out.2.2.2.1) Try.underlying52 rfl (bool_size hrel.out.1.len)) rfl ⟨F0, rfl, hrel.out.1.len, HF.out, (hrel.out.2.2.1.trans ((row_fr _ _ _).below hrel.out.2.2.1.size fun x hx => by rw [List.mem_singleton.1 hx]; exact Nat.le_refl _))⟩
    · have HG := Lib.hid hgk
      clear hgk
      go_wp2_with (fail)
      go_loopg [6, 13] 300 (fun g2 v6 v13 wq => ∃ (k : Nat) (ag : Bool) (F : List Bool), k ≤ L.length ∧ k + g2 = 300 ∧ v6 = .bool ag ∧ v13 = .int .i64 (k : Int) ∧ Hid (LdK L s k F0 F ag ∧ Below w.heap.size w wq ∧ wq.heap[w.heap.size]? = some (.cells (boolV noB) 52 (0, 0)) ∧ wq.heap[w.heap.size + 1]? = some (.cells (boolV F) 52 (0, 0))))
      case atStart => exact ⟨0, false, F0, by omega, by omega, rfl, rfl, Lib.hid ⟨⟨hrel.out.1, fun h => (by cases h), fun _ => ⟨rfl, fun a b h => (by simp at h)⟩, Nat.le_refl _⟩, hrel.out.2.2⟩⟩
      case round =>
        rename Nat => g2
        rename World => wq
        obtain ⟨k, ag, F, hk, hkg, rfl, rfl, hrel⟩ := hrel
        by_cases hlt : k < L.length
        · have hlI2 : (k : Int) < (L.length : Int) := by omega
          obtain ⟨ab, ao, rfl, hab, q0, q1⟩ := (HL.out.1.below hrel.out.2.1).cell hlt
          have hge := goodE_take HL.out.2 hlt
          obtain ⟨a, ha⟩ : ∃ a : Nat, L[k].1 = (a : Int) := ⟨L[k].1.toNat, by omega⟩
          obtain ⟨b, hb⟩ : ∃ b : Nat, L[k].2 = (b : Int) := ⟨L[k].2.toNat, by omega⟩
          rw [ha] at q0 hge
          rw [hb] at q1 hge
          have he : L[k] = ((a : Int), (b : Int)) := by rw [← ha, ← hb]
          have hyes := fun hq => hrel.out.1.yes hlt he (by omega) hq
          have hno := fun hq => hrel.out.1.no hlt he hq
          have ha16 : (a : Int) ≤ 16 := hge.1.2
          have hb16 : (b : Int) ≤ 16 := hge.2.2
          have hFl := hrel.out.1.ok.len
          have za := bool_cell hrel.out.2.2.2 (k := a) (by rw [hFl]; omega)
          have zb := bool_cell hrel.out.2.2.2 (k := b) (by rw [hFl]; omega)
          have zf := frozen_of_row _ _ b _ _ hrel.out.2.2.2
          have hset := heap_setCell_same wq (w.heap.size + 1) b _ _ (.bool true) hrel.out.2.2.2
          rw [boolV_set] at hset
          obtain ⟨p, hp⟩ : ∃ p, p = decide (a = s) := ⟨_, rfl⟩
          have hpI : ((a : Int) == (s : Int)) = p := by
            rw [hp]
            by_cases e : a = s
            · subst e; simp
            · rw [decide_eq_false e, beq_eq_false_iff_ne]; omega
          rw [← hp] at hyes hno
          obtain ⟨fa, hfa⟩ : ∃ fa, fa = F.getD a false := ⟨_, rfl⟩
          obtain ⟨fb, hfb⟩ : ∃ fb, fb = F.getD b false := ⟨_, rfl⟩
          rw [← hfa] at za hyes hno
          rw [← hfb] at zb hyes hno
          have HY := Lib.hid (And.intro hyes (And.intro hno (And.intro hset (And.intro hrel.out.2 (And.intro hkg hlt)))))
          clear hyes hno hset hp hfa hfb hge ha hb he hFl hab hkg hlt hrel hk
          go_upto_region 9 with (fail)
          go_quiet (fail)
          have za' : (wq.drewN nq).cell? ⟨w.heap.size + 1, a, none⟩ = some (.bool fa) := za
          have zb' : (wq.drewN nq).cell? ⟨w.heap.size + 1, b, none⟩ = some (.bool fb) := zb
          have zf' : (wq.drewN nq).frozen? ⟨w.heap.size + 1, b, none⟩ = false := zf
          have hs' : ((wq.drewN nq).setCell ⟨w.heap.size + 1, b, none⟩ (.bool true)).heap[w.heap.size + 1]? = some (.cells (boolV (F.set b true)) 52 (0, 0)) := HY.out.2.2.1
          have hr' : Below w.heap.size w (wq.drewN nq) ∧ (wq.drewN nq).heap[w.heap.size]? = some (.cells (boolV noB) 52 (0, 0)) ∧ (wq.drewN nq).heap[w.heap.size + 1]? = some (.cells (boolV F) 52 (0, 0)) := ⟨Below.drewN' HY.out.2.2.2.1.1 nq, HY.out.2.2.2.1.2⟩
          have HZ := Lib.hid (And.intro hs' (And.intro hr' HY.out.2.2.2.2))
          have HYN := Lib.hid (And.intro HY.out.1 HY.out.2.1)
          clear HY za zb zf q0 q1 hs' hr'
          generalize wq.drewN nq = W2 at za' zb' zf' HZ ⊢
          have yes : ∀ q : Bool, q = true → ((p || fa) && !fb) = q → LdK L s (k + 1) F0 (F.set b true) true := fun q h1 h2 => HYN.out.1 (h2.trans h1)
          have no : ∀ q : Bool, q = false → ((p || fa) && !fb) = q → LdK L s (k + 1) F0 F ag := fun q h1 h2 => HYN.out.2 (h2.trans h1)
          have HYES := Lib.hid yes
          have HNO := Lib.hid no
          clear yes no HYN
          have hfr : Fr W2 (W2.setCell ⟨w.heap.size + 1, b, none⟩ (.bool true)) [w.heap.size + 1] := (Fr.refl W2 _).setCell (by simp) _
          have HS := Lib.hid (And.intro (HZ.out.2.1.1.trans (hfr.below HZ.out.2.1.1.size fun x hx => by rw [List.mem_singleton.1 hx]; omega)) (And.intro ((hfr.block _ (heap_lt HZ.out.2.1.2.1) (by simp)).trans HZ.out.2.1.2.1) HZ.out.1))
          clear hfr
          cases fb
          · cases p
            · cases fa
              · go_wp2_with (fail)
                go_roundg (g2 - 1)
                case rel => exact ⟨k + 1, ag, F, HZ.out.2.2.2, by have := HZ.out.2.2; omega, rfl, by go_num, Lib.hid ⟨HNO.out false rfl rfl, HZ.out.2.1⟩⟩
                case measure => have := HZ.out.2.2; omega
              · go_wp2_with (fail)
                go_roundg (g2 - 1)
                case rel => exact ⟨k + 1, true, F.set b true, HZ.out.2.2.2, by have := HZ.out.2.2; omega, rfl, by go_num, Lib.hid ⟨HYES.out true rfl rfl, HS.out⟩⟩
                case measure => have := HZ.out.2.2; omega
            · go_wp2_with (fail)
              go_roundg (g2 - 1)
              case rel => exact ⟨k + 1, true, F.set b true, HZ.out.2.2.2, by have := HZ.out.2.2; omega, rfl, by go_num, Lib.hid ⟨HYES.out true rfl rfl, HS.out⟩⟩
              case measure => have := HZ.out.2.2; omega
          · cases p
            · cases fa
              · go_wp2_with (fail)
                go_roundg (g2 - 1)
                case rel => exact ⟨k + 1, ag, F, HZ.out.2.2.2, by have := HZ.out.2.2; omega, rfl, by go_num, Lib.hid ⟨HNO.out false rfl rfl, HZ.out.2.1⟩⟩
                case measure => have := HZ.out.2.2; omega
              · go_wp2_with (fail)
                go_roundg (g2 - 1)
                case rel => exact ⟨k + 1, ag, F, HZ.out.2.2.2, by have := HZ.out.2.2; omega, rfl, by go_num, Lib.hid ⟨HNO.out false rfl rfl, HZ.out.2.1⟩⟩
                case measure => have := HZ.out.2.2; omega
            · go_wp2_with (fail)
              go_roundg (g2 - 1)
              case rel => exact ⟨k + 1, ag, F, HZ.out.2.2.2, by have := HZ.out.2.2; omega, rfl, by go_num, Lib.hid ⟨HNO.out false rfl rfl, HZ.out.2.1⟩⟩
              case measure => have := HZ.out.2.2; omega
        · obtain rfl : k = L.length := by omega
          have hlI2 : ¬ (L.length : Int) < (L.length : Int) := by omega
          have hnx : 2 * (17 - F.count true) + ag.toNat ≤ gk - 1 ∧ gk - 1 < gk := by
            have h1 := HG.out
            have h2 : F.count true ≤ 17 := by have := List.count_le_length (a := true) (l := F); have := hrel.out.1.ok.len; omega
            have h3 := hrel.out.1.up
            have h4 := hrel.out.1.more
            cases ag
            · simp at h1 ⊢; omega
            · have := h4 rfl; simp at h1 ⊢; omega
          have hcl : ag = false → ∀ a b, EdR L a b → (a = s ∨ F.getD a false = true) → F.getD b false = true := fun h a b hab ha => (hrel.out.1.same h).2 a b (by rw [List.take_length]; exact hab) ha
          have HN := Lib.hid (And.intro hnx hcl)
          clear hnx hcl
          go_wp2_with (fail)
          go_roundg (gk - 1)
          case rel => exact ⟨ag, F, rfl, HN.out.1.1, Lib.hid ⟨hrel.out.1.ok, HN.out.2, hrel.out.2⟩⟩
          case measure => exact HN.out.1.2
end Go.Proofs.Ytiadphgodhfhjab
