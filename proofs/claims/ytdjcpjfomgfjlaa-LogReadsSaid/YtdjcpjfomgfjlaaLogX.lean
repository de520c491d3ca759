/- The document's log: Room. -/
import Derived.Test.YtdjcpjfomgfjlaaLogW
import Derived.Deep.RegionHeld3
namespace Go.Proofs.Ytdjcpjfomgfjlaa
open Go.RowKit Go.Maps

def roomR (first count next : Nat) (r : List Rec) : Int :=
  if ((first : Int) + count - endR first r - 1) * 64 < 0 ∨ (4611686018427387904 : Int) < (next : Int) then -1 else min (((first : Int) + count - endR first r - 1) * 64) 4000
set_option maxRecDepth 100000 in
set_option maxHeartbeats 2000000 in
theorem rRoom_any (first count next : Nat) (r : List Rec) (A : Option Addr) (c B : Nat) (w : World) (hr : Rd w B A (recS r)) (hB : B ≤ w.heap.size) (hd : ∀ x ∈ r, x.2.length ≤ 4000) (he : endR first r ≤ 100000) (hc : count ≤ 4096) (hf : first ≤ 4096) (hx : next ≤ 4611686018427387905) :
    Calls Try.prog 26 #[.agg #[.int .i64 (first : Int), .int .i64 (count : Int), .slice A r.length c, .int .i64 (next : Int)]] w fun e w' => e = .returned (.int .i64 (roomR first count next r)) ∧ Below w.heap.size w w' := by
  have hb0 : Below w.heap.size w (w.alloc (.cells #[.int .i64 (first : Int), .int .i64 (count : Int), .slice A r.length c, .int .i64 (next : Int)] 42)) := (Below.refl _ _).alloc (Nat.le_refl _) _
  have hg0 := heap_alloc_new w (.cells #[.int .i64 (first : Int), .int .i64 (count : Int), .slice A r.length c, .int .i64 (next : Int)] 42)
  have hr0 := hr.below hb0 hB
  have hen := fun (W : World) (hW : Below (w.alloc (.cells #[.int .i64 (first : Int), .int .i64 (count : Int), .slice A r.length c, .int .i64 (next : Int)] 42)).heap.size (w.alloc (.cells #[.int .i64 (first : Int), .int .i64 (count : Int), .slice A r.length c, .int .i64 (next : Int)] 42)) W) => rEnd_any first (count : Int) (next : Int) r A c B W (hr0.below hW (Nat.le_trans hB hb0.size)) (Nat.le_trans (Nat.le_trans hB hb0.size) hW.size) hd he
  have HEN := Lib.hid hen
  obtain ⟨E, hE⟩ : ∃ E, E = endR first r := ⟨_, rfl⟩
  have hroom : roomR first count next r = if ((first : Int) + count - E - 1) * 64 < 0 ∨ (4611686018427387904 : Int) < (next : Int) then -1 else min (((first : Int) + count - E - 1) * 64) 4000 := by rw [hE]; rfl
  have hel := endR_le first r
  rw [← hE] at he HEN hel
  have hfe : (first : Int) ≤ (E : Int) := by omega
  have heI : (E : Int) ≤ 100000 := by omega
  have hcI : (count : Int) ≤ 4096 := by omega
  have hfI : (first : Int) ≤ 4096 := by omega
  have HH := Lib.hid (And.intro hroom hb0)
  have hxI : (next : Int) ≤ 4611686018427387905 := by omega
  clear hen hr0 hr hd he hroom hel hE
  go_enter Try.func26, Try.ntmps26
  go_upto_region 1 with (fail)
  generalize w.alloc (.cells #[.int .i64 (first : Int), .int .i64 (count : Int), .slice A r.length c, .int .i64 (next : Int)] 42) = W0 at hb0 hg0 HEN HH ⊢
  have hKS : ∀ w' : World, Below W0.heap.size W0 w' → Below W0.heap.size W0 w' ∧ w'.cell? ⟨w.heap.size, 0, none⟩ = some (.int .i64 (first : Int)) ∧ w'.cell? ⟨w.heap.size, 1, none⟩ = some (.int .i64 (count : Int)) ∧ w'.cell? ⟨w.heap.size, 2, none⟩ = some (.slice A r.length c) ∧ w'.cell? ⟨w.heap.size, 3, none⟩ = some (.int .i64 (next : Int)) := fun w' hb => by
    have hg := (hb.block w.heap.size (heap_lt hg0)).trans hg0
    exact ⟨hb, cell_of_row w' w.heap.size 0 _ _ _ hg, cell_of_row w' w.heap.size 1 _ _ _ hg, cell_of_row w' w.heap.size 2 _ _ _ hg, cell_of_row w' w.heap.size 3 _ _ _ hg⟩
  have KS := Lib.hid hKS
  clear hKS hg0 hb0
  have w1 : IntKind.i64.wrap ((first : Int) + (count : Int)) = (first : Int) + (count : Int) := IntWalk.i64_in _ (by omega)
  have w2 : IntKind.i64.wrap ((first : Int) + (count : Int) - (E : Int)) = (first : Int) + (count : Int) - (E : Int) := IntWalk.i64_in _ (by omega)
  have w3 : IntKind.i64.wrap ((first : Int) + (count : Int) - (E : Int) - 1) = (first : Int) + (count : Int) - (E : Int) - 1 := IntWalk.i64_in _ (by omega)
  have w4 : IntKind.i64.wrap (((first : Int) + (count : Int) - (E : Int) - 1) * 64) = ((first : Int) + (count : Int) - (E : Int) - 1) * 64 := IntWalk.i64_in _ (by omega)
  go_region_held3 (fun w' => Below W0.heap.size W0 w' ∧ w'.cell? ⟨w.heap.size, 0, none⟩ = some (.int .i64 (first : Int)) ∧ w'.cell? ⟨w.heap.size, 1, none⟩ = some (.int .i64 (count : Int)) ∧ w'.cell? ⟨w.heap.size, 2, none⟩ = some (.slice A r.length c) ∧ w'.cell? ⟨w.heap.size, 3, none⟩ = some (.int .i64 (next : Int)))
    (first
      | exact KS.out _ (Below.refl _ _).drew
      | exact KS.out _ hBx)
    ((go_at_call 43; obtain ⟨hBo, -, -, -, -⟩ : Below W0.heap.size W0 _ ∧ _ ∧ _ ∧ _ ∧ _ := (by assumption); (with_reducible refine (HEN.out _ hBo).mono ?_); rintro e wk ⟨rfl, hbk⟩; have hBx := hBo.trans (hbk.mono hBo.size)))
  obtain ⟨-, -, -, -, c3⟩ := KS.out wk hBx
  have hroom := HH.out.1
  obtain ⟨Z, hZ⟩ : ∃ Z : Int, Z = ((first : Int) + (count : Int) - (E : Int) - 1) * 64 := ⟨_, rfl⟩
  rw [← hZ] at hroom ⊢
  have hbw : Below w.heap.size w wk := HH.out.2.trans (lower' hBx HH.out.2.size)
  have HB := Lib.hid hbw
  clear w1 w2 w3 w4 hZ hbw hxI heI hcI hfI hfe hx hf hc hB
  by_cases h1 : Z < 0
  · rw [if_pos (.inl h1)] at hroom
    have HRM := Lib.hid hroom
    clear hroom HH
    go_wp2
    go_ret
    exact ⟨by rw [HRM.out]; rfl, HB.out⟩
  · by_cases h2 : (4611686018427387904 : Int) < (next : Int)
    · rw [if_pos (.inr h2)] at hroom
      have HRM := Lib.hid hroom
      clear hroom HH
      go_wp2
      go_ret
      exact ⟨by rw [HRM.out]; rfl, HB.out⟩
    · rw [if_neg (by omega)] at hroom
      by_cases h3 : (4000 : Int) < Z
      · have hr2 : roomR first count next r = 4000 := by rw [hroom]; omega
        have HRM := Lib.hid hr2
        clear hroom HH hr2
        go_wp2
        go_ret
        exact ⟨by rw [HRM.out]; rfl, HB.out⟩
      · have hr2 : roomR first count next r = Z := by rw [hroom]; omega
        have HRM := Lib.hid hr2
        clear hroom HH hr2
        go_wp2
        go_ret
        exact ⟨by rw [HRM.out]; rfl, HB.out⟩
end Go.Proofs.Ytdjcpjfomgfjlaa
