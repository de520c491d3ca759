/- A log in memory; Next, Room, sectorsOf, sector. -/
import Derived.Test.YtdjcpjfomgfjlaaLogB
import Derived.Test.YtdjcpjfomgfjlaaJnC
import Derived.Deep.RegionWith
namespace Go.Proofs.Ytdjcpjfomgfjlaa
open Go.RowKit Go.Maps

/-- A log, plainly: its sectors, its records, the next number. -/
structure LG where
  first : Nat
  behind : Nat
  recs : List Rec
  next : Nat
def LG.endd (L : LG) : Nat := endR L.first L.recs
/-- Where records stand: each head's sector, and how many of data. -/
def plc : Nat → List Rec → List Value
  | _, [] => []
  | a, (_, d) :: r => .int .i64 (a : Int) :: .int .i64 (secs d.length : Int) :: plc (a + 1 + secs d.length) r
theorem plc_len (a : Nat) (r : List Rec) : (plc a r).length = r.length * 2 := by
  induction r generalizing a with
  | nil => rfl
  | cons x r ih => obtain ⟨s, d⟩ := x; simp [plc, ih]; omega
theorem plc_append (a : Nat) (r r' : List Rec) : plc a (r ++ r') = plc a r ++ plc (endR a r) r' := by
  induction r generalizing a with
  | nil => rfl
  | cons x r ih => obtain ⟨s, d⟩ := x; simp [plc, endR, ih]
structure LG.Ok (L : LG) : Prop where
  first : L.first < L.behind
  behind : L.behind ≤ 4096
  endd : L.endd ≤ L.behind
  pos : 1 ≤ L.next
  next : L.next ≤ 4611686018427387905
def LG.cells (L : LG) (p : Nat) (v : Value) : Array Value := #[.pointer (some ⟨p, 0, none⟩), .int .i64 (L.first : Int), .int .i64 (L.behind : Int), .int .i64 (L.endd : Int), .int .i64 (L.next : Int), v]
/-- It lies at q, over the disk at p; its places lie in a block of their own, from base on. -/
structure LogAt (w : World) (base q p : Nat) (L : LG) (v : Value) : Prop where
  blk : w.heap[q]? = some (.cells (L.cells p v) 86 (0, 0))
  row : w.ownsRow base 134 2 v L.recs.length (plc L.first L.recs)
  lt : q < base
  ok : L.Ok
section
variable {w w' : World} {base q p : Nat} {L : LG} {v : Value}
theorem LogAt.size (h : LogAt w base q p L v) : q < w.heap.size := (Array.getElem?_eq_some_iff.1 h.blk).1
theorem rowFr {base size n : Nat} {e : TypeId} {xs : List Value} {S : List Nat} (h : w.ownsRow base e size v n xs) (hf : Fr w w' S) (hS : ∀ s ∈ S, s < base) : w'.ownsRow base e size v n xs := by
  refine ⟨h.1, ?_⟩
  rcases h.2 with h2 | ⟨g, cap, cur, hv, hg, hgg, r⟩
  · exact .inl h2
  · refine .inr ⟨g, cap, cur, hv, hg, ?_, r⟩
    rw [hf.block g (Array.getElem?_eq_some_iff.1 hgg).1 (fun hs => by have := hS g hs; omega)]
    exact hgg
theorem LogAt.fr (h : LogAt w base q p L v) {S : List Nat} (hf : Fr w w' S) (hS : ∀ s ∈ S, s < base ∧ s ≠ q) : LogAt w' base q p L v :=
  ⟨(hf.block q h.size (fun hm => (hS q hm).2 rfl)).trans h.blk, rowFr h.row hf (fun s hs => (hS s hs).1), h.lt, h.ok⟩
theorem LogAt.kept (h : LogAt w base q p L v) (hb : Below w.heap.size w w') : LogAt w' base q p L v := h.fr (Fr.of_below hb []) (by simp)
end

set_option maxRecDepth 100000 in
theorem next_any {w : World} {base q p : Nat} {L : LG} {v : Value} (h : LogAt w base q p L v) :
    Calls Try.prog 24 #[.pointer (some ⟨q, 0, none⟩)] w fun e w' => e = .returned (.int .i64 (L.next : Int)) ∧ w = w' := by
  have hg := h.blk
  unfold LG.cells at hg
  have a4 := cell_of_row w q 4 _ _ _ hg
  clear h hg
  go_enter Try.func24, Try.ntmps24
  go_wp2
  go_ret
  exact ⟨rfl, rfl⟩

def LG.room (L : LG) : Int := if L.endd = L.behind ∨ 4611686018427387904 < L.next then -1 else min (((L.behind - L.endd - 1 : Nat) : Int) * 64) 4000
set_option maxRecDepth 100000 in
set_option maxHeartbeats 1000000 in
theorem room_any {w : World} {base q p : Nat} {L : LG} {v : Value} (h : LogAt w base q p L v) :
    Calls Try.prog 25 #[.pointer (some ⟨q, 0, none⟩)] w fun e w' => e = .returned (.int .i64 L.room) ∧ Below w.heap.size w w' := by
  have hg := h.blk
  have hk := h.ok
  unfold LG.cells at hg
  have a2 := cell_of_row w q 2 _ _ _ hg
  have a3 := cell_of_row w q 3 _ _ _ hg
  have a4 := cell_of_row w q 4 _ _ _ hg
  clear h hg
  obtain ⟨k1, k2, k3, k4, k5⟩ := hk
  obtain ⟨e, he⟩ : ∃ e, e = L.endd := ⟨_, rfl⟩
  obtain ⟨b, hb⟩ : ∃ b, b = L.behind := ⟨_, rfl⟩
  obtain ⟨n, hn⟩ : ∃ n, n = L.next := ⟨_, rfl⟩
  have HR : Hid (L.room = if e = b ∨ 4611686018427387904 < n then -1 else min (((b - e - 1 : Nat) : Int) * 64) 4000) := Lib.hid (by rw [he, hb, hn]; rfl)
  rw [← he] at a3 k3
  rw [← hb] at a2 k2 k3
  rw [← hn] at a4 k5
  clear he hb hn k1 k4
  by_cases h1 : e = b
  · subst h1
    have hbt : decide ((e : Int) = (e : Int)) = true := by simp
    clear k3
    go_enter Try.func25, Try.ntmps25
    go_upto_region 1 with go_in
    go_quiet (fail)
    go_wp2_with go_in
    go_ret
    exact ⟨by (rw [HR.out, if_pos (.inl (by trivial))]) <;> rfl, Below.drewN' (Below.refl _ _) _⟩
  · have hbf : ((e : Int) == (b : Int)) = false := beq_eq_false_iff_ne.2 (by omega)
    by_cases h2 : 4611686018427387904 < n
    · have hnt : (4611686018427387904 : Int) < (n : Int) := by omega
      go_enter Try.func25, Try.ntmps25
      go_upto_region 1 with go_in
      go_quiet (fail)
      go_wp2_with go_in
      go_ret
      exact ⟨by (rw [HR.out, if_pos (.inr h2)]) <;> rfl, Below.drewN' (Below.refl _ _) _⟩
    · have hnf : ¬ (4611686018427387904 : Int) < (n : Int) := by omega
      have HN := Lib.hid (And.intro h1 h2)
      have hle : (e : Int) < (b : Int) := by omega
      have hb4 : (b : Int) ≤ 4096 := by omega
      clear h1 h2 k2 k3 k5
      go_enter Try.func25, Try.ntmps25
      go_upto_region 1 with go_in
      go_quiet (fail)
      go_upto_region 3 with go_in
      have c2 : (w.drewN nq).cell? ⟨q, 2, none⟩ = _ := a2
      have c3 : (w.drewN nq).cell? ⟨q, 3, none⟩ = _ := a3
      have HB : Hid (Below w.heap.size w (w.drewN nq)) := Lib.hid (Below.drewN' (Below.refl _ _) _)
      generalize w.drewN nq = W at c2 c3 HB ⊢
      clear a2 a3 a4
      go_region
      all_goals
        go_wp2_with go_in
        go_ret
        refine ⟨?_, HB.out.drew⟩
        rw [HR.out, if_neg (by have := HN.out; omega)]

        exact ret_int (by omega)

set_option maxRecDepth 100000 in
theorem secs_any (n : Nat) (w : World) (hn : n ≤ 1000000000) :
    Calls Try.prog 70 #[.int .i64 (n : Int)] w fun e w' => e = .returned (.int .i64 (secs n : Int)) ∧ w = w' := by
  have hn' : (n : Int) ≤ 1000000000 := by omega
  have h0 : (((n : Int) + 64 - 1).tdiv 64) = (secs n : Int) := by
    rw [Int.tdiv_eq_ediv_of_nonneg (by omega)]
    unfold secs; omega
  have h1 : (((n : Int) + 64 - 1) / 64) = (secs n : Int) := by unfold secs; omega
  have H0 := Lib.hid (And.intro h0 h1)
  clear h0 h1
  go_enter Try.func70, Try.ntmps70
  go_wp2
  go_ret
  exact ⟨by first | rfl | (rw [H0.out.2] <;> rfl) | (rw [H0.out.1] <;> rfl), rfl⟩

/-- A new row of 64 bytes. -/
def New64 (w w' : World) (l : List UInt8) (e : Ending) : Prop :=
  ∃ g, e = .returned (.slice (some ⟨g, 0, none⟩) 64 64) ∧ w.heap.size ≤ g ∧ g < w'.heap.size ∧ Rd w' w'.heap.size (some ⟨g, 0, none⟩) (u8s l) ∧ l.length = 64 ∧ Below w.heap.size w w'
set_option maxRecDepth 100000 in
theorem sector_any {w : World} {base q p bs bw T : Nat} {L : LG} {v : Value} {M : DM} (h : LogAt w base q p L v) (hD : DiskM w p bs bw M T) (hz : M.size ≤ 4096) {i : Nat} (hi : i < M.size) :
    Calls Try.prog 69 #[.pointer (some ⟨q, 0, none⟩), .int .i64 (i : Int)] w fun e w' => New64 w w' (M.get i) e := by
  have hg := h.blk
  unfold LG.cells at hg
  have a0 := cell_of_row w q 0 _ _ _ hg
  have hr := readC hD hz hi
  have HR := Lib.hid hr
  clear h hg hr hD
  go_enter Try.func69, Try.ntmps69
  go_wp2_with (go_at_call 60; (with_reducible refine HR.out.mono ?_); rintro e w' ⟨g, rfl, h1, h2, h3, h4, h5⟩)
  go_ret
  exact ⟨g, rfl, h1, h2, h3, h4, h5⟩
end Go.Proofs.Ytdjcpjfomgfjlaa
