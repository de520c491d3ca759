/- maps.Copy of sectors; clear of a map; a disk's Flush. -/
import Derived.Test.YtnjljalihjkmcaaDskE
import Derived.Lib.SlMapMerge
import Derived.Maps.Ext
import Derived.Maps.RangeWalk
import Derived.Laws.IdiomRangeMap
import Derived.Deep.RegionWith
namespace Go.Proofs.Ytnjljalihjkmcaa
open Go.RowKit Go.Maps

theorem secV_inv (v : Value) (y : DataW Unit × List MemPlace) (h : secR v = some y) : ∃ l : List UInt8, v = (fun l : List UInt8 => Value.agg (u8s l).toArray) l := by
  obtain ⟨d, ps⟩ := y
  obtain ⟨l, _, rfl, _⟩ := secR_inv h
  exact ⟨l, rfl⟩
theorem secV_len {l : List UInt8} {y : DataW Unit × List MemPlace} (h : secR (.agg (u8s l).toArray) = some y) : l.length = 64 := by
  obtain ⟨d, ps⟩ := y
  obtain ⟨l', hl', e, _⟩ := secR_inv h
  injection e with e
  have := u8s_inj (congrArg Array.toList e)
  rw [this]; exact hl'
theorem range_new (w : World) (l : List UInt8) : (w.alloc (.cells (u8s l).toArray 109)).rangeAt w.heap.size 0 (u8s l) := fun j v hv => by
  rw [cell_of_row _ _ (0 + j) _ _ _ (heap_alloc_last w _)]
  simpa using hv

set_option maxHeartbeats 4000000 in
set_option maxRecDepth 100000 in
theorem copy_any (bd bs nd ns : Nat) (Dd Ds : DataW Unit) (w : World) (hd : w.ownsMap Try.prog 3 secR bd nd Dd) (hs : w.ownsMap Try.prog 3 secR bs ns Ds) (hne : bd ≠ bs) (hroom : nd + Maps.size Ds ≤ maxLen) :
    Calls Try.prog 88 #[.map (some bd), .map (some bs)] w fun e w' => e = .returned (.tuple #[]) ∧ w'.ownsMap Try.prog 3 secR bd (nd + Maps.size Ds) (Lib.mergeD Dd Ds) ∧ w'.ownsMap Try.prog 3 secR bs ns Ds ∧ w.grownBy w' (some bd) := by
  have hbd := hd.lt
  have hbs := hs.lt
  have hze := zero_sec
  have hu : ∀ w : World, (underlying 109).run Try.prog w = _ := run_underlying Try.underlying109
  go_enter Try.func88, Try.ntmps88
  go_wp2_with (first
    | (at_range; refine wpList_range_own _ rfl _ 88 rfl 3 109 keyZ Try.underlying88 secR bs ns _ rfl hs ?_; intro w0 hrg0 hg0 hs0)
    | go_in)
  go_frame
  go_loopw [8] (fun _ wr => ∃ (left : Lit → Bool) (cnt : Nat) (Dout : DataW Unit), wr.ranges Try.prog 3 secR bs w.heap.size ns Ds left cnt ∧ cnt ≤ Maps.size Ds ∧
      wr.ownsMap Try.prog 3 secR bd (nd + (Maps.size Ds - cnt)) Dout ∧ Merged Dout Dd Ds left ∧ w.grownBy wr (some bd))
    (fun _ wr => wr.rangeLeft bs w.heap.size)
  case atStart =>
    exact ⟨_, _, Dd, hrg0, Nat.le_refl _, (hd.kept hg0 (by simp)).mono (by omega), merged_start Dd Ds, hg0.but _⟩
  case round =>
    obtain ⟨left, cnt, Dout, hrg, hcs, hout, hM, hgw⟩ := hrel
    go_wp2_with (first
      | (at_next; refine wpList_next_ranges _ rfl _ rfl 3 keyZ secR id (fun l : List UInt8 => Value.agg (u8s l).toArray) (fun key _ _ => ⟨key, rfl⟩) secV_inv bs w.heap.size ns _ _ _ rfl hrg ?_ ?_)
      | go_in)
    · intro hc0 hl0
      go_wp2
      go_end0
      subst hc0
      have e := merged_eq keyZ.one hM hl0 (hout.canon keyZ) (hd.canonK keyZ) (hs.canonK keyZ)
      subst e
      exact ⟨rfl, by simpa using hout, hrg.owns, hgw⟩
    · intro x c kl yd yp w1 cnt1 hkey hlx hv hat hrg1 hlt hg1 hs1 hen
      have hout1 := hout.kept hg1 (fun e => by have := Option.some.inj e; omega)
      have HS := Lib.hid hs1
      clear hs1
      have hl := secV_len hv
      have s1 := store_cells w1 zero64 c zero64_len hl
      have n1 : (u8s c).length = 64 := by rw [u8s_len, hl]
      have hrange := range_new w1 c
      have hsize : (Try.prog.info? 109).map (·.size) = some (u8s c).length := by rw [n1]; exact size_sec
      go_wp2_with (first
        | (refine wpList_load_mid rfl 109 (.tmp 5) rfl w1.heap.size 0 rfl (u8s c) _ hrange Try.underlying109 rfl hsize ?_)
        | (at_mapUpdate; refine wpList_mapUpdate_own _ rfl _ _ _ 88 rfl 3 109 keyZ Try.underlying88 secR bd _ _ rfl (hout1.alloc _) (by omega) _ _ _ rfl rfl hkey yd yp hv ?_; intro w2 hout2 hg2; go_frame)
        | go_in)
      have ha1 := World.grownBy_alloc w1 (.cells (u8s c).toArray 109) (some bd)
      have hrg2 := (hrg1.kept ha1 (fun e => hne (Option.some.inj e).symm) (fun e => by have := Option.some.inj e; omega)).kept hg2 (fun e => hne (Option.some.inj e).symm) (fun e => by have := Option.some.inj e; omega)
      go_roundw
      case rel =>
        exact ⟨_, cnt1, _, hrg2, by omega, hout2.mono (by omega), merged_step hM hout.isMap (keyZ.key hkey) hat, ((hgw.andThen hg1 (fun j hj => .inl (by cases hj; exact Nat.le_refl _))).andThen ha1 (fun j hj => .inr hj)).andThen hg2 (fun j hj => .inr hj)⟩
      case measure => rw [hrg2.left_eq, hrg.left_eq]; exact hlt
end Go.Proofs.Ytnjljalihjkmcaa
