/- Contracts of sha's New, Write, Len, Reset. -/
import Derived.Test.YtmphjmbnfaimiaaDoorShaG
namespace Go.Proofs.YtmphjmbnfaimiaaDoor
open Go.RowKit ShaMath

def dig0 : List Value := dig (List.replicate 8 0#32) (List.replicate 64 0) 0
theorem dig0_held : Held [] (List.replicate 8 0#32) (List.replicate 64 0) := Held.nil _ _ (by simp) (by simp)
theorem dig0_length : dig0.length = 73 := dig_length _ _ _ (by simp) (by simp)
theorem dig0_one : dig0.all (·.oneCell') = true := dig_one _ _ _
theorem built_dig : Tryd.prog.built 55 [] = some dig0.toArray := by kernel_rfl
theorem zero_dig : ∀ u, (zeroValue 55).run Tryd.prog u = .ok (.agg dig0.toArray) u := fun u => by kernel_rfl
theorem dg0 {w : World} {b : Nat} (h : Row w b 55 dig0) : Dg w b [] := ⟨_, _, h, dig0_held⟩

theorem sha_new_any (w : World) :
    Calls Tryd.prog 10 #[] w fun e w' => e = .returned (.pointer (some ⟨w.heap.size, 0, none⟩)) ∧ Dg w' w.heap.size [] ∧ Below w.heap.size w w' ∧ w'.heap.size = w.heap.size + 1 := by
  obtain ⟨D, hD⟩ : ∃ D, D = dig0 := ⟨_, rfl⟩
  have HB : Hid (Tryd.prog.built 55 [] = some D.toArray) := Lib.hid (by rw [hD]; exact built_dig)
  have HD := Lib.hid hD
  clear hD
  go_enter Tryd.func10, Tryd.ntmps10
  go_wp2_with (first
    | ((with_reducible refine wpBuildZeroK D 55 HB.out ?_ ?_); rfl)
    | ((with_reducible refine wpBoxK D 55 ?_ ?_); rfl; intro u0 r0 b0 s0; have R0 := Lib.hid r0; have B0 := Lib.hid b0; have S0 := Lib.hid s0; clear r0 b0 s0))
  go_ret
  exact ⟨rfl, dg0 (by rw [← HD.out]; exact R0.out), B0.out, S0.out⟩

/-- Texts that lie in another block than b. -/
def Off (w : World) (b : Nat) (a : Option Addr) (xs : List Value) : Prop :=
  0 < xs.length → ∃ bl off, a = some ⟨bl, off, none⟩ ∧ bl < w.heap.size ∧ bl ≠ b ∧ ∀ j u, xs[j]? = some u → w.cell? ⟨bl, off + j, none⟩ = some u
theorem Lies.off {w : World} {B b : Nat} {a : Option Addr} {xs : List Value} (h : Lies w B a xs) (hB : B ≤ b) (hw : B ≤ w.heap.size) : Off w b a xs := by
  intro hx
  obtain ⟨bl, off, e, hl, hc⟩ := h hx
  exact ⟨bl, off, e, by omega, by omega, hc⟩
theorem Off.new (x : Value) (w : World) (t : TypeId) (b : Nat) (hb : b < w.heap.size) : Off (w.alloc (.cells #[x] t)) b (some ⟨w.heap.size, 0, none⟩) [x] := by
  intro _
  obtain ⟨bl, off, e, hl, hc⟩ := Lies.new [x] w t (by simp)
  cases e
  exact ⟨_, _, rfl, hl, by omega, hc⟩
theorem Off.only {w w' : World} {b : Nat} {a : Option Addr} {xs : List Value} (h : Off w b a xs) (ho : Only b w w') : Off w' b a xs := by
  intro hx
  obtain ⟨bl, off, e, hl, hne, hc⟩ := h hx
  refine ⟨bl, off, e, Nat.lt_of_lt_of_le hl ho.size, hne, fun j u hj => ?_⟩
  rw [World.cell?_of_block (a := ⟨bl, off + j, none⟩) (ho.2.2.2.2 bl hl hne)]
  exact hc j u hj
theorem Off.step {w w' : World} {b : Nat} {a : Option Addr} {xs : List Value} (h : Off w b a xs) (hb : Below w.heap.size w w') : Off w' b a xs := h.only (Only.of_below hb)

theorem write_none (a : Option Addr) (n cap : Nat) (w : World) :
    Calls Tryd.prog 11 #[.pointer none, .slice a n cap] w fun e w' => e = .returned (.tuple #[]) ∧ w = w' := by
  go_enter Tryd.func11, Tryd.ntmps11
  go_wp2
  refine bodyPost_ret (results_none rfl _ _ _) rfl ⟨rfl, rfl⟩

theorem cat_take_next (l : List ByteArray) (k : Nat) (h : k < l.length) : (cat (l.take k)).length + l[k].size ≤ (cat l).length := by
  have e : cat l = cat (l.take (k + 1)) ++ cat (l.drop (k + 1)) := by rw [cat, cat, cat, ← List.flatMap_append, List.take_append_drop]
  rw [e, List.length_append, take_snoc l k h, cat_snoc, List.length_append, size_list]
  omega

set_option maxHeartbeats 1000000 in
theorem write_any (b : Nat) (l0 : List UInt8) (a : Option Addr) (cap : Nat) (l : List ByteArray) (w : World) (hg : Glob w) (hb2 : 2 ≤ b) (hd : Dg w b l0) (hl : l.length ≤ 140737488355328) (ht : l0.length + (cat l).length < 1000000000000) (hr : Off w b a (strs l)) :
    Calls Tryd.prog 11 #[.pointer (some ⟨b, 0, none⟩), .slice a l.length cap] w fun e w' => e = .returned (.tuple #[]) ∧ Dg w' b (l0 ++ cat l) ∧ Only b w w' := by
  have HT : Big (l0.length + (cat l).length < 1000000000000) := ⟨ht⟩
  have HG := Lib.hid hg
  have HD := Lib.hid hd
  have HR := Lib.hid hr
  have HL : Big (l.length ≤ 140737488355328) := ⟨hl⟩
  clear ht hg hd hr hl
  go_enter Tryd.func11, Tryd.ntmps11
  go_wp2
  go_loopw [10] (fun i wr => ∃ k : Nat, k ≤ l.length ∧ i = .int .i64 k ∧ Dg wr b (l0 ++ cat (l.take k)) ∧ Only b w wr) (fun i _ => l.length - (intOf i).toNat)
  case atStart => exact ⟨0, by omega, rfl, by rw [List.take_zero, cat, List.flatMap_nil, List.append_nil]; exact HD.out, Only.refl b w⟩
  case round =>
    obtain ⟨k, hk, rfl, hd, ho⟩ := hrel
    by_cases hlt : k < l.length
    · obtain ⟨bl, off, rfl, hbl, hne, hc⟩ := (HR.out.only ho) (by rw [strs_length]; omega)
      have hcell : wr.cell? ⟨bl, off + k, none⟩ = some (.string l[k]) := hc k _ (strs_get l k hlt)
      have HT2 : Big ((l0 ++ cat (l.take k)).length + l[k].size < 1000000000000) := ⟨by have := HT.out; have := cat_take_next l k hlt; rw [List.length_append]; omega⟩
      have HCAT : Hid ((l0 ++ cat (l.take k)) ++ l[k].data.toList = l0 ++ cat (l.take (k + 1))) := Lib.hid (by rw [take_snoc l k hlt, cat_snoc, List.append_assoc])
      have HDK := Lib.hid hd
      have HO := Lib.hid ho
      have HGL := Lib.hid (HG.out.only ho hb2)
      obtain ⟨s, hs⟩ : ∃ s, s = l[k] := ⟨_, rfl⟩
      rw [← hs] at hcell HT2 HCAT
      have hw1 : IntKind.i64.wrap ((k : Int) + 1) = (k : Int) + 1 := IntWalk.i64_in _ (by have := HL.out; omega)
      clear hc hd ho hbl hne hs
      go_wp2_with (go_at_call 23; refine (sha_take_any b _ _ _ HGL.out hb2 HDK.out HT2.out).mono ?_; rintro e u1 ⟨rfl, d1, o1⟩; have D1 := Lib.hid d1; have O1 := Lib.hid o1; clear d1 o1)
      go_roundw
      case rel => exact ⟨k + 1, by omega, by go_num, by rw [← HCAT.out]; exact D1.out, HO.out.trans O1.out⟩
      case measure => simp [intOf]; omega
    · have HE : Hid (l.take k = l) := Lib.hid (List.take_of_length_le (by omega))
      have HDK : Hid (Dg wr b (l0 ++ cat l)) := Lib.hid (by rw [← HE.out]; rw [HE.out] at hd; rw [HE.out]; exact hd)
      have HO := Lib.hid ho
      clear hd ho
      go_wp2
      go_end0
      exact ⟨rfl, HDK.out, HO.out⟩

theorem len_any (b : Nat) (l : List UInt8) (w : World) (hd : Dg w b l) :
    Calls Tryd.prog 12 #[.pointer (some ⟨b, 0, none⟩)] w fun e w' => e = .returned (.int .i64 (l.length : Int)) ∧ w = w' := by
  obtain ⟨h, r, hr, hH⟩ := hd
  have hc := hr.cell 72
  rw [dig_last _ _ _ hH.eight hH.block] at hc
  clear hr hH
  go_enter Tryd.func12, Tryd.ntmps12
  go_wp2
  go_ret
  exact ⟨rfl, rfl⟩
theorem len_none (w : World) : Calls Tryd.prog 12 #[.pointer none] w fun e w' => e = .returned (.int .i64 0) ∧ w = w' := by
  go_enter Tryd.func12, Tryd.ntmps12
  go_wp2
  go_ret
  exact ⟨rfl, rfl⟩

theorem reset_any (b : Nat) (l : List UInt8) (w : World) (hd : Dg w b l) :
    Calls Tryd.prog 15 #[.pointer (some ⟨b, 0, none⟩)] w fun e w' => e = .returned (.tuple #[]) ∧ Dg w' b [] ∧ Only b w w' := by
  obtain ⟨h, r, hr, hH⟩ := hd
  obtain ⟨D, hD⟩ : ∃ D, D = dig0 := ⟨_, rfl⟩
  have HB : Hid (Tryd.prog.built 55 [] = some D.toArray) := Lib.hid (by rw [hD]; exact built_dig)
  have LD : Hid (D.length = 73) := Lib.hid (by rw [hD]; exact dig0_length)
  have LO : Hid ((dig h r l.length).length = 73) := Lib.hid (dig_length _ _ _ hH.eight hH.block)
  have H1 : Hid (D.all (·.oneCell') = true) := Lib.hid (by rw [hD]; exact dig0_one)
  have HD := Lib.hid hD
  have HR := Lib.hid hr
  clear hD hr hH
  go_enter Tryd.func15, Tryd.ntmps15
  go_wp2_with (first
    | ((with_reducible refine wpBuildZeroK D 55 HB.out ?_ ?_); rfl)
    | ((with_reducible refine HR.out.wpStoreK 55 D fits_dig LO.out LD.out H1.out ?_ ?_); rfl; intro u1 r1 o1 s1; have R1 := Lib.hid r1; have O1 := Lib.hid o1; clear r1 o1 s1))
  go_end0
  exact ⟨rfl, dg0 (by rw [← HD.out]; exact R1.out), O1.out⟩
theorem reset_none (w : World) : Calls Tryd.prog 15 #[.pointer none] w fun e w' => e = .returned (.tuple #[]) ∧ w = w' := by
  go_enter Tryd.func15, Tryd.ntmps15
  go_wp2
  go_end0
  exact ⟨rfl, rfl⟩

end Go.Proofs.YtmphjmbnfaimiaaDoor
