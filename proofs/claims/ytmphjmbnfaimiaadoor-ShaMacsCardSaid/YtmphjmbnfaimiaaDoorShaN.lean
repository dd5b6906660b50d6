/- ShaApart's walk. -/
import Derived.Test.YtmphjmbnfaimiaaDoorShaM
import Derived.Test.YtmphjmbnfaimiaaDoorTexts
import Derived.Test.YtmphjmbnfaimiaaDoorReads
namespace Go.Proofs.YtmphjmbnfaimiaaDoor
open Go.RowKit ShaMath

theorem Glob.step2 {w w' : World} (h : Glob w) (hb : Below w.heap.size w w') : Glob w' := h.step hb
theorem write_one (b : Nat) (l0 : List UInt8) (s : ByteArray) (w : World) (hg : Glob w) (hb2 : 2 ≤ b) (hd : Dg w b l0) (ht : Big (l0.length + s.size < 1000000000000)) :
    Calls Tryd.prog 11 #[.pointer (some ⟨b, 0, none⟩), .slice (some ⟨w.heap.size, 0, none⟩) 1 1] (w.alloc (.cells #[.string s] 9)) fun e w' => e = .returned (.tuple #[]) ∧ Dg w' b (l0 ++ s.data.toList) ∧ Only b w w' := by
  have hoff : Off (w.alloc (.cells #[.string s] 9)) b (some ⟨w.heap.size, 0, none⟩) (strs [s]) := Off.new (.string s) w 9 b hd.lt
  refine (write_any b l0 (some ⟨w.heap.size, 0, none⟩) 1 [s] (w.alloc (.cells #[.string s] 9)) (hg.step (alloc_below _ _)) hb2 (hd.step (alloc_below _ _)) (by show 1 ≤ _; omega) (by rw [cat_one, size_list]; exact ht.out) hoff).mono fun e w' h => ⟨h.1, ?_, (Only.of_below (alloc_below _ _)).trans h.2.2⟩
  have := h.2.1
  rwa [cat_one] at this
theorem dsum_big (b : Nat) (l : List UInt8) (w : World) (hg : Glob w) (hd : Dg w b l) (hn : Big (l.length < 100000000000)) :
    Calls Tryd.prog 13 #[.pointer (some ⟨b, 0, none⟩)] w fun e w' => e = .returned (.agg (bytes (sha l)).toArray) ∧ Below w.heap.size w w' := dsum_any b l w hg hd hn.out
theorem cat_take_bd (l : List ByteArray) (k : Nat) : (cat (l.take k)).length ≤ (cat l).length := cat_take_le l k
theorem long_no {l : List ByteArray} (h : longB l = false) : (cat l).length ≤ 3000 ∧ l.length ≤ 60 := by
  unfold longB at h
  simp at h
  omega

end Go.Proofs.YtmphjmbnfaimiaaDoor
