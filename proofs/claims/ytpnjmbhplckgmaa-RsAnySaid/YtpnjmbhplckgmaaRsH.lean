/- The contract of rs's Encode. -/
import Derived.Test.YtpnjmbhplckgmaaRsG
import Derived.Test.YtpnjmbhplckgmaaPolyH
namespace Go.Proofs.Ytpnjmbhplckgmaa
open Go.RowKit GfMath PolyMath RsMath
set_option linter.unusedVariables false

theorem enc_nil (v : Value) (w : World) : Calls Try.prog 13 #[.pointer none, v] w fun e w' => e = .returned (.tuple #[.slice none 0 0, .int .i64 1]) ∧ w = w' := by
  have HN := Lib.hid (par_nil v w)
  go_enter Try.func13, Try.ntmps13
  go_wp2_with (go_at_call 14; (with_reducible refine HN.out.mono ?_); rintro e w1 ⟨rfl, rfl⟩)
  go_ret2
  exact ⟨rfl, rfl⟩
theorem enc_bad (c b k p : Nat) (v : Value) (a : Option Addr) (n cap : Nat) (w : World) (h : Cor w c b k p v) (hn : n ≠ k) (hl : n ≤ 140737488355328) : Calls Try.prog 13 #[.pointer (some ⟨c, 0, none⟩), .slice a n cap] w fun e w' => e = .returned (.tuple #[.slice none 0 0, .int .i64 1]) ∧ w = w' := by
  have HN := Lib.hid (par_bad c b k p v a n cap w h hn hl)
  clear h hn hl
  go_enter Try.func13, Try.ntmps13
  go_wp2_with (go_at_call 14; (with_reducible refine HN.out.mono ?_); rintro e w1 ⟨rfl, rfl⟩)
  go_ret2
  exact ⟨rfl, rfl⟩
theorem own_base {w : World} {b1 b2 : Nat} {e : TypeId} {v : Value} {n : Nat} {xs : List Value} (h : w.ownsRow b2 e 1 v n xs) (hb : b1 ≤ b2) : w.ownsRow b1 e 1 v n xs :=
  ⟨h.1, h.2.imp id fun ⟨g, cap, cur, h1, h2, h3⟩ => ⟨g, cap, cur, h1, Nat.le_trans hb h2, h3⟩⟩
theorem enc_any (c b k p : Nat) (a : Option Addr) (cap : Nat) (X : List Nat) (w : World) (h : Cod w c b k p) (hl : X.length = k) (hby : By X) (hcap : X.length ≤ cap) (hcap2 : cap ≤ 140737488351232) (hr : Lies w w.heap.size a (u8s X)) :
    Calls Try.prog 13 #[.pointer (some ⟨c, 0, none⟩), .slice a k cap] w fun e w' =>
      (∃ g c2, e = .returned (.tuple #[.slice (some ⟨g, 0, none⟩) (k + p) c2, .int .i64 0]) ∧ w.heap.size ≤ g ∧ w'.ownsRow w.heap.size 5 1 (.slice (some ⟨g, 0, none⟩) (k + p) c2) (k + p) (u8s (code X p))) ∧ Below w.heap.size w w' := by
  have HN := Lib.hid (par_any c b k p a cap X w h hl hby hcap hr)
  have hp8 := parity_by X hby p
  have hpl := parity_length X hby p
  have hk1 := h.k1
  have hp1 := h.p1
  have hn := h.n255
  have HCO : Hid (∀ (u : World) (g : Nat), Below w.heap.size w u → Row u g 5 (u8s (parity X p)) → Calls Try.prog 26 #[.slice (some ⟨u.heap.size, 0, none⟩) 2 2] (u.alloc (.cells #[.slice a k cap, .slice (some ⟨g, 0, none⟩) p p] 22)) fun e w' => (∃ g c2, e = .returned (.slice (some ⟨g, 0, none⟩) (k + p) c2) ∧ w.heap.size ≤ g ∧ w'.ownsRow w.heap.size 5 1 (.slice (some ⟨g, 0, none⟩) (k + p) c2) (k + p) (u8s (code X p))) ∧ Below w.heap.size w w') := Lib.hid fun u g hu hrow => by
    have hpo := two_polys (u := u.alloc (.cells #[.slice a k cap, .slice (some ⟨g, 0, none⟩) p p] 22)) (A := X) (C := parity X p) (ca := cap) (cc := p) hby hp8 hcap (by omega) hcap2 (by omega) ((hr.step hu).step (alloc_below _ _)) ((row_lies hrow).step (alloc_below _ _))
    rw [hl, hpl] at hpo
    have hb2 : Below w.heap.size w (u.alloc (.cells #[.slice a k cap, .slice (some ⟨g, 0, none⟩) p p] 22)) := hu.next (alloc_below _ _)
    have hfl : [X, parity X p].flatten = code X p := by simp [code]
    have := concat_any (some ⟨u.heap.size, 0, none⟩) 2 _ [X, parity X p] _ hpo (by simp) (by intro l hl; simp at hl; rcases hl with rfl | rfl <;> omega) (by simp) (by rw [hfl, code_length X hby]; omega) (Lies.new [.slice a k cap, .slice (some ⟨g, 0, none⟩) p p] u _)
    rw [hfl, code_length X hby, hl] at this
    exact this.mono fun e w' ⟨⟨g, c2, h1, h2, h3⟩, h4⟩ => ⟨⟨g, c2, h1, Nat.le_trans hb2.size h2, own_base h3 hb2.size⟩, hb2.next h4⟩
  obtain ⟨T, hT⟩ : ∃ T, code X p = T := ⟨_, rfl⟩
  obtain ⟨Y, hY⟩ : ∃ Y, parity X p = Y := ⟨_, rfl⟩
  rw [hT] at HCO ⊢
  rw [hY] at HCO HN
  obtain ⟨m, hm⟩ : ∃ m, k + p = m := ⟨_, rfl⟩
  rw [hm] at HCO ⊢
  clear h hr hby hp8 hT hY hm hpl
  go_enter Try.func13, Try.ntmps13
  go_wp2_with (first
    | (go_at_call 14; (with_reducible refine HN.out.mono ?_); rintro e w1 ⟨⟨g1, rfl, _, r1⟩, b1⟩; have R1 := Lib.hid r1; have B1 := Lib.hid b1; clear r1 b1)
    | (go_at_call 26; (with_reducible refine (HCO.out w1 g1 B1.out R1.out).mono ?_); rintro e w2 ⟨⟨g2, c2, rfl, hg2, o2⟩, b2⟩; have G2 := Lib.hid hg2; have O2 := Lib.hid o2; have B2 := Lib.hid b2; clear hg2 o2 b2))
  go_ret2
  exact ⟨⟨g2, c2, rfl, G2.out, O2.out⟩, B2.out⟩

end Go.Proofs.Ytpnjmbhplckgmaa
