/- Towards PolyFits: what is fitted is alone; places that stand there twice; append that leaves what was there readable. -/
import Derived.Test.YtpkjannlndnfdaaPolyZB
import Derived.Test.YtpkjannlndnfdaaPolyT
import Derived.Maps.Own
import Derived.Maps.Views
namespace Go.Proofs.Ytpkjannlndnfdaa
open Go.RowKit GfMath PolyMath Go.Maps
set_option linter.unusedVariables false

theorem fit_unique {n : Nat} {p A xs : List Nat} (hp : By p) (hA : By A) (hpc : PolyMath.Can p) (hpl : p.length ≤ n) (hAl : (beh A).length ≤ n) (hx : By xs) (hxl : xs.length = n) (hnd : xs.Nodup) (he : ∀ x ∈ xs, ev p x = ev A x) : p = beh A := by
  have hD8 : By (hi n fun k => cf p k ^^^ cf A k) := hi_by fun k => xor_lt (hp.cf k) (hA.cf k)
  have hz := roots_zero n (hi n fun k => cf p k ^^^ cf A k) xs hD8 hx (by rw [hi_length]; exact Nat.le_refl _) hxl hnd fun x hxm => by
    have hx8 := hx x hxm
    have e1 : ev A x = E (cf A) n x := by
      rw [← ev_beh hx8 hA, ev_E_le hx8 hA.beh hAl]
      exact E_congr fun k _ => cf_beh A k
    have e2 : ev (hi n fun k => cf p k ^^^ cf A k) x = E (fun k => cf p k ^^^ cf A k) n x := by
      rw [ev_E_le hx8 hD8 (N := n) (by rw [hi_length]; exact Nat.le_refl _)]
      exact E_congr fun k hk => by rw [cf_hi, if_pos hk]
    rw [e2, E_xor, ← ev_E_le hx8 hp hpl, ← e1, he x hxm, Nat.xor_self]
  have hk : ∀ k, cf p k = cf A k := fun k => by
    by_cases h : k < n
    · have h1 := cf_hi n (fun k => cf p k ^^^ cf A k) k
      rw [if_pos h] at h1
      have h2 : cf (hi n fun k => cf p k ^^^ cf A k) k = 0 := by
        rw [cf_in _ _ (by rw [hi_length]; exact h), sq_get _ _ (by rw [hi_length]; omega)]
        exact hz _ (List.getElem_mem _)
      rw [h2] at h1
      have h3 : cf p k ^^^ cf A k ^^^ cf A k = cf A k := by rw [← h1, Nat.zero_xor]
      rwa [Nat.xor_assoc, Nat.xor_self, Nat.xor_zero] at h3
    · rw [cf_out p k (by omega), ← cf_beh A k, cf_out (beh A) k (by omega)]
  exact can_eq hpc (beh_can A) fun k => by rw [hk, cf_beh]

theorem once_nodup {X : List Nat} (hX : By X) : Once X X.length ↔ X.Nodup := by
  have hroot : ∀ j, j < X.length → (ev (rt (X.take j)) (sq X j) = 0 ↔ sq X j ∈ X.take j) := fun j hj => by
    have hxt : By (X.take j) := fun x h => hX x (List.mem_of_mem_take h)
    rw [(rt_roots (X.take j) hxt (hX.sq j)).1]
    exact ⟨ct_mem _ _, ct_pos _ _⟩
  constructor
  · intro h
    rw [List.nodup_iff_pairwise_ne, List.pairwise_iff_getElem]
    intro i j hi hj hij e
    refine h j hj ((hroot j hj).2 ?_)
    rw [sq_get X j hj, ← e]
    exact List.mem_iff_getElem.2 ⟨i, by simp; omega, by simp⟩
  · intro h j hj e
    have hm := (hroot j hj).1 e
    obtain ⟨i, hi, hie⟩ := List.mem_iff_getElem.1 hm
    rw [List.length_take] at hi
    rw [List.getElem_take, sq_get X j hj] at hie
    rw [List.nodup_iff_pairwise_ne, List.pairwise_iff_getElem] at h
    exact h i j (by omega) hj (by omega) hie

section
variable {P : Program}
/-- append(v, u): v's own numbers stay where they were, whatever comes. -/
theorem run_append_keep (w : World) (base : Nat) (t ty e : TypeId) (i : TypeInfo) (z : Value) (bytes : Nat) (ht : P.underlying t = some (.slice e)) (hi : P.info? e = some i) (hz : i.zero = some z)
    (hsize : i.size = 1) (hby : i.bytes = bytes) (hzs : z.cells.size = 1) (v : Value) (n : Nat) (xs : List Value) (hown : w.ownsRow base e 1 v n xs)
    (a : Addr) (c : Nat) (u : Value) (hnews : ∀ j x, [u][j]? = some x → w.cell? (a.add j) = some x) (h1 : u.oneCell' = true) (h63 : n + 1 ≤ maxLen) (hbytes : (n + 1) * bytes ≤ 140737488355328) :
    ∃ a' c' w', (Builtin.append_ #[t, t] ty #[v, .slice (some a) 1 c]).run P w = .ok (.slice a' (n + 1) c') w' ∧ w'.ownsRow base e 1 v n xs ∧ w.grownBy w' v.ownBlock := by
  subst hby
  have hl : [u].length = 1 * i.size := by rw [hsize]; rfl
  have h1' : ∀ x ∈ [u], x.oneCell' = true := fun x hx => by simp at hx; rw [hx]; exact h1
  have h63' := h63
  simp only [maxLen] at h63'
  rcases hown.2 with ⟨rfl, rfl⟩ | ⟨g, cap, cur, rfl, hbg, hg, hnc, hcm, hcs, htake⟩
  · have hr := run_append_nil (P := P) w t ty e i z ht hi hz a 1 c [u] hl hnews (by omega) (by omega) (by have hb := hbytes; simp only [Nat.zero_add] at hb; omega)
    have hx : xs = [] := List.eq_nil_of_length_eq_zero (by simpa using hown.1)
    subst hx
    exact ⟨_, _, _, hr, World.ownsRow_nil _ base e 1, ⟨rfl, rfl, rfl, by simp, fun k hk _ => Below.heap_alloc w.drew _ k hk⟩⟩
  · by_cases hroom : n + 1 ≤ cap
    · have hfit : n * i.size + [u].length ≤ cur.size := by rw [hsize, hcs]; simp; omega
      have hr := run_append_room (P := P) w t ty e i ht hi g n cap cur hg a 1 c [u] hl hnews h1' hroom hfit
      refine ⟨_, _, _, hr, ⟨hown.1, .inr ⟨g, cap, _, rfl, hbg, setRow_heap w g cur _ e _ hg, hnc, hcm, ?_, ?_⟩⟩, ⟨rfl, rfl, rfl, by simp, fun k _ hk => setRow_other w g k _ (fun e => hk (by simp [Value.ownBlock, e]))⟩⟩
      · rw [hsize] at hfit ⊢
        simp only [List.size_toArray, List.length_append, List.length_take, List.length_drop, Array.length_toList, List.length_singleton] at hfit ⊢
        omega
      · rw [Nat.mul_one] at htake ⊢
        rw [hsize, Nat.mul_one, List.append_assoc, List.take_left' (by rw [List.length_take, Array.length_toList]; omega)]
        exact htake
    · have holds : ∀ j x, xs[j]? = some x → w.cell? ((⟨g, 0, none⟩ : Addr).add j) = some x := hown.cells (g := g) rfl
      have hr := run_append_grow (P := P) w t ty e i z ht hi hz ⟨g, 0, none⟩ n cap xs (by rw [hsize]; exact hown.1) holds a 1 c [u] hl hnews (by omega) (by omega) (growslice_fits (by omega) hbytes)
      exact ⟨_, _, _, hr, ⟨hown.1, .inr ⟨g, cap, cur, rfl, hbg, (Below.heap_alloc w.drew _ g (Array.getElem?_eq_some_iff.1 hg).1).trans hg, hnc, hcm, hcs, htake⟩⟩, ⟨rfl, rfl, rfl, by simp, fun k hk _ => Below.heap_alloc w.drew _ k hk⟩⟩
theorem wpAppendKeep {ops : Array Oper} {rest : List Oper} {o : Oper} {a : Act} {w : World} {Q : Exit → Act → World → Prop} {base n : Nat} {T e : TypeId} {v u : Value} {xs : List Value} {p : Option Addr} (c : Nat)
    (hown : w.ownsRow base e 1 v n xs) (hT : P.underlying T = some (.slice e)) (he : One P e) (hs : Lies w w.heap.size p [u]) (h1 : u.oneCell' = true) (hn : Big (n + 1 ≤ 1099511627776))
    (ho : appendOf o a = some (T, T, v, .slice p 1 c))
    (k : ∀ a' c' w', w'.ownsRow base e 1 v n xs → w.grownBy w' v.ownBlock → wpList P ops Q rest (a.put o.dst (.slice a' (n + 1) c')) w') : wpList P ops Q (o :: rest) a w := by
  obtain ⟨hg, x, y, hop, hx, hy⟩ := appendOf_spec ho
  obtain ⟨i, z, hi, hz, h2, h3, h4⟩ := he.row
  obtain ⟨b, off, rfl, hb, hc⟩ := hs (by simp)
  obtain ⟨a', c', w', hr, r1, r2⟩ := run_append_keep (P := P) w base T o.type e i z i.bytes hT hi hz h2 rfl h3 v n xs hown ⟨b, off, none⟩ c u (fun j x hj => by rw [Addr.add_mid]; exact hc j x hj) h1 (by have := hn.out; unfold maxLen; omega) (Nat.le_trans (Nat.mul_le_mul hn.out h4) (by omega))
  refine wpList_plain hg fun K hK => ?_
  unfold Oper.wp execOp
  simp only [hop, resolve, invoke, builtin, Sem.run_bind, Sem.run_pure, Result.andThen_ok, List.map_toArray, List.map_cons, List.map_nil, hx, hy, hr]
  exact hK _ _ (k a' c' w' r1 r2)
end

end Go.Proofs.Ytpkjannlndnfdaa
