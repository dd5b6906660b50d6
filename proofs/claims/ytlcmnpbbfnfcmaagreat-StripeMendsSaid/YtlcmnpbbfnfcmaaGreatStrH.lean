/- The contract of stripe's Read. -/
import Derived.Test.YtlcmnpbbfnfcmaaGreatStrG
namespace Go.Proofs.YtlcmnpbbfnfcmaaGreat
open Go.RowKit CrcMath GfMath PolyMath RsMath SolMath GeoMath
set_option linter.unusedVariables false
set_option maxRecDepth 100000

def nilFound : List Value := [.slice none 0 0, .slice none 0 0]
theorem found_zero : ∀ u, (zeroValue 42).run Tryz.prog u = .ok (.agg nilFound.toArray) u := fun u => by kernel_rfl
theorem found_fits : Fits Tryz.prog 42 2 := ⟨⟨_, Tryz.underlying42, rfl⟩, by kernel_rfl⟩
theorem found_built : Tryz.prog.built 42 [] = some nilFound.toArray := by kernel_rfl

theorem Lies.notIn {w : World} {B g : Nat} {t : TypeId} {a : Option Addr} {xs l : List Value} (h : Lies w B a xs) (hr : Row w g t l) (hne : ∀ (j : Nat) (v : Value), l[j]? = some v → ∀ u ∈ xs, u ≠ v) : ∀ x, a = some x → 0 < xs.length → x.block ≠ g := by
  intro x hx h0 he
  obtain ⟨b2, off, e, hlt, hc⟩ := h h0
  rw [hx] at e
  cases e
  have h1 := hc 0 xs[0] (by rw [List.getElem?_eq_getElem h0])
  rw [show b2 = g from he, hr.cell] at h1
  exact hne _ _ h1 _ (List.getElem_mem h0) rfl
/-- What Read tells of these sectors. -/
def ReadP (n p : Nat) (S : List (List UInt8)) (e : Ending) (w' : World) : Prop :=
  if okTo n p (seenF S) ((erasedF S n).map fun x : Nat => (x : Int)) 60 = true then
    ∃ g vs, e = .returned (.tuple #[.agg #[.slice (some ⟨g, 0, none⟩) n n, vs], .int .i64 0]) ∧ Row w' g 47 (bytes (grid n (mdF n p (seenF S) ((erasedF S n).map fun x : Nat => (x : Int))))) ∧
      IReads w' vs (unlF n (seenF S) (mdF n p (seenF S) ((erasedF S n).map fun x : Nat => (x : Int))) (erasedF S n))
  else e = .returned (.tuple #[.agg nilFound.toArray, .int .i64 8])

/-- The same, and the memory is new. -/
def ReadN (B n p : Nat) (S : List (List UInt8)) (e : Ending) (w' : World) : Prop :=
  if okTo n p (seenF S) ((erasedF S n).map fun x : Nat => (x : Int)) 60 = true then
    ∃ g vs, e = .returned (.tuple #[.agg #[.slice (some ⟨g, 0, none⟩) n n, vs], .int .i64 0]) ∧ (Row w' g 47 (bytes (grid n (mdF n p (seenF S) ((erasedF S n).map fun x : Nat => (x : Int))))) ∧ B ≤ g) ∧
      IReads w' vs (unlF n (seenF S) (mdF n p (seenF S) ((erasedF S n).map fun x : Nat => (x : Int))) (erasedF S n)) ∧ (∀ q, vs.ownBlock = some q → B ≤ q)
  else e = .returned (.tuple #[.agg nilFound.toArray, .int .i64 8])
theorem ReadN.old {B n p : Nat} {S : List (List UInt8)} {e : Ending} {w' : World} (h : ReadN B n p S e w') : ReadP n p S e w' := by
  unfold ReadN at h
  unfold ReadP
  split
  · rw [if_pos (by assumption)] at h
    obtain ⟨g, vs, h1, ⟨h2, _⟩, h3, _⟩ := h
    exact ⟨g, vs, h1, h2, h3⟩
  · rw [if_neg (by assumption)] at h
    exact h

theorem str_read_nil (v : Value) (w : World) : Calls Tryz.prog 10 #[.pointer none, v] w fun e w' => e = .returned (.tuple #[.agg nilFound.toArray, .int .i64 1]) ∧ Below w.heap.size w w' := by
  have HN := Lib.hid str_none_nil
  have HZ := Lib.hid found_zero
  have HBU := Lib.hid found_built
  have HL : Hid (nilFound.length = 2) := Lib.hid rfl
  have H1 : Hid (nilFound.all (·.oneCell') = true) := Lib.hid rfl
  generalize nilFound = NF at *
  go_enter Tryz.func10, Tryz.ntmps10
  go_wp2_with (first
    | ((with_reducible refine wpAllocK (w := w) NF 42 HZ.out ?_ ?_); rfl; intro u1 r1 b1 s1; have R1 := Lib.hid r1; have B1 := Lib.hid b1; clear r1 b1 s1)
    | (go_at_call 20; (with_reducible refine (HN.out u1).mono ?_); rintro e u2 ⟨rfl, b2⟩; have R2 := Lib.hid (R1.out.step b2); have B2 := Lib.hid (B1.out.next b2); clear b2)
    | ((with_reducible refine wpBuildZeroK NF 42 HBU.out ?_ ?_); rfl)
    | ((with_reducible refine R2.out.wpStoreK 42 NF found_fits HL.out HL.out H1.out ?_ ?_); rfl; intro u3 r3 o3 s3; have R3 := Lib.hid r3; have B3 : Hid (Below w.heap.size w u3) := Lib.hid (B2.out.trans (o3.below (Nat.le_refl _) B2.out.size)); clear r3 o3 s3))
  exact bodyPost_ret (R3.out.resultT rfl _ _ rfl Tryz.underlying42 rfl (by rw [HL.out]; exact found_fits.size)) rfl ⟨rfl, B3.out⟩
theorem str_read_bad (c cc b sb k p s : Nat) (a : Option Addr) (n cap : Nat) (w : World) (h : Cdr w c cc b sb k p s) (hn : n ≠ k + p) :
    Calls Tryz.prog 10 #[.pointer (some ⟨c, 0, none⟩), .slice a n cap] w fun e w' => e = .returned (.tuple #[.agg nilFound.toArray, .int .i64 1]) ∧ Below w.heap.size w w' := by
  have HN : Hid (∀ u, Below w.heap.size w u → Calls Tryz.prog 20 #[.pointer (some ⟨c, 0, none⟩)] u fun e w' => e = .returned (.bool false) ∧ Below u.heap.size u w') := Lib.hid fun u hu => str_none_any c cc b sb k p s u (h.step hu)
  have HW : Hid (∀ u, Below w.heap.size w u → Calls Tryz.prog 22 #[.pointer (some ⟨c, 0, none⟩)] u fun e w' => e = .returned (.int .i64 ((k + p : Nat) : Int)) ∧ Below u.heap.size u w') := Lib.hid fun u hu => str_wide_any c cc b sb k p s u (h.step hu)
  have HZ := Lib.hid found_zero
  have HBU := Lib.hid found_built
  have HL : Hid (nilFound.length = 2) := Lib.hid rfl
  have H1 : Hid (nilFound.all (·.oneCell') = true) := Lib.hid rfl
  obtain ⟨m, hm⟩ : ∃ m, k + p = m := ⟨_, rfl⟩
  rw [hm] at hn HW
  have h1 : ((n : Int) != (m : Int)) = true := by simp; omega
  have h2 : ((n : Int) == (m : Int)) = false := by simp; omega
  have h3 : ¬ (n : Int) = (m : Int) := by omega
  generalize nilFound = NF at *
  clear h hn hm
  go_enter Tryz.func10, Tryz.ntmps10
  go_wp2_with (first
    | ((with_reducible refine wpAllocK (w := w) NF 42 HZ.out ?_ ?_); rfl; intro u1 r1 b1 s1; have R1 := Lib.hid r1; have B1 := Lib.hid b1; clear r1 b1 s1)
    | (go_at_call 20; (with_reducible refine (HN.out u1 B1.out).mono ?_); rintro e u2 ⟨rfl, b2⟩; have R2 := Lib.hid (R1.out.step b2); have B2 := Lib.hid (B1.out.next b2); clear b2)
    | (go_at_call 22; (with_reducible refine (HW.out u2 B2.out).mono ?_); rintro e u3 ⟨rfl, b3⟩; have R3 := Lib.hid (R2.out.step b3); have B3 := Lib.hid (B2.out.next b3); clear b3)
    | ((with_reducible refine wpBuildZeroK NF 42 HBU.out ?_ ?_); rfl)
    | ((with_reducible refine R3.out.wpStoreK 42 NF found_fits HL.out HL.out H1.out ?_ ?_); rfl; intro u4 r4 o4 s4; have R4 := Lib.hid r4; have B4 : Hid (Below w.heap.size w u4) := Lib.hid (B3.out.trans (o4.below (Nat.le_refl _) B3.out.size)); clear r4 o4 s4))
  exact bodyPost_ret (R4.out.resultT rfl _ _ rfl Tryz.underlying42 rfl (by rw [HL.out]; exact found_fits.size)) rfl ⟨rfl, B4.out⟩

set_option maxHeartbeats 1000000 in
theorem str_read_new (c cc b sb k p s : Nat) (a : Option Addr) (cap n : Nat) (L : List ByteArray) (w : World) (h : Cdr w c cc b sb k p s) (hn : n = k + p) (hL : L.length = n) (hLs : ∀ x ∈ L, x.size ≤ 140737488355328) (hr : Lies w w.heap.size a (strs L)) :
    Calls Tryz.prog 10 #[.pointer (some ⟨c, 0, none⟩), .slice a n cap] w fun e w' => ReadN w.heap.size n p (tl L) e w' ∧ Below w.heap.size w w' := by
  have HN : Hid (∀ u, Below w.heap.size w u → Calls Tryz.prog 20 #[.pointer (some ⟨c, 0, none⟩)] u fun e w' => e = .returned (.bool false) ∧ Below u.heap.size u w') := Lib.hid fun u hu => str_none_any c cc b sb k p s u (h.step hu)
  have HW : Hid (∀ u, Below w.heap.size w u → Calls Tryz.prog 22 #[.pointer (some ⟨c, 0, none⟩)] u fun e w' => e = .returned (.int .i64 (n : Int)) ∧ Below u.heap.size u w') := Lib.hid fun u hu => by rw [hn]; exact str_wide_any c cc b sb k p s u (h.step hu)
  have hn14 : n ≤ 14 := by have := h.k8; have := h.p6; omega
  have HOP : Hid (∀ u, Below w.heap.size w u → Calls Tryz.prog 26 #[.pointer (some ⟨c, 0, none⟩), .slice a n cap] u fun e w' =>
      (∃ g vs, e = .returned (.tuple #[.slice (some ⟨g, 0, none⟩) n n, vs]) ∧ u.heap.size ≤ g ∧ Row w' g 47 (bytes (grid n (seenF (tl L)))) ∧ IReads w' vs (erasedF (tl L) n)) ∧ Below u.heap.size u w') := Lib.hid fun u hu => str_open_any c cc b sb k p s a cap n L u (h.step hu) hL (by omega) hLs ((hr.below hu).mono hu.size)
  obtain ⟨S, hS⟩ : ∃ S, tl L = S := ⟨_, rfl⟩
  rw [hS] at HOP ⊢
  have hEl := erasedF_le S n
  have hEn := erasedF_lt S n
  have HRP : Hid (∀ e w', (okTo n p (seenF S) ((erasedF S n).map fun x : Nat => (x : Int)) 60 = true → ∃ g vs, e = .returned (.tuple #[.agg #[.slice (some ⟨g, 0, none⟩) n n, vs], .int .i64 0]) ∧ (Row w' g 47 (bytes (grid n (mdF n p (seenF S) ((erasedF S n).map fun x : Nat => (x : Int))))) ∧ w.heap.size ≤ g) ∧
      IReads w' vs (unlF n (seenF S) (mdF n p (seenF S) ((erasedF S n).map fun x : Nat => (x : Int))) (erasedF S n)) ∧ (∀ q, vs.ownBlock = some q → w.heap.size ≤ q)) → (okTo n p (seenF S) ((erasedF S n).map fun x : Nat => (x : Int)) 60 = false → e = .returned (.tuple #[.agg nilFound.toArray, .int .i64 8])) → ReadN w.heap.size n p S e w') := Lib.hid fun e w' h1 h2 => by
    unfold ReadN
    cases ho : okTo n p (seenF S) ((erasedF S n).map fun x : Nat => (x : Int)) 60 with
    | true => rw [if_pos rfl]; exact h1 ho
    | false => rw [if_neg (by simp)]; exact h2 ho
  have HME0 : Hid (∀ u a2 c2 ea ecap, Below w.heap.size w u → Lies u u.heap.size a2 (bytes (grid n (seenF S))) → Lies u u.heap.size ea (nats (erasedF S n)) → Calls Tryz.prog 27 #[.pointer (some ⟨c, 0, none⟩), .slice a2 n c2, .slice ea (erasedF S n).length ecap] u fun e w' => MendP u.heap.size n p (seenF S) ((erasedF S n).map fun x : Nat => (x : Int)) e w' ∧ Below u.heap.size u w') := Lib.hid fun u a2 c2 ea ecap h1 h2 h3 => str_mend_any c cc b sb k p s a2 c2 n (seenF S) ea ecap (erasedF S n) u (h.step h1) hn h2 h3 (by omega) hEn
  have HUN0 : Hid (∀ u a1 c1 a2 c2 ea ecap, ∀ F : Fb, Lies u u.heap.size a1 (bytes (grid n (seenF S))) → Lies u u.heap.size a2 (bytes (grid n F)) → Lies u u.heap.size ea (nats (erasedF S n)) → Calls Tryz.prog 28 #[.slice a1 n c1, .slice a2 n c2, .slice ea (erasedF S n).length ecap] u fun e w' => (∃ v, e = .returned v ∧ IReads w' v (unlF n (seenF S) F (erasedF S n)) ∧ (∀ q, v.ownBlock = some q → u.heap.size ≤ q)) ∧ Below u.heap.size u w') := Lib.hid fun u a1 c1 a2 c2 ea ecap F h1 h2 h3 => str_unlike_new a1 a2 c1 c2 n (seenF S) F ea ecap (erasedF S n) u (by omega) h1 h2 h3 (by omega)
  obtain ⟨E, hE⟩ : ∃ E, erasedF S n = E := ⟨_, rfl⟩
  rw [hE] at HOP HRP HME0 HUN0
  obtain ⟨er, her⟩ : ∃ er, E.map (fun x : Nat => (x : Int)) = er := ⟨_, rfl⟩
  rw [her] at HRP HME0
  obtain ⟨F0, hF0⟩ : ∃ F, seenF S = F := ⟨_, rfl⟩
  rw [hF0] at HOP HRP HME0 HUN0
  have HZ := Lib.hid found_zero
  have HBU := Lib.hid found_built
  have HL : Hid (nilFound.length = 2) := Lib.hid rfl
  have H1 : Hid (nilFound.all (·.oneCell') = true) := Lib.hid rfl
  have h2 : ((n : Int) == (n : Int)) = true := by simp
  have hni : (n : Int) ≤ 14 := by omega
  unfold MendP at HME0
  obtain ⟨ok, hok⟩ : ∃ ok, okTo n p F0 er 60 = ok := ⟨_, rfl⟩
  rw [hok] at HME0 HRP
  have HNI : Hid (∀ (j : Nat) (v : Value), nilFound[j]? = some v → ∀ l : List Nat, ∀ u ∈ nats l, u ≠ v) := Lib.hid fun j v hv l u hu e => by
    obtain ⟨y, _, rfl⟩ := List.mem_map.1 hu
    match j, hv with
    | 0, hv => simp [nilFound] at hv; rw [← hv] at e; cases e
    | 1, hv => simp [nilFound] at hv; rw [← hv] at e; cases e
    | _ + 2, hv => simp [nilFound] at hv
  generalize nilFound = NF at *
  clear h hn hL hLs hr hn14 hS hEl hEn hE her hF0 hok
  cases ok
  · have HRB : Hid (∀ w', ReadN w.heap.size n p S (.returned (.tuple #[.agg NF.toArray, .int .i64 8])) w') := Lib.hid fun w' => HRP.out _ w' (fun h => by cases h) fun _ => rfl
    clear HRP
    go_enter Tryz.func10, Tryz.ntmps10
    go_wp2_with (first
      | ((with_reducible refine wpAllocK (w := w) NF 42 HZ.out ?_ ?_); rfl; intro u1 r1 b1 s1; have R1 := Lib.hid r1; have B1 := Lib.hid b1; clear r1 b1 s1)
      | (go_at_call 20; (with_reducible refine (HN.out u1 B1.out).mono ?_); rintro e u2 ⟨rfl, b2⟩; have R2 := Lib.hid (R1.out.step b2); have B2 := Lib.hid (B1.out.next b2); clear b2)
      | (go_at_call 22; (with_reducible refine (HW.out u2 B2.out).mono ?_); rintro e u3 ⟨rfl, b3⟩; have R3 := Lib.hid (R2.out.step b3); have B3 := Lib.hid (B2.out.next b3); clear b3)
      | (go_at_call 26; (with_reducible refine (HOP.out u3 B3.out).mono ?_); rintro e u4 ⟨⟨g, vs, rfl, q4, r4, ea, ecap, rfl, i4, l4⟩, b4⟩; have R4 := Lib.hid (R3.out.step b4); have B4 := Lib.hid (B3.out.next b4); have S4 := Lib.hid (row_lies r4); have E4 := Lib.hid l4; clear q4 r4 i4 l4 b4)
      | (go_at_call 27; (with_reducible refine (HME0.out u4 _ _ _ _ B4.out S4.out E4.out).mono ?_); rintro e u5 ⟨h5, b5⟩; rw [if_neg (by simp)] at h5; subst h5; have R5 := Lib.hid (R4.out.step b5); have B5 := Lib.hid (B4.out.next b5); clear b5)
      | ((with_reducible refine wpBuildZeroK NF 42 HBU.out ?_ ?_); rfl)
      | ((with_reducible refine R5.out.wpStoreK 42 NF found_fits HL.out HL.out H1.out ?_ ?_); rfl; intro u6 r6 o6 s6; have R6 := Lib.hid r6; have B6 : Hid (Below w.heap.size w u6) := Lib.hid (B5.out.trans (o6.below (Nat.le_refl _) B5.out.size)); clear r6 o6 s6))
    exact bodyPost_ret (R6.out.resultT (q := 5) rfl _ _ rfl Tryz.underlying42 rfl (by rw [HL.out]; exact found_fits.size)) rfl ⟨HRB.out _, B6.out⟩
  · have HRB : Hid (∀ w' g vs, Row w' g 47 (bytes (grid n (mdF n p F0 er))) → w.heap.size ≤ g → IReads w' vs (unlF n F0 (mdF n p F0 er) E) → (∀ q, vs.ownBlock = some q → w.heap.size ≤ q) → ReadN w.heap.size n p S (.returned (.tuple #[.agg [.slice (some ⟨g, 0, none⟩) n n, vs].toArray, .int .i64 0])) w') := Lib.hid fun w' g vs h1 h1b h2 h2b => HRP.out _ w' (fun _ => ⟨g, vs, rfl, ⟨h1, h1b⟩, h2, h2b⟩) fun h => by cases h
    clear HRP
    generalize mdF n p F0 er = F1 at *
    go_enter Tryz.func10, Tryz.ntmps10
    go_wp2_with (first
      | ((with_reducible refine wpAllocK (w := w) NF 42 HZ.out ?_ ?_); rfl; intro u1 r1 b1 s1; have R1 := Lib.hid r1; have B1 := Lib.hid b1; have S1 := Lib.hid s1; clear r1 b1 s1)
      | (go_at_call 20; (with_reducible refine (HN.out u1 B1.out).mono ?_); rintro e u2 ⟨rfl, b2⟩; have R2 := Lib.hid (R1.out.step b2); have B2 := Lib.hid (B1.out.next b2); clear b2)
      | (go_at_call 22; (with_reducible refine (HW.out u2 B2.out).mono ?_); rintro e u3 ⟨rfl, b3⟩; have R3 := Lib.hid (R2.out.step b3); have B3 := Lib.hid (B2.out.next b3); clear b3)
      | (go_at_call 26; (with_reducible refine (HOP.out u3 B3.out).mono ?_); rintro e u4 ⟨⟨g, vs, rfl, q4, r4, ea, ecap, rfl, i4, l4⟩, b4⟩; have R4 := Lib.hid (R3.out.step b4); have B4 := Lib.hid (B3.out.next b4); have S4 := Lib.hid (row_lies r4); have E4 := Lib.hid l4; clear q4 r4 i4 l4 b4)
      | (go_at_call 27; (with_reducible refine (HME0.out u4 _ _ _ _ B4.out S4.out E4.out).mono ?_); rintro e u5 ⟨h5, b5⟩; (rw [if_pos trivial] at h5; obtain ⟨g5, rfl, q5, r5⟩ := h5; have R5 := Lib.hid (R4.out.step b5); have B5 := Lib.hid (B4.out.next b5); have S5 := Lib.hid (S4.out.step b5); have E5 := Lib.hid (E4.out.step b5); have M5 := Lib.hid r5; have NE5 : Hid (g5 ≠ w.heap.size) := Lib.hid (by have := R4.out.lt; omega); have G5 : Hid (w.heap.size ≤ g5) := Lib.hid (Nat.le_trans B4.out.size q5); clear q5 r5 b5))
      | (go_at_call 28; (with_reducible refine (HUN0.out u5 _ _ _ _ _ _ F1 S5.out (row_lies M5.out) E5.out).mono ?_); (rintro e u6 ⟨⟨v6, rfl, ⟨a6, c6, rfl, k6, l6⟩, n6⟩, b6⟩; have N6 : Hid (∀ q, (Value.slice a6 (unlF n F0 F1 E).length c6).ownBlock = some q → w.heap.size ≤ q) := Lib.hid fun q hq => Nat.le_trans B5.out.size (n6 q hq); have R6 := Lib.hid (R5.out.step b6); have B6 := Lib.hid (B5.out.next b6); have M6 := Lib.hid (M5.out.step b6); have K6 := Lib.hid k6; have L6 := Lib.hid l6; clear k6 l6 n6 b6))
      | ((with_reducible refine R6.out.wpStoreK 42 [.slice (some ⟨g5, 0, none⟩) n n, .slice a6 (unlF n F0 F1 E).length c6] found_fits HL.out rfl rfl ?_ ?_); rfl; intro u7 r7 o7 s7; have R7 := Lib.hid r7; have O7 := Lib.hid o7; have B7 : Hid (Below w.heap.size w u7) := Lib.hid (B6.out.trans (o7.below (Nat.le_refl _) B6.out.size)); clear r7 o7 s7))
    have M7 := Lib.hid (M6.out.only O7.out NE5.out)
    have HI : Hid (IReads u7 (.slice a6 (unlF n F0 F1 E).length c6) (unlF n F0 F1 E)) := Lib.hid ⟨a6, c6, rfl, K6.out, L6.out.onlyNe O7.out (L6.out.notIn R6.out fun j v hv u hu => HNI.out j v hv _ u hu)⟩
    exact bodyPost_ret (R7.out.resultT (q := 5) rfl _ _ rfl Tryz.underlying42 rfl found_fits.size) rfl ⟨HRB.out _ _ _ M7.out G5.out HI.out N6.out, B7.out⟩
theorem str_read_any (c cc b sb k p s : Nat) (a : Option Addr) (cap n : Nat) (L : List ByteArray) (w : World) (h : Cdr w c cc b sb k p s) (hn : n = k + p) (hL : L.length = n) (hLs : ∀ x ∈ L, x.size ≤ 140737488355328) (hr : Lies w w.heap.size a (strs L)) :
    Calls Tryz.prog 10 #[.pointer (some ⟨c, 0, none⟩), .slice a n cap] w fun e w' => ReadP n p (tl L) e w' ∧ Below w.heap.size w w' :=
  (str_read_new c cc b sb k p s a cap n L w h hn hL hLs hr).mono fun e w' ⟨h1, h2⟩ => ⟨h1.old, h2⟩
end Go.Proofs.YtlcmnpbbfnfcmaaGreat
