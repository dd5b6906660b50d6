/- The document's Sum: a round of the schedule (gen_sha_sum.py). -/
import Derived.Test.YtmphjmbnfaimiaaDoorShaX3
namespace Go.Proofs.YtmphjmbnfaimiaaDoor
open Go.RowKit ShaMath
set_option linter.unusedVariables false
set_option maxRecDepth 100000

set_option maxHeartbeats 40000000 in
theorem sx_sched {s0 s1 s2 s3 s4 s5 s6 s7 s8 s9 s12 s13 s14 s15 s16 s17 s18 s19 s20 s21 s22 s23 s24 s25 s26 s27 s28 s29 s30 s31 s32 s33 s34 s35 s36 s37 s38 s39 s40 s41 s42 s43 s44 s45 s46 s47 s48 s49 s50 s51 s52 s53 s54 s55 s56 s57 s58 s59 s60 s61 s62 s63 s64 s65 s66 s67 s68 s69 s70 s71 s72 s73 s74 s75 s76 s77 s78 s79 s80 s81 s82 s83 s84 s85 s86 s87 s88 s89 s90 s91 s92 s93 s94 s95 s96 s97 s98 s99 s100 s101 s102 s103 s104 s105 s106 s107 s108 s109 s110 s111 s112 s113 s114 s115 s116 s117 s118 s119 s120 s121 s122 s123 s124 s125 s126 s127 s128 s129 s130 s131 s132 s133 s134 s135 s136 s137 s138 s139 s140 s141 s142 s143 s144 s145 s146 s147 s148 s149 s150 s151 s152 s153 s154 s155 s156 s157 s158 s159 s160 s161 s162 s163 s164 s165 s166 s167 s168 s169 s170 s171 s172 s173 s174 s175 s176 s177 s178 s179 s180 s181 s182 s183 s184 s185 s186 s187 s188 s189 s190 s191 s192 s193 s194 s195 s196 s197 s198 s199 s200 s201 s202 s203 s204 s205 s206 s207 s208 s209 s210 s211 s212 s213 s214 s215 s216 s217 s218 s219 s220 s221 s222 s223 s224 s225 s226 s227 s228 s229 s230 s231 s232 s233 s234 s235 s236 s237 s238 s239 s240 s241 s242 s243 s244 s245 s246 s247 s248 s249 s250 s251 s252 s253 s254 s255 s256 s257 s258 s259 s260 s261 s262 s263 s264 s265 s266 s267 s268 s269 s270 s271 s272 s273 s274 s275 s276 s277 s278 : Value} {Q : Exit → Act → World → Prop} {wr : World} {BK : List UInt8} {i wgg : Nat} {code : Code}
    (hcode : (sx_loops (Tryd.f9.body.getD .skip))[3]? = some code) (h16i : ¬ i < 16) (hlt64 : i < 64)
    (hrow2 : Row wr wgg 3 (tIs (wst BK i)))
    (hQ : ∀ {u11 u12 u13 u14 u65 u66 u67 u68 u69 u70 u71 u72 u73 u74 u75 u76 u77 u78 u79 u80 u81 u82 u83 u84 u85 u86 u87 u88 u89 u90 u91 u92 u93 u94 u95 u96 u97 u98 u99 u100 u101 u102 u103 u104 u105 u106 u107 u108 u109 u110 u111 u112 u113 u114 u115 u116 u117 u118 u119 u120 u121 u122 u123 u124 u125 u126 u127 u128 u129 u130 u131 u132 u133 u134 u135 u136 : Value} (w' : World), u11 = .int .i64 ((i + 1 : Nat) : Int) → Row w' wgg 3 (tIs (wst BK (i + 1))) → Only wgg wr w' → Q .normal ⟨#[s0, s1, s2, s3, s4, s5, s6, s7, s8, s9, (.slice (some ⟨wgg, 0, none⟩) 64 64), u11, u12, u13, u14, s15, s16, s17, s18, s19, s20, s21, s22, s23, s24, s25, s26, s27, s28, s29, s30, s31, s32, s33, s34, s35, s36, s37, s38, s39, s40, s41, s42, s43, s44, s45, s46, s47, s48, s49, s50, s51, s52, s53, s54, s55, s56, s57, s58, s59, s60, s61, s62, s63, s64, u65, u66, u67, u68, u69, u70, u71, u72, u73, u74, u75, u76, u77, u78, u79, u80, u81, u82, u83, u84, u85, u86, u87, u88, u89, u90, u91, u92, u93, u94, u95, u96, u97, u98, u99, u100, u101, u102, u103, u104, u105, u106, u107, u108, u109, u110, u111, u112, u113, u114, u115, u116, u117, u118, u119, u120, u121, u122, u123, u124, u125, u126, u127, u128, u129, u130, u131, u132, u133, u134, u135, u136, s137, s138, s139, s140, s141, s142, s143, s144, s145, s146, s147, s148, s149, s150, s151, s152, s153, s154, s155, s156, s157, s158, s159, s160, s161, s162, s163, s164, s165, s166, s167, s168, s169, s170, s171, s172, s173, s174, s175, s176, s177, s178, s179, s180, s181, s182, s183, s184, s185, s186, s187, s188, s189, s190, s191, s192, s193, s194, s195, s196, s197, s198, s199, s200, s201, s202, s203, s204, s205, s206, s207, s208, s209, s210, s211, s212, s213, s214, s215, s216, s217, s218, s219, s220, s221, s222, s223, s224, s225, s226, s227, s228, s229, s230, s231, s232, s233, s234, s235, s236, s237, s238, s239, s240, s241, s242, s243, s244, s245, s246, s247, s248, s249, s250, s251, s252, s253, s254, s255, s256, s257, s258, s259, s260, s261, s262, s263, s264, s265, s266, s267, s268, s269, s270, s271, s272, s273, s274, s275, s276, s277, s278], []⟩ w') :
    Code.wp Tryd.prog code Q ⟨#[s0, s1, s2, s3, s4, s5, s6, s7, s8, s9, (.slice (some ⟨wgg, 0, none⟩) 64 64), (.int .i64 (i : Int)), s12, s13, s14, s15, s16, s17, s18, s19, s20, s21, s22, s23, s24, s25, s26, s27, s28, s29, s30, s31, s32, s33, s34, s35, s36, s37, s38, s39, s40, s41, s42, s43, s44, s45, s46, s47, s48, s49, s50, s51, s52, s53, s54, s55, s56, s57, s58, s59, s60, s61, s62, s63, s64, s65, s66, s67, s68, s69, s70, s71, s72, s73, s74, s75, s76, s77, s78, s79, s80, s81, s82, s83, s84, s85, s86, s87, s88, s89, s90, s91, s92, s93, s94, s95, s96, s97, s98, s99, s100, s101, s102, s103, s104, s105, s106, s107, s108, s109, s110, s111, s112, s113, s114, s115, s116, s117, s118, s119, s120, s121, s122, s123, s124, s125, s126, s127, s128, s129, s130, s131, s132, s133, s134, s135, s136, s137, s138, s139, s140, s141, s142, s143, s144, s145, s146, s147, s148, s149, s150, s151, s152, s153, s154, s155, s156, s157, s158, s159, s160, s161, s162, s163, s164, s165, s166, s167, s168, s169, s170, s171, s172, s173, s174, s175, s176, s177, s178, s179, s180, s181, s182, s183, s184, s185, s186, s187, s188, s189, s190, s191, s192, s193, s194, s195, s196, s197, s198, s199, s200, s201, s202, s203, s204, s205, s206, s207, s208, s209, s210, s211, s212, s213, s214, s215, s216, s217, s218, s219, s220, s221, s222, s223, s224, s225, s226, s227, s228, s229, s230, s231, s232, s233, s234, s235, s236, s237, s238, s239, s240, s241, s242, s243, s244, s245, s246, s247, s248, s249, s250, s251, s252, s253, s254, s255, s256, s257, s258, s259, s260, s261, s262, s263, s264, s265, s266, s267, s268, s269, s270, s271, s272, s273, s274, s275, s276, s277, s278], []⟩ wr := by
  obtain rfl := Option.some.inj hcode.symm
  have hi64 : (i : Int) ≤ 64 := by omega
  have e1i : (i : Int) < 64 := by omega
  have e2i : ¬ (i : Int) < 16 := by omega
  obtain ⟨T, hT⟩ : ∃ T, sch BK (i - 16) = T := ⟨_, rfl⟩
  have hTl : T.length = 64 := by rw [← hT, sch_length]
  have hrowT : Row wr wgg 3 (tIs T) := by
    have h := hrow2
    rw [wst] at h
    by_cases h16 : i ≤ 16
    · rw [if_pos h16] at h
      rw [← hT, show i - 16 = 0 by omega, sch]
      rwa [show 4 * i = 64 by omega] at h
    · rw [if_neg h16, hT] at h
      exact h
  have hnext : wst BK (i + 1) = T.set i (ext T i) := by
    rw [wst, if_neg (by omega), show i + 1 - 16 = (i - 16) + 1 by omega, sch, hT, show 16 + (i - 16) = i by omega]
  have hcg : ∀ q : Nat, q < 64 → wr.cell? ⟨wgg, q, none⟩ = some (.int .i64 (tI (T.getD q 0))) := fun q hq => by
    rw [hrowT.cell, tIs_get _ _ (by omega), List.getD_eq_getElem?_getD, List.getElem?_eq_getElem (by omega)]
    rfl
  obtain ⟨a15, h15⟩ : ∃ a : Nat, (i : Int) - 15 = (a : Int) := ⟨i - 15, by omega⟩
  obtain ⟨a2, h2⟩ : ∃ a : Nat, (i : Int) - 2 = (a : Int) := ⟨i - 2, by omega⟩
  obtain ⟨a7, h7⟩ : ∃ a : Nat, (i : Int) - 7 = (a : Int) := ⟨i - 7, by omega⟩
  obtain ⟨a16, h16⟩ : ∃ a : Nat, (i : Int) - 16 = (a : Int) := ⟨i - 16, by omega⟩
  have q15 : a15 = i - 15 := by omega
  have q2 : a2 = i - 2 := by omega
  have q7 : a7 = i - 7 := by omega
  have q16 : a16 = i - 16 := by omega
  have c15 := hcg a15 (by omega)
  have c2 := hcg a2 (by omega)
  have c7 := hcg a7 (by omega)
  have c16 := hcg a16 (by omega)
  have l15 : (a15 : Int) < 64 := by omega
  have l2 : (a2 : Int) < 64 := by omega
  have l7 : (a7 : Int) < 64 := by omega
  have l16 : (a16 : Int) < 64 := by omega
  have hE := ext_tI T i
  rw [← q15, ← q2, ← q7, ← q16] at hE
  obtain ⟨x, hx⟩ : ∃ x, T.getD a15 0 = x := ⟨_, rfl⟩
  obtain ⟨y, hy⟩ : ∃ y, T.getD a2 0 = y := ⟨_, rfl⟩
  obtain ⟨p7, hp7⟩ : ∃ y, T.getD a7 0 = y := ⟨_, rfl⟩
  obtain ⟨p16, hp16⟩ : ∃ y, T.getD a16 0 = y := ⟨_, rfl⟩
  rw [hx] at c15 hE
  rw [hy] at c2 hE
  rw [hp7] at c7 hE
  rw [hp16] at c16 hE
  have HIX : Hid (i < (tIs T).length) := Lib.hid (by rw [tIs_length, hTl]; exact hlt64)
  have HIS : Hid ((Tryd.prog.info? 3).map (·.size) = some 1) := Lib.hid (by kernel_rfl)
  have HSTX : Hid ((tIs T).set i (.int .i64 (tI (ext T i))) = tIs (wst BK (i + 1))) := Lib.hid (by rw [hnext]; simp [tIs, List.map_set])
  obtain ⟨E, hEE⟩ : ∃ E, tI (ext T i) = E := ⟨_, rfl⟩
  have hE9 : 0 ≤ E ∧ E < 4294967296 := by rw [← hEE]; exact tI_lt _
  rw [hEE] at hE HSTX
  have HROWT := Lib.hid hrowT
  have HONS : Hid (Only wgg wr wr) := Lib.hid (Only.refl _ _)
  have HLT := Lib.hid hlt64
  clear hnext hcg hT hTl hrowT q15 q2 q7 q16 hx hy hp7 hp16 hEE hlt64 hrow2 h16i
  obtain ⟨X, hX⟩ : ∃ X, tI x = X := ⟨_, rfl⟩
  obtain ⟨Y, hY⟩ : ∃ X, tI y = X := ⟨_, rfl⟩
  obtain ⟨P7, hP7⟩ : ∃ X, tI p7 = X := ⟨_, rfl⟩
  obtain ⟨P16, hP16⟩ : ∃ X, tI p16 = X := ⟨_, rfl⟩
  obtain ⟨A7, hA7⟩ : ∃ X, tI (rr x 7) = X := ⟨_, rfl⟩
  obtain ⟨A18, hA18⟩ : ∃ X, tI (rr x 18) = X := ⟨_, rfl⟩
  obtain ⟨A17, hA17⟩ : ∃ X, tI (rr y 17) = X := ⟨_, rfl⟩
  obtain ⟨A19, hA19⟩ : ∃ X, tI (rr y 19) = X := ⟨_, rfl⟩
  obtain ⟨B1, hB1⟩ : ∃ X, tI (rr x 7 ^^^ rr x 18) = X := ⟨_, rfl⟩
  obtain ⟨B2, hB2⟩ : ∃ X, tI (rr y 17 ^^^ rr y 19) = X := ⟨_, rfl⟩
  obtain ⟨S3, hS3⟩ : ∃ X, tI (x >>> 3) = X := ⟨_, rfl⟩
  obtain ⟨S10, hS10⟩ : ∃ X, tI (y >>> 10) = X := ⟨_, rfl⟩
  obtain ⟨SX, hSX⟩ : ∃ X, tI (ss0 x) = X := ⟨_, rfl⟩
  obtain ⟨SY, hSY⟩ : ∃ X, tI (ss1 y) = X := ⟨_, rfl⟩
  have r1 : bits .xor .i64 A7 A18 = B1 := by rw [← hA7, ← hA18, ← hB1, xor_tI]
  have r2 : bits .xor .i64 A17 A19 = B2 := by rw [← hA17, ← hA19, ← hB2, xor_tI]
  have r3 : bits .xor .i64 B1 S3 = SX := by rw [← hB1, ← hS3, ← hSX, xor_tI]; rfl
  have r4 : bits .xor .i64 B2 S10 = SY := by rw [← hB2, ← hS10, ← hSY, xor_tI]; rfl
  have r5 : X / 8 = S3 := by rw [← hX, ← hS3]; exact shr_tI x 3
  have r6 : Y / 1024 = S10 := by rw [← hY, ← hS10]; exact shr_tI y 10
  have t7 : Hid (∀ u, Calls Tryd.prog 22 #[.int .i64 X, .int .i64 7] u fun e w' => e = .returned (.int .i64 A7) ∧ w' = u) := Lib.hid fun u => by rw [← hX, ← hA7]; exact refTurn_any x 7 u (by omega) (by omega)
  have t18 : Hid (∀ u, Calls Tryd.prog 22 #[.int .i64 X, .int .i64 18] u fun e w' => e = .returned (.int .i64 A18) ∧ w' = u) := Lib.hid fun u => by rw [← hX, ← hA18]; exact refTurn_any x 18 u (by omega) (by omega)
  have t17 : Hid (∀ u, Calls Tryd.prog 22 #[.int .i64 Y, .int .i64 17] u fun e w' => e = .returned (.int .i64 A17) ∧ w' = u) := Lib.hid fun u => by rw [← hY, ← hA17]; exact refTurn_any y 17 u (by omega) (by omega)
  have t19 : Hid (∀ u, Calls Tryd.prog 22 #[.int .i64 Y, .int .i64 19] u fun e w' => e = .returned (.int .i64 A19) ∧ w' = u) := Lib.hid fun u => by rw [← hY, ← hA19]; exact refTurn_any y 19 u (by omega) (by omega)
  rw [hSX, hSY, hP7, hP16] at hE
  rw [hX] at c15
  rw [hY] at c2
  rw [hP7] at c7
  rw [hP16] at c16
  have bX : 0 ≤ SX ∧ SX < 4294967296 := by rw [← hSX]; exact tI_lt _
  have bY : 0 ≤ SY ∧ SY < 4294967296 := by rw [← hSY]; exact tI_lt _
  have b7 : 0 ≤ P7 ∧ P7 < 4294967296 := by rw [← hP7]; exact tI_lt _
  have b16 : 0 ≤ P16 ∧ P16 < 4294967296 := by rw [← hP16]; exact tI_lt _
  have bx : 0 ≤ X ∧ X < 4294967296 := by rw [← hX]; exact tI_lt _
  have by' : 0 ≤ Y ∧ Y < 4294967296 := by rw [← hY]; exact tI_lt _
  obtain ⟨D1, hD1⟩ : ∃ X, SX + SY = X := ⟨_, rfl⟩
  obtain ⟨D2, hD2⟩ : ∃ X, D1 + P7 = X := ⟨_, rfl⟩
  obtain ⟨D3, hD3⟩ : ∃ X, D2 + P16 = X := ⟨_, rfl⟩
  rw [hD1, hD2, hD3] at hE
  have w1 : IntKind.i64.wrap D1 = D1 := by rw [IntKind.wrap_i64]; omega
  have w2' : IntKind.i64.wrap D2 = D2 := by rw [IntKind.wrap_i64]; omega
  have w3' : IntKind.i64.wrap D3 = D3 := by rw [IntKind.wrap_i64]; omega
  have hEt : D3.tmod 4294967296 = E := by rw [Int.tmod_eq_emod_of_nonneg (by omega)]; exact hE
  have wE : IntKind.i64.wrap E = E := by rw [IntKind.wrap_i64]; omega
  have bX1 := bx.1
  have bY1 := by'.1
  clear bX bY b7 b16 hE hX hY hP7 hP16 hA7 hA18 hA17 hA19 hB1 hB2 hS3 hS10 hSX hSY hE9
  have W1 := Lib.hid w1
  have W2' := Lib.hid w2'
  have W3' := Lib.hid w3'
  have WE := Lib.hid wE
  have HD1 := Lib.hid hD1
  have HD2 := Lib.hid hD2
  have HD3 := Lib.hid hD3
  clear w1 w2' w3' wE hD1 hD2 hD3
  go_wp2
  go_quiet (fail)
  have HROWQ := Lib.hid (HROWT.out.drewN nq)
  have HONQ := Lib.hid (HONS.out.drewN nq)
  have d7 : (wr.drewN nq).cell? ⟨wgg, a7, none⟩ = some (.int .i64 P7) := c7
  have d16 : (wr.drewN nq).cell? ⟨wgg, a16, none⟩ = some (.int .i64 P16) := c16
  generalize wr.drewN nq = wq at *
  clear c15 c2 c7 c16
  have w1 := W1.out
  have w2' := W2'.out
  have w3' := W3'.out
  have wE := WE.out
  have hD1 := HD1.out
  have hD2 := HD2.out
  have hD3 := HD3.out
  have wa7 : IntKind.i64.wrap (a7 : Int) = (a7 : Int) := by rw [IntKind.wrap_i64]; omega
  have wa16 : IntKind.i64.wrap (a16 : Int) = (a16 : Int) := by rw [IntKind.wrap_i64]; omega
  go_wp2
  go_still_tail 33, (by kernel_rfl)
  still_call (t7.out _)
  still_step
  still_call (t18.out _)
  iterate 5 still_step
  still_call (t17.out _)
  still_step
  still_call (t19.out _)
  repeat still_step
  refine wpStill_nil ?_
  change wpList _ _ _ _ _ wq.drew
  have HRD := Lib.hid HROWQ.out.drew
  have HOD := Lib.hid HONQ.out.drew
  generalize wq.drew = wd at *
  go_wp2_with ((with_reducible refine HRD.out.wpStore1K i 3 (.int .i64 E) HIS.out HIX.out rfl rfl ?_ ?_); rfl; intro w10 r10 o10 s10; rw [HSTX.out] at r10; have R10 := Lib.hid r10; have O10 := Lib.hid (HOD.out.trans o10); clear r10 o10 s10)
  exact hQ _ (by go_num) R10.out O10.out

end Go.Proofs.YtmphjmbnfaimiaaDoor
