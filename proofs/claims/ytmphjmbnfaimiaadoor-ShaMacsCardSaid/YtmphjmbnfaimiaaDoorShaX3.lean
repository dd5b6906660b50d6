/- The document's Sum: one of the 64 rounds (gen_sha_sum.py). -/
import Derived.Test.YtmphjmbnfaimiaaDoorShaX2H
namespace Go.Proofs.YtmphjmbnfaimiaaDoor
open Go.RowKit ShaMath
set_option linter.unusedVariables false
set_option maxRecDepth 100000

def sx_loops : Code → List Code
  | .seq a b => sx_loops a ++ sx_loops b
  | .cond _ a b => sx_loops a ++ sx_loops b
  | .block _ b => sx_loops b
  | .loop b => b :: sx_loops b
  | .scope b => sx_loops b
  | _ => []

set_option maxHeartbeats 40000000 in
theorem sx_round {s0 s1 s3 s4 s5 s6 s7 s8 s9 s11 s12 s13 s14 s17 s18 s19 s20 s21 s22 s23 s24 s25 s26 s27 s28 s29 s30 s31 s32 s33 s34 s35 s36 s37 s38 s39 s40 s41 s42 s43 s44 s45 s46 s47 s48 s49 s50 s51 s52 s53 s54 s55 s56 s57 s58 s59 s60 s61 s62 s63 s64 s65 s66 s67 s68 s69 s70 s71 s72 s73 s74 s75 s76 s77 s78 s79 s80 s81 s82 s83 s84 s85 s86 s87 s88 s89 s90 s91 s92 s93 s94 s95 s96 s97 s98 s99 s100 s101 s102 s103 s104 s105 s106 s107 s108 s109 s110 s111 s112 s113 s114 s115 s116 s117 s118 s119 s120 s121 s122 s123 s124 s125 s126 s127 s128 s129 s130 s131 s132 s133 s134 s135 s136 s137 s138 s139 s140 s141 s142 s143 s144 s145 s146 s147 s148 s149 s150 s151 s152 s153 s154 s155 s156 s157 s158 s159 s160 s161 s162 s163 s164 s165 s166 s167 s168 s169 s170 s171 s172 s173 s174 s175 s176 s177 s178 s179 s180 s181 s182 s183 s184 s185 s186 s187 s188 s189 s190 s191 s192 s193 s194 s195 s196 s197 s198 s199 s200 s201 s202 s203 s204 s205 s206 s207 s208 s209 s210 s211 s212 s213 s214 s215 s216 s217 s218 s219 s220 s221 s222 s223 s224 s225 s226 s227 s228 s229 s230 s231 s232 s233 s234 s235 s236 s237 s238 s239 s240 s241 s242 s243 s244 s245 s246 s247 s248 s249 s250 s251 s252 s253 s254 s255 s256 s257 s258 s259 s260 s261 s262 s263 s264 s265 s266 s267 s268 s269 s270 s271 s272 s273 s274 s275 s276 s277 s278 : Value} {Q : Exit → Act → World → Prop} {wp : World} {H SP : List W} {r vg vc bx wgg cb : Nat} {va : Value} {b : Option Addr} {code : Code}
    (hcode : (sx_loops (Tryd.f9.body.getD .skip))[5]? = some code) (hltr : r < 64) (hHL : H.length = 8) (hSPL : SP.length = 64)
    (hlv : Lies wp wp.heap.size (some ⟨vg, 0, none⟩) (tIs (trns SP H r))) (hbx : Row wp bx 27 [va, .slice b 64 cb]) (hlb : Lies wp wp.heap.size b (tIs roots)) (hwr : Row wp wgg 3 (tIs SP))
    (hQ : ∀ {u15 u16 u17 u18 u19 u20 u21 u22 u140 u141 u142 u143 u144 u145 u146 u147 u148 u149 u150 u151 u152 u153 u154 u155 u156 u157 u158 u159 u160 u161 u162 u163 u164 u165 u166 u167 u168 u169 u170 u171 u172 u173 u174 u175 u176 u177 u178 u179 u180 u181 u182 u183 u184 u185 u186 u187 u188 u189 u190 u191 u192 u193 u194 u195 u196 u197 u198 u199 u200 u201 u202 u203 u204 u205 u206 u207 u208 u209 u210 u211 u212 u213 u214 u215 u216 u217 u218 u219 u220 u221 u222 u223 u224 u225 u226 u227 u228 u229 u230 u231 u232 u233 u234 u235 u236 u237 u238 u239 u240 : Value} (g : Nat) (w' : World), u15 = .slice (some ⟨g, 0, none⟩) 8 8 → u16 = .int .i64 ((r + 1 : Nat) : Int) → wp.heap.size ≤ g → Row w' g 3 (tIs (trns SP H (r + 1)) ++ []) → Below wp.heap.size wp w' → Q .normal ⟨#[s0, s1, (.pointer (some ⟨bx, 0, none⟩)), s3, s4, s5, s6, s7, s8, s9, (.slice (some ⟨wgg, 0, none⟩) 64 64), s11, s12, s13, s14, u15, u16, u17, u18, u19, u20, u21, u22, s23, s24, s25, s26, s27, s28, s29, s30, s31, s32, s33, s34, s35, s36, s37, s38, s39, s40, s41, s42, s43, s44, s45, s46, s47, s48, s49, s50, s51, s52, s53, s54, s55, s56, s57, s58, s59, s60, s61, s62, s63, s64, s65, s66, s67, s68, s69, s70, s71, s72, s73, s74, s75, s76, s77, s78, s79, s80, s81, s82, s83, s84, s85, s86, s87, s88, s89, s90, s91, s92, s93, s94, s95, s96, s97, s98, s99, s100, s101, s102, s103, s104, s105, s106, s107, s108, s109, s110, s111, s112, s113, s114, s115, s116, s117, s118, s119, s120, s121, s122, s123, s124, s125, s126, s127, s128, s129, s130, s131, s132, s133, s134, s135, s136, s137, s138, s139, u140, u141, u142, u143, u144, u145, u146, u147, u148, u149, u150, u151, u152, u153, u154, u155, u156, u157, u158, u159, u160, u161, u162, u163, u164, u165, u166, u167, u168, u169, u170, u171, u172, u173, u174, u175, u176, u177, u178, u179, u180, u181, u182, u183, u184, u185, u186, u187, u188, u189, u190, u191, u192, u193, u194, u195, u196, u197, u198, u199, u200, u201, u202, u203, u204, u205, u206, u207, u208, u209, u210, u211, u212, u213, u214, u215, u216, u217, u218, u219, u220, u221, u222, u223, u224, u225, u226, u227, u228, u229, u230, u231, u232, u233, u234, u235, u236, u237, u238, u239, u240, s241, s242, s243, s244, s245, s246, s247, s248, s249, s250, s251, s252, s253, s254, s255, s256, s257, s258, s259, s260, s261, s262, s263, s264, s265, s266, s267, s268, s269, s270, s271, s272, s273, s274, s275, s276, s277, s278], []⟩ w') :
    Code.wp Tryd.prog code Q ⟨#[s0, s1, (.pointer (some ⟨bx, 0, none⟩)), s3, s4, s5, s6, s7, s8, s9, (.slice (some ⟨wgg, 0, none⟩) 64 64), s11, s12, s13, s14, (.slice (some ⟨vg, 0, none⟩) 8 vc), (.int .i64 (r : Int)), s17, s18, s19, s20, s21, s22, s23, s24, s25, s26, s27, s28, s29, s30, s31, s32, s33, s34, s35, s36, s37, s38, s39, s40, s41, s42, s43, s44, s45, s46, s47, s48, s49, s50, s51, s52, s53, s54, s55, s56, s57, s58, s59, s60, s61, s62, s63, s64, s65, s66, s67, s68, s69, s70, s71, s72, s73, s74, s75, s76, s77, s78, s79, s80, s81, s82, s83, s84, s85, s86, s87, s88, s89, s90, s91, s92, s93, s94, s95, s96, s97, s98, s99, s100, s101, s102, s103, s104, s105, s106, s107, s108, s109, s110, s111, s112, s113, s114, s115, s116, s117, s118, s119, s120, s121, s122, s123, s124, s125, s126, s127, s128, s129, s130, s131, s132, s133, s134, s135, s136, s137, s138, s139, s140, s141, s142, s143, s144, s145, s146, s147, s148, s149, s150, s151, s152, s153, s154, s155, s156, s157, s158, s159, s160, s161, s162, s163, s164, s165, s166, s167, s168, s169, s170, s171, s172, s173, s174, s175, s176, s177, s178, s179, s180, s181, s182, s183, s184, s185, s186, s187, s188, s189, s190, s191, s192, s193, s194, s195, s196, s197, s198, s199, s200, s201, s202, s203, s204, s205, s206, s207, s208, s209, s210, s211, s212, s213, s214, s215, s216, s217, s218, s219, s220, s221, s222, s223, s224, s225, s226, s227, s228, s229, s230, s231, s232, s233, s234, s235, s236, s237, s238, s239, s240, s241, s242, s243, s244, s245, s246, s247, s248, s249, s250, s251, s252, s253, s254, s255, s256, s257, s258, s259, s260, s261, s262, s263, s264, s265, s266, s267, s268, s269, s270, s271, s272, s273, s274, s275, s276, s277, s278], []⟩ wp := by
  obtain rfl := Option.some.inj hcode.symm
  have hTl : (trns SP H r).length = 8 := by rw [trns_length, hHL]
  have hnx : trns SP H (r + 1) = trn (trns SP H r) (roots.getD r 0 + SP.getD r 0) := rfl
  obtain ⟨T, hT⟩ : ∃ T, trns SP H r = T := ⟨_, rfl⟩
  have HLVV := Lib.hid hlv
  rw [hT] at hTl hnx HLVV
  obtain ⟨wa, wb, wc, wd', we, wf, wg, wh, rfl⟩ : ∃ a b c d e f g h, T = [a, b, c, d, e, f, g, h] := by
    match T, hTl with
    | [a, b, c, d, e, f, g, h], _ => exact ⟨a, b, c, d, e, f, g, h, rfl⟩
  obtain ⟨kr, hkr⟩ : ∃ x, roots.getD r 0 = x := ⟨_, rfl⟩
  obtain ⟨kw, hkw⟩ : ∃ x, SP.getD r 0 = x := ⟨_, rfl⟩
  rw [hkr, hkw] at hnx
  have hnx2 : trns SP H (r + 1) = [wh + bs1 we + ch we wf wg + (kr + kw) + (bs0 wa + maj wa wb wc), wa, wb, wc, wd' + (wh + bs1 we + ch we wf wg + (kr + kw)), we, wf, wg] := hnx
  have HNX := Lib.hid hnx2
  have ck1 : wp.cell? ⟨bx, 1, none⟩ = some (.slice b 64 cb) := hbx.cell 1
  obtain ⟨kb, ko, rfl, _, hkc⟩ := hlb (by rw [tIs_length, roots_length]; omega)
  have ck2 : wp.cell? ⟨kb, ko + r, none⟩ = some (.int .i64 (tI kr)) := by
    have h := hkc r (.int .i64 (tI kr)) (by rw [tIs_get _ _ (by rw [roots_length]; exact hltr), ← hkr, List.getD_eq_getElem?_getD, List.getElem?_eq_getElem (by rw [roots_length]; exact hltr)]; rfl)
    exact h
  have ck3 : wp.cell? ⟨wgg, r, none⟩ = some (.int .i64 (tI kw)) := by
    rw [hwr.cell, tIs_get _ _ (by rw [hSPL]; exact hltr), ← hkw, List.getD_eq_getElem?_getD, List.getElem?_eq_getElem (by rw [hSPL]; exact hltr)]
    rfl
  obtain ⟨vb, vo, ev, hvlt, hvc⟩ := HLVV.out (by simp [tIs])
  cases ev
  have HVG := Lib.hid hvlt
  have cv0 : wp.cell? ⟨vg, 0, none⟩ = some (.int .i64 (tI wa)) := hvc 0 _ rfl
  have cv1 : wp.cell? ⟨vg, 1, none⟩ = some (.int .i64 (tI wb)) := hvc 1 _ rfl
  have cv2 : wp.cell? ⟨vg, 2, none⟩ = some (.int .i64 (tI wc)) := hvc 2 _ rfl
  have cv3 : wp.cell? ⟨vg, 3, none⟩ = some (.int .i64 (tI wd')) := hvc 3 _ rfl
  have cv4 : wp.cell? ⟨vg, 4, none⟩ = some (.int .i64 (tI we)) := hvc 4 _ rfl
  have cv5 : wp.cell? ⟨vg, 5, none⟩ = some (.int .i64 (tI wf)) := hvc 5 _ rfl
  have cv6 : wp.cell? ⟨vg, 6, none⟩ = some (.int .i64 (tI wg)) := hvc 6 _ rfl
  have cv7 : wp.cell? ⟨vg, 7, none⟩ = some (.int .i64 (tI wh)) := hvc 7 _ rfl
  obtain ⟨A, hA⟩ : ∃ X, tI wa = X := ⟨_, rfl⟩
  obtain ⟨B, hB'⟩ : ∃ X, tI wb = X := ⟨_, rfl⟩
  obtain ⟨C, hC⟩ : ∃ X, tI wc = X := ⟨_, rfl⟩
  obtain ⟨D, hD⟩ : ∃ X, tI wd' = X := ⟨_, rfl⟩
  obtain ⟨E, hE⟩ : ∃ X, tI we = X := ⟨_, rfl⟩
  obtain ⟨F, hF⟩ : ∃ X, tI wf = X := ⟨_, rfl⟩
  obtain ⟨G, hG⟩ : ∃ X, tI wg = X := ⟨_, rfl⟩
  obtain ⟨HH, hHH⟩ : ∃ X, tI wh = X := ⟨_, rfl⟩
  obtain ⟨K, hK⟩ : ∃ X, tI kr = X := ⟨_, rfl⟩
  obtain ⟨WW, hWW⟩ : ∃ X, tI kw = X := ⟨_, rfl⟩
  obtain ⟨S6, hS6⟩ : ∃ X, tI (rr we 6) = X := ⟨_, rfl⟩
  obtain ⟨S11, hS11⟩ : ∃ X, tI (rr we 11) = X := ⟨_, rfl⟩
  obtain ⟨S25, hS25⟩ : ∃ X, tI (rr we 25) = X := ⟨_, rfl⟩
  obtain ⟨X1, hX1⟩ : ∃ X, tI (rr we 6 ^^^ rr we 11) = X := ⟨_, rfl⟩
  obtain ⟨BS1, hBS1⟩ : ∃ X, tI (bs1 we) = X := ⟨_, rfl⟩
  obtain ⟨M2, hM2⟩ : ∃ X, tI (rr wa 2) = X := ⟨_, rfl⟩
  obtain ⟨M13, hM13⟩ : ∃ X, tI (rr wa 13) = X := ⟨_, rfl⟩
  obtain ⟨M22, hM22⟩ : ∃ X, tI (rr wa 22) = X := ⟨_, rfl⟩
  obtain ⟨X2, hX2⟩ : ∃ X, tI (rr wa 2 ^^^ rr wa 13) = X := ⟨_, rfl⟩
  obtain ⟨BS0, hBS0⟩ : ∃ X, tI (bs0 wa) = X := ⟨_, rfl⟩
  obtain ⟨EF, hEF⟩ : ∃ X, tI (we &&& wf) = X := ⟨_, rfl⟩
  obtain ⟨NE, hNE⟩ : ∃ X, tI (~~~we) = X := ⟨_, rfl⟩
  obtain ⟨NG, hNG⟩ : ∃ X, tI (~~~we &&& wg) = X := ⟨_, rfl⟩
  obtain ⟨CH, hCH⟩ : ∃ X, tI (ch we wf wg) = X := ⟨_, rfl⟩
  obtain ⟨AB, hAB⟩ : ∃ X, tI (wa &&& wb) = X := ⟨_, rfl⟩
  obtain ⟨AC, hAC⟩ : ∃ X, tI (wa &&& wc) = X := ⟨_, rfl⟩
  obtain ⟨OR1, hOR1⟩ : ∃ X, tI ((wa &&& wb) ||| (wa &&& wc)) = X := ⟨_, rfl⟩
  obtain ⟨BC, hBC⟩ : ∃ X, tI (wb &&& wc) = X := ⟨_, rfl⟩
  obtain ⟨MJ, hMJ⟩ : ∃ X, tI (maj wa wb wc) = X := ⟨_, rfl⟩
  obtain ⟨NA, hNA⟩ : ∃ X, tI (wh + bs1 we + ch we wf wg + (kr + kw) + (bs0 wa + maj wa wb wc)) = X := ⟨_, rfl⟩
  obtain ⟨NEW, hNEW⟩ : ∃ X, tI (wd' + (wh + bs1 we + ch we wf wg + (kr + kw))) = X := ⟨_, rfl⟩
  have r1 : bits .xor .i64 S6 S11 = X1 := by rw [← hS6, ← hS11, ← hX1, xor_tI]
  have r2 : bits .xor .i64 X1 S25 = BS1 := by rw [← hX1, ← hS25, ← hBS1, xor_tI]; rfl
  have r3 : bits .xor .i64 M2 M13 = X2 := by rw [← hM2, ← hM13, ← hX2, xor_tI]
  have r4 : bits .xor .i64 X2 M22 = BS0 := by rw [← hX2, ← hM22, ← hBS0, xor_tI]; rfl
  have r5 : bits .and .i64 E F = EF := by rw [← hE, ← hF, ← hEF, and_tI]
  have r6 : (4294967295 : Int) - E = NE := by rw [← hE, ← hNE]; exact not_tI we
  have r7 : bits .and .i64 NE G = NG := by rw [← hNE, ← hG, ← hNG, and_tI]
  have r8 : bits .or .i64 EF NG = CH := by rw [← hEF, ← hNG, ← hCH, or_tI, ch_or]
  have r9 : bits .and .i64 A B = AB := by rw [← hA, ← hB', ← hAB, and_tI]
  have r10 : bits .and .i64 A C = AC := by rw [← hA, ← hC, ← hAC, and_tI]
  have r11 : bits .or .i64 AB AC = OR1 := by rw [← hAB, ← hAC, ← hOR1, or_tI]
  have r12 : bits .and .i64 B C = BC := by rw [← hB', ← hC, ← hBC, and_tI]
  have r13 : bits .or .i64 OR1 BC = MJ := by rw [← hOR1, ← hBC, ← hMJ, or_tI, maj_or]
  have s6 : Hid (∀ u, Calls Tryd.prog 22 #[.int .i64 E, .int .i64 6] u fun e w' => e = .returned (.int .i64 S6) ∧ w' = u) := Lib.hid fun u => by rw [← hE, ← hS6]; exact refTurn_any we 6 u (by omega) (by omega)
  have s11 : Hid (∀ u, Calls Tryd.prog 22 #[.int .i64 E, .int .i64 11] u fun e w' => e = .returned (.int .i64 S11) ∧ w' = u) := Lib.hid fun u => by rw [← hE, ← hS11]; exact refTurn_any we 11 u (by omega) (by omega)
  have s25 : Hid (∀ u, Calls Tryd.prog 22 #[.int .i64 E, .int .i64 25] u fun e w' => e = .returned (.int .i64 S25) ∧ w' = u) := Lib.hid fun u => by rw [← hE, ← hS25]; exact refTurn_any we 25 u (by omega) (by omega)
  have m2 : Hid (∀ u, Calls Tryd.prog 22 #[.int .i64 A, .int .i64 2] u fun e w' => e = .returned (.int .i64 M2) ∧ w' = u) := Lib.hid fun u => by rw [← hA, ← hM2]; exact refTurn_any wa 2 u (by omega) (by omega)
  have m13 : Hid (∀ u, Calls Tryd.prog 22 #[.int .i64 A, .int .i64 13] u fun e w' => e = .returned (.int .i64 M13) ∧ w' = u) := Lib.hid fun u => by rw [← hA, ← hM13]; exact refTurn_any wa 13 u (by omega) (by omega)
  have m22 : Hid (∀ u, Calls Tryd.prog 22 #[.int .i64 A, .int .i64 22] u fun e w' => e = .returned (.int .i64 M22) ∧ w' = u) := Lib.hid fun u => by rw [← hA, ← hM22]; exact refTurn_any wa 22 u (by omega) (by omega)
  have hNA0 := t12_tI wh (bs1 we) (ch we wf wg) kr kw (bs0 wa) (maj wa wb wc)
  have hNE0 := dt1_tI wd' wh (bs1 we) (ch we wf wg) kr kw
  rw [hHH, hBS1, hCH, hK, hWW, hBS0, hMJ, hNA] at hNA0
  rw [hD, hHH, hBS1, hCH, hK, hWW, hNEW] at hNE0
  obtain ⟨U1, hU1⟩ : ∃ X, HH + BS1 = X := ⟨_, rfl⟩
  obtain ⟨U2, hU2⟩ : ∃ X, U1 + CH = X := ⟨_, rfl⟩
  obtain ⟨U3, hU3⟩ : ∃ X, U2 + K = X := ⟨_, rfl⟩
  obtain ⟨U4, hU4⟩ : ∃ X, U3 + WW = X := ⟨_, rfl⟩
  obtain ⟨U5, hU5⟩ : ∃ X, BS0 + MJ = X := ⟨_, rfl⟩
  obtain ⟨U6, hU6⟩ : ∃ X, U4 + U5 = X := ⟨_, rfl⟩
  obtain ⟨U7, hU7⟩ : ∃ X, D + U4 = X := ⟨_, rfl⟩
  rw [hU1, hU2, hU3, hU4, hU5, hU6] at hNA0
  rw [hU1, hU2, hU3, hU4, hU7] at hNE0
  have bHH : 0 ≤ HH ∧ HH < 4294967296 := by rw [← hHH]; exact tI_lt _
  have bBS1 : 0 ≤ BS1 ∧ BS1 < 4294967296 := by rw [← hBS1]; exact tI_lt _
  have bCH : 0 ≤ CH ∧ CH < 4294967296 := by rw [← hCH]; exact tI_lt _
  have bK : 0 ≤ K ∧ K < 4294967296 := by rw [← hK]; exact tI_lt _
  have bWW : 0 ≤ WW ∧ WW < 4294967296 := by rw [← hWW]; exact tI_lt _
  have bBS0 : 0 ≤ BS0 ∧ BS0 < 4294967296 := by rw [← hBS0]; exact tI_lt _
  have bMJ : 0 ≤ MJ ∧ MJ < 4294967296 := by rw [← hMJ]; exact tI_lt _
  have bD : 0 ≤ D ∧ D < 4294967296 := by rw [← hD]; exact tI_lt _
  have bNE : 0 ≤ NE ∧ NE < 4294967296 := by rw [← hNE]; exact tI_lt _
  have bNA : 0 ≤ NA ∧ NA < 4294967296 := by rw [← hNA]; exact tI_lt _
  have bNEW : 0 ≤ NEW ∧ NEW < 4294967296 := by rw [← hNEW]; exact tI_lt _
  have qNE : Hid (IntKind.i64.wrap NE = NE) := Lib.hid (by rw [IntKind.wrap_i64]; omega)
  have qU1 : Hid (IntKind.i64.wrap U1 = U1) := Lib.hid (by rw [IntKind.wrap_i64]; omega)
  have qU2 : Hid (IntKind.i64.wrap U2 = U2) := Lib.hid (by rw [IntKind.wrap_i64]; omega)
  have qU3 : Hid (IntKind.i64.wrap U3 = U3) := Lib.hid (by rw [IntKind.wrap_i64]; omega)
  have qU4 : Hid (IntKind.i64.wrap U4 = U4) := Lib.hid (by rw [IntKind.wrap_i64]; omega)
  have qU5 : Hid (IntKind.i64.wrap U5 = U5) := Lib.hid (by rw [IntKind.wrap_i64]; omega)
  have qU6 : Hid (IntKind.i64.wrap U6 = U6) := Lib.hid (by rw [IntKind.wrap_i64]; omega)
  have qU7 : Hid (IntKind.i64.wrap U7 = U7) := Lib.hid (by rw [IntKind.wrap_i64]; omega)
  have qNA : Hid (IntKind.i64.wrap NA = NA) := Lib.hid (by rw [IntKind.wrap_i64]; omega)
  have qNEW : Hid (IntKind.i64.wrap NEW = NEW) := Lib.hid (by rw [IntKind.wrap_i64]; omega)
  have hNAt : Hid (U6.tmod 4294967296 = NA) := Lib.hid (by rw [Int.tmod_eq_emod_of_nonneg (by omega)]; exact hNA0)
  have hNEt : Hid (U7.tmod 4294967296 = NEW) := Lib.hid (by rw [Int.tmod_eq_emod_of_nonneg (by omega)]; exact hNE0)
  have bU5 : Hid (0 ≤ U5 ∧ U5 ≤ 8589934590) := Lib.hid (by omega)
  have R_r1 := Lib.hid r1
  have R_r2 := Lib.hid r2
  have R_r3 := Lib.hid r3
  have R_r4 := Lib.hid r4
  have R_r5 := Lib.hid r5
  have R_r6 := Lib.hid r6
  have R_r7 := Lib.hid r7
  have R_r8 := Lib.hid r8
  have R_r9 := Lib.hid r9
  have R_r10 := Lib.hid r10
  have R_r11 := Lib.hid r11
  have R_r12 := Lib.hid r12
  have R_r13 := Lib.hid r13
  have HD_U1 := Lib.hid hU1
  have HD_U2 := Lib.hid hU2
  have HD_U3 := Lib.hid hU3
  have HD_U4 := Lib.hid hU4
  have HD_U5 := Lib.hid hU5
  have HD_U6 := Lib.hid hU6
  have HD_U7 := Lib.hid hU7
  have HVAL : Hid (tIs (trns SP H (r + 1)) = [.int .i64 NA, .int .i64 A, .int .i64 B, .int .i64 C, .int .i64 NEW, .int .i64 E, .int .i64 F, .int .i64 G]) := Lib.hid (by rw [HNX.out, ← hNA, ← hA, ← hB', ← hC, ← hNEW, ← hE, ← hF, ← hG]; rfl)
  rw [hA] at cv0
  rw [hB'] at cv1
  rw [hC] at cv2
  rw [hD] at cv3
  rw [hE] at cv4
  rw [hF] at cv5
  rw [hG] at cv6
  rw [hHH] at cv7
  rw [hK] at ck2
  rw [hWW] at ck3
  clear r1 r2 r3 r4 r5 r6 r7 r8 r9 r10 r11 r12 r13 hNA0 hNE0 bHH bBS1 bCH bK bWW bBS0 bMJ bD bNE bNA bNEW hA hB' hC hD hE hF hG hHH hK hWW hS6 hS11 hS25 hX1 hBS1 hM2 hM13 hM22 hX2 hBS0 hEF hNE hNG hCH hAB hAC hOR1 hBC hMJ hNA hNEW hU1 hU2 hU3 hU4 hU5 hU6 hU7
  have hr1 : (r : Int) < 64 := by omega
  have HLR := Lib.hid hltr
  clear hvc hkc hnx hnx2 hT hTl hkr hkw hvlt hltr hlv hHL hSPL hlb hwr hbx
  have K0 : Hid (KC wp vg bx kb ko r wgg cb A B C D E F G HH K WW) := Lib.hid ⟨cv0, cv1, cv2, cv3, cv4, cv5, cv6, cv7, ck1, ck2, ck3⟩
  clear cv0 cv1 cv2 cv3 cv4 cv5 cv6 cv7 ck1 ck2 ck3
  obtain ⟨k0, _, _, _, k4, _⟩ := K0.out
  go_wp2
  go_quiet (fail)
  have K1 := Lib.hid (K0.out.drewN nq)
  have BP1 : Hid (Below wp.heap.size wp (wp.drewN nq)) := Lib.hid ((Below.refl wp.heap.size wp).drewN nq)
  have VG1 : Hid (vg < (wp.drewN nq).heap.size) := Lib.hid HVG.out
  generalize wp.drewN nq = wq1 at *
  clear k0 k4
  obtain ⟨_, _, _, _, _, k5, k6, _⟩ := K1.out
  have r5 := R_r5.out
  have r6 := R_r6.out
  have r7 := R_r7.out
  have r8 := R_r8.out
  have zNE := qNE.out
  go_wp2
  go_quiet (fail)
  have K2 := Lib.hid (K1.out.drewN nq)
  have BP2 : Hid (Below wp.heap.size wp (wq1.drewN nq)) := Lib.hid (BP1.out.drewN nq)
  have VG2 : Hid (vg < (wq1.drewN nq).heap.size) := Lib.hid VG1.out
  generalize wq1.drewN nq = wq2 at *
  clear k5 k6 r5 r6 r7 r8 zNE
  obtain ⟨_, k1, k2, _⟩ := K2.out
  have r9 := R_r9.out
  have r10 := R_r10.out
  have r11 := R_r11.out
  have r12 := R_r12.out
  have r13 := R_r13.out
  go_wp2
  go_quiet (fail)
  have K3 := Lib.hid (K2.out.drewN nq)
  have BP3 : Hid (Below wp.heap.size wp (wq2.drewN nq)) := Lib.hid (BP2.out.drewN nq)
  have VG3 : Hid (vg < (wq2.drewN nq).heap.size) := Lib.hid VG2.out
  generalize wq2.drewN nq = wq3 at *
  clear k1 k2 r9 r10 r11 r12 r13
  obtain ⟨_, _, _, _, _, _, _, k7, kx, ky, kz⟩ := K3.out
  have r1 := R_r1.out
  have r2 := R_r2.out
  have u1 := HD_U1.out
  have u2 := HD_U2.out
  have u3 := HD_U3.out
  have u4 := HD_U4.out
  have z1 := qU1.out
  have z2 := qU2.out
  have z3 := qU3.out
  have z4 := qU4.out
  go_wp2
  go_still_tail 25, (by kernel_rfl)
  still_call (s6.out _)
  still_step
  still_call (s11.out _)
  still_step
  still_step
  still_call (s25.out _)
  repeat still_step
  refine wpStill_nil ?_
  change wpList _ _ _ _ _ wq3.drew
  have K4 := Lib.hid K3.out.drew
  have BP4 : Hid (Below wp.heap.size wp wq3.drew) := Lib.hid (BP3.out.drewN 1)
  have VG4 : Hid (vg < wq3.drew.heap.size) := Lib.hid VG3.out
  generalize wq3.drew = wq4 at *
  clear k7 kx ky kz r1 r2 u1 u2 u3 u4 z1 z2 z3 z4
  have r3 := R_r3.out
  have r4 := R_r4.out
  have u5 := HD_U5.out
  have z5 := qU5.out
  go_wp2_with (go_at_call 22; first | ((with_reducible refine (m2.out _).mono ?_); rintro e w' ⟨rfl, hw⟩; obtain rfl : wq4 = w' := hw.symm) | ((with_reducible refine (m13.out _).mono ?_); rintro e w' ⟨rfl, hw⟩; obtain rfl : wq4 = w' := hw.symm) | ((with_reducible refine (m22.out _).mono ?_); rintro e w' ⟨rfl, hw⟩; obtain rfl : wq4 = w' := hw.symm))
  have u6 := HD_U6.out
  have u7 := HD_U7.out
  have z6 := qU6.out
  have z7 := qU7.out
  have zt := hNAt.out
  have zu := hNEt.out
  have zNA := qNA.out
  have zNW := qNEW.out
  obtain ⟨_, k1, k2, k3, _, k5, k6, _⟩ := K4.out
  have hvl := VG4.out
  clear r3 r4 u5 z5
  go_still_tail 24, (by kernel_rfl)
  change wpList _ _ _ _ _ wq4.drew
  have BP5 : Hid (Below wp.heap.size wp wq4.drew) := Lib.hid (BP4.out.drewN 1)
  generalize wq4.drew = wq5 at *
  clear u6 u7 z6 z7 zt zu zNA zNW k1 k2 k3 k5 k6 hvl
  have zr := HLR.out
  go_wp2
  have hrow9 : Row (wq5.alloc (.cells #[.int .i64 NA, .int .i64 A, .int .i64 B, .int .i64 C, .int .i64 NEW, .int .i64 E, .int .i64 F, .int .i64 G] 3)) wq5.heap.size 3 (tIs (trns SP H (r + 1)) ++ []) := by
    rw [HVAL.out]; exact Row.new _ _ _
  exact hQ wq5.heap.size _ rfl (by go_num) BP5.out.size hrow9 (BP5.out.next (alloc_below _ _))

end Go.Proofs.YtmphjmbnfaimiaaDoor
