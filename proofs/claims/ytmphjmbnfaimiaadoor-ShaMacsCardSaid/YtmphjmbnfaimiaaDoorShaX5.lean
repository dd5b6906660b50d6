/- The document's Sum: a byte loaded (gen_sha_sum.py). -/
import Derived.Test.YtmphjmbnfaimiaaDoorShaX4
namespace Go.Proofs.YtmphjmbnfaimiaaDoor
open Go.RowKit ShaMath
set_option linter.unusedVariables false
set_option maxRecDepth 100000

set_option maxHeartbeats 40000000 in
theorem sx_load {s0 s1 s2 s3 s4 s6 s7 s8 s13 s14 s15 s16 s17 s18 s19 s20 s21 s22 s23 s24 s25 s26 s27 s28 s29 s30 s31 s32 s33 s34 s35 s36 s37 s38 s39 s40 s41 s42 s43 s44 s45 s46 s47 s48 s49 s50 s51 s52 s53 s54 s55 s56 s57 s58 s59 s60 s61 s62 s63 s64 s65 s66 s67 s68 s69 s70 s71 s72 s73 s74 s75 s76 s77 s78 s79 s80 s81 s82 s83 s84 s85 s86 s87 s88 s89 s90 s91 s92 s93 s94 s95 s96 s97 s98 s99 s100 s101 s102 s103 s104 s105 s106 s107 s108 s109 s110 s111 s112 s113 s114 s115 s116 s117 s118 s119 s120 s121 s122 s123 s124 s125 s126 s127 s128 s129 s130 s131 s132 s133 s134 s135 s136 s137 s138 s139 s140 s141 s142 s143 s144 s145 s146 s147 s148 s149 s150 s151 s152 s153 s154 s155 s156 s157 s158 s159 s160 s161 s162 s163 s164 s165 s166 s167 s168 s169 s170 s171 s172 s173 s174 s175 s176 s177 s178 s179 s180 s181 s182 s183 s184 s185 s186 s187 s188 s189 s190 s191 s192 s193 s194 s195 s196 s197 s198 s199 s200 s201 s202 s203 s204 s205 s206 s207 s208 s209 s210 s211 s212 s213 s214 s215 s216 s217 s218 s219 s220 s221 s222 s223 s224 s225 s226 s227 s228 s229 s230 s231 s232 s233 s234 s235 s236 s237 s238 s239 s240 s241 s242 s243 s244 s245 s246 s247 s248 s249 s250 s251 s252 s253 s254 s255 s256 s257 s258 s259 s260 s261 s262 s263 s264 s265 s266 s267 s268 s269 s270 s271 s272 s273 s274 s275 s276 s277 s278 : Value} {Q : Exit → Act → World → Prop} {wr : World} {BK : List UInt8} {A i k wgg bg bn bc : Nat} {code : Code}
    (hcode : (sx_loops (Tryd.f9.body.getD .skip))[4]? = some code) (hlti : i < 16) (hltk : k < 4) (hA64 : A + 64 ≤ bn) (hbnI : (bn : Int) ≤ 100200) (hBKl : BK.length = 64) (hbl9 : bg < wr.heap.size)
    (hby : ∀ q (h : q < BK.length), wr.cell? ⟨bg, A + q, none⟩ = some (.int .u8 (BK[q].toNat : Int)))
    (hrow3 : Row wr wgg 3 (tIs (loaded BK (4 * i + k))))
    (hQ : ∀ {u12 u71 u72 u73 u74 u75 u76 u77 u78 u79 u80 u81 u82 u83 u84 u85 u86 u87 u88 u89 u90 u91 u92 u93 : Value} (w' : World), u12 = .int .i64 ((k + 1 : Nat) : Int) → Row w' wgg 3 (tIs (loaded BK (4 * i + (k + 1)))) → Only wgg wr w' → Q .normal ⟨#[s0, s1, s2, s3, s4, (.slice (some ⟨bg, 0, none⟩) bn bc), s6, s7, s8, (.int .i64 (A : Int)), (.slice (some ⟨wgg, 0, none⟩) 64 64), (.int .i64 (i : Int)), u12, s13, s14, s15, s16, s17, s18, s19, s20, s21, s22, s23, s24, s25, s26, s27, s28, s29, s30, s31, s32, s33, s34, s35, s36, s37, s38, s39, s40, s41, s42, s43, s44, s45, s46, s47, s48, s49, s50, s51, s52, s53, s54, s55, s56, s57, s58, s59, s60, s61, s62, s63, s64, s65, s66, s67, s68, s69, s70, u71, u72, u73, u74, u75, u76, u77, u78, u79, u80, u81, u82, u83, u84, u85, u86, u87, u88, u89, u90, u91, u92, u93, s94, s95, s96, s97, s98, s99, s100, s101, s102, s103, s104, s105, s106, s107, s108, s109, s110, s111, s112, s113, s114, s115, s116, s117, s118, s119, s120, s121, s122, s123, s124, s125, s126, s127, s128, s129, s130, s131, s132, s133, s134, s135, s136, s137, s138, s139, s140, s141, s142, s143, s144, s145, s146, s147, s148, s149, s150, s151, s152, s153, s154, s155, s156, s157, s158, s159, s160, s161, s162, s163, s164, s165, s166, s167, s168, s169, s170, s171, s172, s173, s174, s175, s176, s177, s178, s179, s180, s181, s182, s183, s184, s185, s186, s187, s188, s189, s190, s191, s192, s193, s194, s195, s196, s197, s198, s199, s200, s201, s202, s203, s204, s205, s206, s207, s208, s209, s210, s211, s212, s213, s214, s215, s216, s217, s218, s219, s220, s221, s222, s223, s224, s225, s226, s227, s228, s229, s230, s231, s232, s233, s234, s235, s236, s237, s238, s239, s240, s241, s242, s243, s244, s245, s246, s247, s248, s249, s250, s251, s252, s253, s254, s255, s256, s257, s258, s259, s260, s261, s262, s263, s264, s265, s266, s267, s268, s269, s270, s271, s272, s273, s274, s275, s276, s277, s278], []⟩ w') :
    Code.wp Tryd.prog code Q ⟨#[s0, s1, s2, s3, s4, (.slice (some ⟨bg, 0, none⟩) bn bc), s6, s7, s8, (.int .i64 (A : Int)), (.slice (some ⟨wgg, 0, none⟩) 64 64), (.int .i64 (i : Int)), (.int .i64 (k : Int)), s13, s14, s15, s16, s17, s18, s19, s20, s21, s22, s23, s24, s25, s26, s27, s28, s29, s30, s31, s32, s33, s34, s35, s36, s37, s38, s39, s40, s41, s42, s43, s44, s45, s46, s47, s48, s49, s50, s51, s52, s53, s54, s55, s56, s57, s58, s59, s60, s61, s62, s63, s64, s65, s66, s67, s68, s69, s70, s71, s72, s73, s74, s75, s76, s77, s78, s79, s80, s81, s82, s83, s84, s85, s86, s87, s88, s89, s90, s91, s92, s93, s94, s95, s96, s97, s98, s99, s100, s101, s102, s103, s104, s105, s106, s107, s108, s109, s110, s111, s112, s113, s114, s115, s116, s117, s118, s119, s120, s121, s122, s123, s124, s125, s126, s127, s128, s129, s130, s131, s132, s133, s134, s135, s136, s137, s138, s139, s140, s141, s142, s143, s144, s145, s146, s147, s148, s149, s150, s151, s152, s153, s154, s155, s156, s157, s158, s159, s160, s161, s162, s163, s164, s165, s166, s167, s168, s169, s170, s171, s172, s173, s174, s175, s176, s177, s178, s179, s180, s181, s182, s183, s184, s185, s186, s187, s188, s189, s190, s191, s192, s193, s194, s195, s196, s197, s198, s199, s200, s201, s202, s203, s204, s205, s206, s207, s208, s209, s210, s211, s212, s213, s214, s215, s216, s217, s218, s219, s220, s221, s222, s223, s224, s225, s226, s227, s228, s229, s230, s231, s232, s233, s234, s235, s236, s237, s238, s239, s240, s241, s242, s243, s244, s245, s246, s247, s248, s249, s250, s251, s252, s253, s254, s255, s256, s257, s258, s259, s260, s261, s262, s263, s264, s265, s266, s267, s268, s269, s270, s271, s272, s273, s274, s275, s276, s277, s278], []⟩ wr := by
  obtain rfl := Option.some.inj hcode.symm
  have e1i : (i : Int) < 64 := by omega
  have e2i : (i : Int) < 16 := by omega
  have e1k : (k : Int) < 4 := by omega
  have hm64 : 4 * i + k < 64 := by omega
  have hll : (4 * i + k) / 4 = i := by omega
  have hlen : i < (loaded BK (4 * i + k)).length := by rw [loaded_length]; omega
  have hbl : 4 * i + k < BK.length := by rw [hBKl]; exact hm64
  obtain ⟨x, hx⟩ : ∃ x, (loaded BK (4 * i + k))[i] = x := ⟨_, rfl⟩
  obtain ⟨y, hy⟩ : ∃ y, BK[4 * i + k] = y := ⟨_, rfl⟩
  have hroom := loaded_room BK (4 * i + k) hBKl hm64
  rw [hll, List.getD_eq_getElem?_getD, List.getElem?_eq_getElem hlen, Option.getD_some, hx] at hroom
  have hst := loaded_step BK (4 * i + k) hbl (by rw [hll]; exact hlen)
  have hval := take8_tI x y hroom
  obtain ⟨z, hz⟩ : ∃ z, (x <<< 8) ||| ex y = z := ⟨_, rfl⟩
  rw [hz] at hval
  have HST : Hid ((tIs (loaded BK (4 * i + k))).set i (.int .i64 (tI z)) = tIs (loaded BK (4 * i + (k + 1)))) := Lib.hid (by
    rw [← Nat.add_assoc, hst]
    simp only [tIs, List.map_set, hll, hx, hy, hz])
  have hcx : wr.cell? ⟨wgg, i, none⟩ = some (.int .i64 (tI x)) := by rw [hrow3.cell, tIs_get _ _ hlen, hx]
  obtain ⟨idx, hidx⟩ : ∃ e : Nat, A + (4 * i + k) = e := ⟨_, rfl⟩
  have hcy : wr.cell? ⟨bg, idx, none⟩ = some (.int .u8 (y.toNat : Int)) := by
    have h := hby (4 * i + k) hbl
    rwa [hy, hidx] at h
  obtain ⟨X, hX⟩ : ∃ X, tI x = X := ⟨_, rfl⟩
  obtain ⟨Zv, hZv⟩ : ∃ X, tI z = X := ⟨_, rfl⟩
  have hX0 : 0 ≤ X ∧ X < 16777216 := by rw [← hX]; unfold tI; omega
  rw [hX] at hcx hval
  rw [hZv] at hval HST
  obtain ⟨yn, hyn⟩ : ∃ yn : Nat, y.toNat = yn := ⟨_, rfl⟩
  have hy8 : (yn : Int) < 256 := by have := y.toNat_lt; omega
  rw [hyn] at hcy hval
  have hval2 : (256 : Int) * X + (yn : Int) = Zv := by rw [← hval]; rfl
  clear hval
  have hx1 := hX0.1
  have hx2 := hX0.2
  have hi0 : (A : Int) + 4 * (i : Int) + (k : Int) = (idx : Int) := by omega
  have hib : (idx : Int) < (bn : Int) := by omega
  have HLEN : Hid (i < (tIs (loaded BK (4 * i + k))).length) := Lib.hid (by rw [tIs_length, loaded_length]; omega)
  have HIS : Hid ((Tryd.prog.info? 3).map (·.size) = some 1) := Lib.hid (by kernel_rfl)
  have hA9 : (A : Int) ≤ 100200 := by omega
  have hZ9 : 0 ≤ Zv ∧ Zv < 4294967296 := by rw [← hZv]; exact tI_lt z
  have hw1 : IntKind.i64.wrap (256 * X) = 256 * X := by rw [IntKind.wrap_i64]; omega
  have hw2 : IntKind.i64.wrap (4 * (i : Int)) = 4 * (i : Int) := by rw [IntKind.wrap_i64]; omega
  have hw3 : IntKind.i64.wrap ((A : Int) + 4 * (i : Int)) = (A : Int) + 4 * (i : Int) := by rw [IntKind.wrap_i64]; omega
  have hw4 : IntKind.i64.wrap (idx : Int) = (idx : Int) := by rw [IntKind.wrap_i64]; omega
  have hw6 : IntKind.i64.wrap (yn : Int) = (yn : Int) := by rw [IntKind.wrap_i64]; omega
  have hw5 : IntKind.i64.wrap Zv = Zv := by rw [IntKind.wrap_i64]; omega
  clear hst hx hy hz hroom hX hZv hyn hX0 hlen hbl hll hidx hm64 hA9 hZ9
  have HROW3 := Lib.hid hrow3
  have HBL1 : bg < wr.heap.size := hbl9
  clear hrow3 hby hBKl
  go_wp2
  go_still_tail 19, (by kernel_rfl)
  change wpList _ _ _ _ _ wr.drew
  have HR3D := Lib.hid HROW3.out.drew
  have HO3D := Lib.hid (Only.refl wgg wr).drew
  generalize wr.drew = wd at *
  go_wp2_with ((with_reducible refine HR3D.out.wpStore1K i 3 (.int .i64 Zv) HIS.out HLEN.out rfl rfl ?_ ?_); rfl; intro w10 r10 o10 s10; have R10 := Lib.hid r10; have O10 := Lib.hid (HO3D.out.trans o10); clear r10 o10 s10)
  exact hQ _ (by go_num) (by rw [← HST.out]; exact R10.out) O10.out

end Go.Proofs.YtmphjmbnfaimiaaDoor
