/-
  DevPlays: the switch, spoil.
-/
import Derived.Test.YtmkheikllbjcbaaPlayBase
namespace Go.Proofs.Ytmkheikllbjcbaa
open Go.RowKit Go.Maps

set_option maxRecDepth 1000000 in
set_option maxHeartbeats 40000000 in
theorem play_spoil {w wx : World} {m g o len cap b rb t xb dq : Nat} {S : Dv} {x : ActV} {u2 u3 u4 u11 u12 u13 u14 u15 u16 u17 u18 u19 u20 u21 u22 u23 u24 u25 u26 u27 u28 u29 u30 u31 u32 u33 u34 u35 u36 u37 u38 u39 u40 u41 u42 u43 u44 u45 u46 u47 u48 u49 u50 u51 u52 u53 u54 u55 u56 u57 u58 u59 u60 u61 u62 u63 u64 u65 u66 u67 u68 u69 u70 u71 u72 u73 u74 u75 u76 u77 u78 u80 u81 u82 u83 u84 u85 u86 u87 u88 u89 u90 u91 u92 u93 u94 u95 u96 u97 u98 u99 u100 u101 u102 u103 u104 u105 u106 u107 u108 u109 u110 u111 u112 u113 u114 u115 u116 u117 u118 u119 u120 u121 u122 u123 u124 u125 u126 u127 u128 u129 u130 u131 u132 u133 u134 u135 u136 u137 u138 u139 u140 u141 u142 u143 u144 u145 u146 u147 u148 u149 u150 u151 u152 u153 u154 u155 u156 u157 u158 u159 u160 u161 u162 u163 u164 u165 u166 u167 u168 u169 u170 u171 u172 u173 u174 u175 u176 u177 u178 u179 u180 u181 u182 u183 u184 u185 u186 u187 u188 u189 u190 u191 u192 u193 u194 u195 u196 u197 u198 u199 u200 u201 u202 u203 u204 u205 u206 u207 u208 u209 u210 u211 u212 u213 u214 u215 u216 u217 u218 u219 u220 u221 u222 u223 u224 u225 u226 u227 u228 u229 u230 u231 u232 u233 u234 u235 u236 u237 u238 u239 u240 u241 u242 u243 u244 u245 u246 u247 u248 u249 u250 u251 u252 u253 u254 u255 u256 u257 u258 u259 u260 u261 u262 u263 u264 u265 u266 u267 u268 u269 u270 u271 u272 u273 u274 u275 u276 u277 u278 u279 u280 u281 u282 u283 u284 u285 u286 u287 u288 u289 u290 u291 u292 u293 u294 u295 u296 u297 u298 u299 u300 u301 u302 u303 u304 u305 u306 u307 u308 u309 u310 u311 u312 u313 u314 u315 u316 u317 u318 u319 u320 u321 u322 u323 u324 u325 u326 u327 u328 u329 u330 u331 u332 u333 u334 u335 u336 u337 u338 u339 u340 u341 u342 u343 : Value} {Q' : Exit → Act → World → Prop} {J K' : Act → World → Prop}
    (H : PlayIn w wx m len b rb t xb dq S x) (hw : dq = 6)
    (hJ : ∀ (a' : Act) (w' : World), (∃ u4 u10 u11 u12 u13 u14 u15 u16 u17 u56 u57 u58 u59 u60 u61 u62 u63 u64 u65 u66 u67 u68 u69 u70 u71 u72 u73 u74 u75 u76 u77 u78 u79 u80 u81 u82 u83 u84 u85 u86 u87 u88 u89 u90 u91 u92 u93 u94 u95 u96 u97 u98 u99 u100 u101 u102 u103 u104 u105 u106 u107 u108 u109 u110 u111 u112 u113 u114 u115 u116 u117 u118 u119 u120 u121 u122 u123 u124 u125 u126 u127 u128 u129 u130 u131 u132 u133 u134 u135 u136 u137 u138 u139 u140 u141 u142 u143 u144 u145 u146 u147 u148 u149 u150 u151 u152 u153 u154 u155 u156 u157 u158 u159 u160 u161 u162 u163 u164 u165 u166 u167 u168 u169 u170 u171 u172 u173 u174 u175 u176 u177 u178 u179 u180 u181 u182 u183 u184 u185 u186 u187 u188 u189 u190 u191 u192 u193 u194 u195 u196 u197 u198 u199 u200 u201 u202 u203 u204 u205 u206 u207 u208 u209 u210 u211 u212 u213 u214 u215 u216 u217 u218 u219 u220 u221 u222 u223 u224 u225 u226 u227 u228 u229 u230 u231 u232 u233 u234 u235 u236 u237 u238 u239 u240 u241 u242 u243 u244 u245 u246 u247 u248 u249 u250 u251 u252 u253 u254 u255 u256 u257 u258 u259 u260 u261 u262 u263 u264 u265 u266 u267 u268 u269 u270 u271 u272 u273 u274 u275 u276 u277 u278 u279 u280 u281 u282 u283 u284 u285 u286 u287 u288 u289 u290 u291 u292 u293 u294 u295 u296 u297 u298 u299 u300 u301 u302 u303 u304 u305 u306 u307 u308 u309 u310 u311 u312 u313 u314 u315 u316 u317 u318 u319 u320 u321 u322 u323 u324 u325 u326 u327 u328 u329 u330 u331 u332 u333 u334 u335 u336 u337 u338 u339 u340 u341 u342 u343 : Value, PlayPost w.heap.size b rb m t w w' ∧ a' = ⟨#[.int .i64 (m : Int), .slice (some ⟨g, o, none⟩) len cap, u2, u3, u4, .pointer (some ⟨b, 0, none⟩), .int .i64 0, .pointer (some ⟨rb, 0, none⟩), .int .i64 (t : Int), .pointer (some ⟨xb, 0, none⟩), u10, u11, u12, u13, u14, u15, u16, u17, u18, u19, u20, u21, u22, u23, u24, u25, u26, u27, u28, u29, u30, u31, u32, u33, u34, u35, u36, u37, u38, u39, u40, u41, u42, u43, u44, u45, u46, u47, u48, u49, u50, u51, u52, u53, u54, u55, u56, u57, u58, u59, u60, u61, u62, u63, u64, u65, u66, u67, u68, u69, u70, u71, u72, u73, u74, u75, u76, u77, u78, u79, u80, u81, u82, u83, u84, u85, u86, u87, u88, u89, u90, u91, u92, u93, u94, u95, u96, u97, u98, u99, u100, u101, u102, u103, u104, u105, u106, u107, u108, u109, u110, u111, u112, u113, u114, u115, u116, u117, u118, u119, u120, u121, u122, u123, u124, u125, u126, u127, u128, u129, u130, u131, u132, u133, u134, u135, u136, u137, u138, u139, u140, u141, u142, u143, u144, u145, u146, u147, u148, u149, u150, u151, u152, u153, u154, u155, u156, u157, u158, u159, u160, u161, u162, u163, u164, u165, u166, u167, u168, u169, u170, u171, u172, u173, u174, u175, u176, u177, u178, u179, u180, u181, u182, u183, u184, u185, u186, u187, u188, u189, u190, u191, u192, u193, u194, u195, u196, u197, u198, u199, u200, u201, u202, u203, u204, u205, u206, u207, u208, u209, u210, u211, u212, u213, u214, u215, u216, u217, u218, u219, u220, u221, u222, u223, u224, u225, u226, u227, u228, u229, u230, u231, u232, u233, u234, u235, u236, u237, u238, u239, u240, u241, u242, u243, u244, u245, u246, u247, u248, u249, u250, u251, u252, u253, u254, u255, u256, u257, u258, u259, u260, u261, u262, u263, u264, u265, u266, u267, u268, u269, u270, u271, u272, u273, u274, u275, u276, u277, u278, u279, u280, u281, u282, u283, u284, u285, u286, u287, u288, u289, u290, u291, u292, u293, u294, u295, u296, u297, u298, u299, u300, u301, u302, u303, u304, u305, u306, u307, u308, u309, u310, u311, u312, u313, u314, u315, u316, u317, u318, u319, u320, u321, u322, u323, u324, u325, u326, u327, u328, u329, u330, u331, u332, u333, u334, u335, u336, u337, u338, u339, u340, u341, u342, u343], []⟩) → J a' w')
    (hK : ∀ (a' : Act) (w' : World), Met J a' w' → K' a' w') :
    Code.wp Try.prog swCode (Exit.then K' Q') ⟨#[.int .i64 (m : Int), .slice (some ⟨g, o, none⟩) len cap, u2, u3, u4, .pointer (some ⟨b, 0, none⟩), .int .i64 0, .pointer (some ⟨rb, 0, none⟩), .int .i64 (t : Int), .pointer (some ⟨xb, 0, none⟩), .int .i64 (reachE S x.at_), u11, u12, u13, u14, u15, u16, u17, u18, u19, u20, u21, u22, u23, u24, u25, u26, u27, u28, u29, u30, u31, u32, u33, u34, u35, u36, u37, u38, u39, u40, u41, u42, u43, u44, u45, u46, u47, u48, u49, u50, u51, u52, u53, u54, u55, u56, u57, u58, u59, u60, u61, u62, u63, u64, u65, u66, u67, u68, u69, u70, u71, u72, u73, u74, u75, u76, u77, u78, .int .u8 ((x.do_.toNat : Int) % 10), u80, u81, u82, u83, u84, u85, u86, u87, u88, u89, u90, u91, u92, u93, u94, u95, u96, u97, u98, u99, u100, u101, u102, u103, u104, u105, u106, u107, u108, u109, u110, u111, u112, u113, u114, u115, u116, u117, u118, u119, u120, u121, u122, u123, u124, u125, u126, u127, u128, u129, u130, u131, u132, u133, u134, u135, u136, u137, u138, u139, u140, u141, u142, u143, u144, u145, u146, u147, u148, u149, u150, u151, u152, u153, u154, u155, u156, u157, u158, u159, u160, u161, u162, u163, u164, u165, u166, u167, u168, u169, u170, u171, u172, u173, u174, u175, u176, u177, u178, u179, u180, u181, u182, u183, u184, u185, u186, u187, u188, u189, u190, u191, u192, u193, u194, u195, u196, u197, u198, u199, u200, u201, u202, u203, u204, u205, u206, u207, u208, u209, u210, u211, u212, u213, u214, u215, u216, u217, u218, u219, u220, u221, u222, u223, u224, u225, u226, u227, u228, u229, u230, u231, u232, u233, u234, u235, u236, u237, u238, u239, u240, u241, u242, u243, u244, u245, u246, u247, u248, u249, u250, u251, u252, u253, u254, u255, u256, u257, u258, u259, u260, u261, u262, u263, u264, u265, u266, u267, u268, u269, u270, u271, u272, u273, u274, u275, u276, u277, u278, u279, u280, u281, u282, u283, u284, u285, u286, u287, u288, u289, u290, u291, u292, u293, u294, u295, u296, u297, u298, u299, u300, u301, u302, u303, u304, u305, u306, u307, u308, u309, u310, u311, u312, u313, u314, u315, u316, u317, u318, u319, u320, u321, u322, u323, u324, u325, u326, u327, u328, u329, u330, u331, u332, u333, u334, u335, u336, u337, u338, u339, u340, u341, u342, u343], []⟩ wx := by
  conv => arg 2; whnf
  obtain ⟨hg1, hg2, h80, hlt, hcnt, HMED, hn0, hn1, hat0, hat1, b1, HB1, HXB, hxs, y0, y1, y2, y3, y4, HKP, hdo, hdq, hdq10⟩ := H
  have hBz := b1.size
  subst hw
  have hdq : (x.do_.toNat : Int) % 10 = 6 := by omega
  by_cases hsb : S.spoilB x.at_ x.fill = true
  · have hz : reachE S x.at_ = 0 := by simp [Dv.spoilB] at hsb; exact hsb.2
    have h0 : x.fill ≠ 0 := by simp [Dv.spoilB] at hsb; exact hsb.1
    obtain ⟨hl, k, hk, hkm⟩ := reach_zero hz
    have hc1 : ((x.fill.toNat : Int) != 0) = true := by
      simp; intro e; apply h0; exact UInt8.toNat_inj.1 (by simpa using e)
    have hF := HB1.out.dev hBz (fun fp hd => spoil_ok b S fp k x.n x.fill wx hd hl hkm h0)
    have hnl : (S.now k).length = 64 := by
      obtain ⟨fp, _, hdv, _⟩ := HB1.out
      exact now_len hdv k hkm
    rw [hz]
    rw [hk] at y1
    obtain ⟨r, q, e64, r1, r2, r3, hq, hq64⟩ := rem64 x.n
    rw [hq, Int.toNat_natCast] at hF
    have r4 : IntKind.i64.wrap (r + 64) = r + 64 := IntWalk.i64_in _ (by omega)
    clear hk hz hsb hq
    go_wp2_with fail
    refine hF.mono ?_
    rintro e w4 ⟨rfl, hB4, b4, k4⟩
    (try dsimp only)
    have hx4 := (k4 xb rfl).trans HXB.out
    have z1 : w4.cell? ⟨xb, 1, none⟩ = some (.int .i64 (k : Int)) := by rw [World.cell?_of_block (w := wx) (k4 xb rfl)]; exact y1
    have z2 : w4.cell? ⟨xb, 2, none⟩ = some (.int .i64 x.n) := by simp [World.cell?, hx4]
    have z3 : w4.cell? ⟨xb, 3, none⟩ = some (.int .u8 (x.fill.toNat : Int)) := by simp [World.cell?, hx4]
    have b14 := b1.trans b4
    obtain ⟨rp, ⟨mb, mc, sb, sc, hdd, hr⟩, hFr, H⟩ := hB4.ref b14.size
    have p0 := hr.c0
    have p1 := hr.c1
    have p2 := hr.c2
    have p3 := hr.c3
    have hN := refNow_any mb mc sb sc hdd S rp k w4 hr.v hkm (by omega)
    unfold refCells at hN
    have hx0 : xb < w4.heap.size := Nat.lt_of_lt_of_le hxs b4.size
    have HR := Lib.hid hr
    have HH := Lib.hid H
    clear hr H hFr hB4 hF k4 hx4 b4
    rw [HMED.out] at p0 p1 hN
    generalize S.lost = lo at p2 hN
    generalize fuseV S = fz at p3 hN
    generalize hst : strOf (S.now k) = st at hN
    have hsz : st.size = 64 := by rw [← hst, strOf_size, hnl]
    have hsl : st.data.toList = S.now k := by rw [← hst, strOf_list]
    clear hst
    go_wp2_with fail
    refine hN.mono ?_
    rintro e w5 ⟨rfl, b5⟩
    (try dsimp only)
    have hcv := conv_to w5 st
    have hrow := bytesW_row w5 st
    have b56 := bytesW_below w5 st
    rw [hsl] at hrow
    rw [hsz] at hcv
    have hnb : w4.heap.size ≤ w5.heap.size := b5.size
    have b46 := early b5 b5.size b56
    generalize grownCap w5 64 0 5 = gc at hcv
    generalize bytesW w5 st = w6 at hcv hrow b56 b46
    generalize w5.heap.size = nb at *
    have z2' : w6.cell? ⟨xb, 2, none⟩ = some (.int .i64 x.n) := by rw [b46.cell (p := ⟨xb, 2, none⟩) hx0]; exact z2
    have z3' : w6.cell? ⟨xb, 3, none⟩ = some (.int .u8 (x.fill.toNat : Int)) := by rw [b46.cell (p := ⟨xb, 3, none⟩) hx0]; exact z3
    have hby := hrow.c q (by rw [hnl]; exact hq64)
    have hbf := hrow.f q (by rw [hnl]; exact hq64)
    have HROW := Lib.hid hrow
    have B46 := Lib.hid b46
    clear hrow b46 b56 hN b5 hsl
    generalize hy : (S.now k)[q]'(by rw [hnl]; exact hq64) = yb at *
    go_wp2_with fail
    have hbyD : w6.drew.cell? ⟨nb, q, none⟩ = some (.int .u8 (yb.toNat : Int)) := hby
    have hbfD : w6.drew.frozen? ⟨nb, q, none⟩ = false := hbf
    have z2D : w6.drew.cell? ⟨xb, 2, none⟩ = some (.int .i64 x.n) := z2'
    have z3D : w6.drew.cell? ⟨xb, 3, none⟩ = some (.int .u8 (x.fill.toNat : Int)) := z3'
    have hqi : (q : Int) < 64 := by omega
    refine wp_region_still_tail 12 (by kernel_rfl) (by kernel_rfl) ?_
    simp only [List.take_succ_cons, List.take_zero, List.drop_succ_cons, List.drop_zero]
    repeat still_step
    refine wpStill_nil ?_
    have hv := bits_xor yb x.fill
    rw [hv]
    clear hv
    have hqr : q < (S.now k).length := by rw [hnl]; exact hq64
    have hrow7 := (HROW.out.below ((Below.refl w6.heap.size w6).drew) HROW.out.lt).set q hqr (yb ^^^ x.fill)
    have b47 : Below w4.heap.size w4 (w6.drew.setCell ⟨nb, q, none⟩ (.int .u8 ((yb ^^^ x.fill).toNat : Int))) := B46.out.drew.setCell hnb _
    have hr7 := HR.out.same b47.size fun j hj => b47.block j (HR.out.v.lt j hj)
    have z17 : (w6.drew.setCell ⟨nb, q, none⟩ (.int .u8 ((yb ^^^ x.fill).toNat : Int))).cell? ⟨xb, 1, none⟩ = some (.int .i64 (k : Int)) := by rw [b47.cell (p := ⟨xb, 1, none⟩) hx0]; exact z1
    have hsp : spoilt (S.now k) q x.fill = (S.now k).set q (yb ^^^ x.fill) := by
      unfold spoilt
      rw [List.getD_eq_getElem?_getD, List.getElem?_eq_getElem hqr, ← hy]
      rfl
    rw [← hsp] at hrow7
    have hcf := conv_from _ nb _ hrow7 64 gc (by simp [spoilt, hnl])
    generalize hzb : (yb ^^^ x.fill) = zb at *
    have u1 := hr7.c1
    have u0 := hr7.c0
    rw [HMED.out] at u1 u0
    have us := hr7.v.sin.cells k hkm
    have um := hr7.v.med.cells k hkm
    have uf := hr7.v.med.frozen k
    have hkm' : k < m := by rw [← HMED.out]; exact hkm
    have T7 := Lib.hid (Turn.of_below (fp := rp) b47)
    have HR7 := Lib.hid hr7
    have B47 := Lib.hid b47
    have HSP := Lib.hid hsp
    have HROW7 := Lib.hid hrow7
    clear hr7 b47 hsp hrow7 hby hbf hzb hy HROW B46 hcv z2D z3D z2' z3' z2 z3 p0 p1 p2 p3
    rw [show (⟨(spoilt (S.now k) q x.fill).toArray⟩ : ByteArray) = strOf (spoilt (S.now k) q x.fill) from rfl] at hcf
    generalize hsp' : spoilt (S.now k) q x.fill = sp at *
    go_upto_region 56 with (fail)
    rw [show (w6.setCell ⟨nb, q, none⟩ (.int .u8 (zb.toNat : Int))).drew = w6.drew.setCell ⟨nb, q, none⟩ (.int .u8 (zb.toNat : Int)) from rfl]
    generalize w6.drew.setCell ⟨nb, q, none⟩ (.int .u8 (zb.toNat : Int)) = w7 at *
    have hki : (k : Int) < (m : Int) := by omega
    have fin : ∀ w8, RefIn w8 rb mb mc sb sc hdd (S.turn k sp) rp → Turn rp w4 w8 → PlayPost w.heap.size b rb m t w w8 := by
      intro w8 h8 t8
      have h9 := HH.out w8 (S.turn k sp) ⟨rp, ⟨mb, mc, sb, sc, hdd, h8⟩, fun j hj => .inl hj, t8⟩
      refine ⟨S.turn k sp, h9.1.free, ?_, ?_, b14.trans h9.2.1⟩
      · unfold Dv.turn
        split
        · rw [List.length_set]; exact HMED.out
        · exact HMED.out
      · unfold Dv.turn
        split
        · show S.cnt ≤ _; omega
        · show S.cnt ≤ _; omega
    have FIN := Lib.hid fin
    clear fin
    by_cases e : S.since k = []
    · rw [show rvOf S hdd k = none by unfold rvOf; rw [if_pos e]] at us
      simp only [Hd.val] at us
      have HE := Lib.hid e
      clear e
      generalize hss : strOf sp = ss at hcf
      have HSS := Lib.hid hss
      clear hss
      go_wp2
      go_meet
      refine FIN.out _ ?_ (T7.out.setCell (.inl HR.out.v.fm) _)
      rw [← HSS.out]
      unfold Dv.turn
      rw [if_pos HE.out]
      exact HR7.out.medSet k hkm sp
    · rw [show rvOf S hdd k = some ((hdd k).1, (S.since k).length, (hdd k).2) by unfold rvOf; rw [if_neg e]] at us
      simp only [Hd.val] at us
      obtain ⟨s1, hs1⟩ : ∃ s1, (S.since k).length = s1 + 1 := ⟨(S.since k).length - 1, by have := List.length_pos_iff.2 e; omega⟩
      have hsc : (S.since k).length ≤ S.cnt := HR.out.v.ok.cnts k
      have hvv := HR7.out.v.vers k e
      have ve := hvv.cells s1 (by omega)
      have vf := hvv.frozen s1
      rw [hs1] at us hsc
      have q1 : IntKind.i64.wrap ((s1 : Int) + 1 - 1) = (s1 : Int) := by rw [show (s1 : Int) + 1 - 1 = s1 by omega]; exact IntWalk.i64_in _ (by omega)
      have q2 : IntKind.i64.wrap (s1 : Int) = (s1 : Int) := IntWalk.i64_in _ (by omega)
      have q3 : (s1 : Int) < (s1 : Int) + 1 := by omega
      have hfin2 := HR7.out.verSet k e s1 (by omega) sp
      have htn : S.turn k sp = { S with since := fun i => if i = k then (S.since k).set s1 sp else S.since i } := by
        unfold Dv.turn
        rw [if_neg e, hs1]
        rfl
      rw [← htn] at hfin2
      have HF2 := Lib.hid hfin2
      have hfv := HR.out.v.fv k e
      have HFV := Lib.hid hfv
      generalize hss : strOf sp = ss at *
      have HSS := Lib.hid hss
      clear hss hvv hfin2 htn hs1 e hfv
      generalize (hdd k).1 = vg at *
      generalize (hdd k).2 = vc at *
      go_wp2_with fail
      have D1 : w7.drew.cell? ⟨rb, 1, none⟩ = some (.slice (some ⟨sb, 0, none⟩) m sc) := u1
      have D2 : w7.drew.cell? ⟨xb, 1, none⟩ = some (.int .i64 (k : Int)) := z17
      have D3 : w7.drew.cell? ⟨sb, k, none⟩ = some (.slice (some ⟨vg, 0, none⟩) (s1 + 1) vc) := us
      have D4 := conv_from w7.drew nb _ (HROW7.out.below ((Below.refl w7.heap.size w7).drew) HROW7.out.lt) 64 gc (by rw [← hsp']; simp [spoilt, hnl])
      rw [show (⟨sp.toArray⟩ : ByteArray) = ss from HSS.out] at D4
      have D5 : w7.drew.cell? ⟨vg, s1, none⟩ = _ := ve
      have D6 : w7.drew.frozen? ⟨vg, s1, none⟩ = false := vf
      refine wp_region_still_tail 11 (by kernel_rfl) (by kernel_rfl) ?_
      simp only [List.take_succ_cons, List.take_zero, List.drop_succ_cons, List.drop_zero]
      repeat still_step
      refine wpStill_nil ?_
      go_wp2
      go_meet
      refine FIN.out _ ?_ ?_
      · exact HF2.out.same (Nat.le_refl _) fun _ _ => rfl
      · exact Turn.trans (T7.out.setCell (p := ⟨vg, s1, none⟩) (.inl HFV.out) (.string ss)) (Turn.of_below (fp := rp) ((Below.refl _ (w7.setCell ⟨vg, s1, none⟩ (.string ss))).drew)) fun _ h => .inl h
  · have hsb' : S.spoilB x.at_ x.fill = false := by simpa using hsb
    obtain ⟨fp, _, hdv, _⟩ := HB1.out
    have hF := spoil_still b S fp x.at_ x.n x.fill wx hdv hsb'
    clear hdv
    by_cases hz : reachE S x.at_ = 0
    · have h0 : x.fill = 0 := by simpa [Dv.spoilB, hz] using hsb'
      rw [hz]
      have hf0 : x.fill.toNat = 0 := by rw [h0]; rfl
      rw [hf0] at y3 hF
      clear hz h0 hf0 hsb hsb'
      go_wp2_with fail
      refine hF.mono ?_
      rintro e w4 ⟨rfl, rfl⟩
      (try dsimp only)
      go_wp2
      go_meet
      exact ⟨S, HB1.out.free, HMED.out, by omega, b1⟩
    · generalize reachE S x.at_ = r at *
      have r0 : (r == 0) = false := by simpa using hz
      clear hsb hsb'
      go_wp2_with fail
      refine hF.mono ?_
      rintro e w4 ⟨rfl, rfl⟩
      (try dsimp only)
      go_wp2
      go_meet
      exact ⟨S, HB1.out.free, HMED.out, by omega, b1⟩
end Go.Proofs.Ytmkheikllbjcbaa
