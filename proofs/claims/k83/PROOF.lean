import PyProof.Rows.All
import Wide.All
import OpenK.AllK
import Wide.FinOn
import PyProof.StrLawsTight
import PyProof.Rows.StrLawsPart
import PyProof.Rows.ReprOcc
import KE.KIntText
import HandS.ForMost
import HandS.ForExc
import HandS.Wide
import HandS.Evl
import HandS.Zip
import HandS.IsInst
import HandS.Iter
import PySem.Challenge.RW_dequelogs_k83_values_changed_in_place
import HandS.DictComp
import HandS.Dict
import HandS.More
import HandS.Strs
import HandS.Style
import HandS.Text
import HandS.FStr
import HandS.CallLocal
import PyProof.EqKinds
import PyProof.ReprRoads
import PyProof.ReprLen
import HandS.RaiseMore
import HandS.Finally
import HandS.DeepEq
import KE.DataFind
import HandS.Deep
set_option Elab.async false
set_option linter.all false
set_option maxRecDepth 100000
set_option maxHeartbeats 4000000
namespace Vx
open PySem PySem.StrLaws PySem.Builtin.Str
/-! one sign between texts that have it not -/
abbrev sg (c : Nat) : Str := ⟨#[c]⟩
def Free (c : Nat) (x : Str) : Prop := c ∉ x.cps.toList
theorem str_ext {a b : Str} (h : a.cps.toList = b.cps.toList) : a = b := Str.ext' (Array.toList_inj.mp h)
theorem cat_list (a b : Str) : (a ++ b).cps.toList = a.cps.toList ++ b.cps.toList := by
  rw [Str.cps_append, Array.toList_append]
theorem cut_one {c : Nat} : ∀ {a b s t : List Nat}, c ∉ a → c ∉ b → a ++ c :: s = b ++ c :: t → a = b ∧ s = t
  | [], [], _, _, _, _, h => ⟨rfl, (List.cons.inj h).2⟩
  | [], y :: b, _, _, _, hb, h => absurd (List.mem_cons.mpr (Or.inl (List.cons.inj h).1)) hb
  | x :: a, [], _, _, ha, _, h => absurd (List.mem_cons.mpr (Or.inl (List.cons.inj h).1.symm)) ha
  | x :: a, y :: b, s, t, ha, hb, h => by
    obtain ⟨h1, h2⟩ := List.cons.inj h
    obtain ⟨h3, h4⟩ := cut_one (fun z => ha (List.mem_cons_of_mem _ z)) (fun z => hb (List.mem_cons_of_mem _ z)) h2
    exact ⟨by rw [h1, h3], h4⟩
theorem no_cut {c : Nat} {a b s : List Nat} (ha : c ∉ a) (h : a = b ++ c :: s) : False := ha (by rw [h]; simp)
theorem join_cons2 (c : Nat) (x y : Str) (r : List Str) : (Str.join (sg c) (x :: y :: r)).cps.toList = x.cps.toList ++ c :: (Str.join (sg c) (y :: r)).cps.toList := by
  show ((x ++ sg c) ++ Str.join (sg c) (y :: r)).cps.toList = _
  rw [cat_list, cat_list]
  show (x.cps.toList ++ [c]) ++ _ = _
  rw [List.append_assoc]
  rfl
theorem join_inj {c : Nat} : ∀ {ws us : List Str}, (∀ w ∈ ws, Free c w) → (∀ u ∈ us, Free c u) → ws ≠ [] → us ≠ [] → Str.join (sg c) ws = Str.join (sg c) us → ws = us
  | [], _, _, _, h, _, _ => absurd rfl h
  | _, [], _, _, _, h, _ => absurd rfl h
  | [x], [y], _, _, _, _, h => by rw [show x = y from h]
  | [x], y :: z :: r, hx, _, _, _, h => by
    have := congrArg (fun s : Str => s.cps.toList) h
    rw [join_cons2] at this
    exact (no_cut (hx x (List.mem_cons_self ..)) this).elim
  | x :: z :: r, [y], _, hy, _, _, h => by
    have := congrArg (fun s : Str => s.cps.toList) h
    rw [join_cons2] at this
    exact (no_cut (hy y (List.mem_cons_self ..)) this.symm).elim
  | x :: x2 :: r, y :: y2 :: r2, hx, hy, _, _, h => by
    have h0 := congrArg (fun s : Str => s.cps.toList) h
    rw [join_cons2, join_cons2] at h0
    obtain ⟨h1, h2⟩ := cut_one (hx x (List.mem_cons_self ..)) (hy y (List.mem_cons_self ..)) h0
    rw [str_ext h1, join_inj (ws := x2 :: r) (us := y2 :: r2) (fun w hw => hx w (List.mem_cons_of_mem _ hw)) (fun w hw => hy w (List.mem_cons_of_mem _ hw)) (by simp) (by simp) (str_ext h2)]
theorem split_ne (x y : Str) : Txt.split x y ≠ [] := by
  unfold Txt.split
  split
  · simp
  · split
    · simp
    · rw [partsBetween_eq]
      obtain ⟨p, r, e⟩ := partsFrom_ne x y.length 0 (occurrences x y 0 x.length (x.length + 1))
      rw [e]
      simp
/-- the parts of a text that was joined -/
theorem split_join {c : Nat} {ws : List Str} (h : ∀ w ∈ ws, Free c w) (hn : ws ≠ []) : Txt.split (Str.join (sg c) ws) (sg c) = ws :=
  join_inj (split_free _ c) h (split_ne _ _) hn (StrLaws.join_split _ _)
theorem tjoin (c : Nat) (ws : List Str) : Txt.join (sg c) ws = Str.join (sg c) ws := StrLaws.glued_eq_join _ _
/-- the three parts at the first sign -/
theorem part_at {c : Nat} {a b : Str} (h : Free c a) : Txt.partition (a ++ sg c ++ b) (sg c) = (a, sg c, b) := by
  have hat : StrLaws.At (a ++ sg c ++ b) (sg c) (a ++ sg c ++ b).length a.length := by
    refine (subAt_one _ c _).mpr ?_
    rw [cat_list, cat_list, List.append_assoc, List.getElem?_append_right (by exact Nat.le_refl _)]
    show ([c] ++ b.cps.toList)[a.cps.toList.length - a.cps.size]? = some c
    rw [Array.length_toList, Nat.sub_self]
    rfl
  have hs := StrLaws.partition_sum (a ++ sg c ++ b) (sg c)
  rcases StrLaws.occ_head (a ++ sg c ++ b) (sg c) 1 (Nat.le_refl 1) with ⟨_, h2⟩ | ⟨i, r, h1, h2, h3⟩
  · exact absurd hat (h2 _)
  · have h5 : ¬ a.length < i := fun z => h3 _ z hat
    have hp : Txt.partition (a ++ sg c ++ b) (sg c) = (strSub (a ++ sg c ++ b) 0 i, sg c, strSub (a ++ sg c ++ b) (i + (sg c).length) (a ++ sg c ++ b).length) := by
      unfold Txt.partition
      rw [h1]
    rw [hp] at hs ⊢
    dsimp only at hs
    have hf : Free c (strSub (a ++ sg c ++ b) 0 i) := StrLaws.part_free _ c 0 i (by have := h2.1; omega) fun k _ z => h3 k z
    have hl := congrArg (fun s : Str => s.cps.toList) hs
    rw [cat_list, cat_list, cat_list, cat_list, List.append_assoc, List.append_assoc] at hl
    obtain ⟨e1, e2⟩ := cut_one hf h hl
    rw [str_ext e1, str_ext e2]
theorem free_cat {c : Nat} {a b : Str} (h1 : Free c a) (h2 : Free c b) : Free c (a ++ b) := by
  unfold Free
  rw [cat_list]
  intro z
  rcases List.mem_append.mp z with z | z
  · exact h1 z
  · exact h2 z
theorem free_sg {c d : Nat} (h : c ≠ d) : Free c (sg d) := by
  unfold Free
  simp [h]
/-- the text of a number -/
abbrev nT (n : Nat) : Str := Str.ofString (toString ((n : Nat) : Int))
theorem nT_free (k : Nat) (hk : k ≠ 45 ∧ (k < 48 ∨ 57 < k)) (n : Nat) : Free k (nT n) := PyProof.Rows.int_text_free' k hk _
theorem nT_list (n : Nat) : (nT n).cps.toList = (Nat.toDigits 10 n).map Char.toNat := PySem.W.KIN.signs_num n
theorem nT_digits (n : Nat) : ∀ c ∈ (nT n).cps.toList, 48 ≤ c ∧ c ≤ 57 := by
  intro c hc
  rw [nT_list] at hc
  obtain ⟨ch, hch, e⟩ := List.mem_map.mp hc
  have r := PyProof.Rows.digit_range (Nat.isDigit_of_mem_toDigits (by decide) (by decide) hch)
  rw [← e]
  exact r
theorem nT_step {n : Nat} (h : 10 ≤ n) : (nT n).cps.toList = (nT (n / 10)).cps.toList ++ [48 + n % 10] := by
  rw [nT_list, nT_list]
  have hm : n % 10 < 10 := Nat.mod_lt n (by decide)
  have t : Nat.toDigits 10 (n / 10) ++ Nat.toDigits 10 (n % 10) = Nat.toDigits 10 (10 * (n / 10) + n % 10) := Nat.toDigits_append_toDigits (by decide) (by omega) hm
  rw [Nat.div_add_mod] at t
  rw [← t, List.map_append, Nat.toDigits_of_lt_base hm]
  congr 1
  have d : ∀ d : Nat, d < 10 → [(Nat.digitChar d).toNat] = [48 + d] := by decide
  exact d _ hm
theorem nT_low {n : Nat} (h : n < 10) : (nT n).cps.toList = [48 + n] := by
  rw [nT_list, Nat.toDigits_of_lt_base h]
  have d : ∀ d : Nat, d < 10 → [(Nat.digitChar d).toNat] = [48 + d] := by decide
  exact d _ h
theorem nT_len : ∀ (k n : Nat), n < 10 ^ (k + 1) → (nT n).cps.toList.length ≤ k + 1
  | 0, n, h => by
    rw [nT_low (by simpa using h)]
    exact Nat.le_refl _
  | k + 1, n, h => by
    by_cases h10 : n < 10
    · rw [nT_low h10]
      exact Nat.le_add_left _ _
    · rw [nT_step (by omega), List.length_append]
      have := nT_len k (n / 10) (by rw [Nat.pow_succ] at h; omega)
      show _ + 1 ≤ _
      omega
theorem nT_head : ∀ (n : Nat), 0 < n → ∃ c r, (nT n).cps.toList = c :: r ∧ c ≠ 48 := by
  intro n
  induction n using Nat.strongRecOn with
  | _ n ih =>
    intro h0
    by_cases h10 : n < 10
    · exact ⟨48 + n, [], nT_low h10, by omega⟩
    · obtain ⟨c, r, e, hc⟩ := ih (n / 10) (by omega) (by omega)
      exact ⟨c, r ++ [48 + n % 10], by rw [nT_step (by omega), e]; rfl, hc⟩
theorem nT_ne (n : Nat) : ∃ c r, (nT n).cps.toList = c :: r := by
  by_cases h10 : n < 10
  · exact ⟨_, _, nT_low h10⟩
  · obtain ⟨c, r, e, _⟩ := nT_head n (by omega)
    exact ⟨c, r, e⟩
theorem nT_reads {n : Nat} (h : n < 10 ^ 10) : PySem.intText? (nT n) = some (n : Int) := PySem.W.KIN.num_reads (by omega) (by omega)
end Vx

set_option Elab.async false
set_option linter.all false
set_option maxRecDepth 100000
set_option maxHeartbeats 4000000
namespace Vx
open PySem PySem.Spec PyProof.Rows L2
/-- a def of the text that keeps its promise, where the module's name holds it -/
structure Good (P : Program) (w : World) (K : PySem.W.Frag) (mg : Str → Option Value) (base : Heap) (k : Nat) (x : Str) (ps : List Str) (sp : Sp) : Prop where
  ex : ∃ f fd, FnOk P w K mg base CX0 k f fd ps sp ∧ mg x = some (.ref f) ∧ PySem.W.keepIn K (.ref f) = true ∧ Binds K fd ps []
/-- a def as it stands behind the top -/
structure Def (K : PySem.W.Frag) (mg : Str → Option Value) (x : Str) (st : Stmt) (ps : List Str) : Prop where
  ex : ∃ f fd, Fun K x x st f fd ∧ mg x = some (.ref f) ∧ Binds K fd ps []
section
variable {P : Program} {w : World} {K : PySem.W.Frag} {mg : Str → Option Value} {base : Heap}
theorem Good.mono {j k : Nat} {x : Str} {ps : List Str} {sp : Sp} (g : Good P w K mg base j x ps sp) (h : j ≤ k) : Good P w K mg base k x ps sp := by
  obtain ⟨f, fd, F, m, kp, b⟩ := g.ex
  exact ⟨f, fd, F.mono h, m, kp, b⟩
theorem Good.imp {k : Nat} {x : Str} {ps : List Str} {sp sp' : Sp} (g : Good P w K mg base k x ps sp) (h : ∀ vs H Q E, sp' vs H Q E → sp vs H Q E) : Good P w K mg base k x ps sp' := by
  obtain ⟨f, fd, F, m, kp, b⟩ := g.ex
  exact ⟨f, fd, F.imp h, m, kp, b⟩
/-- THE RULE of a def that lets nothing out -/
theorem Def.good {x : Str} {st : Stmt} {N ps : List Str} {k : Nat} {sp : Sp} (D : Def K mg x st ps) (S : FnScope N ps (defScope st)) (len : ∀ vs H Q E, sp vs H Q E → vs.length = ps.length)
    (body : ∀ (f : Addr) (cdv : Value) (A : Around) (outer : List Env) (s : Shared) (H : Hp) (vs : List V) (Q : VK) (E : XK), Room k (A.deeper (envOfC x (defScope st) s.heap.objs.size f cdv)) → sp vs H Q E →
      ∃ t, PSs (cxOf CX0 P w K mg base N x (defScope st) f cdv A outer s H E).nox (defBody st) t ∧ t { nx := fun _ H' => Q .non H', rt := Q } (start N vs) H) : Good P w K mg base (k + 1) x ps sp := by
  obtain ⟨f, fd, F, m, b⟩ := D.ex
  exact ⟨f, fd, F.ok S len (fun cdv A outer s H vs Q E hr h => body f cdv A outer s H vs Q E hr h), m, F.kp, b⟩
end
section
variable {X : Cx} {k : Nat} {x : Str} {ps : List Str} {sp : Sp} {p pos : Pos} {e : Expr} {es : List Expr} {t : TA}
theorem pe_fn (g : Good X.prog X.w X.K X.mg X.base k x ps sp) (hr : Room k X.A) (ha : PA X (e :: es) t) (hg : Gl X x := by rfl)
    (hd : (x == ("__debug__" : Str)) = false := by decide) (he : starEach (e :: es) X.env = (false, eval e X.env) :: starEach es X.env := by rfl)
    (hp : (backTo pos (starEach es X.env)).any (·.1) = false := by rfl) : PE X (.Call (.Name x p) (e :: es) [] pos) (tCall sp [] E0 t) := by
  obtain ⟨f, fd, F, m, kp, b⟩ := g.ex
  exact pe_call F hr hg m kp b .nil pass0 ha (hdb := hd) (he := he) (hpl := hp)
end
/-! powers of great ints -/
def CPw (i j : Int) : Prop := 0 ≤ j ∧ j ≤ 100 ∧ i.natAbs < 2 ^ 200
theorem op_pw {X : Cx} : OpR X (binaryOp .Pow) (rI CPw fun i j => .int (i ^ j.toNat)) := opI fun i j _ _ _ _ _ hc q => by
  refine PyProof.Rows.pow_int hc.1 ?_ q
  have h1 : Builtin.Int.intBits i ≤ 201 := by
    have b : Builtin.Int.intBits i ≤ i.natAbs.log2 + 1 := by
      unfold Builtin.Int.intBits
      split <;> omega
    have := PySem.Flt.log2_lt_of (by decide : 0 < 200) hc.2.2
    omega
  have h2 := hc.1
  have h3 := hc.2.1
  have h4 : (Builtin.Int.intBits i : Int) * j ≤ 201 * 100 := by
    refine Int.le_trans (Int.mul_le_mul_of_nonneg_right (Int.ofNat_le.mpr h1) h2) ?_
    omega
  have h5 : (201 : Int) * 100 ≤ 2 ^ 27 := by decide
  omega
end Vx

set_option Elab.async false
set_option linter.all false
set_option maxRecDepth 100000
set_option maxHeartbeats 4000000
namespace Vx
open PySem PySem.Spec PyProof.Rows L2 Evl
/-! [e for a, b in zip(xs, ys)] -/
def rmap (n : Nat) (v : Nat → V) : List V := (List.range n).map v
theorem rmap_succ (n : Nat) (v : Nat → V) : rmap (n + 1) v = rmap n v ++ [v n] := by
  unfold rmap
  rw [List.range_succ, List.map_append]
  rfl
theorem rmap_len (n : Nat) (v : Nat → V) : (rmap n v).length = n := by
  unfold rmap
  rw [List.length_map, List.length_range]
/-- what the comprehension holds behind i turns -/
def Lw (H : Hp) (v : Nat → V) (Dl : Addr) (i : Nat) (H' : Hp) : Prop := H Dl = none ∧ Ex H H' ∧ H' Dl = some (.lst (rmap i v))
theorem lc_pairs {J : It} {g : TG} {te : TE} {vs : List Nat} {σ : L2.St} {H1 : Hp} {Dl : Addr} {Qd : Hp → Prop} {n : Nat} (v : Nat → V) (hn : n < 50000) (hD : H1 Dl = none)
    (hgo : ∀ i H, i < n → Ex H1 H → J.go i H) (hst : ∀ H, Ex H1 H → J.stop n H)
    (hy : ∀ i H x H', i < n → Ex H1 H → H Dl ≠ none → J.yld i H x H' → ∃ σ2, Ex H H' ∧ wipe σ2 vs = wipe σ vs ∧ (∀ Q : L2.St → Hp → Prop, (∀ H2, Ex H' H2 → Q σ2 H2) → g x (wipe σ vs) H' Q) ∧ Ev te σ2 H' (v i))
    (hd : ∀ H, Ex H1 H → H Dl = some (.lst (rmap n v)) → Qd H) :
    ∃ W : Nat → Nat → Hp → Prop, (∃ m, W 0 m (upd H1 Dl (.lst []))) ∧ ∀ i m H, W i m H →
      (J.stop i H ∧ Qd H) ∨ (J.go i H ∧ ∃ Nx : Hp → Prop, (∀ H', Nx H' → ∃ m', m' < m ∧ W (i + 1) m' H') ∧ ∀ x H', J.yld i H x H' → g x (wipe σ vs) H' fun σ2 H2 => wipe σ2 vs = wipe σ vs ∧ tYes σ2 H2 fun b H3 =>
        if b = true then te σ2 H3 fun y H4 => ∃ acc, H4 Dl = some (.lst acc) ∧ acc.length < sizeLine ∧ Nx (upd H4 Dl (.lst (acc ++ [y]))) else Nx H3) := by
  refine ⟨fun i m H => m = n - i ∧ i ≤ n ∧ Lw H1 v Dl i H, ⟨n, by simp, Nat.zero_le _, hD, Ex.new hD, upd_same⟩, ?_⟩
  rintro i m H ⟨rfl, hi, p1, p2, p3⟩
  by_cases hlt : i < n
  · refine .inr ⟨hgo i H hlt p2, Lw H1 v Dl (i + 1), fun H' p' => ⟨n - (i + 1), by omega, rfl, hlt, p'⟩, fun x H' y => ?_⟩
    obtain ⟨σ2, e1, hw, hg, he⟩ := hy i H x H' hlt p2 (by rw [p3]; exact fun z => nomatch z) y
    refine hg _ fun H2 e2 => ⟨hw, ?_⟩
    show te σ2 H2 fun y H4 => ∃ acc, H4 Dl = some (.lst acc) ∧ acc.length < sizeLine ∧ Lw H1 v Dl (i + 1) (upd H4 Dl (.lst (acc ++ [y])))
    refine he H2 e2 _ fun H4 e4 => ⟨rmap i v, e4 _ _ (e2 _ _ (e1 _ _ p3)), sz_lt (by rw [rmap_len]; omega), p1, Ex.mut ((p2.trans e1).trans (e2.trans e4)) p1, ?_⟩
    rw [rmap_succ]
    exact upd_same
  · have e : i = n := by omega
    subst e
    exact .inl ⟨hst H p2, hd H p2 p3⟩
theorem el_lcZ {K : PySem.W.Frag} {a b : Addr} {xs ys : List V} {ta : TA} {te : TE} {j1 j2 : Nat} {vs : List Nat} {σ : L2.St} {H : Hp} (v : Nat → V) (h : EvA ta σ H [.ref a, .ref b])
    (hx : (SqL K H a xs ∧ SqL K H b ys) ∨ (SqT K H a xs ∧ SqT K H b ys)) (hl : xs.length = ys.length) (hz : xs.length < 40000)
    (hw : ∀ x y, wipe (((wipe σ vs).set j1 (some x)).set j2 (some y)) vs = wipe σ vs)
    (he : ∀ i x y H1, Ex H H1 → xs[i]? = some x → ys[i]? = some y → Ev te (((wipe σ vs).set j1 (some x)).set j2 (some y)) H1 (v i)) :
    EvL (tLc (RZ.iZipA K ta) (gTup K 2 (gCons (gName j1) (gCons (gName j2) gNil))) tYes te vs) σ H (rmap xs.length v) := fun H0 e Q q => h H0 e _ fun H1 e1 => by
  have E1 := e.trans e1
  have get : ∀ i, i < xs.length → ∃ x y, xs[i]? = some x ∧ ys[i]? = some y := fun i hi =>
    ⟨_, _, List.getElem?_eq_getElem hi, List.getElem?_eq_getElem (by omega)⟩
  have tg : ∀ (T : Addr) (x y : V) (H' : Hp), H' T = some (.tup [x, y]) → ∀ Q : L2.St → Hp → Prop, (∀ H2, Ex H' H2 → Q (((wipe σ vs).set j1 (some x)).set j2 (some y)) H2) →
      gTup K 2 (gCons (gName j1) (gCons (gName j2) gNil)) (.ref T) (wipe σ vs) H' Q := fun T x y H' ht Q q =>
    ⟨T, [x, y], rfl, SqT.of ht, rfl, x, [y], rfl, y, [], rfl, rfl, q H' (Ex.refl H')⟩
  rcases hx with ⟨hx, hy⟩ | ⟨hx, hy⟩
  · refine ⟨a, b, xs, ys, rfl, Or.inl ⟨ex_l E1 hx, ex_l E1 hy, fun Dl hD => lc_pairs v (by omega) hD (fun i H2 hi e2 => ?_) (fun H2 e2 => ⟨xs, ys, ex_l (E1.trans e2) hx, ex_l (E1.trans e2) hy, Or.inl (Nat.le_refl _)⟩) (fun i H2 z H' hi e2 hDl hyl => ?_) (fun H2 e2 h2 => q Dl H2 (fresh_back e1 hD) (e1.trans e2) h2)⟩⟩
    · obtain ⟨x, y, g1, g2⟩ := get i hi
      exact ⟨xs, ys, x, y, ex_l (E1.trans e2) hx, ex_l (E1.trans e2) hy, g1, g2⟩
    · obtain ⟨T, x, y, rfl, hT, rfl, f1, f2⟩ := hyl
      have eT : Ex H2 (upd H2 T (.tup [x, y])) := Ex.new hT
      exact ⟨_, eT, hw x y, tg T x y _ upd_same, he i x y _ ((E1.trans e2).trans eT) (f1 xs (ex_l (E1.trans e2) hx)) (f2 ys (ex_l (E1.trans e2) hy))⟩
  · refine ⟨a, b, xs, ys, rfl, Or.inr ⟨ex_t E1 hx, ex_t E1 hy, fun Dl hD => lc_pairs v (by omega) hD (fun i H2 hi e2 => ?_) (fun H2 e2 => ⟨xs, ys, ex_t (E1.trans e2) hx, ex_t (E1.trans e2) hy, Or.inl (Nat.le_refl _)⟩) (fun i H2 z H' hi e2 hDl hyl => ?_) (fun H2 e2 h2 => q Dl H2 (fresh_back e1 hD) (e1.trans e2) h2)⟩⟩
    · obtain ⟨x, y, g1, g2⟩ := get i hi
      exact ⟨xs, ys, x, y, ex_t (E1.trans e2) hx, ex_t (E1.trans e2) hy, g1, g2⟩
    · obtain ⟨T, x, y, rfl, hT, rfl, f1, f2⟩ := hyl
      have eT : Ex H2 (upd H2 T (.tup [x, y])) := Ex.new hT
      exact ⟨_, eT, hw x y, tg T x y _ upd_same, he i x y _ ((E1.trans e2).trans eT) (f1 xs (ex_t (E1.trans e2) hx)) (f2 ys (ex_t (E1.trans e2) hy))⟩
end Vx

set_option Elab.async false
set_option linter.all false
set_option maxRecDepth 100000
set_option maxHeartbeats 4000000
namespace Vx
open PySem PySem.Spec PyProof.Rows L2 Evl
/-! types of values, isinstance -/
def TyN (K : PySem.W.Frag) (H : Hp) (x : V) (n : String) : Prop := ∀ H1, Ex H H1 → TyX K H1 x (.type n)
section
variable {K : PySem.W.Frag} {σ : L2.St} {H : Hp} {x : V} {i : Nat} {n : String}
theorem TyN.ex {H' : Hp} (h : TyN K H x n) (e : Ex H H') : TyN K H' x n := fun H1 e1 => h H1 (e.trans e1)
theorem ty_non : TyN K H .non "NoneType" := fun _ _ => .base .non
theorem ty_bl {b : Bool} : TyN K H (.bl b) "bool" := fun _ _ => .base (.bl b)
theorem ty_int {j : Int} : TyN K H (.int j) "int" := fun _ _ => .base (.int j)
theorem ty_str {z : Str} : TyN K H (.str z) "str" := fun _ _ => .base (.str z)
theorem ty_lst {p : Addr} {xs : List V} (h : Rd H p (.lst xs)) : TyN K H (.ref p) "list" := fun _ e => by
  rcases ex_rd e h with h | ⟨o, h⟩
  · exact .base (.lst h)
  · exact .base (.frz h)
theorem ty_tup {p : Addr} {xs : List V} (h : Rd H p (.tup xs)) : TyN K H (.ref p) "tuple" := fun _ e => by
  rcases ex_rd e h with h | ⟨o, h⟩
  · exact .base (.tup h)
  · exact .fTuple h
theorem ty_dict {p : Addr} {kvs : List (Key × V)} (h : Rd H p (.dK kvs)) : TyN K H (.ref p) "dict" := fun _ e => by
  rcases ex_rd e h with h | ⟨o, h⟩
  · exact .base (.dK h)
  · exact .fDict h
theorem ev_isI {b : Bool} {m : String} (hi : σ[i]? = some (some x)) (t : TyN K H x n) (h : kitB n m = some b) : Ev (tCB (rIsi K) (tCons (tVar i) (tCons (tC (.ty m)) tNil))) σ H (.bl b) :=
  ev_cb (ea_cons (ev_var hi) (ea_cons ev_c ea_nil)) fun H1 e1 Q q => ⟨x, .ty m, _, _, b, rfl, .ty m, t H1 e1, kit_ty h, q H1 (Ex.refl H1)⟩
theorem ev_isI2 {b1 b2 : Bool} {m1 m2 : String} (hi : σ[i]? = some (some x)) (t : TyN K H x n) (h1 : kitB n m1 = some b1) (h2 : kitB n m2 = some b2) :
    Ev (tCB (rIsiT K) (tCons (tVar i) (tCons (tTup (tCons (tC (.ty m1)) (tCons (tC (.ty m2)) tNil))) tNil))) σ H (.bl (b1 || b2)) := fun H1 e1 Q q =>
  ⟨x, hi, (by show 2 ≤ sizeLine; decide), fun p hp => ⟨x, p, [.ty m1, .ty m2], _, [.type m1, .type m2], b1 || b2, rfl, upd_same, .cons (.ty m1) (.cons (.ty m2) .nil), t _ (e1.trans (Ex.new hp)),
    kitAny_cons (kit_ty h1) (fun hb => kitAny_cons (kit_ty h2) (fun hc => by rw [hb, hc]; exact kitAny_nil) (fun hc => by rw [hb, hc]; rfl)) (fun hb => by rw [hb]; rfl), q _ (Ex.new hp)⟩⟩
/-- all(xs), xs a new list of bools -/
theorem ev_allN {ta : TE} {bs : List Bool} (ha : EvL ta σ H (bs.map V.bl)) : Ev (tCB (rAll K) (tCons ta tNil)) σ H (.bl (bs.all id)) := fun H1 e Q q =>
  ha H1 e _ fun p H2 _ e2 h2 => ⟨p, bs, rfl, sq_of h2, q H2 e2⟩
theorem rmap_true (n : Nat) : rmap n (fun _ => V.bl true) = (List.replicate n true).map V.bl := by
  unfold rmap
  rw [List.map_replicate, List.map_const', List.length_range]
theorem all_rep (n : Nat) : (List.replicate n true).all id = true := by
  rw [List.all_eq_true]
  intro b hb
  exact (List.mem_replicate.mp hb).2
theorem ev_lenA {ta : TE} {p : Addr} {xs : List V} (ha : Ev ta σ H (.ref p)) (h : SqL K H p xs ∨ SqT K H p xs) : Ev (tCB (rLenS K) (tCons ta tNil)) σ H (.int (xs.length : Int)) := fun H1 e Q q =>
  ha H1 e _ fun H2 e2 => ⟨p, xs, rfl, h.imp (ex_l (e.trans e2)) (ex_t (e.trans e2)), q H2 e2⟩
theorem rv_isN : RV (fun x y H Q => y = .non ∧ Q (.bl (decide (x = .non))) H) x .non H (.bl (decide (x = .non))) := fun H1 _ _ q => ⟨rfl, q H1 (Ex.refl H1)⟩
end
/-! two data that are equal at every depth -/
def atom : V → Bool
  | .non => true
  | .bl _ => true
  | .int _ => true
  | .str _ => true
  | _ => false
def EqS (H : Hp) : Nat → V → V → Prop
  | 0, x, y => x = y ∧ atom x = true
  | n + 1, x, y => (x = y ∧ atom x = true) ∨ ∃ p q xs ys, x = .ref p ∧ y = .ref q ∧ ((Rd H p (.lst xs) ∧ Rd H q (.lst ys)) ∨ (Rd H p (.tup xs) ∧ Rd H q (.tup ys))) ∧ xs.length = ys.length ∧ xs.length < 40000 ∧
      ∀ (i : Nat) (x' y' : V), xs[i]? = some x' → ys[i]? = some y' → EqS H n x' y'
theorem EqS.ex {H H' : Hp} (e : Ex H H') : ∀ {n : Nat} {x y : V}, EqS H n x y → EqS H' n x y
  | 0, _, _, h => h
  | n + 1, x, y, h => by
    rcases h with h | ⟨p, q, xs, ys, h1, h2, h3, h4, h5, h6⟩
    · exact Or.inl h
    · exact Or.inr ⟨p, q, xs, ys, h1, h2, h3.imp (fun z => ⟨ex_rd e z.1, ex_rd e z.2⟩) (fun z => ⟨ex_rd e z.1, ex_rd e z.2⟩), h4, h5, fun i x' y' a b => EqS.ex e (h6 i x' y' a b)⟩
theorem EqS.up {H : Hp} : ∀ {n : Nat} {x y : V}, EqS H n x y → EqS H (n + 1) x y
  | 0, _, _, h => Or.inl h
  | n + 1, x, y, h => by
    rcases h with h | ⟨p, q, xs, ys, h1, h2, h3, h4, h5, h6⟩
    · exact Or.inl h
    · exact Or.inr ⟨p, q, xs, ys, h1, h2, h3, h4, h5, fun i x' y' a b => EqS.up (h6 i x' y' a b)⟩
def spSame (n : Nat) : Sp := fun vs H Q _ => ∃ x y, vs = [x, y] ∧ EqS H n x y ∧ ∀ H', Ex H H' → Q (.bl true) H'
end Vx

set_option Elab.async false
set_option linter.all false
set_option maxRecDepth 100000
set_option maxHeartbeats 4000000
namespace Vx
open PySem PySem.Spec PyProof.Rows L2 Evl
/-! values that are known by what is true of them: of objects of the heap H, and of new ones -/
def Kn (H H1 H2 : Hp) (φ : Hp → Prop) : Prop := ∀ H', Ex H H' → (∀ b o, H1 b = none → H2 b = some o → H' b = some o) → φ H'
theorem Kn.now {H H1 H2 : Hp} {φ : Hp → Prop} (k : Kn H H1 H2 φ) (e : Ex H H1) (e2 : Ex H1 H2) : φ H2 := k H2 (e.trans e2) fun _ _ _ h => h
theorem Kn.ex {H H1 H2 H3 : Hp} {φ : Hp → Prop} (k : Kn H H1 H2 φ) (e : Ex H2 H3) : Kn H H1 H3 φ := fun H' a b => k H' a fun c o n h => b c o n (e _ _ h)
theorem Kn.pre {H H0 H1 H2 : Hp} {φ : Hp → Prop} (k : Kn H H1 H2 φ) (e : Ex H0 H1) : Kn H H0 H2 φ := fun H' a b => k H' a fun c o n h => b c o (fresh_back e n) h
theorem Kn.base {H H0 H1 H2 : Hp} {φ : Hp → Prop} (k : Kn H0 H1 H2 φ) (e : Ex H0 H) : Kn H H1 H2 φ := fun H' a b => k H' (e.trans a) b
theorem Kn.imp {H H1 H2 : Hp} {φ ψ : Hp → Prop} (k : Kn H H1 H2 φ) (h : ∀ H', Ex H H' → φ H' → ψ H') : Kn H H1 H2 ψ := fun H' a b => h H' a (k H' a b)
theorem Kn.of {H H1 H2 : Hp} {φ : Hp → Prop} (h : ∀ H', Ex H H' → φ H') : Kn H H1 H2 φ := fun H' a _ => h H' a
/-- .. apart from what stands at p -/
def KnX (p : Addr) (H H1 H2 : Hp) (φ : Hp → Prop) : Prop := ∀ H', Ex H H' → (∀ b o, b ≠ p → H1 b = none → H2 b = some o → H' b = some o) → φ H'
theorem KnX.kn {p : Addr} {H H1 H2 : Hp} {φ : Hp → Prop} (k : KnX p H H1 H2 φ) : Kn H H1 H2 φ := fun H' a b => k H' a fun c o _ n h => b c o n h
theorem KnX.ex {p : Addr} {H H1 H2 H3 : Hp} {φ : Hp → Prop} (k : KnX p H H1 H2 φ) (e : Ex H2 H3) : KnX p H H1 H3 φ := fun H' a b => k H' a fun c o z n h => b c o z n (e _ _ h)
theorem KnX.pre {p : Addr} {H H0 H1 H2 : Hp} {φ : Hp → Prop} (k : KnX p H H1 H2 φ) (e : Ex H0 H1) : KnX p H H0 H2 φ := fun H' a b => k H' a fun c o z n h => b c o z (fresh_back e n) h
theorem KnX.base {p : Addr} {H H0 H1 H2 : Hp} {φ : Hp → Prop} (k : KnX p H0 H1 H2 φ) (e : Ex H0 H) : KnX p H H1 H2 φ := fun H' a b => k H' (e.trans a) b
theorem KnX.imp {p : Addr} {H H1 H2 : Hp} {φ ψ : Hp → Prop} (k : KnX p H H1 H2 φ) (h : ∀ H', Ex H H' → φ H' → ψ H') : KnX p H H1 H2 ψ := fun H' a b => h H' a (k H' a b)
theorem KnX.of {p : Addr} {H H1 H2 : Hp} {φ : Hp → Prop} (h : ∀ H', Ex H H' → φ H') : KnX p H H1 H2 φ := fun H' a _ => h H' a
/-- the list itself is new: what is known holds without it -/
theorem Kn.out {p : Addr} {H H1 H2 : Hp} {o : HO} {φ : Hp → Prop} (k : Kn H H1 H2 φ) (hp : H2 p = none) : KnX p H H1 (upd H2 p o) φ := fun H' a b => k H' a fun c u n h => b c u (ne_of_none h hp) n (by rw [upd_ne (ne_of_none h hp)]; exact h)
def EvP (te : TE) (σ : L2.St) (H : Hp) (φ : V → Hp → Prop) : Prop := ∀ H1, Ex H H1 → ∀ Q : VK, (∀ v H2, Ex H1 H2 → Kn H H1 H2 (φ v) → Q v H2) → te σ H1 Q
def EvAP (ta : TA) (σ : L2.St) (H : Hp) (φs : List (V → Hp → Prop)) : Prop := ∀ H1, Ex H H1 → ∀ Q : List V → Hp → Prop, (∀ vs H2, Ex H1 H2 → Kn H H1 H2 (fun H' => Paired (fun v φ => φ v H') vs φs) → Q vs H2) → ta σ H1 Q
/-- a new list -/
def EvLP (te : TE) (σ : L2.St) (H : Hp) (P : List V → Hp → Prop) : Prop := ∀ H1, Ex H H1 → ∀ Q : VK, (∀ p vs H2, H1 p = none → Ex H1 H2 → H2 p = some (.lst vs) → KnX p H H1 H2 (P vs) → Q (.ref p) H2) → te σ H1 Q
section
variable {K : PySem.W.Frag} {σ : L2.St} {H H' : Hp} {te : TE} {ta tr : TA} {φ : V → Hp → Prop} {φs : List (V → Hp → Prop)} {P P' : List V → Hp → Prop}
theorem EvP.mono (e : Ex H H') (h : EvP te σ H φ) : EvP te σ H' φ := fun H1 a Q q => h H1 (e.trans a) Q fun v H2 e2 k => q v H2 e2 (k.base e)
theorem EvLP.mono (e : Ex H H') (h : EvLP te σ H P) : EvLP te σ H' P := fun H1 a Q q => h H1 (e.trans a) Q fun p vs H2 n e2 h2 k => q p vs H2 n e2 h2 (k.base e)
theorem evp_of {v : V} (h : Ev te σ H v) (hp : ∀ H', Ex H H' → φ v H') : EvP te σ H φ := fun H1 e Q q => h H1 e Q fun H2 e2 => q v H2 e2 (.of hp)
theorem evp_L {xs : List V} (h : EvL te σ H xs) : EvP te σ H (fun v H' => ∃ p, v = .ref p ∧ H' p = some (.lst xs)) := fun H1 e Q q => h H1 e Q fun p H2 n e2 h2 => q _ H2 e2 fun H' _ b => ⟨p, rfl, b p _ n h2⟩
theorem evp_LP (h : EvLP te σ H P) : EvP te σ H (fun v H' => ∃ p vs, v = .ref p ∧ H' p = some (.lst vs) ∧ P vs H') := fun H1 e Q q => h H1 e Q fun p vs H2 n e2 h2 k => q _ H2 e2 fun H' a b => ⟨p, vs, rfl, b p _ n h2, k.kn H' a b⟩
theorem elp_of {xs : List V} (h : EvL te σ H xs) (hp : ∀ H', Ex H H' → P xs H') : EvLP te σ H P := fun H1 e Q q => h H1 e Q fun p H2 n e2 h2 => q p xs H2 n e2 h2 (.of hp)
theorem EvLP.imp (h : EvLP te σ H P) (f : ∀ vs H', Ex H H' → P vs H' → P' vs H') : EvLP te σ H P' := fun H1 e Q q => h H1 e Q fun p vs H2 n e2 h2 k => q p vs H2 n e2 h2 (k.imp (f vs))
theorem EvP.imp {ψ : V → Hp → Prop} (h : EvP te σ H φ) (f : ∀ v H', Ex H H' → φ v H' → ψ v H') : EvP te σ H ψ := fun H1 e Q q => h H1 e Q fun v H2 e2 k => q v H2 e2 (k.imp (f v))
theorem eap_nil : EvAP tNil σ H [] := fun H1 _ _ q => q [] H1 (Ex.refl H1) fun _ _ _ => .nil
theorem eap_cons (h : EvP te σ H φ) (hr : EvAP tr σ H φs) : EvAP (tCons te tr) σ H (φ :: φs) := fun H1 e Q q =>
  h H1 e _ fun v H2 e2 k2 => hr H2 (e.trans e2) _ fun vs H3 e3 k3 => q _ H3 (e2.trans e3) fun H' a b => .cons ((k2.ex e3) H' a b) ((k3.pre e2) H' a b)
theorem elp_lst (h : EvAP ta σ H φs) (hz : φs.length ≤ 100000) : EvLP (tLst ta) σ H (fun vs H' => Paired (fun v φ => φ v H') vs φs) := fun H1 e Q q =>
  h H1 e _ fun vs H2 e2 k => ⟨sz_of (by rw [Paired.length (k.now e e2)]; exact hz), fun p hp => q p vs _ (fresh_back e2 hp) (e2.trans (Ex.new hp)) upd_same (k.out hp)⟩
theorem elp_cat {ta tb : TE} {l : Addr} {xs : List V} (ha : Ev ta σ H (.ref l)) (hl : H l = some (.lst xs)) (hb : EvLP tb σ H P) (hz : ∀ ys H', P ys H' → xs.length + ys.length ≤ 100000) :
    EvLP (tOp rCat ta tb) σ H (fun vs H' => ∃ ys, vs = xs ++ ys ∧ P ys H') := fun H1 e Q q =>
  ha H1 e _ fun H2 e2 => hb H2 (e.trans e2) _ fun r ys H3 hr e3 h3 k => ⟨l, r, xs, ys, rfl, rfl, e3 _ _ (e2 _ _ (e _ _ hl)), h3, sz_of (hz ys H3 (k.kn.now (e.trans e2) e3)), fun p hp =>
    q p _ _ (fresh_back (e2.trans e3) hp) ((e2.trans e3).trans (Ex.new hp)) upd_same (((k.kn.out hp).pre e2).imp fun H' _ z => ⟨ys, rfl, z⟩)⟩
end
section
variable {D : Ends} {te : TE} {σ : L2.St} {H : Hp} {P : List V → Hp → Prop} {φ : V → Hp → Prop} {i : Nat}
theorem s_asgLP (h : EvLP te σ H P) (k : ∀ p vs H1, H p = none → Ex H H1 → H1 p = some (.lst vs) → KnX p H H H1 (P vs) → D.nx (σ.set i (some (.ref p))) H1) : tAsg te (gName i) D σ H :=
  h H (Ex.refl H) _ fun p vs H1 n e h1 kn => k p vs H1 n e h1 kn
theorem s_asgP (h : EvP te σ H φ) (k : ∀ v H1, Ex H H1 → φ v H1 → D.nx (σ.set i (some v)) H1) : tAsg te (gName i) D σ H := h H (Ex.refl H) _ fun v H1 e kn => k v H1 e (kn.now (Ex.refl H) e)
theorem s_retP (h : EvP te σ H φ) (k : ∀ v H1, Ex H H1 → φ v H1 → D.rt v H1) : tRet te D σ H := h H (Ex.refl H) _ fun v H1 e kn => k v H1 e (kn.now (Ex.refl H) e)
end
/-! comprehensions -/
/-- what is known of H, and of what came between H0 and H1 -/
def mix (H H0 H1 : Hp) : Hp := fun b => match H0 b with | none => H1 b | some _ => H b
theorem mix_ex {H H0 H1 : Hp} (e : Ex H H0) : Ex H (mix H H0 H1) := fun b o h => by
  unfold mix
  rw [e b o h]
  exact h
theorem mix_in {H H0 H1 : Hp} (e : Ex H H0) (e1 : Ex H0 H1) : Ex (mix H H0 H1) H1 := fun b o h => by
  unfold mix at h
  cases q : H0 b with
  | none => rw [q] at h; exact h
  | some u => rw [q] at h; exact e1 _ _ (e _ _ h)
theorem Kn.at_mix {H H0 H1 : Hp} {φ : Hp → Prop} (k : Kn H H0 H1 φ) (e : Ex H H0) : φ (mix H H0 H1) := k _ (mix_ex e) fun b o n h => by
  unfold mix
  rw [n]
  exact h
theorem Kn.unmix {H H0 H1 H2 : Hp} {φ : Hp → Prop} (k : Kn (mix H H0 H1) H1 H2 φ) (e1 : Ex H0 H1) (e2 : Ex H1 H2) : Kn H H0 H2 φ := fun H' a b => by
  refine k H' (fun c o h => ?_) fun c o n h => b c o (fresh_back e1 n) h
  unfold mix at h
  cases q : H0 c with
  | none => rw [q] at h; exact b c o q (e2 _ _ h)
  | some u => rw [q] at h; exact a _ _ h
theorem KnX.unmix {p : Addr} {H H0 H1 H2 : Hp} {φ : Hp → Prop} (k : KnX p (mix H H0 H1) H1 H2 φ) (hp : H1 p = none) (e1 : Ex H0 H1) (e2 : Ex H1 H2) : KnX p H H0 H2 φ := fun H' a b => by
  refine k H' (fun c o h => ?_) fun c o z n h => b c o z (fresh_back e1 n) h
  unfold mix at h
  cases q : H0 c with
  | none => rw [q] at h; exact b c o (ne_of_none h hp) q (e2 _ _ h)
  | some u => rw [q] at h; exact a _ _ h
theorem lc_P {J : It} {g : TG} {te : TE} {vs : List Nat} {σ : L2.St} {B H1 : Hp} {Dl : Addr} {Qd : Hp → Prop} {n : Nat} (Φ : Nat → V → Hp → Prop) (hn : n < 50000) (e0 : Ex B H1) (hD : H1 Dl = none)
    (hgo : ∀ i H2, i < n → Ex H1 H2 → J.go i H2) (hst : ∀ H2, Ex H1 H2 → J.stop n H2)
    (hy : ∀ i H2 x H', i < n → Ex H1 H2 → J.yld i H2 x H' → ∃ σ2, Ex H2 H' ∧ wipe σ2 vs = wipe σ vs ∧ (∀ Q : L2.St → Hp → Prop, (∀ H3, Ex H' H3 → Q σ2 H3) → g x (wipe σ vs) H' Q) ∧ EvP te σ2 B (Φ i))
    (hd : ∀ xs H2, Ex H1 H2 → H2 Dl = some (.lst xs) → KnX Dl B H1 H2 (fun H' => xs.length = n ∧ ∀ i v, xs[i]? = some v → Φ i v H') → Qd H2) :
    ∃ W : Nat → Nat → Hp → Prop, (∃ m, W 0 m (upd H1 Dl (.lst []))) ∧ ∀ i m H2, W i m H2 →
      (J.stop i H2 ∧ Qd H2) ∨ (J.go i H2 ∧ ∃ Nx : Hp → Prop, (∀ H', Nx H' → ∃ m', m' < m ∧ W (i + 1) m' H') ∧ ∀ x H', J.yld i H2 x H' → g x (wipe σ vs) H' fun σ2 H3 => wipe σ2 vs = wipe σ vs ∧ tYes σ2 H3 fun b H4 =>
        if b = true then te σ2 H4 fun y H5 => ∃ acc, H5 Dl = some (.lst acc) ∧ acc.length < sizeLine ∧ Nx (upd H5 Dl (.lst (acc ++ [y]))) else Nx H4) := by
  let Iv : Nat → Hp → Prop := fun i H2 => Ex H1 H2 ∧ ∃ acc, H2 Dl = some (.lst acc) ∧ acc.length = i ∧ ∀ H', Ex B H' → (∀ b o, b ≠ Dl → H1 b = none → H2 b = some o → H' b = some o) → ∀ j v, acc[j]? = some v → Φ j v H'
  refine ⟨fun i m H => m = n - i ∧ i ≤ n ∧ Iv i H, ⟨n, by simp, Nat.zero_le _, Ex.new hD, [], upd_same, rfl, fun _ _ _ j v z => by simp at z⟩, ?_⟩
  rintro i m H2 ⟨rfl, hi, p2, acc, p3, pl, pk⟩
  by_cases hlt : i < n
  · refine .inr ⟨hgo i H2 hlt p2, Iv (i + 1), fun H' p' => ⟨n - (i + 1), by omega, rfl, hlt, p'⟩, fun x H' y => ?_⟩
    obtain ⟨σ2, e1, hw, hg, he⟩ := hy i H2 x H' hlt p2 y
    refine hg _ fun H3 e3 => ⟨hw, ?_⟩
    show te σ2 H3 fun y H5 => ∃ acc, H5 Dl = some (.lst acc) ∧ acc.length < sizeLine ∧ Iv (i + 1) (upd H5 Dl (.lst (acc ++ [y])))
    have E3 : Ex H2 H3 := e1.trans e3
    refine he H3 ((e0.trans p2).trans E3) _ fun v H5 e5 kn => ⟨acc, e5 _ _ (E3 _ _ p3), sz_lt (by omega), Ex.mut ((p2.trans E3).trans e5) hD, _, upd_same, by rw [List.length_append, pl]; rfl, fun Hq eq fr j u hj => ?_⟩
    have fr' : ∀ b o, b ≠ Dl → H1 b = none → H5 b = some o → Hq b = some o := fun b o nb n h => fr b o nb n (by rw [upd_ne nb]; exact h)
    by_cases hji : j < i
    · rw [List.getElem?_append_left (by omega)] at hj
      exact pk Hq eq (fun b o nb n h => fr' b o nb n (e5 _ _ (E3 _ _ h))) j u hj
    · rw [List.getElem?_append_right (by omega)] at hj
      have hz : j - acc.length = 0 := by
        have := (List.getElem?_eq_some_iff.mp hj).1
        simp at this
        omega
      rw [hz] at hj
      have hu : v = u := by simpa using hj
      have hjj : j = i := by omega
      subst hu hjj
      refine kn Hq eq fun b o n h => fr' b o (fun z => ?_) (fresh_back (p2.trans E3) n) h
      rw [z, E3 _ _ p3] at n
      cases n
  · have e : i = n := by omega
    subst e
    exact .inl ⟨hst H2 p2, hd acc H2 p2 p3 fun H' a b => ⟨pl, pk H' a b⟩⟩
section
variable {K : PySem.W.Frag} {σ : L2.St} {H : Hp} {te tl : TE} {P : List V → Hp → Prop} {vs : List Nat} {j : Nat}
/-- over a list that is known -/
theorem elp_lcL {a : Addr} {xs : List V} (Φ : Nat → V → Hp → Prop) (h : Ev tl σ H (.ref a)) (hx : SqL K H a xs) (hz : xs.length < 50000) (hw : ∀ x, wipe ((wipe σ vs).set j (some x)) vs = wipe σ vs)
    (he : ∀ i x, xs[i]? = some x → EvP te ((wipe σ vs).set j (some x)) H (Φ i)) : EvLP (tLc (iList K tl) (gName j) tYes te vs) σ H (fun ys H' => ys.length = xs.length ∧ ∀ i v, ys[i]? = some v → Φ i v H') := fun H0 e Q q => h H0 e _ fun H1 e1 =>
  ⟨a, rfl, ⟨xs, ex_l (e.trans e1) hx⟩, fun Dl hD => lc_P (B := H) Φ hz (e.trans e1) hD (fun i H2 hi e2 => ⟨xs, xs[i], ex_l ((e.trans e1).trans e2) hx, List.getElem?_eq_getElem hi⟩) (fun H2 e2 => ⟨xs, ex_l ((e.trans e1).trans e2) hx, Nat.le_refl _⟩)
    (fun i H2 x H' hi e2 y => by
      obtain ⟨rfl, y⟩ := y
      have hxi := y xs (ex_l ((e.trans e1).trans e2) hx)
      exact ⟨_, Ex.refl _, hw x, fun Q2 q2 => q2 _ (Ex.refl _), he i x hxi⟩)
    (fun ys H2 e2 h2 k => q Dl ys H2 (fresh_back e1 hD) (e1.trans e2) h2 (k.pre e1))⟩
/-- over a new list -/
theorem elp_lcN (Φ : List V → Nat → V → Hp → Prop) (h : EvLP tl σ H P) (hz : ∀ xs H', P xs H' → xs.length < 50000) (hw : ∀ x, wipe ((wipe σ vs).set j (some x)) vs = wipe σ vs)
    (he : ∀ xs B, Ex H B → P xs B → ∀ i x, xs[i]? = some x → EvP te ((wipe σ vs).set j (some x)) B (Φ xs i)) : EvLP (tLc (iList K tl) (gName j) tYes te vs) σ H (fun ys H' => ∃ xs, P xs H' ∧ ys.length = xs.length ∧ ∀ i v, ys[i]? = some v → Φ xs i v H') := fun H0 e Q q => h H0 e _ fun a xs H1 ha e1 hx kn =>
  ⟨a, rfl, ⟨xs, sq_of hx⟩, fun Dl hD => lc_P (B := mix H H0 H1) (Φ xs) (hz xs _ (kn.kn.now e e1)) (mix_in e e1) hD (fun i H2 hi e2 => ⟨xs, xs[i], ex_l e2 (sq_of hx), List.getElem?_eq_getElem hi⟩) (fun H2 e2 => ⟨xs, ex_l e2 (sq_of hx), Nat.le_refl _⟩)
    (fun i H2 x H' hi e2 y => by
      obtain ⟨rfl, y⟩ := y
      have hxi := y xs (ex_l e2 (sq_of hx))
      exact ⟨_, Ex.refl _, hw x, fun Q2 q2 => q2 _ (Ex.refl _), he xs _ (mix_ex e) (kn.kn.at_mix e) i x hxi⟩)
    (fun ys H2 e2 h2 k => q Dl ys H2 (fresh_back e1 hD) (e1.trans e2) h2 fun H' c d => ⟨xs, kn.kn H' c (fun b o n h => d b o (ne_of_none h hD) n (e2 _ _ h)), (k.unmix hD e1 e2) H' c d⟩)⟩
/-- over range(n) -/
theorem elp_lcR {ta : TA} {n : Nat} (Φ : Nat → V → Hp → Prop) (h : EvA ta σ H [.int (n : Int)]) (hz : n < 40000) (hw : ∀ x, wipe ((wipe σ vs).set j (some x)) vs = wipe σ vs)
    (he : ∀ i : Nat, i < n → EvP te ((wipe σ vs).set j (some (.int (i : Int)))) H (Φ i)) : EvLP (tLc (iRng1 ta) (gName j) tYes te vs) σ H (fun ys H' => ys.length = n ∧ ∀ i v, ys[i]? = some v → Φ i v H') := fun H0 e Q q => h H0 e _ fun H1 e1 =>
  ⟨(n : Int), rfl, by omega, by omega, fun Dl hD => lc_P (J := Itr 0 ((n : Int).toNat)) (B := H) Φ (by omega) (e.trans e1) hD (fun i H2 hi e2 => by show i < (n : Int).toNat; omega) (fun H2 e2 => by show (n : Int).toNat ≤ n; omega)
    (fun i H2 x H' hi e2 y => by
      obtain ⟨rfl, rfl⟩ := y
      have e0 : (0 : Int) + (i : Int) = (i : Int) := Int.zero_add _
      rw [e0]
      exact ⟨_, Ex.refl _, hw _, fun Q2 q2 => q2 _ (Ex.refl _), he i hi⟩)
    (fun ys H2 e2 h2 k => q Dl ys H2 (fresh_back e1 hD) (e1.trans e2) h2 (k.pre e1))⟩
/-- over range(n), the items' values -/
theorem el_lcRv {ta : TA} {n : Nat} (v : Nat → V) (h : EvA ta σ H [.int (n : Int)]) (hz : n < 40000) (hw : ∀ x, wipe ((wipe σ vs).set j (some x)) vs = wipe σ vs)
    (he : ∀ i : Nat, i < n → Ev te ((wipe σ vs).set j (some (.int (i : Int)))) H (v i)) : EvL (tLc (iRng1 ta) (gName j) tYes te vs) σ H (rmap n v) := fun H0 e Q q =>
  elp_lcR (fun i u _ => u = v i) h hz hw (fun i hi => evp_of (he i hi) fun _ _ => rfl) H0 e Q fun p ys H2 n2 e2 h2 k => by
    obtain ⟨l, kk⟩ := k.kn.now e e2
    have : ys = rmap n v := by
      refine List.ext_getElem? fun i => ?_
      by_cases hi : i < n
      · have h1 : ys[i]? = some ys[i] := List.getElem?_eq_getElem (by omega)
        rw [h1, kk i _ h1]
        unfold rmap
        rw [List.getElem?_map, List.getElem?_range hi]
        rfl
      · rw [List.getElem?_eq_none (by omega), List.getElem?_eq_none (by rw [rmap_len]; omega)]
    rw [this] at h2
    exact q p H2 n2 e2 h2
end
section
variable {K : PySem.W.Frag} {σ : L2.St} {H : Hp} {te : TE} {ta tb : TA} {D : Ends} {φ ψ : V → Hp → Prop}
/-- a, b = x, y -/
theorem s_parP {i j : Nat} (h : EvAP ta σ H [φ, ψ]) (k : ∀ v u H1, Ex H H1 → Kn H H H1 (fun H' => φ v H' ∧ ψ u H') → D.nx ((σ.set i (some v)).set j (some u)) H1) : tPar i j ta D σ H := h H (Ex.refl H) _ fun vs H1 e kn => by
  have z := kn.now (Ex.refl H) e
  cases z with
  | @cons v _ us _ _ zr =>
    cases zr with
    | @cons u _ us2 _ _ zr2 =>
      cases zr2
      refine ⟨v, u, rfl, k v u H1 e (kn.imp fun H' _ z => ?_)⟩
      cases z with
      | cons a zr =>
        cases zr with
        | cons b _ => exact ⟨a, b⟩
/-- l.append(e), l new since H0, e known by what is true of it without l -/
theorem s_appP {l : Addr} {xs : List V} {H0 : Hp} {tl : TE} (e0 : Ex H0 H) (n : H0 l = none) (hl : H l = some (.lst xs)) (ha : Ev tl σ H (.ref l)) (h : EvP te σ H0 φ) (hz : xs.length < 100000)
    (k : ∀ v H1, Ex H0 H1 → (∀ b o, b ≠ l → H b = some o → H1 b = some o) → H1 l = some (.lst (xs ++ [v])) → φ v H1 → D.nx σ H1) : tDrop (tBM K "list" rAppend tl (tCons te tNil)) D σ H := ha H (Ex.refl H) _ fun H1 e1 =>
  ⟨Or.inl ⟨rfl, xs, sq_of (e1 l _ hl)⟩, h H1 (e0.trans e1) _ fun v H2 e2 kn => ⟨l, xs, v, rfl, rfl, e2 l _ (e1 l _ hl), sz_lt hz, k v _ (Ex.mut ((e0.trans e1).trans e2) n)
    (fun b o nb hb => by rw [upd_ne nb]; exact e2 _ _ (e1 _ _ hb)) upd_same (kn _ (Ex.mut ((e0.trans e1).trans e2) n) fun b o nb hb => by
      have z : b ≠ l := fun z => by
        rw [z, e1 _ _ hl] at nb
        cases nb
      rw [upd_ne z]
      exact hb)⟩⟩
/-- a call, its arguments known by what is true of them -/
theorem ev_callP {sp : Sp} {E : XK} {φs : List (V → Hp → Prop)} {z : V} (h : EvAP ta σ H φs) (hs : ∀ vs H1, Ex H H1 → Paired (fun v φ => φ v H1) vs φs → SpV sp vs H1 z) : Ev (tCall sp [] E ta) σ H z := fun H1 e Q q =>
  h H1 e _ fun vs H2 e2 kn => by
    rw [List.append_nil]
    exact hs vs H2 (e.trans e2) (kn.now e e2) H2 (Ex.refl H2) Q (fun H3 e3 => q H3 (e2.trans e3)) E
/-- x != y of equal data, x a new list -/
theorem ev_neD {r : Addr} {P : List V → Hp → Prop} {tx ty : TE} (d : PyData) (ha : EvLP tx σ H P) (hb : ∀ H', Ex H H' → Ev ty σ H' (.ref r)) (hd : ∀ p vs H', Ex H H' → H' p = some (.lst vs) → P vs H' → Dp K H' (.ref p) d ∧ Dp K H' (.ref r) d)
    (h1 : SeqAt.shaped d = true) (h2 : PyData.eqv d d = true) : Ev (tOp (rNeD K) tx ty) σ H (.bl false) := fun H1 e Q q =>
  ha H1 e _ fun p vs H2 n e2 hp k => hb H2 (e.trans e2) H2 (Ex.refl H2) _ fun H3 e3 => by
    have z := hd p vs H3 ((e.trans e2).trans e3) (e3 _ _ hp) ((k.ex e3).kn.now e (e2.trans e3))
    refine ⟨d, d, z.1, z.2, h1, h1, ?_⟩
    rw [h2]
    exact q H3 (e2.trans e3)
theorem dpAll_of : ∀ {vs : List V} {ds : List PyData}, vs.length = ds.length → (∀ (i : Nat) v d, vs[i]? = some v → ds[i]? = some d → Dp K H v d) → DpAll K H vs ds
  | [], [], _, _ => .nil
  | [], _ :: _, h, _ => by cases h
  | _ :: _, [], h, _ => by cases h
  | v :: vs, d :: ds, h, f => .cons (f 0 v d rfl rfl) (dpAll_of (by simpa using h) fun i u e a b => f (i + 1) u e (by simpa using a) (by simpa using b))
/-- [x] * n -/
theorem el_rep {tl ti : TE} {xs : List V} {n : Nat} (ha : EvL tl σ H xs) (hb : ∀ H', Ex H H' → Ev ti σ H' (.int (n : Int))) (hn : n ≤ 1000) (hz : xs.length * n ≤ 100000) : EvL (tOp rRep tl ti) σ H (List.replicate n xs).flatten := fun H1 e Q q =>
  ha H1 e _ fun l H2 hl e2 h2 => hb H2 (e.trans e2) H2 (Ex.refl H2) _ fun H3 e3 => ⟨l, (n : Int), xs, rfl, rfl, e3 _ _ h2, by omega, by omega, sz_of (by simpa using hz), fun p hp => by
    have : (n : Int).toNat = n := by omega
    rw [this]
    exact q p _ (fresh_back (e2.trans e3) hp) ((e2.trans e3).trans (Ex.new hp)) upd_same⟩
end
end Vx

set_option Elab.async false
set_option linter.all false
set_option maxRecDepth 100000
namespace Vx
open PySem PySem.Spec PyProof.Rows L2
def top (i : Nat) : Stmt := PySem.Challenge.pw_dequelogs_k83_values_changed_in_place.main.body.getD i (.Pass ⟨0, 0, 0, 0⟩)
abbrev s_DequeError : Stmt := top 1
abbrev s_NoText : Stmt := top 2
abbrev s_is_integer : Stmt := top 7
abbrev s_is_name : Stmt := top 8
abbrev s_is_size : Stmt := top 9
abbrev s_is_entry : Stmt := top 10
abbrev s_is_logs : Stmt := top 14
abbrev s_is_log : Stmt := top 15
abbrev s_items_fit : Stmt := top 16
abbrev s_removal_fits : Stmt := top 17
abbrev s_all_entries : Stmt := top 18
abbrev s_push_places : Stmt := top 19
abbrev s_write_logs : Stmt := top 25
abbrev s_read_logs : Stmt := top 26
abbrev s_write_facts : Stmt := top 27
abbrev s_read_facts : Stmt := top 28
abbrev s_write_run : Stmt := top 29
abbrev s_read_run : Stmt := top 30
abbrev s_write_log : Stmt := top 31
abbrev s_write_entry : Stmt := top 32
abbrev s_read_entry : Stmt := top 33
abbrev s_write_words : Stmt := top 34
abbrev s_read_words : Stmt := top 35
abbrev s_read_name : Stmt := top 36
abbrev s_read_fact : Stmt := top 37
abbrev s_write_place : Stmt := top 38
abbrev s_read_place : Stmt := top 39
abbrev s_is_number : Stmt := top 40
abbrev s_law_source : Stmt := top 42
abbrev s_law_pick : Stmt := top 43
abbrev s_law_shuffled : Stmt := top 44
abbrev s_law_words : Stmt := top 45
abbrev s_law_workers : Stmt := top 46
abbrev s_law_logs : Stmt := top 47
abbrev s_law_facts : Stmt := top 48
abbrev s_law_run : Stmt := top 49
abbrev s_law_value : Stmt := top 50
abbrev s_law_word : Stmt := top 51
abbrev s_law_page : Stmt := top 52
abbrev s_law_write : Stmt := top 53
abbrev s_law_read : Stmt := top 54
abbrev s_law_copy : Stmt := top 55
abbrev s_law_change_logs : Stmt := top 56
abbrev s_law_change : Stmt := top 57
abbrev s_law_right : Stmt := top 58
abbrev s_law : Stmt := top 59
end Vx

set_option Elab.async false
set_option linter.all false
set_option maxRecDepth 100000
set_option maxHeartbeats 4000000
namespace Vx
open PySem PySem.Spec PyProof.Rows L2 Evl
/-- the built-ins that the module leaves as they are -/
structure Bl (mg : Str → Option Value) : Prop where
  len : mg "len" = none
  max : mg "max" = none
  min : mg "min" = none
  abs : mg "abs" = none
  all : mg "all" = none
  zip : mg "zip" = none
  list : mg "list" = none
  tuple : mg "tuple" = none
  dict : mg "dict" = none
  bool : mg "bool" = none
  int : mg "int" = none
  str : mg "str" = none
  range : mg "range" = none
  isinstance : mg "isinstance" = none
  sorted : mg "sorted" = none
  set : mg "set" = none
  enumerate : mg "enumerate" = none
  repr : mg "repr" = none
section
variable {X : Cx} {K : PySem.W.Frag} {a b e : Expr} {ta tb te : TE} {p pos cpos apos : Pos}
theorem x_len (T : Bl X.mg) (ha : PE X a ta) (hK : X.K = K := by rfl) (hg : Gl X "len" := by rfl) (hs : starEach (a :: []) X.env = (false, eval a X.env) :: starEach [] X.env := by rfl) (hp : (backTo pos (starEach [] X.env)).any (·.1) = false := by rfl) : PE X (.Call (.Name "len" p) [a] [] pos) (tCB (rLenS K) (tCons ta tNil)) := by
  subst hK
  exact pe_callB (hc := call_len_seq) (hg := hg) (hm := T.len) (hv := PySem.boot_len) (ha := pa_cons ha pa_nil hs) (he := hs) (hpl := hp)
theorem x_ixl (ha : PE X a ta) (hb : PE X b tb) (hK : X.K = K := by rfl) (hs : PlainIx b := by exact fun _ _ => rfl) : PE X (.Subscript a b pos) (tOp (rIxL K) ta tb) := by
  subst hK
  exact pe_ix ix_list ha hb hs
theorem x_ixt (ha : PE X a ta) (hb : PE X b tb) (hK : X.K = K := by rfl) (hs : PlainIx b := by exact fun _ _ => rfl) : PE X (.Subscript a b pos) (tOp (rIxT K) ta tb) := by
  subst hK
  exact pe_ix ix_tup ha hb hs
theorem x_list (T : Bl X.mg) (ha : PE X a ta) (hK : X.K = K := by rfl) (hg : Gl X "list" := by rfl) (hs : starEach (a :: []) X.env = (false, eval a X.env) :: starEach [] X.env := by rfl) (hp : (backTo pos (starEach [] X.env)).any (·.1) = false := by rfl) : PE X (.Call (.Name "list" p) [a] [] pos) (tCB (rListS K) (tCons ta tNil)) := by
  subst hK
  exact pe_callTy (hc := call_list_of) (hg := hg) (hm := T.list) (hv := by decide +kernel) (ha := pa_cons ha pa_nil hs) (he := hs) (hpl := hp)
theorem x_all (T : Bl X.mg) (ha : PE X a ta) (hc : X.calm = true := by rfl) (hK : X.K = K := by rfl) (hg : Gl X "all" := by rfl) (hs : starEach (a :: []) X.env = (false, eval a X.env) :: starEach [] X.env := by rfl) (hp : (backTo pos (starEach [] X.env)).any (·.1) = false := by rfl) : PE X (.Call (.Name "all" p) [a] [] pos) (tCB (rAll K) (tCons ta tNil)) := by
  subst hK
  exact pe_callB (hc := cr_all hc) (hg := hg) (hm := T.all) (hv := by decide +kernel) (ha := pa_cons ha pa_nil hs) (he := hs) (hpl := hp)
/-- isinstance(e, T), T a built-in type -/
theorem x_isi (m : String) {x : Str} {p2 : Pos} (T : Bl X.mg) (ha : PE X a ta) (hm : X.mg x = none) (hv : bootBuiltins x = some (.type m) := by decide +kernel) (hK : X.K = K := by rfl) (hg : Gl X "isinstance" := by rfl) (hg2 : Gl X x := by rfl) (hx : x ≠ "__name__" := by decide) (hdx : (x == ("__debug__" : Str)) = false := by decide)
    (hs : starEach (a :: [.Name x p2]) X.env = (false, eval a X.env) :: starEach [.Name x p2] X.env := by rfl) (hs2 : starEach [.Name x p2] X.env = (false, eval (.Name x p2) X.env) :: starEach [] X.env := by rfl) (hp : (backTo pos (starEach [.Name x p2] X.env)).any (·.1) = false := by rfl) :
    PE X (.Call (.Name "isinstance" p) [a, .Name x p2] [] pos) (tCB (rIsi K) (tCons ta (tCons (tC (.ty m)) tNil))) := by
  subst hK
  exact pe_callB (hc := call_isi) (hg := hg) (hm := T.isinstance) (hv := by decide +kernel) (ha := pa_cons ha (pa_cons (pe_bltn hg2 hm hv rfl hx hdx) pa_nil hs2) hs) (he := hs) (hpl := hp)
theorem x_pil {tg : Expr} (ha : PE X a ta) (hK : X.K = K := by rfl) : PI X tg a (iList K ta) := by
  subst hK
  exact pi_list ha
theorem x_gt {es : List Expr} {k : Nat} {t : TGs} {n : Nat} {x1 : Pos} (h : PGs X es t) (hc : X.calm = true := by rfl) (hK : X.K = K := by rfl) (hn : (assignEach es X.env).length = n := by rfl) (hst : (assignEach es X.env).findIdx? (·.1) = none := by rfl) : PG X (.Tuple es k x1) (gTup K n t) := by
  subst hK
  exact pg_tup hc h hn hst
theorem x_enum {tpos : Pos} {elts : List Expr} {kk : Nat} (T : Bl X.mg) (ha : PE X a ta) (hK : X.K = K := by rfl) (hg : Gl X "enumerate" := by rfl) (hs : starEach [a] X.env = [(false, eval a X.env)] := by rfl) : PI X (.Tuple elts kk tpos) (.Call (.Name "enumerate" p) [a] [] pos) (iEnum K (tCons ta tNil)) := by
  subst hK
  exact pi_enum hg T.enumerate (pa_cons ha pa_nil hs) hs
theorem x_rng {tg : Expr} {t : TA} (T : Bl X.mg) (ha : PA X [a] t) (hg : Gl X "range" := by rfl) (hs : starEach [a] X.env = [(false, eval a X.env)] := by rfl) : PI X tg (.Call (.Name "range" p) [a] [] pos) (iRng1 t) := pi_range1 hg T.range ha hs
section
variable {o : Expr} {es : List Expr} {to : TE} {t : TA} {name : Str} {T id : String} {r : V → List V → Hp → VK → Prop}
theorem x_bm (pa : PlainAttrs T) (slot : Slot T name id) (hty : typeOf (.builtin id) = pure (.type "method_descriptor")) (hm : MtR X id r) (ho : PE X o to) (ha : PA X (e :: es) t) (hK : X.K = K := by rfl)
    (hb : attributeBase o name X.env (eval o X.env) = eval o X.env := by rfl)
    (hf : ((backTo cpos (starEach (e :: es) X.env)).all (fun x => !x.1) && (backToKw cpos (keywordEach [] X.env)).all (fun x => x.1.isSome) && decide ((e :: es).length + ([] : List Keyword).length + (if ([] : List Keyword).isEmpty then 0 else 1) < 30)) = true := by rfl)
    (hl : (apos.endLine == cpos.line) = true := by rfl) (hs : starEach (e :: es) X.env = (false, eval e X.env) :: starEach es X.env := by rfl) (hp : (backTo cpos (starEach es X.env)).any (·.1) = false := by rfl) :
    PE X (.Call (.Attribute o name apos) (e :: es) [] cpos) (tBM K T r to t) := by
  subst hK
  exact pe_bm pa slot hty hm ho ha hb hf hl hs hp
theorem x_bm0 (pa : PlainAttrs T) (slot : Slot T name id) (hty : typeOf (.builtin id) = pure (.type "method_descriptor")) (hm : MtR X id r) (ho : PE X o to) (hK : X.K = K := by rfl)
    (hb : attributeBase o name X.env (eval o X.env) = eval o X.env := by rfl) (hl : (apos.endLine == cpos.line) = true := by rfl) : PE X (.Call (.Attribute o name apos) [] [] cpos) (tBM0 K T r to) := by
  subst hK
  exact pe_bm0 pa slot hty hm ho hb hl
end
end
/-! what a call leaves that changes the list at p alone -/
def KB (p : Addr) (H H' : Hp) : Prop := ∀ b o, b ≠ p → H b = some o → H' b = some o
theorem KB.refl (p : Addr) (H : Hp) : KB p H H := fun _ _ _ h => h
theorem KB.trans {p : Addr} {H H1 H2 : Hp} (a : KB p H H1) (b : KB p H1 H2) : KB p H H2 := fun c o n h => b c o n (a c o n h)
theorem kb_ex {p : Addr} {H H' : Hp} (e : Ex H H') : KB p H H' := fun c o _ h => e c o h
theorem KB.upd {p : Addr} {H : Hp} {o : HO} : KB p H (upd H p o) := fun c u n h => by rw [upd_ne n]; exact h
theorem KB.ex {p : Addr} {H H' : Hp} (k : KB p H H') (h : H p = none) : Ex H H' := fun c o z => k c o (ne_of_none z h) z
/-- what is known without p stays known -/
theorem KB.base {p : Addr} {H0 H H' : Hp} (k : KB p H H') (e : Ex H0 H) (h : H0 p = none) : Ex H0 H' := fun c o z => k c o (ne_of_none z h) (e c o z)
end Vx

set_option Elab.async false
set_option linter.all false
set_option maxRecDepth 100000
set_option maxHeartbeats 4000000
namespace Vx
open PySem PySem.Spec PyProof.Rows L2 Evl
/-- a source of draws at p -/
def Src (H : Hp) (p : Addr) (n : Nat) : Prop := ∃ a b c : Int, H p = some (.lst [.int a, .int b, .int c]) ∧ 0 ≤ a ∧ 0 ≤ b ∧ b < 10 ^ 39 ∧ 0 ≤ c ∧ c ≤ (n : Int)
def spSource (K : PySem.W.Frag) : Sp := fun vs H Q _ => ∃ (a : Addr) (ns : List Int) (k : Int), vs = [.ref a, .int k] ∧ SqL K H a (ns.map V.int) ∧ 0 ≤ k ∧ k ≤ 1000 ∧
  ∀ p (x y : Int), H p = none → 0 ≤ x → 0 ≤ y → y < 10 ^ 39 → Q (.ref p) (upd H p (.lst [.int x, .int y, .int 0]))
def spPick : Sp := fun vs H Q _ => ∃ (p : Addr) (n : Nat) (m : Int), vs = [.ref p, .int m] ∧ Src H p n ∧ n ≤ 1000000000 ∧ 1 ≤ m ∧ m ≤ 10 ^ 60 ∧
  ∀ (r : Int) xs, 0 ≤ r → r < m → Src (upd H p (.lst xs)) p (n + 1) → Q (.int r) (upd H p (.lst xs))
theorem Src.ex {H H' : Hp} {p : Addr} {n : Nat} (h : Src H p n) (e : Ex H H') : Src H' p n := by
  obtain ⟨a, b, c, h1, h2⟩ := h
  exact ⟨a, b, c, e _ _ h1, h2⟩
theorem Src.le {H : Hp} {p : Addr} {n m : Nat} (h : Src H p n) (e : n ≤ m) : Src H p m := by
  obtain ⟨a, b, c, h1, h2, h3, h4, h5, h6⟩ := h
  exact ⟨a, b, c, h1, h2, h3, h4, h5, by omega⟩
theorem Src.at_ {H : Hp} {p : Addr} {n : Nat} (h : Src H p n) : ∃ xs, H p = some (.lst xs) := by
  obtain ⟨a, b, c, h1, h2⟩ := h
  exact ⟨_, h1⟩
theorem Src.upd {H : Hp} {p q : Addr} {o : HO} {n : Nat} (h : Src H p n) (e : p ≠ q) : Src (upd H q o) p n := by
  obtain ⟨a, b, c, h1, h2⟩ := h
  exact ⟨a, b, c, by rw [upd_ne e]; exact h1, h2⟩
theorem KB.updN {p b : Addr} {H H' : Hp} {o : HO} (k : KB p H H') (h : H b = none ∨ b = p) : KB p H (L2.upd H' b o) := fun c u n z => by
  rcases h with h | h
  · rw [upd_ne (ne_of_none z h)]
    exact k c u n z
  · rw [upd_ne (fun q => n (q.trans h))]
    exact k c u n z
theorem seqIx {r : Int} {n : Nat} (h0 : 0 ≤ r) (h : r < (n : Int)) : seqIndex? r n = some r.toNat := by
  unfold seqIndex?
  simp only [show ¬ r < 0 by omega, if_false]
  simp [h0, h]
theorem perm_erase {α : Type} {xs : List α} {i : Nat} (h : i < xs.length) : ([xs[i]] ++ xs.eraseIdx i).Perm xs := by
  have e : xs = xs.take i ++ xs[i] :: xs.drop (i + 1) := by
    rw [List.getElem_cons_drop, List.take_append_drop]
  rw [List.eraseIdx_eq_take_drop_succ]
  refine List.Perm.trans ?_ (List.Perm.of_eq e.symm)
  exact (List.perm_middle (l₁ := xs.take i) (l₂ := xs.drop (i + 1)) (a := xs[i])).symm
def spShuf (K : PySem.W.Frag) : Sp := fun vs H Q _ => ∃ (s r : Addr) (n : Nat) (row : List V), vs = [.ref s, .ref r] ∧ Src H s n ∧ n + row.length ≤ 1000000000 ∧ SqL K H r row ∧ row.length ≤ 10000 ∧
  ∀ p ys H', H p = none → KB s H H' → Src H' s (n + row.length) → H' p = some (.lst ys) → ys.Perm row → Q (.ref p) H'
section
variable {P : Program} {w : World} {K : PySem.W.Frag} {mg : Str → Option Value} {base : Heap}
theorem sc_law_source : FnScope ["script", "k", "cell"] ["script", "k"] (defScope s_law_source) := ⟨rfl, rfl, rfl, by decide +kernel, rfl, by decide +kernel, by decide +kernel⟩
theorem ok_law_source (D : Def K mg "_law_source" s_law_source ["script", "k"]) (T : Bl mg) : Good P w K mg base 1 "_law_source" ["script", "k"] (spSource K) := by
  refine D.good sc_law_source (fun vs H Q E h => ?_) (fun f cdv A outer s H vs Q E hr h => ?_)
  · obtain ⟨a, ns, k, rfl, _⟩ := h
    rfl
  · obtain ⟨a, ns, k, rfl, hS, k0, k1, q⟩ := h
    refine ⟨_, Evl.pss_cut (ps_set (i := 2) sc_law_source.nd rfl (Or.inl rfl) (pe_ifExp (pt_cmpR op_lt (pv 1) (pe_callB call_len_seq (by rfl) T.len PySem.boot_len (pa_cons (pv 0) pa_nil)) (nomark _)) (pe_ix ix_list (pv 0) (pv 1) (fun _ _ => rfl)) pe_int))
      (pss_one (ps_ret (pe_lst (pa_cons (pe_callB (call_max2 rfl) (by rfl) T.max (by decide +kernel) (pa_cons pe_int (pa_cons (pe_op op_sub (pe_callB call_abs (by rfl) T.abs (by decide +kernel) (pa_cons (pv 2) pa_nil)) (pe_op op_pw pe_int pe_int)) pa_nil)))
        (pa_cons (pe_op op_add (pe_op op_add (pe_op op_mul (pe_op op_mod (pe_callB call_abs (by rfl) T.abs (by decide +kernel) (pa_cons (pv 2) pa_nil)) (pe_op op_add (pe_op op_pw pe_int pe_int) pe_int)) pe_int) (pv 1)) pe_int)
          (pa_cons pe_int pa_nil)))))), ?_⟩
    refine ⟨fun σ' H' => ∃ c : Int, σ' = [some (.ref a), some (.int k), some (.int c)] ∧ H' = H, ?_, ?_⟩
    · refine ⟨_, rfl, _, rfl, a, _, rfl, Or.inl hS, _, _, rfl, rfl, _, rfl, ?_⟩
      rw [List.length_map]
      refine ite2 (fun hk => ?_) (fun _ => ⟨0, rfl, rfl⟩)
      have hk' : k < (ns.length : Int) := of_decide_eq_true hk
      obtain ⟨j, rfl⟩ : ∃ j : Nat, k = (j : Int) := ⟨k.toNat, by omega⟩
      have hj : j < ns.length := by omega
      refine ⟨_, rfl, _, rfl, a, _, _, V.int (ns[j]), rfl, rfl, hS, atI_nat (by rw [List.getElem?_map, List.getElem?_eq_getElem hj]; rfl), ⟨_, rfl, rfl⟩⟩
    · rintro σ' H' ⟨c, rfl, rfl⟩
      refine ⟨_, rfl, _, rfl, 10, 18, rfl, rfl, ⟨by decide, by decide, by decide⟩, _, _, rfl, rfl, _, _, rfl, ?_⟩
      refine ⟨_, rfl, _, rfl, 10, 36, rfl, rfl, ⟨by decide, by decide, by decide⟩, _, _, rfl, rfl, _, _, rfl, rfl, (show (0 : Int) < 10 ^ 36 + 67 by decide), ?_⟩
      refine ⟨_, _, rfl, rfl, Or.inr ⟨by decide, by decide⟩, _, rfl, _, _, rfl, rfl, _, _, rfl, rfl, (by show 3 ≤ sizeLine; decide), fun p hp => ?_⟩
      have e := Int.emod_lt_of_pos (if c < 0 then -c else c) (show (0 : Int) < 10 ^ 36 + 67 by decide)
      have e0 := Int.emod_nonneg (if c < 0 then -c else c) (show (10 : Int) ^ 36 + 67 ≠ 0 by decide)
      refine q p _ _ hp ?_ ?_ ?_
      · split <;> omega
      · generalize hz : (if c < 0 then -c else c) % (10 ^ 36 + 67) = z at e e0
        show (0 : Int) ≤ (if c < 0 then -c else c) % (10 ^ 36 + 67) * 128 + k + 5
        rw [hz]
        omega
      · generalize hz : (if c < 0 then -c else c) % (10 ^ 36 + 67) = z at e e0
        show (if c < 0 then -c else c) % (10 ^ 36 + 67) * 128 + k + 5 < 10 ^ 39
        rw [hz]
        omega
theorem sc_law_pick : FnScope ["source", "count", "found", "mixed"] ["source", "count"] (defScope s_law_pick) := ⟨rfl, rfl, rfl, by decide +kernel, rfl, by decide +kernel, by decide +kernel⟩
theorem ok_law_pick (D : Def K mg "_law_pick" s_law_pick ["source", "count"]) : Good P w K mg base 1 "_law_pick" ["source", "count"] spPick := by
  refine D.good sc_law_pick (fun vs H Q E h => ?_) (fun f cdv A outer s H vs Q E hr h => ?_)
  · obtain ⟨p, n, m, rfl, _⟩ := h
    rfl
  · obtain ⟨p, n, m, rfl, ⟨a, b, c, hp, a0, b0, b1, c0, c1⟩, hn, m0, m1, q⟩ := h
    refine ⟨_, pss_cons (ps_if (pt_cmpR op_gt (pe_ix ix_list (pv 0) pe_int (fun _ _ => rfl)) pe_int (nomark _))
        (pss_cons (ps_set (i := 2) sc_law_pick.nd rfl (Or.inl rfl) (pe_op op_mod (pe_ix ix_list (pv 0) pe_int (fun _ _ => rfl)) (pv 1)))
        (pss_cons (ps_asg (pe_op op_fdivW (pe_ix ix_list (pv 0) pe_int (fun _ _ => rfl)) (pv 1)) (pg_sub (pv 0) pe_int set_list))
        (pss_one (ps_ret (pv 2))))) pss_nil)
      (pss_cons (ps_asg (pe_op op_add (pe_ix ix_list (pv 0) pe_int (fun _ _ => rfl)) pe_int) (pg_sub (pv 0) pe_int set_list))
      (pss_cons (ps_set (i := 3) sc_law_pick.nd rfl (Or.inl rfl) (pe_op op_mod (pe_op op_pw (pe_op op_add (pe_ix ix_list (pv 0) pe_int (fun _ _ => rfl)) (pe_op op_mul pe_int (pe_ix ix_list (pv 0) pe_int (fun _ _ => rfl)))) pe_int) (pe_op op_add (pe_op op_pw pe_int pe_int) pe_int)))
      (pss_cons (ps_set (i := 3) sc_law_pick.nd rfl (Or.inl rfl) (pe_op op_mod (pe_op op_pw (pe_op op_add (pv 3) (pe_op op_mul pe_int (pe_ix ix_list (pv 0) pe_int (fun _ _ => rfl)))) pe_int) (pe_op op_add (pe_op op_pw pe_int pe_int) pe_int)))
      (pss_one (ps_ret (pe_op op_mod (pe_op op_fdiv (pv 3) pe_int) (pv 1))))))), ?_⟩
    refine ⟨_, rfl, p, _, _, V.int a, rfl, rfl, SqL.of hp, rfl, _, _, rfl, rfl, _, rfl, ?_⟩
    refine ite2 (fun ha => ?_) (fun _ => ?_)
    · have ha : 0 < a := of_decide_eq_true ha
      refine ⟨_, rfl, p, _, _, V.int a, rfl, rfl, SqL.of hp, rfl, _, rfl, a, m, rfl, rfl, (by omega), ?_⟩
      refine ⟨_, rfl, p, _, _, V.int a, rfl, rfl, SqL.of hp, rfl, _, rfl, a, m, rfl, rfl, wide_div (b := 200) (by omega) (by omega) (by decide) (by decide), ?_⟩
      refine ⟨_, rfl, p, _, _, 0, rfl, rfl, hp, rfl, _, rfl, ?_⟩
      refine q _ _ (Int.emod_nonneg _ (by omega)) (Int.emod_lt_of_pos _ (by omega)) ⟨_, b, c, upd_same, ?_, b0, b1, c0, by omega⟩
      exact Int.ediv_nonneg (by omega) (by omega)
    · refine ⟨_, rfl, p, _, _, V.int c, rfl, rfl, SqL.of hp, rfl, _, _, rfl, rfl, ?_⟩
      refine ⟨_, rfl, p, _, _, 2, rfl, rfl, hp, rfl, ?_⟩
      generalize hH : upd H p (.lst ([V.int a, V.int b, V.int c].set 2 (V.int (c + 1)))) = H1
      have h1 : H1 p = some (.lst [.int a, .int b, .int (c + 1)]) := by rw [← hH]; exact upd_same
      have pos1 : (0 : Int) < 10 ^ 38 + 133 := by decide
      have pos2 : (0 : Int) < 10 ^ 37 + 43 := by decide
      refine ⟨_, rfl, p, _, _, V.int b, rfl, rfl, SqL.of h1, rfl, _, rfl, p, _, _, V.int (c + 1), rfl, rfl, SqL.of h1, rfl, _, _, rfl, rfl, Or.inl ⟨by decide, by decide⟩, _, _, rfl, rfl, ?_⟩
      refine ⟨_, 3, rfl, rfl, ⟨by decide, by decide, by omega⟩, 10, 38, rfl, rfl, ⟨by decide, by decide, by decide⟩, _, _, rfl, rfl, _, _, rfl, rfl, pos1, ?_⟩
      generalize hx : ((b + 49979687 * (c + 1)) ^ Int.toNat 3 % (10 ^ Int.toNat 38 + 133)) = x
      have x0 : 0 ≤ x := by rw [← hx]; exact Int.emod_nonneg _ (by decide)
      have x1 : x < 10 ^ 38 + 133 := by rw [← hx]; exact Int.emod_lt_of_pos _ pos1
      refine ⟨_, rfl, _, rfl, p, _, _, V.int (c + 1), rfl, rfl, SqL.of h1, rfl, _, _, rfl, rfl, Or.inl ⟨by decide, by decide⟩, _, _, rfl, rfl, ?_⟩
      refine ⟨_, 3, rfl, rfl, ⟨by decide, by decide, by omega⟩, 10, 37, rfl, rfl, ⟨by decide, by decide, by decide⟩, _, _, rfl, rfl, _, _, rfl, rfl, pos2, ?_⟩
      refine ⟨_, rfl, _, _, rfl, rfl, ⟨by decide, by decide⟩, _, rfl, _, _, rfl, rfl, (show (0 : Int) < m by omega), ?_⟩
      rw [← hH]
      refine q _ _ (Int.emod_nonneg _ (by omega)) (Int.emod_lt_of_pos _ (by omega)) ⟨a, b, c + 1, upd_same, a0, b0, b1, by omega, by omega⟩
theorem sc_law_shuffled : FnScope ["source", "row", "left", "k"] ["source", "row"] (defScope s_law_shuffled) := ⟨rfl, rfl, rfl, by decide +kernel, rfl, by decide +kernel, by decide +kernel⟩
theorem ok_law_shuffled (D : Def K mg "_law_shuffled" s_law_shuffled ["source", "row"]) (T : Bl mg) (G_law_pick : Good P w K mg base 1 "_law_pick" ["source", "count"] spPick) : Good P w K mg base 2 "_law_shuffled" ["source", "row"] (spShuf K) := by
  refine D.good sc_law_shuffled (fun vs H Q E h => ?_) (fun f cdv A outer s H vs Q E hr h => ?_)
  · obtain ⟨s, r, n, row, rfl, _⟩ := h
    rfl
  · obtain ⟨s, r, n, row, rfl, hs, hn, hrow, hz, q⟩ := h
    have hu := hu_of hr
    refine ⟨_, (pss_cons (ps_set (i := 2) sc_law_shuffled.nd rfl (Or.inr rfl) (x_list (K := K) T (pv 1)))
      (pss_one (ps_ret (pe_lc (own := [("k", 3)]) (g := (gName 3)) (tt := tYes) rfl sc_law_shuffled.nd (x_rng T (pa_cons (x_len (K := K) T (pv 1)) pa_nil)) (blkOk_by (N := ["source", "row", "left", "k"]) (sc := (defScope s_law_shuffled)) (by decide +kernel)) (fun _ _ _ _ _ => (pg_name (i := 3) sc_law_shuffled.nd rfl (Or.inl rfl))) (fun _ _ _ _ _ => pts_nil) (fun _ _ _ _ _ => (x_bm (K := K) PySem.F.plainAttrs_list PySem.F.slot_list_pop PySem.F.type_list_pop mt_popAt (pv 2) (pa_cons (pe_fn G_law_pick hr (pa_cons (pv 0) (pa_cons (x_len (K := K) T (pv 2)) pa_nil))) pa_nil))))))), ?_⟩
    have rs : H r ≠ none ∨ True := Or.inr trivial
    refine s_asgL (el_list (ev_var rfl) hrow) (fun pl H1 n1 e1 w1 => ?_)
    have e2 := Ex.refl H1
    refine ⟨_, rfl, r, row, rfl, .inl (ex_l e1 hrow), (row.length : Int), rfl, by omega, by omega, fun Dl hD => ?_⟩
    have E2 := e1
    obtain ⟨xs0, hs0⟩ := hs.at_
    have nsl : s ≠ pl := ne_of_none hs0 n1
    have nDl : pl ≠ Dl := ne_of_none (e2 _ _ w1) hD
    have nDs : s ≠ Dl := ne_of_none (E2 _ _ hs0) hD
    have hDH : H Dl = none := fresh_back E2 hD
    refine lc_range (lo := 0) (n := (row.length : Int).toNat) (fun i H' => KB s H H' ∧ Src H' s (n + i) ∧ ∃ xs acc, H' pl = some (.lst xs) ∧ H' Dl = some (.lst acc) ∧ (acc ++ xs).Perm row ∧ acc.length = i)
      ⟨kb_ex (E2.trans (Ex.new hD)), (hs.ex E2).ex (Ex.new hD), row, [], by rw [upd_ne nDl]; exact e2 _ _ w1, upd_same, List.Perm.refl _, rfl⟩ (fun i H' hi p => ?_) (fun H' p => ?_)
    · obtain ⟨k1, s1, xs, acc, h1, h2, h3, h4⟩ := p
      have hlen := h3.length_eq
      rw [List.length_append] at hlen
      refine ⟨rfl, ?_⟩
      refine ⟨_, rfl, .inl ⟨rfl, _, SqL.of h1⟩, _, rfl, _, rfl, pl, xs, rfl, .inl (SqL.of h1), s, n + i, (xs.length : Int), rfl, s1, by omega, by omega, by omega, fun d ys d0 dm s2 => ?_⟩
      have hd : d.toNat < xs.length := by omega
      refine ⟨pl, xs, d, d.toNat, xs[d.toNat], rfl, rfl, by rw [upd_ne nsl.symm]; exact h1, by omega, by omega, seqIx d0 dm, List.getElem?_eq_getElem hd, acc, by rw [upd_ne nDl.symm, upd_ne nDs.symm]; exact h2, sz_lt (by omega), ?_⟩
      refine ⟨((k1.updN (Or.inr rfl)).updN (Or.inl n1)).updN (Or.inl hDH), ((s2.upd nsl).upd nDs), xs.eraseIdx d.toNat, acc ++ [xs[d.toNat]], by rw [upd_ne nDl, upd_same], upd_same, ?_, by rw [List.length_append, h4]; rfl⟩
      refine List.Perm.trans ?_ h3
      rw [List.append_assoc]
      refine List.Perm.append_left _ ?_
      exact perm_erase hd
    · obtain ⟨k1, s1, xs, acc, h1, h2, h3, h4⟩ := p
      have hlen := h3.length_eq
      rw [List.length_append] at hlen
      have hx : xs = [] := List.length_eq_zero_iff.mp (by omega)
      subst hx
      rw [List.append_nil] at h3
      refine q Dl acc H' hDH k1 (s1.le (by omega)) h2 h3
end
end Vx

set_option Elab.async false
set_option linter.all false
set_option maxRecDepth 100000
set_option maxHeartbeats 4000000
namespace Vx
open PySem PySem.Spec PyProof.Rows L2 Evl
/-! xs[a:] = ys -/
section
variable {prog : Program} {w : World} {A : Around} {E : Value → Shared → Prop} {s : Shared}
theorem bounds_tail {a n : Nat} (h : a ≤ n) : sliceBounds (some (a : Int)) none none n = ((a : Int), (n : Int), 1) := by
  obtain ⟨h1, h2, h3⟩ := slice_bounds (some (a : Int)) none n
  refine Prod.ext (h1.trans ?_) (Prod.ext (h2.trans ?_) h3)
  · simp only [HT.sIx]
    have hn : ¬ ((a : Int) < 0) := by omega
    simp only [hn, if_false]
    omega
  · rfl
theorem tail_store {p q sl : Addr} {old new : Array Value} {m m2 : Nat} {lo : Value} {a : Nat} {R : Unit → Shared → Prop}
    (hp : s.heap.get? p = some { cls := .type "list", data := .seq old m }) (hq : s.heap.get? q = some { cls := .type "list", data := .seq new m2 }) (hpq : p ≠ q)
    (hsl : s.heap.IsSliceOf sl lo .none .none) (hlo : IsPart lo (some (a : Int))) (ha : a ≤ old.size)
    (hz : old.size + new.size ≤ sizeLine) (fin : R () { s with heap := s.heap.update p (Obj.mapSeq fun vs => vs.extract 0 a ++ new ++ vs.extract old.size vs.size) }) :
    wpAny (model prog w) A (setItem (.ref p) (.ref sl) (.ref q)) R E s := by
  have lp : s.heap.IsList p old := PySem.IsL.isList hp
  have lq : s.heap.IsList q new := PySem.IsL.isList hq
  obtain ⟨os, gs, cs, ds⟩ := id hsl
  have isSl : s.TypeIs (.ref sl) "slice" := ⟨os, gs, cs⟩
  have other : Builtin.List.listSameRef (.ref p) (.ref q) = false := by unfold Builtin.List.listSameRef; exact beq_eq_false_iff_ne.mpr hpq
  have up : (max (a : Int) (old.size : Int)).toNat = old.size := by omega
  have hz2 : ((fun vs : Array Value => vs.extract 0 a ++ new ++ vs.extract old.size vs.size) old).size ≤ sizeLine + 1 := by simp only [Array.size_append, Array.size_extract]; omega
  unfold setItem; try with_reducible refine wpAny_holding ?_
  first | refine wpAny_bind (wpAny_pure ?_) | skip
  refine wpAny_bind (wpAny_sequenceKey lp.typeIs (by decide) ?_)
  refine wpAny_bind (wpAny_callSpecial?_slot (name := Str.ofString "__setitem__") lp.typeIs slot_list_setitem (wpAny_call_entry slot_list_setitem lp.typeIs entry_list_setitem ?_ (args_list_setitem _ _ _)))
  show wpAny _ _ (Builtin.List.listSubscript? (.ref sl) >>= _) _ _ s; refine wpAny_bind ?_
  unfold Builtin.List.listSubscript?; refine wpAny_bind (wpAny_specialOf isSl slice_no_index ?_)
  simp only [Option.isNone_none, if_true]; refine wpAny_pure ?_
  show wpAny _ _ (typeOf (.ref sl) >>= _) _ _ s; refine wpAny_bind (wpAny_typeOf isSl ?_)
  refine PySem.W.KFB.if_not (by decide) ?_; rw [listSliceParts_eq]
  refine wpAny_bind (wpAny_bind (wpAny_field gs ds (x := .none) rfl (wpAny_bind (wpAny_listPart .none ?_))))
  rw [if_neg (show ¬ ((rawPart none == rawInt 0) = true) from Bool.false_ne_true)]
  refine wpAny_bind (wpAny_field gs ds (x := lo) rfl (wpAny_bind (wpAny_listPart hlo ?_)))
  refine wpAny_bind (wpAny_field gs ds (x := .none) rfl (wpAny_bind (wpAny_listPart .none (wpAny_pure ?_))))
  first
    | simp only [other, Bool.false_eq_true, if_false]
    | refine PySem.W.KFB.if_not other ?_
    | (dsimp only; rw [if_neg (by rw [other]; exact Bool.false_ne_true)])
  refine wpAny_bind (m := Builtin.List.listAllItems (.ref q) "must assign iterable to extended slice") ?_
  unfold Builtin.List.listAllItems; refine wpAny_bind (wpAny_typeOf lq.typeIs ?_)
  refine PySem.W.KFB.if_so (by decide) ?_; unfold Builtin.List.listItems
  refine wpAny_bind (wpAny_seqItems hq rfl (wpAny_pure ?_)); refine wpAny_bind (wpAny_bind (wpAny_seqItems hp rfl (wpAny_pure ?_)))
  refine wpAny_bind (wpAny_of_eq ((sliceIndices_raw (some (a : Int)) none none old.size (by simp)).trans (congrArg (pure : Int × Int × Int → Sem (Int × Int × Int)) (bounds_tail ha))) ?_)
  show wpAny _ _ (if ((1 : Int) == 1) = true then _ else _) _ _ s; rw [if_pos (by decide)]
  refine wpAny_bind (wpAny_rule ?_)
  first
    | simp only [notLongL hz, Bool.false_eq_true, if_false]
    | refine PySem.W.KFB.if_not (notLongL hz) ?_
  first | refine wpAny_bind (wpAny_pure ?_) | skip
  show wpAny _ _ (updateSeq p (fun vs => vs.extract 0 ((a : Int)).toNat ++ new ++ vs.extract (max (a : Int) (old.size : Int)).toNat vs.size) >>= _) _ _ s
  rw [up, Int.toNat_natCast]
  refine wpAny_bind (wpAny_updateSeq (hz := Nat.le_trans (Nat.le_add_right _ _) hz) (_hz' := hz2) hp rfl ?_); refine wpAny_bind (wpAny_letGo ?_)
  first
    | exact wpAny_bind (wpAny_pure (wpAny_pure ⟨.none, rfl, wpAny_pure fin⟩))
    | exact wpAny_pure ⟨.none, rfl, wpAny_pure fin⟩
end
section
variable {X : Cx}
/-- o[lo:] = v, both lists -/
def gTail (to : TE) (tl : TO) : TG := fun v σ H Q => to σ H fun o H1 => tl σ H1 fun l H2 => ∃ p q xs ys a, o = .ref p ∧ v = .ref q ∧ l = some ((a : Nat) : Int) ∧ p ≠ q ∧ H2 p = some (.lst xs) ∧ H2 q = some (.lst ys) ∧ a ≤ xs.length ∧ xs.length + ys.length ≤ sizeLine ∧ Q σ (upd H2 p (.lst (xs.take a ++ ys)))
theorem pg_tail {o : Expr} {lo : Option Expr} {to : TE} {tl : TO} {pos p2 : Pos} (ho : PE X o to) (hl : PO X lo tl)
    (ha : ∀ v, assign (.Subscript o (.Slice lo none none p2) pos) X.env v = (do
      let x ← holding [v] (eval o X.env)
      let i ← holding [v, x] (eval (.Slice lo none none p2) X.env)
      standAt pos
      holding [v, x, i] (setItem x i v)
      release [i, v, x] []) := by intro _; rfl) : PG X (.Subscript o (.Slice lo none none p2) pos) (gTail to tl) := by
  refine ⟨fun pins s σ H v u Q I r h => ?_⟩
  rw [ha]
  refine wpAny_bind (wpAny_holding (thn (ho.run pins s σ H _ I h) fun ov s1 ⟨x, H1, I1, r1, q1⟩ => ?_))
  refine wpAny_bind (wpAny_holding (wpAny_Slice (thn (hl.run pins s1 σ H1 _ I1 q1) fun vl s2 ⟨l, H2, I2, pl, q2⟩ => ?_)))
  rw [evalPart_none]; refine wpAny_pure (wpAny_pure ?_)
  have I4 : Inv X pins σ H2 { s2 with heap := s2.heap.push { cls := .type "slice", data := .fields #[vl, .none, .none] } } := I2.kept (t' := s2.toks) fun b ob q => Heap.get?_push_of_some _ q
  obtain ⟨p, q, xs, ys, a, rfl, rfl, rfl, hpq, hp, hq, hle, hz, fin⟩ := q2
  cases r1
  cases r
  refine wpAny_bind (wpAny_standAt (wpAny_bind (wpAny_holding ?_)))
  obtain ⟨z, its, n, rv, hlen, e⟩ := I4.lstM hp
  obtain ⟨z2, its2, n2, rv2, hlen2, e2⟩ := I4.lstM hq
  refine tail_store (a := a) e e2 hpq (Heap.IsSliceOf.new ..) pl (by rw [List.size_toArray]; omega) (by rw [List.size_toArray, List.size_toArray]; omega) ?_
  refine wpAny_release ⟨σ, _, ?_, fin⟩
  refine I4.lset (its' := its.take a ++ its2) (t' := s2.toks) hp e ?_ (Vals.append (rv.take _) rv2) ?_
  · have h1 := splice_eq its its2 a its.toArray.size
    have h2 : its.drop its.toArray.size = [] := by rw [List.size_toArray]; exact List.drop_length
    rw [h2, List.append_nil] at h1
    exact h1
  · rw [List.length_append, List.length_take]
    omega
end
end Vx

set_option Elab.async false
set_option linter.all false
set_option maxRecDepth 100000
set_option maxHeartbeats 4000000
namespace Vx
open PySem PySem.Spec PyProof.Rows L2 Evl
/-! readings that draw from a source at s: B is what is known without it -/
theorem KB.fresh {s b : Addr} {H H' : Hp} (k : KB s H H') (h : ∃ xs, H' s = some (.lst xs)) (n : H' b = none) : H b = none := by
  obtain ⟨xs, h⟩ := h
  cases q : H b with
  | none => rfl
  | some o =>
    have nb : b ≠ s := fun z => by rw [z, h] at n; cases n
    rw [k b o nb q] at n
    cases n
def hid (s : Addr) (H : Hp) : Hp := fun b => if b = s then none else H b
theorem hid_s (s : Addr) (H : Hp) : hid s H s = none := if_pos rfl
theorem hid_ne {s b : Addr} {H : Hp} (h : b ≠ s) : hid s H b = H b := if_neg h
theorem hid_ex (s : Addr) (H : Hp) : Ex (hid s H) H := fun b o h => by
  unfold hid at h
  split at h
  · cases h
  · exact h
theorem KB.hid {s : Addr} {H H' : Hp} (k : KB s H H') : Ex (hid s H) H' := fun b o h => by
  unfold Vx.hid at h
  split at h
  · cases h
  · exact k b o (by assumption) h
theorem kb_of_hid {s : Addr} {H H' : Hp} (k : Ex (hid s H) H') : KB s H H' := fun b o n h => k b o (by rw [hid_ne n]; exact h)
def EvK (s : Addr) (c : Nat) (te : TE) (σ : L2.St) (B : Hp) (P : V → Prop) : Prop := ∀ (H1 : Hp) (n : Nat), Ex B H1 → Src H1 s n → n + c ≤ 1000000000 → ∀ Q : VK, (∀ v H2, KB s H1 H2 → Src H2 s (n + c) → P v → Q v H2) → te σ H1 Q
def EvKA (s : Addr) (c : Nat) (ta : TA) (σ : L2.St) (B : Hp) (Ps : List (V → Prop)) : Prop := ∀ (H1 : Hp) (n : Nat), Ex B H1 → Src H1 s n → n + c ≤ 1000000000 → ∀ Q : List V → Hp → Prop, (∀ vs H2, KB s H1 H2 → Src H2 s (n + c) → Paired (fun v P => P v) vs Ps → Q vs H2) → ta σ H1 Q
def EvKL (s : Addr) (c : Nat) (te : TE) (σ : L2.St) (B : Hp) (P : List V → Prop) : Prop := ∀ (H1 : Hp) (n : Nat), Ex B H1 → Src H1 s n → n + c ≤ 1000000000 → ∀ Q : VK, (∀ p vs H2, H1 p = none → KB s H1 H2 → Src H2 s (n + c) → H2 p = some (.lst vs) → P vs → Q (.ref p) H2) → te σ H1 Q
section
variable {K : PySem.W.Frag} {σ : L2.St} {B : Hp} {s : Addr} {c d : Nat} {te tf : TE} {ta : TA} {P P' : V → Prop} {Ps : List (V → Prop)}
theorem ek_of {v : V} (h : Ev te σ B v) (hp : P v) : EvK s 0 te σ B P := fun H1 n e S _ Q q => h H1 e _ fun H2 e2 => q v H2 (kb_ex e2) (S.ex e2) hp
theorem EvK.imp (h : EvK s c te σ B P) (f : ∀ v, P v → P' v) : EvK s c te σ B P' := fun H1 n e S b Q q => h H1 n e S b Q fun v H2 k S2 p => q v H2 k S2 (f v p)
theorem ek_pick {j : Nat} {m : Int} (hs : B s = none) (hj : σ[j]? = some (some (.ref s))) (he : EvK s c te σ B (fun v => v = .int m)) (h1 : 1 ≤ m) (h2 : m ≤ 10 ^ 60) :
    EvK s (c + 1) (tCall spPick [] E0 (tCons (tVar j) (tCons te tNil))) σ B (fun v => ∃ r : Int, v = .int r ∧ 0 ≤ r ∧ r < m) := fun H1 n e S b Q q =>
  ⟨.ref s, hj, he H1 n e S (by omega) _ fun v H2 k S2 p => by
    subst p
    refine ⟨s, n + c, m, rfl, S2, by omega, h1, h2, fun r xs r0 r1 S3 => q _ _ (k.trans KB.upd) S3 ⟨r, rfl, r0, r1⟩⟩⟩
theorem ek_op {r : R2} (hs : B s = none) (ha : EvK s c te σ B P) (hb : EvK s d tf σ B P') {P2 : V → Prop} (hr : ∀ x y, P x → P' y → ∃ z, P2 z ∧ RV r x y B z) : EvK s (c + d) (tOp r te tf) σ B P2 := fun H1 n e S b Q q =>
  ha H1 n e S (by omega) _ fun x H2 k S2 p => hb H2 (n + c) (k.base e hs) S2 (by omega) _ fun y H3 k3 S3 p' => by
    obtain ⟨z, pz, hz⟩ := hr x y p p'
    exact hz H3 (k3.base (k.base e hs) hs) _ fun H4 e4 => q z H4 ((k.trans k3).trans (kb_ex e4)) ((S3.ex e4).le (by omega)) pz
theorem eka_nil : EvKA s 0 tNil σ B [] := fun H1 n e S b Q q => q [] H1 (KB.refl _ _) S .nil
theorem eka_cons (hs : B s = none) (h : EvK s c te σ B P) (hr : EvKA s d ta σ B Ps) : EvKA s (c + d) (tCons te ta) σ B (P :: Ps) := fun H1 n e S b Q q =>
  h H1 n e S (by omega) _ fun x H2 k S2 p => hr H2 (n + c) (k.base e hs) S2 (by omega) _ fun vs H3 k3 S3 ps => q _ H3 (k.trans k3) (S3.le (by omega)) (.cons p ps)
theorem ekl_lst (hs : B s = none) (h : EvKA s c ta σ B Ps) (hz : Ps.length ≤ 100000) : EvKL s c (tLst ta) σ B (fun vs => Paired (fun v P => P v) vs Ps) := fun H1 n e S b Q q =>
  h H1 n e S b _ fun vs H2 k S2 ps => ⟨sz_of (by rw [Paired.length ps]; exact hz), fun p hp => by
    obtain ⟨xs, h2⟩ := S2.at_
    have np : p ≠ s := fun z => by rw [z, h2] at hp; cases hp
    exact q p vs _ (k.fresh ⟨xs, h2⟩ hp) (k.trans (kb_ex (Ex.new hp))) (S2.upd np.symm) upd_same ps⟩
/-- a new list at an int -/
theorem ek_ixL {PL : List V → Prop} (hs : B s = none) (ha : EvKL s c te σ B PL) (hb : EvK s d tf σ B P') {P2 : V → Prop} (hr : ∀ xs y, PL xs → P' y → ∃ i z, y = .int i ∧ atI xs i = some z ∧ P2 z) : EvK s (c + d) (tOp (rIxL K) te tf) σ B P2 := fun H1 n e S b Q q =>
  ha H1 n e S (by omega) _ fun p xs H2 np k S2 h2 pl => hb H2 (n + c) (k.base e hs) S2 (by omega) _ fun y H3 k3 S3 p' => by
    obtain ⟨i, z, rfl, hz, pz⟩ := hr xs y pl p'
    obtain ⟨ys, h1⟩ := S.at_
    have ne : p ≠ s := fun z => by rw [z, h1] at np; cases np
    exact ⟨p, xs, i, z, rfl, rfl, sq_of (k3 _ _ ne h2), hz, q z H3 (k.trans k3) (S3.le (by omega)) pz⟩
end
section
variable {D : Ends} {te : TE} {σ : L2.St} {H : Hp} {s : Addr} {c n : Nat} {P : V → Prop} {PL : List V → Prop} {i j : Nat} {ta : TA} {tz : TS}
/-- i = e -/
theorem sk_asg (hs : Src H s n) (h : EvK s c te σ (hid s H) P) (hn : n + c ≤ 1000000000) (k : ∀ v H1, KB s H H1 → Src H1 s (n + c) → P v → D.nx (σ.set i (some v)) H1) : tAsg te (gName i) D σ H :=
  h H n (hid_ex s H) hs hn _ fun v H1 kb S p => k v H1 kb S p
theorem sk_asgL (hs : Src H s n) (h : EvKL s c te σ (hid s H) PL) (hn : n + c ≤ 1000000000) (k : ∀ p vs H1, H p = none → KB s H H1 → Src H1 s (n + c) → H1 p = some (.lst vs) → PL vs → D.nx (σ.set i (some (.ref p))) H1) : tAsg te (gName i) D σ H :=
  h H n (hid_ex s H) hs hn _ fun p vs H1 np kb S h1 pl => k p vs H1 np kb S h1 pl
/-- i, j = e, f -/
theorem sk_par {P1 P2 : V → Prop} (hs : Src H s n) (h : EvKA s c ta σ (hid s H) [P1, P2]) (hn : n + c ≤ 1000000000) (k : ∀ v u H1, KB s H H1 → Src H1 s (n + c) → P1 v → P2 u → D.nx ((σ.set i (some v)).set j (some u)) H1) : tPar i j ta D σ H :=
  h H n (hid_ex s H) hs hn _ fun vs H1 kb S ps => by
    cases ps with
    | @cons v _ us _ p1 zr =>
      cases zr with
      | @cons u _ us2 _ p2 zr2 =>
        cases zr2
        exact ⟨v, u, rfl, k v u H1 kb S p1 p2⟩
end
/-! words -/
def IsNm (z : Str) : Prop := 1 ≤ z.length ∧ z.length ≤ 8 ∧ ∀ c ∈ z.cps.toList, 97 ≤ c ∧ c ≤ 122
def wd (st k : Nat) : List Nat := match st with
  | 0 => [97 + k / 26, 97 + k % 26]
  | 1 => [97, 98, 99, 100, 101, 102, 97 + k / 26, 97 + k % 26]
  | _ => if k ≤ 25 then [97 + k % 26] else [97 + (k / 26 - 1), 97 + k % 26]
def wdS (st k : Nat) : Str := ⟨(wd st k).toArray⟩
theorem wdS_cps (st k : Nat) : (wdS st k).cps.toList = wd st k := rfl
theorem wd_inj {st a b : Nat} (h : wd st a = wd st b) : a = b := by
  unfold wd at h
  split at h
  · simp only [List.cons.injEq, and_true] at h
    omega
  · simp only [List.cons.injEq, and_true, true_and] at h
    omega
  · split at h <;> split at h <;> simp only [List.cons.injEq, and_true, reduceCtorEq, and_false] at h <;> omega
theorem wdS_inj {st a b : Nat} (h : wdS st a = wdS st b) : a = b := wd_inj (by rw [← wdS_cps, ← wdS_cps, h])
theorem wdS_len (st k : Nat) : (wdS st k).length = 1 ∨ (wdS st k).length = 2 ∨ (wdS st k).length = 8 := by
  show (wd st k).toArray.size = 1 ∨ (wd st k).toArray.size = 2 ∨ (wd st k).toArray.size = 8
  rw [List.size_toArray]
  unfold wd
  split
  · exact Or.inr (Or.inl rfl)
  · exact Or.inr (Or.inr rfl)
  · split
    · exact Or.inl rfl
    · exact Or.inr (Or.inl rfl)
theorem wdS_nm {st k : Nat} (hk : k < 676) : IsNm (wdS st k) := by
  refine ⟨by rcases wdS_len st k with h | h | h <;> omega, by rcases wdS_len st k with h | h | h <;> omega, ?_⟩
  intro c hc
  rw [wdS_cps] at hc
  unfold wd at hc
  split at hc
  · simp only [List.mem_cons, List.mem_nil_iff, or_false] at hc
    omega
  · simp only [List.mem_cons, List.mem_nil_iff, or_false] at hc
    omega
  · split at hc <;> simp only [List.mem_cons, List.mem_nil_iff, or_false] at hc <;> omega
def wds (st m : Nat) : List Str := (List.range m).map (wdS st)
theorem wds_len (st m : Nat) : (wds st m).length = m := by
  unfold wds
  rw [List.length_map, List.length_range]
theorem wds_succ (st m : Nat) : wds st (m + 1) = wds st m ++ [wdS st m] := by
  unfold wds
  rw [List.range_succ, List.map_append]
  rfl
theorem wds_nd (st m : Nat) : (wds st m).Nodup := by
  unfold wds List.Nodup
  rw [List.pairwise_map]
  refine List.Pairwise.imp ?_ (List.pairwise_lt_range (n := m))
  intro a b h e
  have := wdS_inj e
  omega
theorem wds_nm {st m : Nat} (hm : m ≤ 676) : ∀ z ∈ wds st m, IsNm z := by
  intro z hz
  unfold wds at hz
  obtain ⟨k, hk, rfl⟩ := List.mem_map.mp hz
  exact wdS_nm (by have := List.mem_range.mp hk; omega)
/-- a word of eight letters that begins with a, or a short one -/
def Wf (z : Str) : Prop := (z.cps.toList.length = 8 ∧ z.cps.toList.head? = some 97) ∨ z.cps.toList.length ≤ 5
instance (z : Str) : Decidable (Wf z) := by unfold Wf; infer_instance
theorem wdS_nq {st k : Nat} : Wf (wdS st k) := by
  unfold Wf
  rw [wdS_cps]
  unfold wd
  split
  · right
    simp
  · left
    simp
  · right
    split <;> simp
theorem wds_nq {st m : Nat} : ∀ z ∈ wds st m, Wf z := by
  intro z hz
  unfold wds at hz
  obtain ⟨k, hk, rfl⟩ := List.mem_map.mp hz
  exact wdS_nq
def kw4 : List Str := ["steal", "push", "size", "pop"]
theorem wds_kw (st m a : Nat) : ((wds st m).take a ++ kw4).Nodup := by
  refine List.nodup_append.mpr ⟨(List.take_sublist _ _).nodup (wds_nd st m), by decide +kernel, ?_⟩
  intro x hx y hy e
  subst e
  have h1 := List.mem_of_mem_take hx
  unfold wds at h1
  obtain ⟨k, _, rfl⟩ := List.mem_map.mp h1
  have h2 : ∀ z ∈ kw4, z.length = 3 ∨ z.length = 4 ∨ z.length = 5 := by decide +kernel
  have := h2 _ hy
  rcases wdS_len st k with h | h | h <;> omega
theorem kw_nq : ∀ z ∈ kw4, Wf z := by decide +kernel
theorem kw_nm : ∀ z ∈ kw4, IsNm z := by
  have h2 : ∀ z ∈ kw4, 1 ≤ z.length ∧ z.length ≤ 8 ∧ ∀ c ∈ z.cps.toList, 97 ≤ c ∧ c ≤ 122 := by decide +kernel
  exact h2
end Vx
namespace Vx
open PySem PySem.Spec PyProof.Rows L2 Evl
/-! tests that draw -/
def EvKT (s : Addr) (c : Nat) (t : TT) (σ : L2.St) (B : Hp) (P : Bool → Prop) : Prop := ∀ (H1 : Hp) (n : Nat), Ex B H1 → Src H1 s n → n + c ≤ 1000000000 → ∀ Q : Bool → Hp → Prop, (∀ b H2, KB s H1 H2 → Src H2 s (n + c) → P b → Q b H2) → t σ H1 Q
section
variable {σ : L2.St} {B : Hp} {s : Addr} {c d : Nat} {te : TE} {t u : TT} {P : V → Prop} {P1 P2 : Bool → Prop}
theorem ekt_test (h : EvK s c te σ B P) (hp : ∀ v, P v → ∃ b, v = .bl b ∧ P1 b) : EvKT s c (tTest te) σ B P1 := fun H1 n e S b Q q => h H1 n e S b _ fun v H2 k S2 p => by
  obtain ⟨b, rfl, pb⟩ := hp v p
  exact ⟨b, rfl, q b H2 k S2 pb⟩
theorem ekt_and {a : Bool} (h1 : EvT t σ B a) (h2 : a = true → EvKT s c u σ B P1) : EvKT s c (tAnd t u) σ B (fun b => b = true → a = true ∧ P1 true) := fun H1 n e S b Q q => h1 H1 e _ fun H2 e2 => by
  cases a with
  | true =>
    show u σ H2 Q
    exact h2 rfl H2 n (e.trans e2) (S.ex e2) b Q fun b H3 k3 S3 p => q b H3 ((kb_ex e2).trans k3) S3 fun z => ⟨rfl, by rw [← z]; exact p⟩
  | false =>
    show Q false H2
    exact q false H2 (kb_ex e2) ((S.ex e2).le (by omega)) (fun z => nomatch z)
theorem sk_if {D : Ends} {H : Hp} {n : Nat} {tu tw : TS} (hs : Src H s n) (h : EvKT s c t σ (hid s H) P1) (hn : n + c ≤ 1000000000) (h1 : ∀ H1, KB s H H1 → Src H1 s (n + c) → P1 true → tu D σ H1) (h2 : ∀ H1, KB s H H1 → Src H1 s (n + c) → P1 false → tw D σ H1) : tIfS t tu tw D σ H :=
  h H n (hid_ex s H) hs hn _ fun b H1 k S p => by
    cases b with
    | true =>
      show tu D σ H1
      exact h1 H1 k S p
    | false =>
      show tw D σ H1
      exact h2 H1 k S p
theorem rv_addS {H : Hp} {i j : Str} (h : i.length + j.length ≤ 100000) : RV (fun x y H Q => ∃ i j, x = V.str i ∧ y = V.str j ∧ i.length + j.length ≤ sizeLine ∧ Q (.str (i ++ j)) H) (.str i) (.str j) H (.str (i ++ j)) := fun H1 _ _ q => ⟨i, j, rfl, rfl, sz_of h, q H1 (Ex.refl H1)⟩
end
theorem strcat (a b : List Nat) : (⟨a.toArray⟩ : Str) ++ ⟨b.toArray⟩ = ⟨(a ++ b).toArray⟩ := by
  show Str.mk (a.toArray ++ b.toArray) = _
  simp
def abc : Str := "abcdefghijklmnopqrstuvwxyz"
theorem abc_cps : abc.cps.toList = (List.range 26).map (97 + ·) := by decide +kernel
theorem abc_at {i : Int} {j : Nat} (hj : j < 26) (e : i = (j : Int)) : atI abc.cps.toList i = some (97 + j) := by
  rw [e]
  refine atI_nat ?_
  rw [abc_cps, List.getElem?_map, List.getElem?_range hj]
  rfl
end Vx
namespace Vx
open PySem PySem.Spec PyProof.Rows L2 Evl
theorem Src.kb {H H' : Hp} {s p : Addr} {n : Nat} (h : Src H s n) (k : KB p H H') (e : s ≠ p) : Src H' s n := by
  obtain ⟨a, b, c, h1, h2⟩ := h
  exact ⟨a, b, c, k s _ e h1, h2⟩
end Vx

set_option Elab.async false
set_option linter.all false
set_option maxRecDepth 100000
set_option maxHeartbeats 4000000
namespace Vx
open PySem PySem.Spec PyProof.Rows L2 Evl
def spWords (K : PySem.W.Frag) : Sp := fun vs H Q _ => ∃ (s : Addr) (n m : Nat), vs = [.ref s, .int (m : Int)] ∧ Src H s n ∧ n + 2 ≤ 1000000000 ∧ m ≤ 676 ∧
  ∀ p (ws : List Str) H', H p = none → KB s H H' → Src H' s (n + 2) → H' p = some (.lst (ws.map V.str)) → ws.length = m → ws.Nodup → (∀ z ∈ ws, IsNm z ∧ Wf z) → Q (.ref p) H'
section
variable {P : Program} {w : World} {K : PySem.W.Frag} {mg : Str → Option Value} {base : Heap}
theorem sc_law_words : FnScope ["source", "size", "letters", "style", "found", "k", "short"] ["source", "size"] (defScope s_law_words) := ⟨rfl, rfl, rfl, by decide +kernel, rfl, by decide +kernel, by decide +kernel⟩
theorem ok_law_words (D : Def K mg "_law_words" s_law_words ["source", "size"]) (T : Bl mg) (G_law_pick : Good P w K mg base 1 "_law_pick" ["source", "count"] spPick) : Good P w K mg base 2 "_law_words" ["source", "size"] (spWords K) := by
  refine D.good sc_law_words (fun vs H Q E h => ?_) (fun f cdv A outer s H vs Q E hr h => ?_)
  · obtain ⟨s, n, m, rfl, _⟩ := h
    rfl
  · obtain ⟨s, n, m, rfl, hs, hn, hm, q⟩ := h
    have hu := hu_of hr
    refine ⟨_, (pss_cons (ps_set (i := 2) sc_law_words.nd rfl (Or.inl rfl) pe_str)
      (pss_cons (ps_set (i := 3) sc_law_words.nd rfl (Or.inl rfl) (pe_fn G_law_pick hr (pa_cons (pv 0) (pa_cons pe_int pa_nil))))
      (pss_cons (ps_set (i := 4) sc_law_words.nd rfl (Or.inl rfl) (pe_lst pa_nil))
      (pss_cons (ps_for PassesOwn.never rfl (x_rng T (pa_cons (pv 1) pa_nil)) (pg_name (i := 5) sc_law_words.nd rfl (Or.inl rfl)) (pss_cons (ps_set (i := 6) sc_law_words.nd rfl (Or.inl rfl) (pe_ix ix_str (pv 2) (pe_op op_mod (pv 5) pe_int) (fun _ _ => rfl)))
      (pss_cons (ps_if (pt_cmpR op_gt (pv 5) pe_int (nomark _)) (pss_one (ps_set (i := 6) sc_law_words.nd rfl (Or.inl rfl) (pe_op op_add_str (pe_ix ix_str (pv 2) (pe_op op_sub (pe_op op_fdiv (pv 5) pe_int) pe_int) (fun _ _ => rfl)) (pv 6)))) pss_nil)
      (pss_one (ps_expr (x_bm (K := K) PySem.F.plainAttrs_list PySem.F.slot_list_append PySem.F.type_list_append mt_append (pv 4) (pa_cons (x_ixl (K := K) (pe_lst (pa_cons (pe_op op_add_str (pe_ix ix_str (pv 2) (pe_op op_fdiv (pv 5) pe_int) (fun _ _ => rfl)) (pe_ix ix_str (pv 2) (pe_op op_mod (pv 5) pe_int) (fun _ _ => rfl))) (pa_cons (pe_op op_add_str (pe_op op_add_str pe_str (pe_ix ix_str (pv 2) (pe_op op_fdiv (pv 5) pe_int) (fun _ _ => rfl))) (pe_ix ix_str (pv 2) (pe_op op_mod (pv 5) pe_int) (fun _ _ => rfl))) (pa_cons (pv 6) pa_nil)))) (pv 3)) pa_nil)))))))
      (pss_cons (ps_if (pw_and (pt_cmpR op_gt (pv 1) pe_int (nomark _)) (pw_and1 (pt_cmpR op_eq (pe_fn G_law_pick hr (pa_cons (pv 0) (pa_cons pe_int pa_nil))) pe_int (nomark _)))).pt (pss_one (ps_asg (pe_lst (pa_cons pe_str (pa_cons pe_str (pa_cons pe_str (pa_cons pe_str pa_nil))))) (pg_tail (pv 4) (po_some (pe_op op_sub (pv 1) pe_int))))) pss_nil)
      (pss_one (ps_ret (pv 4)))))))), ?_⟩
    have ab : abc.length ≤ 100000 := by decide +kernel
    have le1 : ∀ a : Nat, (⟨#[a]⟩ : Str).length = 1 := fun _ => rfl
    refine q_asg (v := .str abc) ev_c fun H1 e1 => ?_
    refine sk_asg (c := 1) (hs.ex e1) (ek_pick (m := 3) (hid_s _ _) rfl (ek_of ev_c rfl) (by decide) (by decide)) (by omega) fun v H2 k2 S2 p2 => ?_
    obtain ⟨r, rfl, r0, r1⟩ := p2
    obtain ⟨st, rfl⟩ : ∃ st : Nat, r = (st : Int) := ⟨r.toNat, by omega⟩
    refine q_asgL (el_lst ea_nil (by decide)) fun pf H3 n3 e3 h3 => ?_
    have K3 : KB s H H3 := (kb_ex e1).trans (k2.trans (kb_ex e3))
    have S3 := S2.ex e3
    obtain ⟨xs2, hs2⟩ := S2.at_
    have nsf : s ≠ pf := ne_of_none hs2 n3
    have nH : H pf = none := fresh_back e1 (k2.fresh ⟨_, hs2⟩ n3)
    refine q_forR1 (ea_cons (ev_var rfl) ea_nil) ⟨by omega, by omega⟩ (fun i σ' H' => (∃ a b, σ' = [some (.ref s), some (.int m), some (.str abc), some (.int st), some (.ref pf), a, b]) ∧ KB pf H3 H' ∧ H' pf = some (.lst ((wds st i).map V.str)))
      (fun H4 e4 => ⟨⟨_, _, rfl⟩, kb_ex e4, e4 _ _ h3⟩) (fun i σ' H' hi p => ?_) (fun σ' H' p => ?_)
    · obtain ⟨⟨a, b, rfl⟩, kb, hf⟩ := p
      have hi : i < m := by omega
      have hdiv : i / 26 < 26 := by omega
      refine q_asg (v := .str ⟨#[97 + i % 26]⟩) (ev_op (ev_var rfl) (ev_op (ev_var rfl) ev_c (rv_I (by decide))) (rv_ixS ab (abc_at (by omega) (by omega)))) fun H4 e4 => ?_
      refine q_ifAsg (b := decide (25 < (i : Int))) (v := .str (wdS 2 i)) (et_test (ev_op (ev_var rfl) ev_c rv_I0)) (fun hb => ?_) (fun hb => ?_) fun H5 e5 => ?_
      · have hb : 25 < (i : Int) := of_decide_eq_true hb
        refine ev_is (ev_op (ev_op (ev_var rfl) (ev_op (ev_op (ev_var rfl) ev_c (rv_I ⟨by decide, by decide⟩)) ev_c rv_I0) (rv_ixS ab (abc_at (j := i / 26 - 1) (by omega) (by omega)))) (ev_var rfl) (rv_addS (by rw [le1, le1]; decide))) ?_
        rw [strcat [_] [_]]
        unfold wdS wd
        rw [if_neg (by omega)]
        rfl
      · have hb : ¬ 25 < (i : Int) := of_decide_eq_false hb
        have e : wdS 2 i = ⟨#[97 + i % 26]⟩ := by
          unfold wdS wd
          rw [if_pos (by omega)]
          rfl
        rw [e]
        rfl
      · have E5 := e4.trans e5
        have l26 : ∀ {σ : L2.St} {H : Hp}, σ[2]? = some (some (.str abc)) → σ[5]? = some (some (.int (i : Int))) → Ev (tOp rIxS (tVar 2) (tOp (rI CDiv fun i j => .int (i / j)) (tVar 5) (tC (.int 26)))) σ H (.str ⟨#[97 + i / 26]⟩) :=
          fun h1 h2 => ev_op (ev_var h1) (ev_op (ev_var h2) ev_c (rv_I ⟨by decide, by decide⟩)) (rv_ixS ab (abc_at hdiv (by omega)))
        have m26 : ∀ {σ : L2.St} {H : Hp}, σ[2]? = some (some (.str abc)) → σ[5]? = some (some (.int (i : Int))) → Ev (tOp rIxS (tVar 2) (tOp (rI (fun _ j => 0 < j) fun i j => .int (i % j)) (tVar 5) (tC (.int 26)))) σ H (.str ⟨#[97 + i % 26]⟩) :=
          fun h1 h2 => ev_op (ev_var h1) (ev_op (ev_var h2) ev_c (rv_I (by decide))) (rv_ixS ab (abc_at (by omega) (by omega)))
        have hz : ((wds st i).map V.str).length < 100000 := by rw [List.length_map, wds_len]; omega
        refine s_app (v := .str (wdS st i)) (E5 _ _ hf) (ev_var rfl) ?_ hz fun H6 e6 => ⟨⟨_, _, rfl⟩, (kb.trans (kb_ex (E5.trans e6))).trans KB.upd, ?_⟩
        · refine ev_opL1 (xs := [.str (wdS 0 i), .str (wdS 1 i), .str (wdS 2 i)]) (el_lst (ea_cons (ev_is (ev_op (l26 rfl rfl) (m26 rfl rfl) (rv_addS (by rw [le1, le1]; decide))) ?_) (ea_cons (ev_is (ev_op (ev_op ev_c (l26 rfl rfl) (rv_addS (by rw [le1]; decide +kernel))) (m26 rfl rfl) (rv_addS ?_)) ?_) (ea_cons (ev_var rfl) ea_nil))) (by show 3 ≤ 100000; decide)) (fun _ _ => ev_var rfl) fun p H7 h7 _ => rv_ixL (sq_of h7) ?_
          · rw [strcat [_] [_]]
            rfl
          · have : (("abcdef" : Str) ++ (⟨#[97 + i / 26]⟩ : Str)).length = 7 := by
              rw [PySem.Str.length_append, le1]
              decide +kernel
            rw [this, le1]
            decide
          · have e6 : ("abcdef" : Str) = ⟨[97, 98, 99, 100, 101, 102].toArray⟩ := by decide +kernel
            rw [e6, strcat _ [_], strcat _ [_]]
            rfl
          · refine atI_nat ?_
            rcases st with _ | _ | _ | st
            · rfl
            · rfl
            · rfl
            · omega
        · rw [wds_succ, List.map_append]
          exact upd_same
    · obtain ⟨⟨a, b, rfl⟩, kb, hf⟩ := p
      rw [Int.toNat_natCast] at hf
      have S4 : Src H' s (n + 1) := S3.kb kb nsf
      have K4 : KB s H H' := fun c o nc z => kb c o (ne_of_none z nH) (K3 c o nc z)
      refine sk_if (c := 1) (P1 := fun b => b = true → 7 < m) S4 ?_ (by omega) (fun H5 k5 S5 h7 => ?_) (fun H5 k5 S5 _ => ?_)
      · intro H1 n1 e1 S1 b1 Q q1
        exact ekt_and (P1 := fun _ => True) (et_test (ev_op (ev_var rfl) ev_c rv_I0)) (fun _ => ekt_test (ek_op (c := 1) (d := 0) (hid_s _ _) (ek_pick (m := 2) (hid_s _ _) rfl (ek_of ev_c rfl) (by decide) (by decide)) (ek_of (P := fun v => v = .int 0) ev_c rfl) (P2 := fun v => ∃ b, v = .bl b) (fun x y hx hy => by
          obtain ⟨r, rfl, _⟩ := hx
          subst hy
          exact ⟨_, ⟨_, rfl⟩, rv_eq rfl⟩)) (fun v hv => by
          obtain ⟨b, rfl⟩ := hv
          exact ⟨b, rfl, trivial⟩)) H1 n1 e1 S1 b1 Q fun b H2 k2 S2 p => q1 b H2 k2 S2 fun z => by
            have := of_decide_eq_true (p z).1
            omega
      · have h7 := h7 rfl
        have hf5 := k5 _ _ nsf.symm hf
        refine el_lst (ea_cons ev_c (ea_cons ev_c (ea_cons ev_c (ea_cons ev_c ea_nil)))) (by show 4 ≤ 100000; decide) H5 (Ex.refl _) _ fun p4 H6 n6 e6 h6 => ?_
        have np : pf ≠ p4 := ne_of_none hf5 n6
        refine ⟨_, rfl, _, rfl, _, _, rfl, rfl, (m : Int) - 4, rfl, pf, p4, _, _, m - 4, rfl, rfl, ?_, np, e6 _ _ hf5, h6, ?_, ?_, ?_⟩
        · congr 1
          omega
        · rw [List.length_map, wds_len]
          omega
        · rw [List.length_map, wds_len]
          exact sz_of (by show m + 4 ≤ 100000; omega)
        · refine ⟨.ref pf, rfl, ?_⟩
          refine q pf ((wds st m).take (m - 4) ++ kw4) _ nH ((K4.trans (k5.trans (kb_ex e6))).updN (Or.inl nH)) ((S5.ex e6).upd nsf) ?_ ?_ (wds_kw _ _ _) ?_
          · rw [upd_same, List.map_append, List.map_take]
            rfl
          · rw [List.length_append, List.length_take, wds_len]
            show min (m - 4) m + 4 = m
            omega
          · intro z hz
            rcases List.mem_append.mp hz with hz | hz
            · exact ⟨wds_nm hm z (List.mem_of_mem_take hz), wds_nq z (List.mem_of_mem_take hz)⟩
            · exact ⟨kw_nm z hz, kw_nq z hz⟩
      · refine ⟨.ref pf, rfl, ?_⟩
        exact q pf (wds st m) _ nH (K4.trans k5) S5 (k5 _ _ nsf.symm hf) (wds_len _ _) (wds_nd _ _) (fun z hz => ⟨wds_nm hm z hz, wds_nq z hz⟩)
end
end Vx

set_option Elab.async false
set_option linter.all false
set_option maxRecDepth 100000
set_option maxHeartbeats 4000000
namespace Vx
open PySem PySem.Spec PyProof.Rows L2 Evl
def unS : V → Str
  | .str z => z
  | _ => ⟨#[]⟩
theorem perm_strs {ys : List V} {ws : List Str} (h : ys.Perm (ws.map V.str)) : ∃ zs : List Str, ys = zs.map V.str ∧ zs.Perm ws := by
  refine ⟨ys.map unS, ?_, ?_⟩
  · rw [List.map_map]
    refine (List.map_id ys).symm.trans (List.map_congr_left fun y hy => ?_)
    obtain ⟨z, _, rfl⟩ := List.mem_map.mp (h.mem_iff.mp hy)
    rfl
  · have := h.map unS
    rw [List.map_map] at this
    have e : (unS ∘ V.str) = id := rfl
    rw [e, List.map_id] at this
    exact this
def wk10 : List Str := ["a", "b", "zz", "worker", "abcdefgh", "x", "push", "pop", "size", "steal"]
def WkOk (ws : List Str) : Prop := 1 ≤ ws.length ∧ ws.length ≤ 6 ∧ ws.Nodup ∧ ∀ z ∈ ws, IsNm z
def spWorkers (K : PySem.W.Frag) : Sp := fun vs H Q _ => ∃ (s : Addr) (n : Nat), vs = [.ref s] ∧ Src H s n ∧ n + 11 ≤ 1000000000 ∧
  ∀ p (ws : List Str) H', H p = none → KB s H H' → Src H' s (n + 11) → H' p = some (.lst (ws.map V.str)) → WkOk ws → (∀ z ∈ ws, z ∈ wk10) → Q (.ref p) H'
section
variable {P : Program} {w : World} {K : PySem.W.Frag} {mg : Str → Option Value} {base : Heap}
theorem sc_law_workers : FnScope ["source", "names"] ["source"] (defScope s_law_workers) := ⟨rfl, rfl, rfl, by decide +kernel, rfl, by decide +kernel, by decide +kernel⟩
theorem ok_law_workers (D : Def K mg "_law_workers" s_law_workers ["source"]) (T : Bl mg) (G_law_pick : Good P w K mg base 1 "_law_pick" ["source", "count"] spPick) (G_law_shuffled : Good P w K mg base 2 "_law_shuffled" ["source", "row"] (spShuf K)) : Good P w K mg base 3 "_law_workers" ["source"] (spWorkers K) := by
  refine D.good sc_law_workers (fun vs H Q E h => ?_) (fun f cdv A outer s H vs Q E hr h => ?_)
  · obtain ⟨s, n, rfl, _⟩ := h
    rfl
  · obtain ⟨s, n, rfl, hs, hn, q⟩ := h
    have hu := hu_of hr
    refine ⟨_, (pss_cons (ps_set (i := 1) sc_law_workers.nd rfl (Or.inl rfl) (pe_lst (pa_cons pe_str (pa_cons pe_str (pa_cons pe_str (pa_cons pe_str (pa_cons pe_str (pa_cons pe_str (pa_cons pe_str (pa_cons pe_str (pa_cons pe_str (pa_cons pe_str pa_nil))))))))))))
      (pss_cons (ps_set (i := 1) sc_law_workers.nd rfl (Or.inl rfl) (pe_fn (G_law_shuffled.mono (by decide)) hr (pa_cons (pv 0) (pa_cons (pv 1) pa_nil))))
      (pss_one (ps_ret (pe_slice sl_list (pv 1) po_none (po_some (pe_op op_add pe_int (pe_fn (G_law_pick.mono (by decide)) hr (pa_cons (pv 0) (pa_cons pe_int pa_nil)))))))))), ?_⟩
    refine q_asgL (el_lst (ea_cons ev_c (ea_cons ev_c (ea_cons ev_c (ea_cons ev_c (ea_cons ev_c (ea_cons ev_c (ea_cons ev_c (ea_cons ev_c (ea_cons ev_c (ea_cons ev_c ea_nil)))))))))) (by show 10 ≤ 100000; decide)) fun p1 H1 n1 e1 h1 => ?_
    refine ⟨_, rfl, _, rfl, s, p1, n, wk10.map V.str, rfl, hs.ex e1, by show n + 10 ≤ 1000000000; omega, sq_of h1, by show 10 ≤ 10000; decide, fun p2 ys H2 n2 k2 S2 h2 pm => ?_⟩
    obtain ⟨zs, rfl, pz⟩ := perm_strs pm
    have zl : zs.length = 10 := pz.length_eq
    have S2 : Src H2 s (n + 10) := S2
    have K2 : KB s H H2 := (kb_ex e1).trans k2
    obtain ⟨xs0, hs2⟩ := S2.at_
    have ns2 : p2 ≠ s := fun z => by rw [z] at n2; obtain ⟨u, hu⟩ := (hs.ex e1).at_; rw [hu] at n2; cases n2
    refine ⟨.ref p2, rfl, eo_none _ (Ex.refl _) _ fun H3 e3 => ?_⟩
    have S3 := S2.ex e3
    refine ek_pick (c := 0) (m := 6) (hid_s s H3) rfl (ek_of ev_c rfl) (by decide) (by decide) H3 (n + 10) (hid_ex _ _) S3 (by omega) _ fun v H4 k4 S4 p4 => ?_
    obtain ⟨r, rfl, r0, r1⟩ := p4
    refine ⟨_, _, rfl, rfl, _, rfl, p2, zs.map V.str, rfl, sq_of (k4 _ _ ns2 (e3 _ _ h2)), fun p hp => ?_⟩
    obtain ⟨k, rfl⟩ : ∃ k : Nat, r = (k : Int) := ⟨r.toNat, by omega⟩
    have KA : KB s H H4 := K2.trans ((kb_ex e3).trans k4)
    obtain ⟨xs4, hs4⟩ := S4.at_
    have np : p ≠ s := fun z => by rw [z, hs4] at hp; cases hp
    refine q p (zs.take (1 + k)) _ (KA.fresh ⟨_, hs4⟩ hp) (KA.trans (kb_ex (Ex.new hp))) (S4.upd np.symm) ?_ ⟨?_, ?_, ?_, ?_⟩ (fun z hz => pz.mem_iff.mp (List.mem_of_mem_take hz))
    · rw [upd_same]
      have : (1 : Int) + (k : Int) = ((1 + k : Nat) : Int) := by omega
      rw [this]
      unfold cutV
      rw [HT.sIx_none, HT.sIx_nat, List.length_map, zl, List.drop_zero, List.map_take, Nat.sub_zero, Nat.min_eq_left (by omega)]
    · rw [List.length_take]
      omega
    · rw [List.length_take]
      omega
    · exact (List.take_sublist _ _).nodup (pz.nodup_iff.mpr (by decide +kernel))
    · intro z hz
      have h10 : ∀ z ∈ wk10, 1 ≤ z.length ∧ z.length ≤ 8 ∧ ∀ c ∈ z.cps.toList, 97 ≤ c ∧ c ≤ 122 := by decide +kernel
      exact h10 z (pz.mem_iff.mp (List.mem_of_mem_take hz))
end
end Vx

set_option Elab.async false
set_option linter.all false
set_option maxRecDepth 100000
set_option maxHeartbeats 4000000
namespace Vx
open PySem PySem.Spec PyProof.Rows L2
/-! logs as data -/
inductive En where
  | push (x : Str)
  | pop (x : Str)
  | size (k : Int)
  | steal (o x : Str)
def En.vs : En → List V
  | .push x => [.str "push", .str x]
  | .pop x => [.str "pop", .str x]
  | .size k => [.str "size", .int k]
  | .steal o x => [.str "steal", .str o, .str x]
def En.ok : En → Prop
  | .push x => IsNm x
  | .pop x => IsNm x
  | .size k => 0 ≤ k ∧ k ≤ 60
  | .steal o x => IsNm o ∧ IsNm x
def En.pu : En → List Str
  | .push x => [x]
  | _ => []
def En.re : En → List Str
  | .pop x => [x]
  | .steal _ x => [x]
  | _ => []
def pus (es : List En) : List Str := es.flatMap En.pu
def res (es : List En) : List Str := es.flatMap En.re
theorem pus_snoc (es : List En) (e : En) : pus (es ++ [e]) = pus es ++ e.pu := by simp [pus, List.flatMap_append]
theorem res_snoc (es : List En) (e : En) : res (es ++ [e]) = res es ++ e.re := by simp [res, List.flatMap_append]
theorem mem_pus {x : Str} {es : List En} : x ∈ pus es ↔ En.push x ∈ es := by
  unfold pus
  rw [List.mem_flatMap]
  constructor
  · rintro ⟨e, he, hx⟩
    cases e with
    | push y =>
      have : x = y := by simpa [En.pu] using hx
      rw [this]
      exact he
    | _ => simp [En.pu] at hx
  · exact fun h => ⟨_, h, by simp [En.pu]⟩
theorem pus_len (es : List En) : (pus es).length ≤ es.length := by
  induction es with
  | nil => exact Nat.le_refl _
  | cons e es ih =>
    have h1 : (pus (e :: es)).length = e.pu.length + (pus es).length := by
      unfold pus
      rw [List.flatMap_cons, List.length_append]
    have h2 : e.pu.length ≤ 1 := by cases e <;> simp [En.pu]
    rw [h1, List.length_cons]
    omega
/-- the flat sequence, one log longer -/
theorem flat_set {f : List En → List Str} {g : List Str} {es es' : List En} (hf : f es' = f es ++ g) : ∀ {L : List (List En)} {k : Nat}, L[k]? = some es → ((L.set k es').flatMap f).Perm (L.flatMap f ++ g)
  | [], k, h => by simp at h
  | a :: L, 0, h => by
    have : a = es := by simpa using h
    subst this
    rw [List.set_cons_zero, List.flatMap_cons, List.flatMap_cons, hf, List.append_assoc, List.append_assoc]
    exact List.Perm.append_left _ List.perm_append_comm
  | a :: L, k + 1, h => by
    rw [List.set_cons_succ, List.flatMap_cons, List.flatMap_cons, List.append_assoc]
    exact List.Perm.append_left _ (flat_set hf (by simpa using h))
theorem set_get {L : List (List En)} {k i : Nat} {es' es2 : List En} (h : (L.set k es')[i]? = some es2) : (i = k ∧ es2 = es') ∨ (i ≠ k ∧ L[i]? = some es2) := by
  by_cases e : k = i
  · subst e
    left
    refine ⟨rfl, ?_⟩
    have hl : k < (L.set k es').length := (List.getElem?_eq_some_iff.mp h).1
    rw [List.length_set] at hl
    rw [List.getElem?_set_self hl] at h
    exact (Option.some.inj h).symm
  · rw [List.getElem?_set_ne e] at h
    exact Or.inr ⟨fun z => e z.symm, h⟩
/-- o pushes x -/
def Has (ws : List Str) (L : List (List En)) (o x : Str) : Prop := ∃ (i : Nat) (es : List En), ws[i]? = some o ∧ L[i]? = some es ∧ En.push x ∈ es
theorem Has.set {ws : List Str} {L : List (List En)} {o x : Str} {k : Nat} {es : List En} {e : En} (h : Has ws L o x) (hk : L[k]? = some es) : Has ws (L.set k (es ++ [e])) o x := by
  obtain ⟨i, es2, h1, h2, h3⟩ := h
  by_cases z : k = i
  · subst z
    rw [hk] at h2
    have := Option.some.inj h2
    subst this
    exact ⟨k, es ++ [e], h1, List.getElem?_set_self (List.getElem?_eq_some_iff.mp hk).1, List.mem_append_left _ h3⟩
  · exact ⟨i, es2, h1, by rw [List.getElem?_set_ne z]; exact h2, h3⟩
/-- logs that are valid -/
structure Vlog (top : Nat) (ws : List Str) (L : List (List En)) : Prop where
  wk : WkOk ws
  len : L.length = ws.length
  ent : ∀ es ∈ L, es.length ≤ top ∧ ∀ e ∈ es, e.ok
  pu : (L.flatMap pus).Nodup
  re : (L.flatMap res).Nodup
  own : ∀ (i : Nat) (es : List En) (j : Nat) (x : Str), L[i]? = some es → es[j]? = some (.pop x) → ∃ j' : Nat, j' < j ∧ es[j']? = some (.push x)
  st : ∀ (i : Nat) (es : List En) (w o x : Str), L[i]? = some es → ws[i]? = some w → En.steal o x ∈ es → o ≠ w ∧ Has ws L o x
/-- .. while they are drawn -/
structure Dlog (top : Nat) (ws : List Str) (L : List (List En)) (fr : List Str) (pr : List (Str × Str)) : Prop where
  v : Vlog top ws L
  pf : (L.flatMap pus ++ fr).Nodup
  cnt : (L.flatMap pus).length + fr.length = 6 * top
  frn : ∀ z ∈ fr, IsNm z
  rp : (L.flatMap res ++ pr.map (·.1)).Nodup
  has : ∀ x o, (x, o) ∈ pr → Has ws L o x ∧ IsNm x
  nq : ∀ z ∈ L.flatMap pus ++ fr, Wf z
theorem flat_len {L : List (List En)} {top : Nat} (h : ∀ es ∈ L, es.length ≤ top) : (L.flatMap pus).length ≤ L.length * top := by
  induction L with
  | nil => simp
  | cons a L ih =>
    rw [List.flatMap_cons, List.length_append, List.length_cons, Nat.succ_mul]
    have h1 := pus_len a
    have h2 := h a (List.mem_cons_self ..)
    have h3 := ih fun es he => h es (List.mem_cons_of_mem _ he)
    omega
theorem flat_lt {L : List (List En)} {top k : Nat} {es : List En} (h : ∀ es ∈ L, es.length ≤ top) (hk : L[k]? = some es) (hl : es.length < top) : (L.flatMap pus).length < L.length * top := by
  have hp := flat_set (f := pus) (es' := es ++ [.push ""]) (g := [""]) (by rw [pus_snoc]; rfl) hk
  have h1 := hp.length_eq
  rw [List.length_append] at h1
  have h2 := flat_len (L := L.set k (es ++ [.push ""])) (top := top) fun es2 he => by
    obtain ⟨i, hi⟩ := List.mem_iff_getElem?.mp he
    rcases set_get hi with ⟨_, rfl⟩ | ⟨_, h3⟩
    · rw [List.length_append]
      exact hl
    · exact h es2 (List.mem_of_getElem? h3)
  rw [List.length_set] at h2
  have h3 : [("" : Str)].length = 1 := rfl
  omega
section
variable {top : Nat} {ws : List Str} {L : List (List En)} {fr : List Str} {pr : List (Str × Str)} {k : Nat} {es : List En} {e : En}
theorem Vlog.app (v : Vlog top ws L) (hk : L[k]? = some es) (hl : es.length < top) (he : e.ok) (hp : (L.flatMap pus ++ e.pu).Nodup) (hr : (L.flatMap res ++ e.re).Nodup)
    (ho : ∀ x, e = .pop x → En.push x ∈ es) (hs : ∀ w o x, ws[k]? = some w → e = .steal o x → o ≠ w ∧ Has ws L o x) : Vlog top ws (L.set k (es ++ [e])) := by
  refine ⟨v.wk, by rw [List.length_set]; exact v.len, ?_, ?_, ?_, ?_, ?_⟩
  · intro es2 h2
    obtain ⟨i, hi⟩ := List.mem_iff_getElem?.mp h2
    rcases set_get hi with ⟨_, rfl⟩ | ⟨_, h3⟩
    · refine ⟨by rw [List.length_append]; exact hl, fun e2 h4 => ?_⟩
      rcases List.mem_append.mp h4 with h5 | h5
      · exact (v.ent es (List.mem_of_getElem? hk)).2 e2 h5
      · rw [List.mem_singleton.mp h5]
        exact he
    · exact v.ent es2 (List.mem_of_getElem? h3)
  · exact (flat_set (pus_snoc es e) hk).nodup_iff.mpr hp
  · exact (flat_set (res_snoc es e) hk).nodup_iff.mpr hr
  · intro i es2 j x h2 h3
    rcases set_get h2 with ⟨_, rfl⟩ | ⟨_, h4⟩
    · by_cases hj : j < es.length
      · rw [List.getElem?_append_left hj] at h3
        obtain ⟨j', h5, h6⟩ := v.own k es j x hk h3
        exact ⟨j', h5, by rw [List.getElem?_append_left (by omega)]; exact h6⟩
      · rw [List.getElem?_append_right (by omega)] at h3
        have hz : j - es.length = 0 := by
          have := (List.getElem?_eq_some_iff.mp h3).1
          simp at this
          omega
        rw [hz] at h3
        have h7 : e = .pop x := by simpa using h3
        obtain ⟨j', h8⟩ := List.mem_iff_getElem?.mp (ho x h7)
        have h9 := (List.getElem?_eq_some_iff.mp h8).1
        exact ⟨j', by omega, by rw [List.getElem?_append_left h9]; exact h8⟩
    · exact v.own i es2 j x h4 h3
  · intro i es2 w o x h2 h3 h4
    rcases set_get h2 with ⟨rfl, rfl⟩ | ⟨_, h5⟩
    · rcases List.mem_append.mp h4 with h6 | h6
      · have := v.st i es w o x hk h3 h6
        exact ⟨this.1, this.2.set hk⟩
      · have := hs w o x h3 (List.mem_singleton.mp h6).symm
        exact ⟨this.1, this.2.set hk⟩
    · have := v.st i es2 w o x h5 h3 h4
      exact ⟨this.1, this.2.set hk⟩
theorem Dlog.size (d : Dlog top ws L fr pr) (hk : L[k]? = some es) (hl : es.length < top) {n : Int} (h0 : 0 ≤ n) (h1 : n ≤ 60) : Dlog top ws (L.set k (es ++ [.size n])) fr pr := by
  have p1 := flat_set (f := pus) (es' := es ++ [.size n]) (g := []) (by rw [pus_snoc]; rfl) hk
  have p2 := flat_set (f := res) (es' := es ++ [.size n]) (g := []) (by rw [res_snoc]; rfl) hk
  rw [List.append_nil] at p1 p2
  refine ⟨d.v.app hk hl ⟨h0, h1⟩ (by rw [show (En.size n).pu = [] from rfl, List.append_nil]; exact d.v.pu) (by rw [show (En.size n).re = [] from rfl, List.append_nil]; exact d.v.re) (fun _ z => nomatch z) (fun _ _ _ _ z => nomatch z), ?_, ?_, d.frn, ?_, ?_, fun z hz => d.nq z ((p1.append_right fr).mem_iff.mp hz)⟩
  · exact (p1.append_right fr).nodup_iff.mpr d.pf
  · rw [p1.length_eq]
    exact d.cnt
  · exact (p2.append_right _).nodup_iff.mpr d.rp
  · exact fun x o h => ⟨(d.has x o h).1.set hk, (d.has x o h).2⟩
theorem Dlog.push {x w : Str} (d : Dlog top ws L (fr ++ [x]) pr) (hk : L[k]? = some es) (hw : ws[k]? = some w) (hl : es.length < top) : Dlog top ws (L.set k (es ++ [.push x])) fr (pr ++ [(x, w)]) := by
  have p1 := flat_set (f := pus) (es' := es ++ [.push x]) (g := [x]) (by rw [pus_snoc]; rfl) hk
  have p2 := flat_set (f := res) (es' := es ++ [.push x]) (g := []) (by rw [res_snoc]; rfl) hk
  rw [List.append_nil] at p2
  have nm : IsNm x := d.frn x (List.mem_append_right _ (List.mem_singleton.mpr rfl))
  have q1 : (L.flatMap pus ++ [x] ++ fr).Nodup := by
    refine (List.Perm.nodup_iff ?_).mpr d.pf
    rw [List.append_assoc]
    exact List.Perm.append_left _ List.perm_append_comm
  have nx : ¬ x ∈ L.flatMap pus := fun z => by
    have := (List.nodup_append.mp (List.nodup_append.mp q1).1).2.2 x z x (List.mem_singleton.mpr rfl)
    exact this rfl
  refine ⟨d.v.app hk hl nm (List.nodup_append.mp q1).1 (by rw [show (En.push x).re = [] from rfl, List.append_nil]; exact d.v.re) (fun _ z => nomatch z) (fun _ _ _ _ z => nomatch z), ?_, ?_, ?_, ?_, ?_, fun z hz => d.nq z (by have h := (p1.append_right fr).mem_iff.mp hz; simp only [List.mem_append] at h ⊢; rcases h with (h | h) | h <;> simp [h])⟩
  · exact (p1.append_right fr).nodup_iff.mpr q1
  · rw [p1.length_eq]
    have := d.cnt
    rw [List.length_append] at this ⊢
    simp only [List.length_cons, List.length_nil] at this ⊢
    omega
  · exact fun z hz => d.frn z (List.mem_append_left _ hz)
  · refine (p2.append_right _).nodup_iff.mpr ?_
    rw [List.map_append, ← List.append_assoc]
    refine List.nodup_append.mpr ⟨d.rp, by simp, fun a ha b hb e => ?_⟩
    have hb : b = x := by simpa using hb
    subst hb e
    rcases List.mem_append.mp ha with h | h
    · obtain ⟨es2, h2, h3⟩ := List.mem_flatMap.mp h
      obtain ⟨i, hi⟩ := List.mem_iff_getElem?.mp h2
      unfold res at h3
      obtain ⟨e2, h4, h5⟩ := List.mem_flatMap.mp h3
      refine nx ?_
      cases e2 with
      | push _ => simp [En.re] at h5
      | size _ => simp [En.re] at h5
      | pop y =>
        have : a = y := by simpa [En.re] using h5
        subst this
        obtain ⟨j, hj⟩ := List.mem_iff_getElem?.mp h4
        obtain ⟨j', _, h6⟩ := d.v.own i es2 j a hi hj
        exact List.mem_flatMap.mpr ⟨es2, h2, mem_pus.mpr (List.mem_of_getElem? h6)⟩
      | steal o y =>
        have : a = y := by simpa [En.re] using h5
        subst this
        have hlt : i < ws.length := by rw [← d.v.len]; exact (List.getElem?_eq_some_iff.mp hi).1
        obtain ⟨_, i', es', _, h7, h8⟩ := d.v.st i es2 _ o a hi (List.getElem?_eq_getElem hlt) h4
        exact List.mem_flatMap.mpr ⟨es', List.mem_of_getElem? h7, mem_pus.mpr h8⟩
    · obtain ⟨⟨y, o⟩, h2, h3⟩ := List.mem_map.mp h
      subst h3
      obtain ⟨⟨i, es', _, h7, h8⟩, _⟩ := d.has y o h2
      exact nx (List.mem_flatMap.mpr ⟨es', List.mem_of_getElem? h7, mem_pus.mpr h8⟩)
  · intro y o h
    rcases List.mem_append.mp h with h | h
    · exact ⟨(d.has y o h).1.set hk, (d.has y o h).2⟩
    · have : y = x ∧ o = w := by simpa using h
      obtain ⟨rfl, rfl⟩ := this
      exact ⟨⟨k, _, hw, List.getElem?_set_self (List.getElem?_eq_some_iff.mp hk).1, by simp⟩, nm⟩
theorem Dlog.take {x o w : Str} {t : Nat} (d : Dlog top ws L fr pr) (hk : L[k]? = some es) (hw : ws[k]? = some w) (hl : es.length < top) (ht : pr[t]? = some (x, o))
    (he : (o = w ∧ e = .pop x) ∨ (o ≠ w ∧ e = .steal o x)) : Dlog top ws (L.set k (es ++ [e])) fr (pr.eraseIdx t) := by
  have hin := List.mem_of_getElem? ht
  obtain ⟨hx, nm⟩ := d.has x o hin
  have er : e.re = [x] := by rcases he with ⟨_, rfl⟩ | ⟨_, rfl⟩ <;> rfl
  have ep : e.pu = [] := by rcases he with ⟨_, rfl⟩ | ⟨_, rfl⟩ <;> rfl
  have p1 := flat_set (f := pus) (es' := es ++ [e]) (g := []) (by rw [pus_snoc, ep]) hk
  have p2 := flat_set (f := res) (es' := es ++ [e]) (g := [x]) (by rw [res_snoc, er]) hk
  rw [List.append_nil] at p1
  have pp : ([(x, o)] ++ pr.eraseIdx t).Perm pr := by
    have hlt := (List.getElem?_eq_some_iff.mp ht).1
    have := perm_erase hlt
    rw [(List.getElem?_eq_some_iff.mp ht).2] at this
    exact this
  have q : (L.flatMap res ++ [x] ++ (pr.eraseIdx t).map (·.1)).Nodup := by
    refine (List.Perm.nodup_iff ?_).mpr d.rp
    rw [List.append_assoc]
    exact List.Perm.append_left _ (pp.map Prod.fst)
  refine ⟨d.v.app hk hl ?_ (by rw [ep, List.append_nil]; exact d.v.pu) (by rw [er]; exact (List.nodup_append.mp q).1) ?_ ?_, ?_, ?_, d.frn, ?_, ?_, fun z hz => d.nq z ((p1.append_right fr).mem_iff.mp hz)⟩
  · rcases he with ⟨_, rfl⟩ | ⟨_, rfl⟩
    · exact nm
    · obtain ⟨i, es2, h1, _, _⟩ := hx
      exact ⟨d.v.wk.2.2.2 o (List.mem_of_getElem? h1), nm⟩
  · intro y hy
    rcases he with ⟨rfl, rfl⟩ | ⟨_, rfl⟩
    · cases hy
      obtain ⟨i, es2, h1, h2, h3⟩ := hx
      have hi : i = k :=
         (List.getElem?_inj (List.getElem?_eq_some_iff.mp h1).1 d.v.wk.2.2.1).mp (h1.trans hw.symm)
      subst hi
      rw [hk] at h2
      cases h2
      exact h3
    · cases hy
  · intro w2 o2 x2 h1 h2
    rcases he with ⟨_, rfl⟩ | ⟨hne, rfl⟩
    · cases h2
    · cases h2
      rw [hw] at h1
      cases h1
      exact ⟨hne, hx⟩
  · exact (p1.append_right fr).nodup_iff.mpr d.pf
  · rw [p1.length_eq]
    exact d.cnt
  · exact (p2.append_right _).nodup_iff.mpr q
  · intro y o2 h
    have h2 : (y, o2) ∈ pr := List.mem_of_mem_eraseIdx h
    exact ⟨(d.has y o2 h2).1.set hk, (d.has y o2 h2).2⟩
end
theorem flatMap_nil_rep {f : List En → List Str} (hf : f [] = []) : ∀ n : Nat, (List.replicate n ([] : List En)).flatMap f = []
  | 0 => rfl
  | n + 1 => by rw [List.replicate_succ, List.flatMap_cons, hf, flatMap_nil_rep hf n]; rfl
theorem Vlog.nil {top : Nat} {ws : List Str} (h : WkOk ws) : Vlog top ws (List.replicate ws.length []) := by
  refine ⟨h, by rw [List.length_replicate], ?_, by rw [flatMap_nil_rep rfl]; exact List.nodup_nil, by rw [flatMap_nil_rep rfl]; exact List.nodup_nil, ?_, ?_⟩
  · intro es he
    rw [(List.mem_replicate.mp he).2]
    exact ⟨Nat.zero_le _, fun e h => by cases h⟩
  · intro i es j x h1 h2
    rw [(List.mem_replicate.mp (List.mem_of_getElem? h1)).2] at h2
    simp at h2
  · intro i es w o x h1 _ h2
    rw [(List.mem_replicate.mp (List.mem_of_getElem? h1)).2] at h2
    cases h2
theorem Dlog.nil {top : Nat} {ws fr : List Str} (h : WkOk ws) (hl : fr.length = 6 * top) (hd : fr.Nodup) (hn : ∀ z ∈ fr, IsNm z ∧ Wf z) : Dlog top ws (List.replicate ws.length []) fr [] := by
  refine ⟨Vlog.nil h, by rw [flatMap_nil_rep rfl]; exact hd, by rw [flatMap_nil_rep rfl]; simpa using hl, fun z hz => (hn z hz).1, by rw [flatMap_nil_rep rfl]; exact List.nodup_nil, (fun x o h => by cases h), by rw [flatMap_nil_rep rfl]; exact fun z hz => (hn z hz).2⟩
end Vx

set_option Elab.async false
set_option linter.all false
set_option maxRecDepth 100000
set_option maxHeartbeats 4000000
namespace Vx
open PySem PySem.Spec PyProof.Rows L2 Evl
/-! tuples stay -/
def TK (H H' : Hp) : Prop := ∀ a xs, H a = some (.tup xs) → H' a = some (.tup xs)
theorem TK.refl (H : Hp) : TK H H := fun _ _ h => h
theorem TK.trans {H H1 H2 : Hp} (a : TK H H1) (b : TK H1 H2) : TK H H2 := fun c x h => b c x (a c x h)
theorem tk_ex {H H' : Hp} (e : Ex H H') : TK H H' := fun a x h => e a _ h
theorem tk_kb {s : Addr} {H H' : Hp} {ys : List V} (k : KB s H H') (h : H s = some (.lst ys)) : TK H H' := fun a x z => k a _ (fun e => by rw [e, h] at z; cases z) z
theorem tk_upd {p : Addr} {H : Hp} {ys : List V} {o : HO} (h : H p = some (.lst ys)) : TK H (upd H p o) := fun a x z => by rw [upd_ne (fun e => by rw [e, h] at z; cases z)]; exact z
theorem tk_new {p : Addr} {H : Hp} {o : HO} (h : H p = none) : TK H (upd H p o) := tk_ex (Ex.new h)
/-- a list of tuples -/
def TL (H : Hp) (p : Addr) (ts : List (List V)) : Prop := ∃ as : List Addr, H p = some (.lst (as.map V.ref)) ∧ Paired (fun a t => H a = some (.tup t)) as ts
theorem paired_imp {α β : Type} {F G : α → β → Prop} (h : ∀ a b, F a b → G a b) : ∀ {xs : List α} {ys : List β}, Paired F xs ys → Paired G xs ys
  | _, _, .nil => .nil
  | _, _, .cons a t => .cons (h _ _ a) (paired_imp h t)
theorem paired_get {α β : Type} {F : α → β → Prop} : ∀ {xs : List α} {ys : List β}, Paired F xs ys → ∀ {i : Nat} {y : β}, ys[i]? = some y → ∃ x, xs[i]? = some x ∧ F x y
  | _, _, .nil, i, y, h => by simp at h
  | _, _, @Paired.cons _ _ _ x0 y0 _ _ a t, 0, y, h => by
    have e : y0 = y := by simpa using h
    subst e
    exact ⟨x0, rfl, a⟩
  | _, _, .cons a t, i + 1, y, h => by
    obtain ⟨x, h1, h2⟩ := paired_get t (i := i) (y := y) (by simpa using h)
    exact ⟨x, by simpa using h1, h2⟩
theorem paired_erase {α β : Type} {F : α → β → Prop} : ∀ {xs : List α} {ys : List β}, Paired F xs ys → ∀ i : Nat, Paired F (xs.eraseIdx i) (ys.eraseIdx i)
  | _, _, .nil, i => by simpa using Paired.nil
  | _, _, .cons a t, 0 => by simpa using t
  | _, _, .cons a t, i + 1 => by simpa using Paired.cons a (paired_erase t i)
theorem erase_map {α β : Type} (f : α → β) : ∀ (xs : List α) (i : Nat), (xs.map f).eraseIdx i = (xs.eraseIdx i).map f
  | [], i => by simp
  | _ :: _, 0 => by simp
  | x :: xs, i + 1 => by simp [erase_map f xs i]
theorem TL.keep {H H' : Hp} {p : Addr} {ts : List (List V)} (h : TL H p ts) (k : TK H H') (e : H' p = H p) : TL H' p ts := by
  obtain ⟨as, h1, h2⟩ := h
  exact ⟨as, e.trans h1, paired_imp (fun a t z => k a t z) h2⟩
theorem TL.kb {s : Addr} {H H' : Hp} {p : Addr} {ts : List (List V)} {ys : List V} (h : TL H p ts) (k : KB s H H') (hs : H s = some (.lst ys)) (n : p ≠ s) : TL H' p ts := by
  obtain ⟨as, h1, h2⟩ := id h
  exact h.keep (tk_kb k hs) (by rw [h1]; exact k _ _ n h1)
theorem TL.ex {H H' : Hp} {p : Addr} {ts : List (List V)} (h : TL H p ts) (e : Ex H H') : TL H' p ts := by
  obtain ⟨as, h1, h2⟩ := id h
  exact h.keep (tk_ex e) (by rw [h1]; exact e _ _ h1)
theorem TL.nil {H : Hp} {p : Addr} (h : H p = some (.lst [])) : TL H p [] := ⟨[], h, .nil⟩
theorem TL.at_ {H : Hp} {p : Addr} {ts : List (List V)} (h : TL H p ts) : ∃ vs, H p = some (.lst vs) ∧ vs.length = ts.length := by
  obtain ⟨as, h1, h2⟩ := h
  exact ⟨_, h1, by rw [List.length_map]; exact h2.length⟩
/-- a new tuple behind -/
theorem TL.app {H H' : Hp} {p a : Addr} {ts : List (List V)} {t : List V} {vs : List V} (h : TL H p ts) (k : TK H H') (hv : H p = some (.lst vs)) (h' : H' p = some (.lst (vs ++ [.ref a]))) (ha : H' a = some (.tup t)) : TL H' p (ts ++ [t]) := by
  obtain ⟨as, h1, h2⟩ := h
  rw [hv] at h1
  cases h1
  exact ⟨as ++ [a], by rw [h', List.map_append]; rfl, Paired.snoc (paired_imp (fun a t z => k a t z) h2) ha⟩
theorem TL.erase {H H' : Hp} {p : Addr} {ts : List (List V)} {vs : List V} {i : Nat} (h : TL H p ts) (k : TK H H') (hv : H p = some (.lst vs)) (h' : H' p = some (.lst (vs.eraseIdx i))) : TL H' p (ts.eraseIdx i) := by
  obtain ⟨as, h1, h2⟩ := h
  rw [hv] at h1
  cases h1
  refine ⟨as.eraseIdx i, by rw [h', erase_map], paired_erase (paired_imp (fun a t z => k a t z) h2) i⟩
theorem TL.get {H : Hp} {p : Addr} {ts : List (List V)} {vs : List V} (h : TL H p ts) (hv : H p = some (.lst vs)) {i : Nat} {t : List V} (ht : ts[i]? = some t) : ∃ a, vs[i]? = some (.ref a) ∧ H a = some (.tup t) := by
  obtain ⟨as, h1, h2⟩ := h
  rw [hv] at h1
  cases h1
  obtain ⟨a, ha, hb⟩ := paired_get h2 ht
  exact ⟨a, by rw [List.getElem?_map, ha]; rfl, hb⟩
/-! a dict of names to lists -/
def Dk (ws : List Str) (ps : List Addr) : List (Key × V) := (ws.zip ps).map fun x => (.inr x.1, .ref x.2)
theorem dk_len {ws : List Str} {ps : List Addr} (h : ps.length = ws.length) : (Dk ws ps).length = ws.length := by
  unfold Dk
  rw [List.length_map, List.length_zip]
  omega
theorem dk_keys : ∀ {ws : List Str} {ps : List Addr}, ps.length = ws.length → (Dk ws ps).map (·.1) = ws.map Sum.inr
  | [], _, _ => by simp [Dk]
  | _ :: _, [], h => by cases h
  | w :: ws, p :: ps, h => by
    have := dk_keys (ws := ws) (ps := ps) (by simpa using h)
    unfold Dk at this ⊢
    rw [List.zip_cons_cons, List.map_cons, List.map_cons, this]
    rfl
theorem dk_get : ∀ {ws : List Str} {ps : List Addr} {k : Nat} {x : Str} {p : Addr}, ws.Nodup → ws[k]? = some x → ps[k]? = some p → valV (Dk ws ps) (.inr x) = some (.ref p)
  | [], _, k, x, p, _, h, _ => by simp at h
  | _ :: _, [], k, x, p, _, _, h => by simp at h
  | w :: ws, q :: ps, 0, x, p, nd, h1, h2 => by
    have e1 : w = x := by simpa using h1
    have e2 : q = p := by simpa using h2
    subst e1 e2
    exact valV_pos (p := ((Sum.inr w : Key), V.ref q)) rfl
  | w :: ws, q :: ps, k + 1, x, p, nd, h1, h2 => by
    have h1' : ws[k]? = some x := by simpa using h1
    have h2' : ps[k]? = some p := by simpa using h2
    have n : ¬ w = x := fun e => (List.nodup_cons.mp nd).1 (by rw [e]; exact List.mem_of_getElem? h1')
    have : valV (Dk (w :: ws) (q :: ps)) (.inr x) = valV (Dk ws ps) (.inr x) := valV_neg (p := ((Sum.inr w : Key), V.ref q)) (fun e => n (Sum.inr.inj e))
    rw [this]
    exact dk_get (List.nodup_cons.mp nd).2 h1' h2'
theorem merge_new : ∀ (more acc : List (Key × V)), ((acc ++ more).map (·.1)).Nodup → mergeK acc more = acc ++ more
  | [], acc, _ => by rw [List.append_nil]; rfl
  | kv :: more, acc, nd => by
    have h1 : putK acc kv.1 kv.2 = acc ++ [kv] := by
      unfold putK
      rw [if_neg]
      intro z
      obtain ⟨x, hx, e⟩ := List.any_eq_true.mp z
      have e := of_decide_eq_true e
      rw [List.map_append, List.map_cons] at nd
      exact (List.nodup_append.mp nd).2.2 x.1 (List.mem_map.mpr ⟨x, hx, rfl⟩) kv.1 (List.mem_cons_self ..) e
    have h2 := merge_new more (acc ++ [kv]) (by rw [List.append_assoc]; exact nd)
    show mergeK (putK acc kv.1 kv.2) more = _
    rw [h1, h2, List.append_assoc]
    rfl
theorem merge_dk {ws : List Str} {ps : List Addr} (h : ps.length = ws.length) (nd : ws.Nodup) : mergeK [] (Dk ws ps) = Dk ws ps := by
  refine (merge_new _ _ ?_).trans (List.nil_append _)
  rw [List.nil_append, dk_keys h]
  unfold List.Nodup at nd ⊢
  rw [List.pairwise_map]
  exact nd.imp fun h e => h (Sum.inr.inj e)
abbrev rDictP (K : PySem.W.Frag) : List V → Hp → VK → Prop := fun xs H Q => ∃ (a : Addr) (ps : List Addr) (kvs : List (Key × V)), xs = [.ref a] ∧ SqL K H a (ps.map V.ref) ∧ Paired (fun p kv => SqT K H p [kV kv.1, kv.2]) ps kvs ∧ ∀ p, H p = none → Q (.ref p) (upd H p (.dK (mergeK [] kvs)))
/-- dict([(name, []) for name in names]) -/
def New (H H2 : Hp) (n : Nat) (ps : List Addr) : Prop := ps.length = n ∧ ps.Nodup ∧ ∀ p ∈ ps, H p = none ∧ H2 p = some (.lst [])
theorem ev_rows {K : PySem.W.Frag} {σ : L2.St} {H : Hp} {tl : TE} {j : Nat} {vs : List Nat} {pw : Addr} {ws : List Str} (h : Ev tl σ H (.ref pw)) (hw : H pw = some (.lst (ws.map V.str))) (hl : ws.length ≤ 1000) (nd : ws.Nodup)
    (hj : ∀ x, ((wipe σ vs).set j (some x))[j]? = some (some x)) (hwp : ∀ x, wipe ((wipe σ vs).set j (some x)) vs = wipe σ vs) :
    ∀ H1, Ex H H1 → ∀ Q : VK, (∀ d ps H2, H1 d = none → Ex H1 H2 → H2 d = some (.dK (Dk ws ps)) → New H1 H2 ws.length ps → Q (.ref d) H2) →
      tCB (rDictP K) (tCons (tLc (iList K tl) (gName j) tYes (tTup (tCons (tVar j) (tCons (tLst tNil) tNil))) vs) tNil) σ H1 Q := fun H0 e0 Q q => by
  refine h H0 e0 _ fun H1 e1 => ⟨pw, rfl, ⟨_, sq_of (e1 _ _ (e0 _ _ hw))⟩, fun Dl hD => ?_⟩
  have hw1 : H1 pw = some (.lst (ws.map V.str)) := e1 _ _ (e0 _ _ hw)
  have nwD : pw ≠ Dl := ne_of_none hw1 hD
  refine lc_list (xs := ws.map V.str) (fun i H' => Ex H1 H' ∧ ∃ as ps, H' Dl = some (.lst (as.map V.ref)) ∧ as.length = i ∧ New H1 H' i ps ∧ Paired (fun a (x : Key × V) => H' a = some (.tup [kV x.1, x.2])) as (Dk (ws.take i) ps))
    ⟨Ex.new hD, [], [], upd_same, rfl, ⟨rfl, List.nodup_nil, fun _ z => by cases z⟩, by simpa [Dk] using Paired.nil⟩ (fun i H' _ p => sq_of (p.1 _ _ hw1)) (fun i x H' hx p => ?_) (fun H' p => ?_)
  · obtain ⟨e2, as, ps, ha, hlen, ⟨n1, n2, n3⟩, hp⟩ := p
    rw [List.getElem?_map] at hx
    obtain ⟨z, hz, rfl⟩ := Option.map_eq_some_iff.mp hx
    have hi : i < ws.length := (List.getElem?_eq_some_iff.mp hz).1
    refine ⟨hwp _, ?_⟩
    refine ⟨_, hj _, (by show 0 ≤ sizeLine; decide), fun p0 hp0 => ⟨(by show 2 ≤ sizeLine; decide), fun t ht => ⟨as.map V.ref, ?_, ?_, ?_⟩⟩⟩
    all_goals have n0 : Dl ≠ p0 := ne_of_none ha hp0
    all_goals have n4 : Dl ≠ t := ne_of_none (by rw [upd_ne n0]; exact ha) ht
    · rw [upd_ne n4, upd_ne n0]
      exact ha
    · rw [List.length_map]
      exact sz_lt (by omega)
    · have n5 : p0 ≠ t := ne_of_none upd_same ht
      have tk : TK H' (upd (upd (upd H' p0 (.lst [])) t (.tup [.str z, .ref p0])) Dl (.lst (as.map V.ref ++ [.ref t]))) := ((tk_new hp0).trans (tk_new ht)).trans (tk_upd (by rw [upd_ne n4, upd_ne n0]; exact ha))
      have hD0 : H1 Dl = none := hD
      refine ⟨?_, as ++ [t], ps ++ [p0], by rw [upd_same, List.map_append]; rfl, by rw [List.length_append, hlen]; rfl, ⟨by rw [List.length_append, n1]; rfl, ?_, ?_⟩, ?_⟩
      · exact Ex.mut ((e2.trans (Ex.new hp0)).trans (Ex.new ht)) hD
      · refine List.nodup_append.mpr ⟨n2, by simp, fun a h1 b h2 e => ?_⟩
        have : b = p0 := by simpa using h2
        subst this e
        have := (n3 _ h1).2
        rw [hp0] at this
        cases this
      · intro p hpm
        rcases List.mem_append.mp hpm with h1 | h1
        · have h2 := n3 p h1
          refine ⟨h2.1, ?_⟩
          have na : p ≠ p0 := ne_of_none h2.2 hp0
          have nb : p ≠ t := ne_of_none (by rw [upd_ne na]; exact h2.2) ht
          have nc : p ≠ Dl := fun e => by
            rw [e, ha] at h2
            have h3 : as.map V.ref = [] := by injection (Option.some.inj h2.2)
            have h4 : as = [] := List.map_eq_nil_iff.mp h3
            have h5 : ps = [] := List.length_eq_zero_iff.mp (by rw [n1, ← hlen, h4]; rfl)
            rw [h5] at h1
            cases h1
          rw [upd_ne nc, upd_ne nb, upd_ne na]
          exact h2.2
        · have : p = p0 := by simpa using h1
          subst this
          refine ⟨fresh_back e2 hp0, ?_⟩
          rw [upd_ne n0.symm, upd_ne n5, upd_same]
      · have e5 : Dk (ws.take (i + 1)) (ps ++ [p0]) = Dk (ws.take i) ps ++ [(.inr z, .ref p0)] := by
          unfold Dk
          have : ws.take (i + 1) = ws.take i ++ [z] := by
            rw [List.take_add_one, hz]
            rfl
          rw [this, List.zip_append (by rw [List.length_take, n1]; omega), List.map_append]
          rfl
        rw [e5]
        refine Paired.snoc (paired_imp (fun a x z => tk _ _ z) hp) ?_
        rw [upd_ne n4.symm, upd_same]
        rfl
  · obtain ⟨e2, as, ps, ha, hlen, ⟨n1, n2, n3⟩, hp⟩ := p
    rw [List.length_map] at n1
    rw [List.length_map, List.take_length] at hp
    refine ⟨Dl, as, Dk ws ps, rfl, sq_of ha, paired_imp (fun a x z => st_of z) hp, fun d hd => ?_⟩
    rw [merge_dk n1 nd]
    refine q d ps _ (fresh_back (e1.trans e2) hd) ((e1.trans e2).trans (Ex.new hd)) upd_same ⟨n1, n2, fun p h1 => ?_⟩
    have h2 := n3 p h1
    have na : p ≠ d := ne_of_none h2.2 hd
    exact ⟨fresh_back e1 h2.1, by rw [upd_ne na]; exact h2.2⟩
end Vx
namespace Vx
open PySem PySem.Spec PyProof.Rows L2 Evl
/-- the logs L of the names ws, at ps, in the dict at d -/
structure HL (H : Hp) (d : Addr) (ws : List Str) (ps : List Addr) (L : List (List En)) : Prop where
  dk : H d = some (.dK (Dk ws ps))
  pl : ps.length = ws.length
  lg : ∀ (i : Nat) (p : Addr) (es : List En), ps[i]? = some p → L[i]? = some es → TL H p (es.map En.vs)
theorem HL.kb {s d : Addr} {H H' : Hp} {ws : List Str} {ps : List Addr} {L : List (List En)} {ys : List V} (h : HL H d ws ps L) (k : KB s H H') (hs : H s = some (.lst ys)) (n : ∀ p ∈ ps, p ≠ s) : HL H' d ws ps L :=
  ⟨k d _ (fun e => by have := h.dk; rw [e, hs] at this; cases this) h.dk, h.pl, fun i p es h1 h2 => (h.lg i p es h1 h2).kb k hs (n p (List.mem_of_getElem? h1))⟩
theorem HL.ex {d : Addr} {H H' : Hp} {ws : List Str} {ps : List Addr} {L : List (List En)} (h : HL H d ws ps L) (e : Ex H H') : HL H' d ws ps L :=
  ⟨e _ _ h.dk, h.pl, fun i p es h1 h2 => (h.lg i p es h1 h2).ex e⟩
theorem HL.set {d : Addr} {H H' : Hp} {ws : List Str} {ps : List Addr} {L : List (List En)} {k : Nat} {pk : Addr} {es : List En} {e : En} (h : HL H d ws ps L) (nd : ps.Nodup) (tk : TK H H') (hd : H' d = H d) (hk : ps[k]? = some pk)
    (hr : ∀ p ∈ ps, p ≠ pk → H' p = H p) (hn : TL H' pk ((es ++ [e]).map En.vs)) : HL H' d ws ps (L.set k (es ++ [e])) :=
  ⟨hd.trans h.dk, h.pl, fun i p es2 h1 h2 => by
    rcases set_get h2 with ⟨rfl, rfl⟩ | ⟨ne, h3⟩
    · rw [hk] at h1
      cases h1
      exact hn
    · refine (h.lg i p es2 h1 h3).keep tk (hr p (List.mem_of_getElem? h1) fun z => ne ?_)
      subst z
      exact (List.getElem?_inj (List.getElem?_eq_some_iff.mp h1).1 nd).mp (h1.trans hk.symm)⟩
theorem ev_dget {σ : L2.St} {H : Hp} {td ty : TE} {d : Addr} {kvs : List (Key × V)} {x : Str} {v : V} (h1 : Ev td σ H (.ref d)) (h2 : Ev ty σ H (.str x)) (hd : H d = some (.dK kvs)) (hv : valV kvs (.inr x) = some v) : Ev (tDGet td ty) σ H v := fun H1 e Q q =>
  h1 H1 e _ fun H2 e2 => h2 H2 (e.trans e2) _ fun H3 e3 => ⟨d, v, rfl, by
    have := DGet.k (k := .inr x) (e3 _ _ (e2 _ _ (e _ _ hd)))
    rw [hv] at this
    exact this, q H3 (e2.trans e3)⟩
theorem eu_if {σ : L2.St} {H : Hp} {t : TT} {ta tb : TE} {b : Bool} {xs : List V} (h : EvT t σ H b) (h1 : b = true → EvU ta σ H xs) (h2 : b = false → EvU tb σ H xs) : EvU (tIf t ta tb) σ H xs := fun H1 e Q q => h H1 e _ fun H2 e2 => by
  cases b with
  | true =>
    show ta σ H2 Q
    exact h1 rfl H2 (e.trans e2) Q fun p H3 n e3 h3 => q p H3 (fresh_back e2 n) (e2.trans e3) h3
  | false =>
    show tb σ H2 Q
    exact h2 rfl H2 (e.trans e2) Q fun p H3 n e3 h3 => q p H3 (fresh_back e2 n) (e2.trans e3) h3
def prv (x : Str × Str) : List V := [.str x.1, .str x.2]
end Vx
namespace Vx
open PySem PySem.Spec PyProof.Rows L2 Evl
theorem s_rows {K : PySem.W.Frag} {D : Ends} {σ : L2.St} {H : Hp} {tl : TE} {i j : Nat} {vs : List Nat} {pw : Addr} {ws : List Str} (h : Ev tl σ H (.ref pw)) (hw : H pw = some (.lst (ws.map V.str))) (hl : ws.length ≤ 1000) (nd : ws.Nodup)
    (hj : ∀ x, ((wipe σ vs).set j (some x))[j]? = some (some x)) (hwp : ∀ x, wipe ((wipe σ vs).set j (some x)) vs = wipe σ vs)
    (k : ∀ d ps H2, H d = none → Ex H H2 → H2 d = some (.dK (Dk ws ps)) → New H H2 ws.length ps → D.nx (σ.set i (some (.ref d))) H2) :
      tAsg (tCB (rDictP K) (tCons (tLc (iList K tl) (gName j) tYes (tTup (tCons (tVar j) (tCons (tLst tNil) tNil))) vs) tNil)) (gName i) D σ H :=
  ev_rows h hw hl nd hj hwp H (Ex.refl H) _ k
end Vx
namespace Vx
open PySem PySem.Spec PyProof.Rows L2 Evl
/-- l.append(e), e changes the heap -/
theorem s_appD {K : PySem.W.Frag} {D : Ends} {σ : L2.St} {H : Hp} {tl te : TE} {l : Addr} {xs : List V} (ha : Ev tl σ H (.ref l)) (hl : H l = some (.lst xs))
    (k : ∀ H1, Ex H H1 → te σ H1 fun v H2 => rAppend (.ref l) [v] H2 fun _ H3 => D.nx σ H3) : tDrop (tBM K "list" rAppend tl (tCons te tNil)) D σ H :=
  ha H (Ex.refl H) _ fun H1 e1 => ⟨Or.inl ⟨rfl, _, sq_of (e1 _ _ hl)⟩, k H1 e1⟩
end Vx
namespace Vx
theorem at_last {α : Type} {xs : List α} {n : Nat} {v : α} (hl : xs.length = n + 1) (h : xs[n]? = some v) : L2.atI xs (-1) = some v := by
  have e : L2.ixN xs.length (-1) = some n := by
    unfold L2.ixN
    rw [hl, if_neg (by decide), if_pos (by omega)]
    congr 1
    omega
  unfold L2.atI
  rw [e]
  exact h
end Vx
namespace Vx
open PySem PySem.Spec PyProof.Rows L2 Evl
theorem Evl_go {te : TE} {σ : L2.St} {H : Hp} {v : V} {Q : VK} (h : Ev te σ H v) (k : ∀ H1, Ex H H1 → Q v H1) : te σ H Q := h H (Ex.refl H) Q k
end Vx

set_option Elab.async false
set_option linter.all false
set_option maxRecDepth 100000
set_option maxHeartbeats 8000000
namespace Vx
open PySem PySem.Spec PyProof.Rows L2 Evl
def spLogs (K : PySem.W.Frag) : Sp := fun vs H Q _ => ∃ (s : Addr) (n m : Nat), vs = [.ref s, .int (m : Int)] ∧ Src H s n ∧ n + 4000 ≤ 1000000000 ∧ 1 ≤ m ∧ m ≤ 60 ∧
  ∀ (d : Addr) (ws : List Str) (ps : List Addr) (L : List (List En)) (H' : Hp), H d = none → KB s H H' → Src H' s (n + 4000) → HL H' d ws ps L → (∀ p ∈ ps, H p = none) → ps.Nodup → Vlog m ws L → (∀ z ∈ L.flatMap pus, Wf z) → (∀ z ∈ ws, z ∈ wk10) → Q (.ref d) H'
/-- the heap between two entries -/
structure LapH (s d pw pf pp : Addr) (ws : List Str) (ps : List Addr) (H H' : Hp) (n : Nat) (L : List (List En)) (fr : List Str) (pr : List (Str × Str)) : Prop where
  kb : KB s H H'
  src : Src H' s n
  hw : H' pw = some (.lst (ws.map V.str))
  hl : HL H' d ws ps L
  hf : H' pf = some (.lst (fr.map V.str))
  hp : TL H' pp (pr.map prv)
structure Apart (s d pw pf pp : Addr) (ps : List Addr) (H : Hp) : Prop where
  wf : pw ≠ pf
  wp : pw ≠ pp
  fp : pf ≠ pp
  nw : pw ≠ s
  nf : pf ≠ s
  np : pp ≠ s
  nd : ps.Nodup
  ps : ∀ p ∈ ps, p ≠ pw ∧ p ≠ pf ∧ p ≠ pp ∧ p ≠ s ∧ H p = none
  d0 : H d = none
  w0 : H pw = none
  f0 : H pf = none
  p0 : H pp = none
section
variable {s d pw pf pp : Addr} {ws : List Str} {ps : List Addr} {H H' H2 : Hp} {n n2 : Nat} {L : List (List En)} {fr : List Str} {pr : List (Str × Str)}
theorem LapH.turn (l : LapH s d pw pf pp ws ps H H' n L fr pr) (a : Apart s d pw pf pp ps H) (k : KB s H' H2) (S : Src H2 s n2) : LapH s d pw pf pp ws ps H H2 n2 L fr pr := by
  obtain ⟨ys, hs⟩ := l.src.at_
  exact ⟨l.kb.trans k, S, k _ _ a.nw l.hw, l.hl.kb k hs fun p hp => (a.ps p hp).2.2.2.1, k _ _ a.nf l.hf, l.hp.kb k hs a.np⟩
theorem LapH.ex (l : LapH s d pw pf pp ws ps H H' n L fr pr) (a : Apart s d pw pf pp ps H) (e : Ex H' H2) : LapH s d pw pf pp ws ps H H2 n L fr pr := l.turn a (kb_ex e) (l.src.ex e)
theorem LapH.le (l : LapH s d pw pf pp ws ps H H' n L fr pr) (h : n ≤ n2) : LapH s d pw pf pp ws ps H H' n2 L fr pr := ⟨l.kb, l.src.le h, l.hw, l.hl, l.hf, l.hp⟩
theorem LapH.nd (l : LapH s d pw pf pp ws ps H H' n L fr pr) {p : Addr} {vs : List V} (h : H' p = some (.lst vs)) : d ≠ p := fun z => by
  have := l.hl.dk
  rw [z, h] at this
  cases this
theorem LapH.app {k : Nat} {pk a : Addr} {es : List En} {e : En} {lv : List V} (l : LapH s d pw pf pp ws ps H H' n L fr pr) (ap : Apart s d pw pf pp ps H) (hpk : ps[k]? = some pk) (hes : L[k]? = some es) (hlv : H' pk = some (.lst lv))
    (ha : H' a = some (.tup e.vs)) : LapH s d pw pf pp ws ps H (upd H' pk (.lst (lv ++ [.ref a]))) n (L.set k (es ++ [e])) fr pr := by
  obtain ⟨a1, a2, a3, a4, a5⟩ := ap.ps pk (List.mem_of_getElem? hpk)
  have tk : TK H' (upd H' pk (.lst (lv ++ [.ref a]))) := tk_upd hlv
  refine ⟨l.kb.updN (Or.inl a5), l.src.upd a4.symm, by rw [upd_ne a1.symm]; exact l.hw, ?_, by rw [upd_ne a2.symm]; exact l.hf, l.hp.keep tk (upd_ne a3.symm)⟩
  refine l.hl.set ap.nd tk (upd_ne (l.nd hlv)) hpk (fun p _ h => upd_ne h) ?_
  rw [List.map_append]
  exact (l.hl.lg k pk es hpk hes).app tk hlv upd_same (tk _ _ ha)
theorem LapH.popF {x : Str} (l : LapH s d pw pf pp ws ps H H' n L (fr ++ [x]) pr) (ap : Apart s d pw pf pp ps H) : LapH s d pw pf pp ws ps H (upd H' pf (.lst ((fr ++ [x]).map V.str).dropLast)) n L fr pr := by
  have tk : TK H' (upd H' pf (.lst ((fr ++ [x]).map V.str).dropLast)) := tk_upd l.hf
  have nf : pf ≠ s := ap.nf
  refine ⟨l.kb.updN (Or.inl ap.f0), l.src.upd nf.symm, by rw [upd_ne ap.wf]; exact l.hw, ⟨by rw [upd_ne (l.nd l.hf)]; exact l.hl.dk, l.hl.pl, fun i p es h1 h2 => (l.hl.lg i p es h1 h2).keep tk (upd_ne (ap.ps p (List.mem_of_getElem? h1)).2.1)⟩, ?_, l.hp.keep tk (upd_ne ap.fp.symm)⟩
  rw [upd_same, List.map_append]
  have : (fr.map V.str ++ [x].map V.str).dropLast = fr.map V.str := List.dropLast_concat
  rw [this]
theorem LapH.putP {vs ws2 : List V} {pr2 : List (Str × Str)} (l : LapH s d pw pf pp ws ps H H' n L fr pr) (ap : Apart s d pw pf pp ps H) (hvs : H' pp = some (.lst vs)) (hn : TL (upd H' pp (.lst ws2)) pp (pr2.map prv)) :
    LapH s d pw pf pp ws ps H (upd H' pp (.lst ws2)) n L fr pr2 := by
  have tk : TK H' (upd H' pp (.lst ws2)) := tk_upd hvs
  have np : pp ≠ s := ap.np
  exact ⟨l.kb.updN (Or.inl ap.p0), l.src.upd np.symm, by rw [upd_ne ap.wp]; exact l.hw, ⟨by rw [upd_ne (l.nd hvs)]; exact l.hl.dk, l.hl.pl, fun i p es h1 h2 => (l.hl.lg i p es h1 h2).keep tk (upd_ne (ap.ps p (List.mem_of_getElem? h1)).2.2.1)⟩, by rw [upd_ne ap.fp]; exact l.hf, hn⟩
theorem LapH.appP {a : Addr} {vs : List V} {x : Str × Str} (l : LapH s d pw pf pp ws ps H H' n L fr pr) (ap : Apart s d pw pf pp ps H) (hvs : H' pp = some (.lst vs)) (ha : H' a = some (.tup (prv x))) :
    LapH s d pw pf pp ws ps H (upd H' pp (.lst (vs ++ [.ref a]))) n L fr (pr ++ [x]) := by
  refine l.putP ap hvs ?_
  rw [List.map_append]
  exact l.hp.app (tk_upd hvs) hvs upd_same (tk_upd hvs _ _ ha)
theorem LapH.popP {vs : List V} {i : Nat} (l : LapH s d pw pf pp ws ps H H' n L fr pr) (ap : Apart s d pw pf pp ps H) (hvs : H' pp = some (.lst vs)) : LapH s d pw pf pp ws ps H (upd H' pp (.lst (vs.eraseIdx i))) n L fr (pr.eraseIdx i) := by
  refine l.putP ap hvs ?_
  rw [← erase_map]
  exact l.hp.erase (tk_upd hvs) hvs upd_same
/-- x, o = (present + [('', '')])[spot] -/
theorem s_spot {K : PySem.W.Frag} {D : Ends} {σ : L2.St} {sp i5 i11 j1 j2 : Nat} (h5 : σ[i5]? = some (some (.ref pp))) (h11 : σ[i11]? = some (some (.int (sp : Int)))) (hv : TL H pp (pr.map prv)) (hsp : sp ≤ pr.length) (hz : pr.length ≤ 1000)
    (k : ∀ (x o : Str) H4, Ex H H4 → (o = "" ∨ pr[sp]? = some (x, o)) → D.nx ((σ.set j1 (some (.str x))).set j2 (some (.str o))) H4) :
    tAsg (tOp (rIxL K) (tOp rCat (tVar i5) (tLst (tCons (tTup (tCons (tC (.str "")) (tCons (tC (.str "")) tNil))) tNil))) (tVar i11)) (gTup K 2 (gCons (gName j1) (gCons (gName j2) gNil))) D σ H := by
  obtain ⟨vs, hvs, hvl⟩ := hv.at_
  rw [List.length_map] at hvl
  refine ⟨.ref pp, h5, (by show 2 ≤ sizeLine; decide), fun a ha => ⟨(by show 1 ≤ sizeLine; decide), fun b hb => ⟨pp, b, vs, [.ref a], rfl, rfl, ?_, upd_same, sz_of (by show vs.length + 1 ≤ 100000; omega), fun c hc => ?_⟩⟩⟩
  all_goals have na : pp ≠ a := ne_of_none hvs ha
  all_goals have nb : pp ≠ b := ne_of_none (by rw [upd_ne na]; exact hvs) hb
  · rw [upd_ne nb, upd_ne na]
    exact hvs
  · have E : Ex H (upd (upd (upd H a (.tup [.str "", .str ""])) b (.lst [.ref a])) c (.lst (vs ++ [.ref a]))) := ((Ex.new ha).trans (Ex.new hb)).trans (Ex.new hc)
    by_cases hlt : sp < pr.length
    · obtain ⟨x, o⟩ : ∃ z, pr[sp]? = some z := ⟨_, List.getElem?_eq_getElem hlt⟩
      obtain ⟨t, g1, g2⟩ := hv.get hvs (i := sp) (t := prv x) (by rw [List.getElem?_map, o]; rfl)
      refine ⟨_, h11, c, vs ++ [.ref a], (sp : Int), .ref t, rfl, rfl, sq_of upd_same, atI_nat (by rw [List.getElem?_append_left (by omega)]; exact g1), t, prv x, rfl, st_of (E _ _ g2), rfl, _, _, rfl, _, _, rfl, rfl, ?_⟩
      exact k x.1 x.2 _ E (Or.inr o)
    · have : sp = vs.length := by omega
      refine ⟨_, h11, c, vs ++ [.ref a], (sp : Int), .ref a, rfl, rfl, sq_of upd_same, atI_nat (by rw [this, List.getElem?_append_right (Nat.le_refl _), Nat.sub_self]; rfl), a, [.str "", .str ""], rfl, st_of ?_, rfl, _, _, rfl, _, _, rfl, rfl, ?_⟩
      · have n1 : a ≠ b := ne_of_none (H := upd H a (.tup [.str "", .str ""])) upd_same hb
        have n2 : a ≠ c := ne_of_none (by rw [upd_ne n1, upd_same]) hc
        rw [upd_ne n2, upd_ne n1, upd_same]
      · exact k "" "" _ E (Or.inl rfl)
end
section
variable {P : Program} {w : World} {K : PySem.W.Frag} {mg : Str → Option Value} {base : Heap}
theorem sc_law_logs : FnScope ["source", "top", "workers", "rows", "fresh", "present", "counts", "steps", "liking", "lap", "name", "spot", "way", "item", "owner", "number"] ["source", "top"] (defScope s_law_logs) := ⟨rfl, rfl, rfl, by decide +kernel, rfl, by decide +kernel, by decide +kernel⟩
theorem ok_law_logs (D : Def K mg "_law_logs" s_law_logs ["source", "top"]) (T : Bl mg) (G_law_pick : Good P w K mg base 1 "_law_pick" ["source", "count"] spPick) (G_law_words : Good P w K mg base 2 "_law_words" ["source", "size"] (spWords K)) (G_law_workers : Good P w K mg base 3 "_law_workers" ["source"] (spWorkers K)) : Good P w K mg base 4 "_law_logs" ["source", "top"] (spLogs K) := by
  refine D.good sc_law_logs (fun vs H Q E h => ?_) (fun f cdv A outer s H vs Q E hr h => ?_)
  · obtain ⟨s, n, m, rfl, _⟩ := h
    rfl
  · obtain ⟨s, n, m, rfl, hs, hn, hm0, hm, q⟩ := h
    have hu := hu_of hr
    refine ⟨_, (pss_cons (ps_set (i := 2) sc_law_logs.nd rfl (Or.inl rfl) (pe_fn (G_law_workers.mono (by decide)) hr (pa_cons (pv 0) pa_nil)))
      (pss_cons (ps_set (i := 3) sc_law_logs.nd rfl (Or.inl rfl) (pe_callTy (hc := call_dictP rfl) (hg := rfl) (hm := T.dict) (hv := by decide +kernel) (ha := pa_cons (pe_lc (own := [("name", 10)]) (g := (gName 10)) (tt := tYes) rfl sc_law_logs.nd (x_pil (K := K) (pv 2)) (blkOk_by (N := ["source", "top", "workers", "rows", "fresh", "present", "counts", "steps", "liking", "lap", "name", "spot", "way", "item", "owner", "number"]) (sc := (defScope s_law_logs)) (by decide +kernel)) (fun _ _ _ _ _ => (pg_name (i := 10) sc_law_logs.nd rfl (Or.inl rfl))) (fun _ _ _ _ _ => pts_nil) (fun _ _ _ _ _ => (pe_tup (pa_cons (pv 10) (pa_cons (pe_lst pa_nil) pa_nil))))) pa_nil)))
      (pss_cons (ps_par (i := 4) (j := 5) rfl sc_law_logs.nd rfl rfl (by decide) rfl rfl (pa_cons (pe_fn (G_law_words.mono (by decide)) hr (pa_cons (pv 0) (pa_cons (pe_op op_mul pe_int (pv 1)) pa_nil))) (pa_cons (pe_lst pa_nil) pa_nil)) (by rfl))
      (pss_cons (ps_set (i := 6) sc_law_logs.nd rfl (Or.inl rfl) (pe_lst (pa_cons (pe_fn (G_law_pick.mono (by decide)) hr (pa_cons (pv 0) (pa_cons pe_int pa_nil))) (pa_cons (pe_fn (G_law_pick.mono (by decide)) hr (pa_cons (pv 0) (pa_cons pe_int pa_nil))) (pa_cons (pe_fn (G_law_pick.mono (by decide)) hr (pa_cons (pv 0) (pa_cons (pe_op op_add (pe_op op_mul pe_int (pv 1)) pe_int) pa_nil))) (pa_cons (pe_op op_mul pe_int (pv 1)) pa_nil))))))
      (pss_cons (ps_par (i := 7) (j := 8) rfl sc_law_logs.nd rfl rfl (by decide) rfl rfl (pa_cons (x_ixl (K := K) (pv 6) (pe_fn (G_law_pick.mono (by decide)) hr (pa_cons (pv 0) (pa_cons pe_int pa_nil)))) (pa_cons (pe_op op_add pe_int (pe_fn (G_law_pick.mono (by decide)) hr (pa_cons (pv 0) (pa_cons pe_int pa_nil)))) pa_nil)) (by rfl))
      (pss_cons (ps_for PassesOwn.never rfl (x_rng T (pa_cons (pv 7) pa_nil)) (pg_name (i := 9) sc_law_logs.nd rfl (Or.inl rfl)) (pss_cons (ps_set (i := 10) sc_law_logs.nd rfl (Or.inl rfl) (x_ixl (K := K) (pv 2) (pe_fn (G_law_pick.mono (by decide)) hr (pa_cons (pv 0) (pa_cons (x_len (K := K) T (pv 2)) pa_nil)))))
      (pss_cons (ps_par (i := 11) (j := 12) rfl sc_law_logs.nd rfl rfl (by decide) rfl rfl (pa_cons (pe_fn (G_law_pick.mono (by decide)) hr (pa_cons (pv 0) (pa_cons (pe_op op_add (x_len (K := K) T (pv 5)) pe_int) pa_nil))) (pa_cons (pe_fn (G_law_pick.mono (by decide)) hr (pa_cons (pv 0) (pa_cons pe_int pa_nil))) pa_nil)) (by rfl))
      (pss_cons (ps_asg (x_ixl (K := K) (pe_op op_cat (pv 5) (pe_lst (pa_cons (pe_tup (pa_cons pe_str (pa_cons pe_str pa_nil))) pa_nil))) (pv 11)) (x_gt (K := K) (pgs_cons (pg_name (i := 13) sc_law_logs.nd rfl (Or.inl rfl)) (pgs_cons (pg_name (i := 14) sc_law_logs.nd rfl (Or.inl rfl)) pgs_nil))))
      (pss_cons (ps_set (i := 15) sc_law_logs.nd rfl (Or.inl rfl) (x_ixl (K := K) (pe_lst (pa_cons (pv 12) (pa_cons (pe_fn (G_law_pick.mono (by decide)) hr (pa_cons (pv 0) (pa_cons pe_int pa_nil))) pa_nil))) (pe_fn (G_law_pick.mono (by decide)) hr (pa_cons (pv 0) (pa_cons pe_int pa_nil)))))
      (pss_cons (ps_if (pt_cmpR op_eq (x_len (K := K) T (pe_dget hu (pv 3) (pv 10) (fun _ _ => rfl))) (pv 1) (nomark _)) (pss_one (ps_set (i := 12) sc_law_logs.nd rfl (Or.inl rfl) pe_int)) pss_nil)
      (pss_one (ps_if (pt_cmpR op_eq (pv 12) pe_int (nomark _)) (pss_one (ps_expr (x_bm (K := K) PySem.F.plainAttrs_list PySem.F.slot_list_append PySem.F.type_list_append mt_append (pe_dget hu (pv 3) (pv 10) (fun _ _ => rfl)) (pa_cons (pe_tup (pa_cons pe_str (pa_cons (pv 15) pa_nil))) pa_nil)))) (pss_one (ps_if (pw_and (pt_cmpR op_lt (pv 12) (pv 8) (nomark _)) (pw_and1 (pt_cmpR op_ne (pv 14) pe_str (nomark _)))).pt (pss_cons (ps_expr (x_bm (K := K) PySem.F.plainAttrs_list PySem.F.slot_list_append PySem.F.type_list_append mt_append (pe_dget hu (pv 3) (pv 10) (fun _ _ => rfl)) (pa_cons (pe_ifExp (pt_cmpR op_eq (pv 14) (pv 10) (nomark _)) (pe_tup (pa_cons pe_str (pa_cons (pv 13) pa_nil))) (pe_tup (pa_cons pe_str (pa_cons (pv 14) (pa_cons (pv 13) pa_nil))))) pa_nil)))
      (pss_one (ps_expr (x_bm (K := K) PySem.F.plainAttrs_list PySem.F.slot_list_pop PySem.F.type_list_pop mt_popAt (pv 5) (pa_cons (pv 11) pa_nil))))) (pss_one (ps_if (pt_cmpR op_lt (pv 12) pe_int (nomark _)) (pss_cons (ps_expr (x_bm (K := K) PySem.F.plainAttrs_list PySem.F.slot_list_append PySem.F.type_list_append mt_append (pe_dget hu (pv 3) (pv 10) (fun _ _ => rfl)) (pa_cons (pe_tup (pa_cons pe_str (pa_cons (x_bm0 (K := K) PySem.F.plainAttrs_list PySem.F.slot_list_pop PySem.F.type_list_pop mt_pop (pv 4)) pa_nil))) pa_nil)))
      (pss_one (ps_expr (x_bm (K := K) PySem.F.plainAttrs_list PySem.F.slot_list_append PySem.F.type_list_append mt_append (pv 5) (pa_cons (pe_tup (pa_cons (x_ixt (K := K) (x_ixl (K := K) (pe_dget hu (pv 3) (pv 10) (fun _ _ => rfl)) (pe_un un_neg pe_int)) pe_int) (pa_cons (pv 10) pa_nil))) pa_nil))))) pss_nil))))))))))))
      (pss_one (ps_ret (pv 3))))))))), ?_⟩
    refine ⟨_, rfl, s, n, rfl, hs, by omega, fun pw ws H1 n1 k1 S1 h1 wk wg => ?_⟩
    obtain ⟨ys0, hs0⟩ := hs.at_
    refine s_rows (ev_var rfl) h1 (by have := wk.2.1; omega) wk.2.2.1 (fun _ => rfl) (fun _ => rfl) fun d ps H2 n2 e2 hd new => ?_
    have S2 := S1.ex e2
    refine ⟨_, rfl, _, rfl, _, _, rfl, rfl, Or.inl ⟨by decide, by decide⟩, s, n + 11, 6 * m, by rw [Int.natCast_mul]; rfl, S2, by omega, by omega, fun pf fr H3 n3 k3 S3 h3 hfl hfd hfn => ?_⟩
    refine ⟨(by show 0 ≤ sizeLine; decide), fun pp hpp => ⟨_, _, rfl, ?_⟩⟩
    obtain ⟨ys1, hs1⟩ := S1.at_
    obtain ⟨ys2, hs2⟩ := S2.at_
    obtain ⟨ys3, hs3⟩ := S3.at_
    have nsw : pw ≠ s := fun z => by rw [z, hs0] at n1; cases n1
    have nsf : pf ≠ s := fun z => by rw [z, hs2] at n3; cases n3
    have nsp : pp ≠ s := fun z => by rw [z, hs3] at hpp; cases hpp
    have h12 := e2 _ _ h1
    have nwf : pw ≠ pf := ne_of_none h12 n3
    have h13 := k3 _ _ nsw h12
    have nwp : pw ≠ pp := ne_of_none h13 hpp
    have nfp : pf ≠ pp := ne_of_none h3 hpp
    have d1 : H1 d = none := n2
    have ap : Apart s d pw pf pp ps H := by
      refine ⟨nwf, nwp, nfp, nsw, nsf, nsp, new.2.1, fun p h => ?_, k1.fresh ⟨_, hs1⟩ n2, n1, k1.fresh ⟨_, hs1⟩ (fresh_back e2 n3), ?_⟩
      · obtain ⟨g1, g2⟩ := new.2.2 p h
        have ns : p ≠ s := fun z => by rw [z, hs1] at g1; cases g1
        exact ⟨fun z => (by rw [z, h1] at g1; cases g1), ne_of_none g2 n3, ne_of_none (k3 _ _ ns g2) hpp, ns, k1.fresh ⟨_, hs1⟩ g1⟩
      · exact k1.fresh ⟨_, hs1⟩ (fresh_back e2 (k3.fresh ⟨_, hs3⟩ hpp))
    have hl3 : HL (upd H3 pp (.lst [])) d ws ps (List.replicate ws.length []) := by
      refine ⟨Ex.new hpp _ _ (k3 _ _ (fun z => by rw [z, hs1] at n2; cases n2) hd), new.1, fun i p es g1 g2 => ?_⟩
      have g3 : es = [] := (List.mem_replicate.mp (List.mem_of_getElem? g2)).2
      subst g3
      have gm := List.mem_of_getElem? g1
      exact TL.nil (Ex.new hpp _ _ (k3 _ _ (ap.ps p gm).2.2.2.1 (new.2.2 p gm).2))
    have S4 : Src (upd H3 pp (.lst [])) s (n + 13) := S3.ex (Ex.new hpp)
    have lap0 : LapH s d pw pf pp ws ps H (upd H3 pp (.lst [])) (n + 13) (List.replicate ws.length []) fr [] :=
      ⟨((k1.trans (kb_ex e2)).trans k3).trans (kb_ex (Ex.new hpp)), S4, Ex.new hpp _ _ h13, hl3, Ex.new hpp _ _ h3, TL.nil upd_same⟩
    have dl0 := Dlog.nil (top := m) wk hfl hfd hfn
    generalize upd H3 pp (.lst []) = H4 at lap0 S4
    clear S3 S2
    -- counts
    have bnd : ∀ {a : Int}, a ≤ 721 → ∀ v : V, (∃ r : Int, v = .int r ∧ 0 ≤ r ∧ r < a) → ∃ r : Int, v = .int r ∧ 0 ≤ r ∧ r ≤ 720 := fun ha v h => by
      obtain ⟨r, h1, h2, h3⟩ := h
      exact ⟨r, h1, h2, by omega⟩
    refine sk_asgL (c := 3) S4 (ekl_lst (c := 3) (Ps := [_, _, _, _]) (hid_s _ _) (eka_cons (c := 1) (d := 2) (hid_s _ _) ((ek_pick (c := 0) (m := 4) (hid_s _ _) rfl (ek_of ev_c rfl) (by decide) (by decide)).imp (bnd (by decide)))
      (eka_cons (c := 1) (d := 1) (hid_s _ _) ((ek_pick (c := 0) (m := 40) (hid_s _ _) rfl (ek_of ev_c rfl) (by decide) (by decide)).imp (bnd (by decide)))
      (eka_cons (c := 1) (d := 0) (hid_s _ _) ((ek_pick (c := 0) (m := 6 * (m : Int) + 1) (hid_s _ _) rfl (ek_of (ev_op (ev_op ev_c (ev_var rfl) (rv_I (Or.inl ⟨by decide, by decide⟩))) ev_c rv_I0) rfl) (by omega) (by omega)).imp (bnd (by omega)))
      (eka_cons (c := 0) (d := 0) (hid_s _ _) (ek_of (P := fun v => ∃ r : Int, v = .int r ∧ 0 ≤ r ∧ r ≤ 720) (ev_op ev_c (ev_var rfl) (rv_I (Or.inl ⟨by decide, by decide⟩))) ⟨_, rfl, by omega, by omega⟩) eka_nil)))) (by show 4 ≤ 100000; decide)) (by omega) fun pc cs H5 n5 k5 S5 h5 hcs => ?_
    have hat : ∀ r : Int, 0 ≤ r → r < 4 → ∃ t : Int, atI cs r = some (.int t) ∧ 0 ≤ t ∧ t ≤ 720 := fun r r0 r1 => by
      obtain ⟨k, rfl⟩ : ∃ k : Nat, r = (k : Int) := ⟨r.toNat, by omega⟩
      have : ∃ v, cs[k]? = some v ∧ ∃ r : Int, v = .int r ∧ 0 ≤ r ∧ r ≤ 720 := by
        rcases k with _ | _ | _ | _ | k
        · exact paired_get hcs (i := 0) rfl
        · exact paired_get hcs (i := 1) rfl
        · exact paired_get hcs (i := 2) rfl
        · exact paired_get hcs (i := 3) rfl
        · omega
      obtain ⟨v, g1, t, rfl, g2, g3⟩ := this
      exact ⟨t, atI_nat g1, g2, g3⟩
    obtain ⟨ys4, hs4⟩ := S4.at_
    have npc : pc ≠ s := fun z => by rw [z, hs4] at n5; cases n5
    refine sk_par (c := 2) (P1 := fun v => ∃ t : Int, v = .int t ∧ 0 ≤ t ∧ t ≤ 720) (P2 := fun v => ∃ t : Int, v = .int t ∧ t ≤ 6) S5 (eka_cons (c := 1) (d := 1) (hid_s _ _) (ek_op (c := 0) (d := 1) (P := fun v => v = .ref pc) (hid_s _ _) (ek_of (ev_var rfl) rfl) (ek_pick (c := 0) (m := 4) (hid_s _ _) rfl (ek_of ev_c rfl) (by decide) (by decide)) (fun x y hx hy => by
        obtain ⟨r, rfl, r0, r1⟩ := hy
        subst hx
        obtain ⟨t, g1, g2, g3⟩ := hat r r0 r1
        exact ⟨_, ⟨t, rfl, g2, g3⟩, rv_ixL (sq_of ((hid_ne npc).trans h5)) g1⟩))
      (eka_cons (c := 1) (d := 0) (hid_s _ _) (ek_op (c := 0) (d := 1) (P := fun v => v = .int 2) (hid_s _ _) (ek_of ev_c rfl) (ek_pick (c := 0) (m := 5) (hid_s _ _) rfl (ek_of ev_c rfl) (by decide) (by decide)) (fun x y hx hy => by
        obtain ⟨r, rfl, r0, r1⟩ := hy
        subst hx
        exact ⟨_, ⟨_, rfl, by omega⟩, rv_I0⟩)) eka_nil)) (by omega) fun v1 v2 H6 k6 S6 p1 p2 => ?_
    obtain ⟨t, rfl, t0, t1⟩ := p1
    obtain ⟨lk, rfl, hlk⟩ := p2
    have lap6 := (lap0.turn ap k5 S5).turn ap k6 S6
    clear lap0 S4 S5 hat hcs bnd
    refine q_forR1 (ea_cons (ev_var rfl) ea_nil) ⟨t0, by omega⟩ (fun i σ' H' => ∃ L fr pr a9 a10 a11 a12 a13 a14 a15, σ' = [some (.ref s), some (.int m), some (.ref pw), some (.ref d), some (.ref pf), some (.ref pp), some (.ref pc), some (.int t), some (.int lk), a9, a10, a11, a12, a13, a14, a15] ∧ LapH s d pw pf pp ws ps H H' (n + 18 + 5 * i) L fr pr ∧ Dlog m ws L fr pr ∧ pr.length ≤ i)
      (fun H7 e7 => ⟨_, _, _, _, _, _, _, _, _, _, rfl, lap6.ex ap e7, dl0, Nat.le_refl _⟩) (fun i σ' H' hi p => ?_) (fun σ' H' p => ?_)
    · obtain ⟨L, fr, pr, a9, a10, a11, a12, a13, a14, a15, rfl, lap, dl, hpl⟩ := p
      have hi : i < 720 := by omega
      have wlen := dl.v.wk.2.1
      have w1 := dl.v.wk.1
      refine sk_asg (c := 1) (P := fun v => ∃ (k : Nat) (x : Str), v = .str x ∧ ws[k]? = some x) lap.src (ek_op (c := 0) (d := 1) (P := fun v => v = .ref pw) (hid_s _ _) (ek_of (ev_var rfl) rfl)
        (ek_pick (c := 0) (m := (ws.length : Int)) (hid_s _ _) rfl (ek_of (ev_is (ev_len (ev_var rfl) (sq_of ((hid_ne ap.nw).trans lap.hw))) (by rw [List.length_map])) rfl) (by omega) (by omega)) (fun x y hx hy => by
        obtain ⟨r, rfl, r0, r1⟩ := hy
        subst hx
        obtain ⟨k, rfl⟩ : ∃ k : Nat, r = (k : Int) := ⟨r.toNat, by omega⟩
        have hk : k < ws.length := by omega
        exact ⟨_, ⟨k, ws[k], rfl, List.getElem?_eq_getElem hk⟩, rv_ixL (sq_of ((hid_ne ap.nw).trans lap.hw)) (atI_nat (by rw [List.getElem?_map, List.getElem?_eq_getElem hk]; rfl))⟩)) (by omega) fun v HB kB SB p => ?_
      obtain ⟨k, x, rfl, hk⟩ := p
      have lapB := lap.turn ap kB SB
      obtain ⟨vs, hvs, hvl⟩ := lapB.hp.at_
      rw [List.length_map] at hvl
      refine sk_par (c := 2) (P1 := fun v => ∃ sp : Nat, v = .int (sp : Int) ∧ sp ≤ pr.length) (P2 := fun v => ∃ wy : Int, v = .int wy ∧ 0 ≤ wy ∧ wy < 7) SB (eka_cons (c := 1) (d := 1) (hid_s _ _) ((ek_pick (c := 0) (m := (vs.length : Int) + 1) (hid_s _ _) rfl (ek_of (ev_op (ev_len (ev_var rfl) (sq_of ((hid_ne ap.np).trans hvs))) ev_c rv_I0) rfl) (by omega) (by omega)).imp (fun v h => by
          obtain ⟨r, rfl, r0, r1⟩ := h
          exact ⟨r.toNat, by rw [Int.toNat_of_nonneg r0], by omega⟩))
        (eka_cons (c := 1) (d := 0) (hid_s _ _) (ek_pick (c := 0) (m := 7) (hid_s _ _) rfl (ek_of ev_c rfl) (by decide) (by decide)) eka_nil)) (by omega) fun v1 v2 HC kC SC p1 p2 => ?_
      obtain ⟨sp, rfl, hsp⟩ := p1
      obtain ⟨wy, rfl, wy0, wy1⟩ := p2
      have lapC := lapB.turn ap kC SC
      refine s_spot (D := { nx := _, rt := _, ct := _, bk := _ }) rfl rfl lapC.hp hsp (by omega) fun y o HD eD hyo => ?_
      have lapD := lapC.ex ap eD
      have SD := lapD.src
      refine sk_asg (c := 2) (P := fun v => ∃ nb : Int, v = .int nb ∧ 0 ≤ nb ∧ nb ≤ 60) SD (ek_ixL (c := 1) (d := 1) (hid_s _ _) (ekl_lst (c := 1) (Ps := [fun v => ∃ nb : Int, v = .int nb ∧ 0 ≤ nb ∧ nb ≤ 60, fun v => ∃ nb : Int, v = .int nb ∧ 0 ≤ nb ∧ nb ≤ 60]) (hid_s _ _) (eka_cons (c := 0) (d := 1) (hid_s _ _) (ek_of (ev_var rfl) ⟨wy, rfl, wy0, by omega⟩)
          (eka_cons (c := 1) (d := 0) (hid_s _ _) ((ek_pick (c := 0) (m := 61) (hid_s _ _) rfl (ek_of ev_c rfl) (by decide) (by decide)).imp (fun v h => by
            obtain ⟨r, rfl, r0, r1⟩ := h
            exact ⟨r, rfl, r0, by omega⟩)) eka_nil)) (by show 2 ≤ 100000; decide)) (ek_pick (c := 0) (m := 2) (hid_s _ _) rfl (ek_of ev_c rfl) (by decide) (by decide)) (fun xs u hxs hu => by
          obtain ⟨r, rfl, r0, r1⟩ := hu
          obtain ⟨j, rfl⟩ : ∃ j : Nat, r = (j : Int) := ⟨r.toNat, by omega⟩
          rcases j with _ | _ | j
          · obtain ⟨z, g1, g2⟩ := paired_get hxs (i := 0) rfl
            exact ⟨_, z, rfl, atI_nat g1, g2⟩
          · obtain ⟨z, g1, g2⟩ := paired_get hxs (i := 1) rfl
            exact ⟨_, z, rfl, atI_nat g1, g2⟩
          · omega)) (by omega) fun v HE kE SE p => ?_
      obtain ⟨nb, rfl, nb0, nb1⟩ := p
      have lapE := lapD.turn ap kE SE
      have hkL : k < L.length := by rw [dl.v.len]; exact (List.getElem?_eq_some_iff.mp hk).1
      have hkP : k < ps.length := by rw [lap.hl.pl]; exact (List.getElem?_eq_some_iff.mp hk).1
      obtain ⟨es, hes⟩ : ∃ es, L[k]? = some es := ⟨_, List.getElem?_eq_getElem hkL⟩
      obtain ⟨pk, hpk⟩ : ∃ pk, ps[k]? = some pk := ⟨_, List.getElem?_eq_getElem hkP⟩
      have hesm := (dl.v.ent es (List.mem_of_getElem? hes)).1
      obtain ⟨lv, hlv, hll⟩ := (lapE.hl.lg k pk es hpk hes).at_
      rw [List.length_map] at hll
      have dg : ∀ {σ : L2.St} {HX : Hp}, HX d = some (.dK (Dk ws ps)) → σ[3]? = some (some (.ref d)) → σ[10]? = some (some (.str x)) → Ev (tDGet (tVar 3) (tVar 10)) σ HX (.ref pk) := fun h1 h2 h3 => ev_dget (ev_var h2) (ev_var h3) h1 (dk_get dl.v.wk.2.2.1 hk hpk)
      refine q_ifAsg (v := .int (if lv.length = m then 9 else wy)) (et_test (ev_op (ev_lenA (dg lapE.hl.dk rfl rfl) (Or.inl (sq_of hlv))) (ev_var rfl) (rv_eq rfl))) (fun hb => ?_) (fun hb => ?_) fun HF eF => ?_
      · have hb : lv.length = m := by
          have := of_decide_eq_true hb
          injection this with h
          omega
        rw [if_pos hb]
        exact ev_c
      · have hb : ¬ lv.length = m := fun z => of_decide_eq_false hb (by rw [z])
        rw [if_neg hb]
        rfl
      have lapF := lapE.ex ap eF
      have hlvF := eF _ _ hlv
      generalize hwz : (if lv.length = m then (9 : Int) else wy) = wz
      have short : wz < 9 → es.length < m := fun h => by
        rw [← hll]
        rw [hll] at hwz
        by_cases e : es.length = m
        · rw [if_pos e] at hwz
          omega
        · omega
      have step : ∀ {H2 : Hp} {L2 : List (List En)} {fr2 : List Str} {pr2 : List (Str × Str)} {n2 : Nat}, LapH s d pw pf pp ws ps H H2 n2 L2 fr2 pr2 → n2 ≤ n + 18 + 5 * (i + 1) → LapH s d pw pf pp ws ps H H2 (n + 18 + 5 * (i + 1)) L2 fr2 pr2 := fun l h => l.le h
      refine s_if (b := decide (wz = 0)) (et_is (et_test (ev_op (ev_var rfl) ev_c (rv_eq rfl))) ?_) (fun hb HG eG => ?_) (fun hb HG eG => ?_)
      · by_cases e : wz = 0 <;> simp [e]
      · have hb := of_decide_eq_true hb
        have lapG := lapF.ex ap eG
        refine s_appU (xs := lv) (ys := (En.size nb).vs) (eG _ _ hlvF) (dg lapG.hl.dk rfl rfl) (eu_tup (ea_cons ev_c (ea_cons (ev_var rfl) ea_nil)) (by show 2 ≤ 100000; decide)) (by omega) fun a HI na eI hI => ?_
        have lapI := lapG.ex ap eI
        exact ⟨_, _, _, _, _, _, _, _, _, _, rfl, step (lapI.app ap hpk hes (eI _ _ (eG _ _ hlvF)) hI) (by omega), dl.size hes (short (by omega)) nb0 nb1, by omega⟩
      · have lapG := lapF.ex ap eG
        have hlvG := eG _ _ hlvF
        have hbn : ¬ wz = 0 := of_decide_eq_false hb
        refine s_if (b := decide (wz < lk) && decide (o ≠ "")) (et_is (et_and (et_test (ev_op (ev_var rfl) (ev_var rfl) rv_I0)) (fun _ => et_test (ev_op (ev_var rfl) ev_c (rv_ne rfl)))) ?_) (fun hc HI eI => ?_) (fun hc HI eI => ?_)
        · congr 1
          by_cases e : o = "" <;> simp [e]
        · rw [Bool.and_eq_true] at hc
          have c1 : wz < lk := of_decide_eq_true hc.1
          have c2 : o ≠ "" := of_decide_eq_true hc.2
          have hq : pr[sp]? = some (y, o) := by
            rcases hyo with h | h
            · exact absurd h c2
            · exact h
          have hlt := (List.getElem?_eq_some_iff.mp hq).1
          have lapI := lapG.ex ap eI
          have hlvI := eI _ _ hlvG
          refine q_appU (xs := lv) (ys := (if o = x then En.pop y else En.steal o y).vs) hlvI (dg lapI.hl.dk rfl rfl) (eu_if (b := decide (o = x)) (et_is (et_test (ev_op (ev_var rfl) (ev_var rfl) (rv_eq rfl))) ?_) (fun h => ?_) (fun h => ?_)) (by omega) fun a HJ na eJ hJ => ?_
          · by_cases e : o = x <;> simp [e]
          · rw [if_pos (of_decide_eq_true h)]
            exact eu_tup (ea_cons ev_c (ea_cons (ev_var rfl) ea_nil)) (by show 2 ≤ 100000; decide)
          · rw [if_neg (of_decide_eq_false h)]
            exact eu_tup (ea_cons ev_c (ea_cons (ev_var rfl) (ea_cons (ev_var rfl) ea_nil))) (by show 3 ≤ 100000; decide)
          have lapJ := (lapI.ex ap eJ).app ap hpk hes (eJ _ _ hlvI) hJ
          obtain ⟨us, hus, hul⟩ := lapJ.hp.at_
          rw [List.length_map] at hul
          refine ⟨_, rfl, .inl ⟨rfl, _, sq_of hus⟩, _, rfl, pp, us, (sp : Int), sp, us[sp], rfl, rfl, hus, by omega, by omega, seqIx (by omega) (by omega), List.getElem?_eq_getElem (by omega), ?_⟩
          refine ⟨_, _, _, _, _, _, _, _, _, _, rfl, step (lapJ.popP ap hus) (by omega), dl.take hes hk (short (by omega)) hq ?_, ?_⟩
          · by_cases e : o = x
            · left
              exact ⟨e, if_pos e⟩
            · right
              exact ⟨e, if_neg e⟩
          · have := List.length_eraseIdx_le pr sp
            omega
        · refine s_if (b := decide (wz < 9)) (et_test (ev_op (ev_var rfl) ev_c rv_I0)) (fun hd HJ eJ => ?_) (fun hd HJ eJ => ?_)
          · have hd := of_decide_eq_true hd
            have hsh := short hd
            have lapJ := (lapG.ex ap eI).ex ap eJ
            have hlvJ := eJ _ _ (eI _ _ hlvG)
            have hne : fr ≠ [] := fun z => by
              have h1 := dl.cnt
              have h2 := flat_lt (fun es he => (dl.v.ent es he).1) hes hsh
              rw [z] at h1
              simp only [List.length_nil, Nat.add_zero] at h1
              have h3 : L.length * m ≤ 6 * m := Nat.mul_le_mul_right _ (by rw [dl.v.len]; exact wlen)
              omega
            obtain ⟨fr', z, rfl⟩ : ∃ fr' z, fr = fr' ++ [z] := ⟨fr.dropLast, fr.getLast hne, (List.dropLast_concat_getLast hne).symm⟩
            refine s_appD (D := { nx := _, rt := _, ct := _, bk := _ }) (dg lapJ.hl.dk rfl rfl) hlvJ fun HK eK => ?_
            have lapK := lapJ.ex ap eK
            have lapM := lapK.popF ap
            have npf := (ap.ps pk (List.mem_of_getElem? hpk)).2.1
            have hlvM : (upd HK pf (.lst ((fr' ++ [z]).map V.str).dropLast)) pk = some (.lst lv) := by
              rw [upd_ne npf]
              exact eK _ _ hlvJ
            refine ⟨.ref pf, rfl, .inl ⟨rfl, _, sq_of lapK.hf⟩, pf, (fr' ++ [z]).map V.str, .str z, rfl, rfl, lapK.hf, ?_, (by show 2 ≤ sizeLine; decide), fun a ha => ⟨pk, lv, .ref a, rfl, rfl, Ex.new ha _ _ hlvM, sz_lt (by omega), ?_⟩⟩
            · rw [List.map_append, List.length_append]
              show (fr'.map V.str ++ [V.str z])[(fr'.map V.str).length + 1 - 1]? = _
              rw [Nat.add_sub_cancel, List.getElem?_append_right (Nat.le_refl _), Nat.sub_self]
              rfl
            · have lapN := (lapM.ex ap (Ex.new ha)).app (e := .push z) ap hpk hes (Ex.new ha _ _ hlvM) upd_same
              have eN : upd (upd (upd HK pf (.lst ((fr' ++ [z]).map V.str).dropLast)) a (.tup (En.push z).vs)) pk (.lst (lv ++ [.ref a])) = upd (upd (upd HK pf (.lst ((fr' ++ [z]).map V.str).dropLast)) a (.tup [.str "push", .str z])) pk (.lst (lv ++ [.ref a])) := rfl
              rw [eN] at lapN
              clear eN
              dsimp only
              generalize upd (upd (upd HK pf (.lst ((fr' ++ [z]).map V.str).dropLast)) a (.tup [.str "push", .str z])) pk (.lst (lv ++ [.ref a])) = HN at lapN ⊢
              obtain ⟨us, hus, hul⟩ := lapN.hp.at_
              rw [List.length_map] at hul
              have tl := lapN.hl.lg k pk (es ++ [.push z]) hpk (List.getElem?_set_self hkL)
              obtain ⟨lw, hlw, hlwl⟩ := tl.at_
              obtain ⟨a2, g1, g2⟩ := tl.get hlw (i := es.length) (t := [.str "push", .str z]) (by
                rw [List.map_append, List.getElem?_append_right (by rw [List.length_map]; exact Nat.le_refl _), List.length_map, Nat.sub_self]
                rfl)
              refine s_appU (xs := us) (ys := [.str z, .str x]) hus (ev_var rfl) ?_ (by omega) fun b HO nbO eO hO => ?_
              · refine eu_tup (ea_cons ?_ (ea_cons (ev_var rfl) ea_nil)) (by show 2 ≤ 100000; decide)
                exact ev_op (ev_op (dg lapN.hl.dk rfl rfl) (ev_un ev_c ru_neg) (rv_ixL (sq_of hlw) (at_last (n := es.length) (by rw [hlwl, List.length_map, List.length_append]; rfl) g1))) ev_c (rv_ixT (st_of g2) rfl)
              have lapO := lapN.ex ap eO
              exact ⟨_, _, _, _, _, _, _, _, _, _, rfl, step (lapO.appP (x := (z, x)) ap (eO _ _ hus) hO) (by omega), dl.push hes hk hsh, by rw [List.length_append]; show pr.length + 1 ≤ i + 1; omega⟩
          · have lapJ := (lapG.ex ap eI).ex ap eJ
            exact ⟨_, _, _, _, _, _, _, _, _, _, rfl, step lapJ (by omega), dl, by omega⟩
    · obtain ⟨L, fr, pr, a9, a10, a11, a12, a13, a14, a15, rfl, lap, dl, hpl⟩ := p
      refine ⟨.ref d, rfl, ?_⟩
      exact q d ws ps L H' ap.d0 lap.kb (lap.src.le (by omega)) lap.hl (fun p hp => (ap.ps p hp).2.2.2.2) ap.nd dl.v (fun z hz => dl.nq z (List.mem_append_left _ hz)) wg
end
end Vx

set_option Elab.async false
set_option linter.all false
set_option maxRecDepth 100000
set_option maxHeartbeats 4000000
namespace Vx
open PySem PySem.Spec PyProof.Rows L2 Evl
/-! the program: what it says of valid logs -/
structure Cs (mg : Str → Option Value) : Prop where
  MOST_LETTERS : ∃ t, mg "MOST_LETTERS" = some (.int 8 t)
  MOST_ITEMS : ∃ t, mg "MOST_ITEMS" = some (.int 60 t)
  MOST_WORKERS : ∃ t, mg "MOST_WORKERS" = some (.int 6 t)
  MOST_ENTRIES : ∃ t, mg "MOST_ENTRIES" = some (.int 60 t)
theorem x_gint {X : Cx} {x : Str} {i : Int} {pos : Pos} (h : ∃ t, X.mg x = some (.int i t)) (hg : Gl X x := by rfl) (hd : (x == ("__debug__" : Str)) = false := by decide) : PE X (.Name x pos) (tC (.int i)) := by
  obtain ⟨t, h⟩ := h
  exact pe_glob hg h ⟨t, rfl⟩ hd
theorem x_in {X : Cx} {K : PySem.W.Frag} (hK : X.K = K) : OpR X (compareOp .In) (rIn K false) := by
  subst hK
  exact op_in_seq
def Yes (H : Hp) (Q : VK) : Prop := ∀ H', Ex H H' → Q (.bl true) H'
def spInt : Sp := fun vs H Q _ => ∃ k : Int, vs = [.int k] ∧ Yes H Q
def spName : Sp := fun vs H Q _ => ∃ z : Str, vs = [.str z] ∧ IsNm z ∧ Yes H Q
def spSize : Sp := fun vs H Q _ => ∃ k : Int, vs = [.int k] ∧ (0 ≤ k ∧ k ≤ 60) ∧ Yes H Q
def spEntry : Sp := fun vs H Q _ => ∃ (a : Addr) (e : En), vs = [.ref a] ∧ H a = some (.tup e.vs) ∧ e.ok ∧ Yes H Q
def spIsLog : Sp := fun vs H Q _ => ∃ (p : Addr) (es : List En), vs = [.ref p] ∧ TL H p (es.map En.vs) ∧ (es.length ≤ 60 ∧ ∀ e ∈ es, e.ok) ∧ Yes H Q
theorem Yes.spv {sp : Sp} {vs : List V} {H : Hp} (h : ∀ H1, Ex H H1 → ∀ Q, Yes H1 Q → ∀ E, sp vs H1 Q E) : SpV sp vs H (.bl true) := fun H1 e Q q E => h H1 e Q q E
theorem ev_allT {K : PySem.W.Frag} {σ : L2.St} {H : Hp} {te : TE} (h : EvLP te σ H (fun vs _ => ∀ (i : Nat) v, vs[i]? = some v → v = .bl true)) : Ev (tCB (rAll K) (tCons te tNil)) σ H (.bl true) := fun H1 e Q q =>
  h H1 e _ fun p vs H2 n e2 h2 k => by
    have hv := k.kn.now e e2
    have : vs = (List.replicate vs.length true).map V.bl := by
      refine List.ext_getElem? fun i => ?_
      by_cases hi : i < vs.length
      · rw [List.getElem?_map, List.getElem?_replicate, if_pos hi, List.getElem?_eq_getElem hi, hv i _ (List.getElem?_eq_getElem hi)]
        rfl
      · rw [List.getElem?_eq_none (by omega), List.getElem?_eq_none (by rw [List.length_map, List.length_replicate]; omega)]
    refine ⟨p, List.replicate vs.length true, rfl, sq_of (by rw [← this]; exact h2), ?_⟩
    rw [all_rep]
    exact q H2 e2
/-- over the signs of a text -/
theorem elp_lcS {σ : L2.St} {H : Hp} {te tl : TE} {vs : List Nat} {j : Nat} {z : Str} (Φ : Nat → V → Hp → Prop) (h : Ev tl σ H (.str z)) (hz : z.length < 40000) (hw : ∀ x, wipe ((wipe σ vs).set j (some x)) vs = wipe σ vs)
    (he : ∀ (i c : Nat), z.cps.toList[i]? = some c → EvP te ((wipe σ vs).set j (some (.str ⟨#[c]⟩))) H (Φ i)) : EvLP (tLc (iStr tl) (gName j) tYes te vs) σ H (fun ys H' => ys.length = z.length ∧ ∀ i v, ys[i]? = some v → Φ i v H') := fun H0 e Q q => h H0 e _ fun H1 e1 =>
  ⟨z, rfl, fun Dl hD => lc_P (J := Its z) (B := H) (n := z.length) Φ (by omega) (e.trans e1) hD (fun i H2 hi e2 => hi) (fun H2 e2 => Nat.le_refl _)
    (fun i H2 x H' hi e2 y => by
      obtain ⟨rfl, c, hc, rfl⟩ := y
      exact ⟨_, Ex.refl _, hw _, fun Q2 q2 => q2 _ (Ex.refl _), he i c (by rw [Array.getElem?_toList]; exact hc)⟩)
    (fun ys H2 e2 h2 k => q Dl ys H2 (fresh_back e1 hD) (e1.trans e2) h2 (k.pre e1))⟩
theorem rv_leS {H : Hp} {i j : Str} : RV (fun x y H Q => ∃ i j, x = V.str i ∧ y = V.str j ∧ Q (.bl (!decide (j.cps.toList < i.cps.toList))) H) (.str i) (.str j) H (.bl (!decide (j.cps.toList < i.cps.toList))) := fun H1 _ _ q => ⟨i, j, rfl, rfl, q H1 (Ex.refl H1)⟩
theorem ev_chain {σ : L2.St} {H : Hp} {r r' : R2} {ta tb tc : TE} {x y z : V} {b : Bool} (ha : Ev ta σ H x) (hb : Ev tb σ H y) (hc : Ev tc σ H z) (h1 : RV r x y H (.bl true)) (h2 : RV r' y z H (.bl b)) : Ev (tChain r r' ta tb tc) σ H (.bl b) := fun H1 e Q q =>
  ha H1 e _ fun H2 e2 => hb H2 (e.trans e2) _ fun H3 e3 => h1 H3 ((e.trans e2).trans e3) _ fun H4 e4 => ⟨true, rfl, by
    rw [if_pos rfl]
    exact hc H4 (((e.trans e2).trans e3).trans e4) _ fun H5 e5 => h2 H5 ((((e.trans e2).trans e3).trans e4).trans e5) _ fun H6 e6 => q H6 ((((e2.trans e3).trans e4).trans e5).trans e6)⟩
theorem ev_lenS {σ : L2.St} {H : Hp} {te : TE} {r : List V → Hp → VK → Prop} {z : Str} (hr : ∀ H Q, Q (.int (z.length : Int)) H → r [.str z] H Q) (h : Ev te σ H (.str z)) : Ev (tCB r (tCons te tNil)) σ H (.int (z.length : Int)) := fun H1 e Q q => h H1 e _ fun H2 e2 => hr H2 Q (q H2 e2)
theorem lt1 {a b : Nat} : [a] < [b] ↔ a < b := by
  rw [List.cons_lt_cons_iff]
  simp
theorem rv_b {r : R2} {x y : V} {H : Hp} {b : Bool} (h : RV r x y H (.bl b)) (e : b = true) : RV r x y H (.bl true) := by
  rw [← e]
  exact h
theorem le_one {a b : Nat} {x y : Str} (hx : x.cps.toList = [a]) (hy : y.cps.toList = [b]) (h : a ≤ b) : (!decide (y.cps.toList < x.cps.toList)) = true := by
  rw [hx, hy]
  have : ¬ [b] < [a] := fun z => by
    have := lt1.mp z
    omega
  simp only [this, decide_false, Bool.not_false]
section
variable {P : Program} {w : World} {K : PySem.W.Frag} {mg : Str → Option Value} {base : Heap}
theorem sc_is_integer : FnScope ["thing"] ["thing"] (defScope s_is_integer) := ⟨rfl, rfl, rfl, by decide +kernel, rfl, by decide +kernel, by decide +kernel⟩
theorem ok_is_integer (D : Def K mg "is_integer" s_is_integer ["thing"]) (T : Bl mg) : Good P w K mg base 1 "is_integer" ["thing"] (spInt) := by
  refine D.good sc_is_integer (fun vs H Q E h => ?_) (fun f cdv A outer s H vs Q E hr h => ?_)
  · obtain ⟨k, rfl, _⟩ := h
    rfl
  · obtain ⟨k, rfl, q⟩ := h
    have hu := hu_of hr
    refine ⟨_, (pss_one (ps_ret (pe_and (x_isi (K := K) "int" T (pv 0) T.int) (pe_one (pe_not (x_isi (K := K) "bool" T (pv 0) T.bool)))))), ?_⟩
    exact s_ret (ev_andV (a := true) (b := true) (ev_isI rfl ty_int rfl) (fun _ => ev_notV (a := false) (ev_isI rfl ty_int rfl))) fun H1 e1 => q H1 e1
theorem sc_is_name : FnScope ["thing", "letter"] ["thing"] (defScope s_is_name) := ⟨rfl, rfl, rfl, by decide +kernel, rfl, by decide +kernel, by decide +kernel⟩
theorem ok_is_name (D : Def K mg "is_name" s_is_name ["thing"]) (T : Bl mg) (C : Cs mg) : Good P w K mg base 1 "is_name" ["thing"] (spName) := by
  refine D.good sc_is_name (fun vs H Q E h => ?_) (fun f cdv A outer s H vs Q E hr h => ?_)
  · obtain ⟨z, rfl, _⟩ := h
    rfl
  · obtain ⟨z, rfl, hz, q⟩ := h
    have hu := hu_of hr
    refine ⟨_, (pss_cons (ps_if (pw_or (pt_not (pt_val (x_isi (K := K) "str" T (pv 0) T.str))) (pw_or1 (pt_not (pt_chain op_le op_le pe_int (pe_callB call_len_str (by rfl) T.len PySem.boot_len (pa_cons (pv 0) pa_nil)) (x_gint C.MOST_LETTERS))))).pt (pss_one (ps_ret pe_bl)) pss_nil)
      (pss_one (ps_ret (x_all (K := K) T (pe_lc (own := [("letter", 1)]) (g := (gName 1)) (tt := tYes) rfl sc_is_name.nd (pi_str (pv 0)) (blkOk_by (N := ["thing", "letter"]) (sc := (defScope s_is_name)) (by decide +kernel)) (fun _ _ _ _ _ => (pg_name (i := 1) sc_is_name.nd rfl (Or.inl rfl))) (fun _ _ _ _ _ => pts_nil) (fun _ _ _ _ _ => (pe_chain op_le_str op_le_str pe_str (pv 1) pe_str))))))), ?_⟩
    refine s_if (b := false) (et_is (et_or (a := false) (et_not (a := true) (et_B (ev_isI rfl ty_str rfl))) (fun _ => et_not (a := true) (et_test (ev_chain ev_c (ev_lenS (fun H Q q => ?_) (ev_var rfl)) ev_c ?_ ?_)))) rfl) (fun z => nomatch z) (fun _ H1 e1 => ?_)
    · exact ⟨z, rfl, sz_of (by have := hz.2.1; omega), q⟩
    · exact rv_b rv_I0 (by have := hz.1; simp; omega)
    · exact rv_b rv_I0 (by have := hz.2.1; simp; omega)
    · refine s_ret (ev_allT ((elp_lcS (fun _ v _ => v = .bl true) (ev_var rfl) (by have := hz.2.1; omega) (fun _ => rfl) (fun i c hc => evp_of (ev_chain ev_c (ev_var rfl) ev_c ?_ ?_) fun _ _ => rfl)).imp fun _ _ _ h => h.2)) fun H2 e2 => q H2 (e1.trans e2)
      · exact rv_b rv_leS (le_one (a := 97) (b := c) (by decide +kernel) rfl (hz.2.2 c (List.mem_of_getElem? hc)).1)
      · exact rv_b rv_leS (le_one (a := c) (b := 122) rfl (by decide +kernel) (hz.2.2 c (List.mem_of_getElem? hc)).2)
theorem sc_is_size : FnScope ["thing"] ["thing"] (defScope s_is_size) := ⟨rfl, rfl, rfl, by decide +kernel, rfl, by decide +kernel, by decide +kernel⟩
theorem ok_is_size (D : Def K mg "is_size" s_is_size ["thing"]) (T : Bl mg) (C : Cs mg) (G_is_integer : Good P w K mg base 1 "is_integer" ["thing"] spInt) : Good P w K mg base 2 "is_size" ["thing"] (spSize) := by
  refine D.good sc_is_size (fun vs H Q E h => ?_) (fun f cdv A outer s H vs Q E hr h => ?_)
  · obtain ⟨z, rfl, _⟩ := h
    rfl
  · obtain ⟨k, rfl, hk, q⟩ := h
    have hu := hu_of hr
    refine ⟨_, (pss_one (ps_ret (pe_and (pe_fn (G_is_integer.mono (by decide)) hr (pa_cons (pv 0) pa_nil)) (pe_one (pe_chain op_le op_le pe_int (pv 0) (x_gint C.MOST_ITEMS)))))), ?_⟩
    have G := G_is_integer
    refine s_ret (ev_andV (a := true) (b := true) (ev_call (ea_cons (ev_var rfl) ea_nil) (Yes.spv fun H1 _ Q y E => ⟨k, rfl, y⟩)) (fun _ => ev_chain ev_c (ev_var rfl) ev_c (rv_b rv_I0 ?_) (rv_b rv_I0 ?_))) fun H1 e1 => q H1 e1
    · simp
      omega
    · simp
      omega
theorem sc_is_entry : FnScope ["thing"] ["thing"] (defScope s_is_entry) := ⟨rfl, rfl, rfl, by decide +kernel, rfl, by decide +kernel, by decide +kernel⟩
theorem ok_is_entry (D : Def K mg "is_entry" s_is_entry ["thing"]) (T : Bl mg) (C : Cs mg) (G_is_name : Good P w K mg base 1 "is_name" ["thing"] spName) (G_is_size : Good P w K mg base 2 "is_size" ["thing"] spSize) : Good P w K mg base 3 "is_entry" ["thing"] (spEntry) := by
  refine D.good sc_is_entry (fun vs H Q E h => ?_) (fun f cdv A outer s H vs Q E hr h => ?_)
  · obtain ⟨a, e, rfl, _⟩ := h
    rfl
  · obtain ⟨a, e, rfl, ha, ok, q⟩ := h
    have hu := hu_of hr
    refine ⟨_, (pss_cons (ps_if (pt_not (pt_val (x_isi (K := K) "tuple" T (pv 0) T.tuple))) pss_never pss_nil)
      (pss_cons (ps_if (pw_and (pt_cmpR op_eq (x_len (K := K) T (pv 0)) pe_int (nomark _)) (pw_and1 (pt_cmpR (x_in (K := K) rfl) (x_ixt (K := K) (pv 0) pe_int) (pe_tup (pa_cons pe_str (pa_cons pe_str pa_nil))) (by rfl)))).pt (pss_one (ps_ret (pe_fn (G_is_name.mono (by decide)) hr (pa_cons (x_ixt (K := K) (pv 0) pe_int) pa_nil)))) pss_nil)
      (pss_cons (ps_if (pw_and (pt_cmpR op_eq (x_len (K := K) T (pv 0)) pe_int (nomark _)) (pw_and1 (pt_cmpR op_eq (x_ixt (K := K) (pv 0) pe_int) pe_str (nomark _)))).pt (pss_one (ps_ret (pe_fn (G_is_size.mono (by decide)) hr (pa_cons (x_ixt (K := K) (pv 0) pe_int) pa_nil)))) pss_nil)
      (pss_cons (ps_if (pw_and (pt_cmpR op_eq (x_len (K := K) T (pv 0)) pe_int (nomark _)) (pw_and1 (pt_cmpR op_eq (x_ixt (K := K) (pv 0) pe_int) pe_str (nomark _)))).pt (pss_one (ps_ret (pe_and (pe_fn (G_is_name.mono (by decide)) hr (pa_cons (x_ixt (K := K) (pv 0) pe_int) pa_nil)) (pe_one (pe_fn (G_is_name.mono (by decide)) hr (pa_cons (x_ixt (K := K) (pv 0) pe_int) pa_nil)))))) pss_nil)
      (pss_one (ps_ret pe_bl)))))), ?_⟩
    have st : ∀ H1, Ex H H1 → SqT K H1 a e.vs := fun H1 e1 => st_of (e1 _ _ ha)
    have hty : ∀ H1, Ex H H1 → TyN K H1 (.ref a) "tuple" := fun H1 e1 => ty_tup (Or.inl (e1 _ _ ha))
    refine s_if (b := false) (et_not (a := true) (et_B (ev_isI rfl (hty H (Ex.refl H)) rfl))) (fun z => nomatch z) (fun _ H1 e1 => ?_)
    have nm : ∀ {σ : L2.St} {H2 : Hp} {i : Int} {z : Str}, Ex H H2 → σ[0]? = some (some (.ref a)) → atI e.vs i = some (.str z) → IsNm z → Ev (tCall spName [] E0 (tCons (tOp (rIxT K) (tVar 0) (tC (.int i))) tNil)) σ H2 (.bl true) :=
      fun e2 h0 hi hz => ev_call (ea_cons (ev_op (ev_var h0) ev_c (rv_ixT (st _ e2) hi)) ea_nil) (Yes.spv fun H3 _ Q y E => ⟨_, rfl, hz, y⟩)
    have tl : ∀ {σ : L2.St} {H2 : Hp} {n : Int} {b : Bool}, Ex H H2 → σ[0]? = some (some (.ref a)) → decide (V.int (e.vs.length : Int) = V.int n) = b → EvT (tTest (tOp rEq (tCB (rLenS K) (tCons (tVar 0) tNil)) (tC (.int n)))) σ H2 b :=
      fun e2 h0 hb => et_test (ev_is (ev_op (ev_lenA (ev_var h0) (Or.inr (st _ e2))) ev_c (rv_eq rfl)) (by rw [hb]))
    have tin : ∀ {σ : L2.St} {H2 : Hp} {hd : Str} {b : Bool}, Ex H H2 → σ[0]? = some (some (.ref a)) → atI e.vs 0 = some (.str hd) → inV (.str hd) [.str "push", .str "pop"] = b → EvT (tTest (tOp (rIn K false) (tOp (rIxT K) (tVar 0) (tC (.int 0))) (tTup (tCons (tC (.str "push")) (tCons (tC (.str "pop")) tNil))))) σ H2 b :=
      fun e2 h0 hi hb => et_test (ev_is (ev_inU (ev_op (ev_var h0) ev_c (rv_ixT (st _ e2) hi)) (eu_tup (ea_cons ev_c (ea_cons ev_c ea_nil)) (by show 2 ≤ 100000; decide)) rfl rfl) (by rw [hb]))
    have teq : ∀ {σ : L2.St} {H2 : Hp} {hd y : Str} {b : Bool}, Ex H H2 → σ[0]? = some (some (.ref a)) → atI e.vs 0 = some (.str hd) → decide (V.str hd = V.str y) = b → EvT (tTest (tOp rEq (tOp (rIxT K) (tVar 0) (tC (.int 0))) (tC (.str y)))) σ H2 b :=
      fun e2 h0 hi hb => et_test (ev_is (ev_op (ev_op (ev_var h0) ev_c (rv_ixT (st _ e2) hi)) ev_c (rv_eq rfl)) (by rw [hb]))
    cases e with
    | push x =>
      refine s_if (b := true) (et_is (et_and (tl (b := true) e1 rfl rfl) (fun _ => tin (b := true) (hd := "push") e1 rfl rfl (by decide +kernel))) rfl) (fun _ H2 e2 => ?_) (fun z => nomatch z)
      exact s_ret (nm (e1.trans e2) rfl rfl ok) fun H3 e3 => q H3 ((e1.trans e2).trans e3)
    | pop x =>
      refine s_if (b := true) (et_is (et_and (tl (b := true) e1 rfl rfl) (fun _ => tin (b := true) (hd := "pop") e1 rfl rfl (by decide +kernel))) rfl) (fun _ H2 e2 => ?_) (fun z => nomatch z)
      exact s_ret (nm (e1.trans e2) rfl rfl ok) fun H3 e3 => q H3 ((e1.trans e2).trans e3)
    | size k =>
      refine s_if (b := false) (et_is (et_and (tl (b := true) e1 rfl rfl) (fun _ => tin (b := false) (hd := "size") e1 rfl rfl (by decide +kernel))) rfl) (fun z => nomatch z) (fun _ H2 e2 => ?_)
      refine s_if (b := true) (et_is (et_and (tl (b := true) (e1.trans e2) rfl rfl) (fun _ => teq (b := true) (hd := "size") (e1.trans e2) rfl rfl (by decide +kernel))) rfl) (fun _ H3 e3 => ?_) (fun z => nomatch z)
      have E3 := (e1.trans e2).trans e3
      exact s_ret (ev_call (ea_cons (ev_op (ev_var rfl) ev_c (rv_ixT (st _ E3) rfl)) ea_nil) (Yes.spv fun H4 _ Q y E => ⟨_, rfl, ok, y⟩)) fun H4 e4 => q H4 (E3.trans e4)
    | steal o x =>
      refine s_if (b := false) (et_is (et_and (b := false) (tl (b := false) e1 rfl rfl) (fun z => nomatch z)) rfl) (fun z => nomatch z) (fun _ H2 e2 => ?_)
      refine s_if (b := false) (et_is (et_and (b := false) (tl (b := false) (e1.trans e2) rfl rfl) (fun z => nomatch z)) rfl) (fun z => nomatch z) (fun _ H3 e3 => ?_)
      have E3 := (e1.trans e2).trans e3
      refine s_if (b := true) (et_is (et_and (tl (b := true) E3 rfl rfl) (fun _ => teq (b := true) (hd := "steal") E3 rfl rfl (by decide +kernel))) rfl) (fun _ H4 e4 => ?_) (fun z => nomatch z)
      have E4 := E3.trans e4
      exact s_ret (ev_andV (a := true) (b := true) (nm E4 rfl rfl ok.1) (fun _ => nm E4 rfl rfl ok.2)) fun H5 e5 => q H5 (E4.trans e5)
theorem sc_is_log : FnScope ["thing", "entry"] ["thing"] (defScope s_is_log) := ⟨rfl, rfl, rfl, by decide +kernel, rfl, by decide +kernel, by decide +kernel⟩
theorem ok_is_log (D : Def K mg "is_log" s_is_log ["thing"]) (T : Bl mg) (C : Cs mg) (G_is_entry : Good P w K mg base 3 "is_entry" ["thing"] spEntry) : Good P w K mg base 4 "is_log" ["thing"] (spIsLog) := by
  refine D.good sc_is_log (fun vs H Q E h => ?_) (fun f cdv A outer s H vs Q E hr h => ?_)
  · obtain ⟨p, es, rfl, _⟩ := h
    rfl
  · obtain ⟨p, es, rfl, hp, hes, q⟩ := h
    have hu := hu_of hr
    refine ⟨_, (pss_cons (ps_if (pw_or (pt_not (pt_val (x_isi (K := K) "list" T (pv 0) T.list))) (pw_or1 (pt_cmpR op_gt (x_len (K := K) T (pv 0)) (x_gint C.MOST_ENTRIES) (nomark _)))).pt pss_never pss_nil)
      (pss_one (ps_ret (x_all (K := K) T (pe_lc (own := [("entry", 1)]) (g := (gName 1)) (tt := tYes) rfl sc_is_log.nd (x_pil (K := K) (pv 0)) (blkOk_by (N := ["thing", "entry"]) (sc := (defScope s_is_log)) (by decide +kernel)) (fun _ _ _ _ _ => (pg_name (i := 1) sc_is_log.nd rfl (Or.inl rfl))) (fun _ _ _ _ _ => pts_nil) (fun _ _ _ _ _ => (pe_fn (G_is_entry.mono (by decide)) hr (pa_cons (pv 1) pa_nil)))))))), ?_⟩
    obtain ⟨as, hp1, hp2⟩ := hp
    have asl : as.length = es.length := by rw [hp2.length, List.length_map]
    refine s_if (b := false) (et_is (et_or (a := false) (et_not (a := true) (et_B (ev_isI rfl (ty_lst (Or.inl hp1)) rfl))) (fun _ => et_test (ev_op (ev_lenA (ev_var rfl) (Or.inl (sq_of hp1))) ev_c rv_I0))) ?_) (fun z => nomatch z) (fun _ H1 e1 => ?_)
    · rw [List.length_map, asl]
      have := hes.1
      simp
      omega
    · refine s_ret (ev_allT ((elp_lcL (fun _ v _ => v = .bl true) (ev_var rfl) (ex_l e1 (sq_of hp1)) (by rw [List.length_map]; have := hes.1; omega) (fun _ => rfl) (fun i x hx => evp_of (ev_call (ea_cons (ev_var rfl) ea_nil) (Yes.spv fun H3 e3 Q y E => ?_)) fun _ _ => rfl)).imp fun _ _ _ h => h.2)) fun H2 e2 => q H2 (e1.trans e2)
      rw [List.getElem?_map] at hx
      obtain ⟨b, hb, rfl⟩ := Option.map_eq_some_iff.mp hx
      have hi : i < es.length := by rw [← asl]; exact (List.getElem?_eq_some_iff.mp hb).1
      obtain ⟨c, hc, hd⟩ := paired_get hp2 (i := i) (y := (es[i]).vs) (by rw [List.getElem?_map, List.getElem?_eq_getElem hi]; rfl)
      rw [hb] at hc
      cases hc
      exact ⟨b, es[i], rfl, e3 _ _ (e1 _ _ hd), hes.2 _ (List.getElem_mem hi), y⟩
end
end Vx

set_option Elab.async false
set_option linter.all false
set_option maxRecDepth 100000
set_option maxHeartbeats 4000000
namespace Vx
open PySem PySem.Spec PyProof.Rows L2 Evl
/-! comprehensions over lists that are known -/
theorem given_list {α : Type} (R : List α) (d : α) (p : α → Bool) (g : α → V) : given R.length (fun i => p (R.getD i d)) (fun i => g (R.getD i d)) = (R.filter p).map g := by
  have e : R = (List.range R.length).map (fun i => R.getD i d) := by
    refine List.ext_getElem? fun i => ?_
    rw [List.getElem?_map]
    by_cases h : i < R.length
    · rw [List.getElem?_range h, List.getElem?_eq_getElem h]
      simp [List.getD, List.getElem?_eq_getElem h]
    · rw [List.getElem?_eq_none (by omega), List.getElem?_eq_none (by rw [List.length_range]; omega)]
      rfl
  have e2 : (R.filter p).map g = (((List.range R.length).map (fun i => R.getD i d)).filter p).map g := by rw [← e]
  rw [e2, List.filter_map, List.map_map]
  rfl
theorem getD_at {α : Type} {R : List α} {d x : α} {i : Nat} (h : R[i]? = some x) : R.getD i d = x := by
  simp [List.getD, h]
section
variable {K : PySem.W.Frag} {a : Addr} {xs : List V} {g : TG} {te tk tv : TE} {t : TT} {vs : List Nat} {σ : L2.St} {H1 : Hp} {Q : VK}
theorem lc_given (f : Nat → Bool) (v : Nat → V) (s2 : Nat → L2.St) (hx : SqL K H1 a xs) (hz : xs.length ≤ 40000)
    (hg : ∀ (i : Nat) x, xs[i]? = some x → wipe (s2 i) vs = wipe σ vs ∧ ∀ H2, Ex H1 H2 → ∀ Q' : L2.St → Hp → Prop, (∀ H3, Ex H2 H3 → Q' (s2 i) H3) → g x (wipe σ vs) H2 Q')
    (ht : ∀ (i : Nat) x, xs[i]? = some x → EvT t (s2 i) H1 (f i)) (he : ∀ (i : Nat) x, xs[i]? = some x → f i = true → Ev te (s2 i) H1 (v i))
    (q : ∀ Dl H2, H1 Dl = none → Ex H1 H2 → H2 Dl = some (.lst (given xs.length f v)) → Q (.ref Dl) H2) :
    ∀ Dl, H1 Dl = none → ∃ W : Nat → Nat → Hp → Prop, (∃ m, W 0 m (upd H1 Dl (.lst []))) ∧ ∀ i m H, W i m H →
      ((Itl K a).stop i H ∧ Q (.ref Dl) H) ∨ ((Itl K a).go i H ∧ ∃ Nx : Hp → Prop, (∀ H', Nx H' → ∃ m', m' < m ∧ W (i + 1) m' H') ∧ ∀ x H', (Itl K a).yld i H x H' → g x (wipe σ vs) H' fun σ2 H2 => wipe σ2 vs = wipe σ vs ∧ t σ2 H2 fun b H3 =>
        if b = true then te σ2 H3 fun y H4 => ∃ acc, H4 Dl = some (.lst acc) ∧ acc.length < sizeLine ∧ Nx (upd H4 Dl (.lst (acc ++ [y]))) else Nx H3) := fun Dl hD =>
  lc_list (xs := xs) (Cw H1 f v Dl) ⟨hD, Ex.new hD, upd_same⟩ (fun i H' _ p => ex_l p.2.1 hx)
    (fun i x H' hi p => (hg i x hi).2 H' p.2.1 _ fun H3 e3 => ⟨(hg i x hi).1, cw_turn ⟨p.1, p.2.1.trans e3, e3 _ _ p.2.2⟩ (by have := (List.getElem?_eq_some_iff.mp hi).1; omega) (ht i x hi) (he i x hi)⟩)
    (fun H' p => q Dl H' p.1 p.2.1 p.2.2)
/-- .. of pairs: what a dict gets -/
def dgiven (n : Nat) (f : Nat → Bool) (k : Nat → Key) (v : Nat → V) : List (Key × V) := ((List.range n).filter f).map fun i => (k i, v i)
theorem dgiven_yes {n : Nat} {f : Nat → Bool} {k : Nat → Key} {v : Nat → V} (h : f n = true) : dgiven (n + 1) f k v = dgiven n f k v ++ [(k n, v n)] := by
  unfold dgiven
  rw [List.range_succ, List.filter_append, List.map_append, List.filter_cons, if_pos h]
  rfl
theorem dgiven_no {n : Nat} {f : Nat → Bool} {k : Nat → Key} {v : Nat → V} (h : f n = false) : dgiven (n + 1) f k v = dgiven n f k v := by
  unfold dgiven
  rw [List.range_succ, List.filter_append, List.map_append, List.filter_cons, if_neg (by rw [h]; decide)]
  exact List.append_nil _
theorem dgiven_len (n : Nat) (f : Nat → Bool) (k : Nat → Key) (v : Nat → V) : (dgiven n f k v).length ≤ n := by
  unfold dgiven
  rw [List.length_map]
  have h := List.length_filter_le f (List.range n)
  rw [List.length_range] at h
  exact h
theorem put_new {kvs : List (Key × V)} {k : Key} {v : V} (h : ∀ p ∈ kvs, p.1 ≠ k) : putK kvs k v = kvs ++ [(k, v)] := by
  unfold putK
  rw [if_neg]
  intro z
  obtain ⟨x, hx, e⟩ := List.any_eq_true.mp z
  exact h x hx (of_decide_eq_true e)
theorem dc_given (f : Nat → Bool) (k : Nat → Key) (v : Nat → V) (s2 : Nat → L2.St) (hx : SqL K H1 a xs) (hz : xs.length ≤ 40000)
    (hg : ∀ (i : Nat) x, xs[i]? = some x → wipe (s2 i) vs = wipe σ vs ∧ ∀ H2, Ex H1 H2 → ∀ Q' : L2.St → Hp → Prop, (∀ H3, Ex H2 H3 → Q' (s2 i) H3) → g x (wipe σ vs) H2 Q')
    (ht : ∀ (i : Nat) x, xs[i]? = some x → EvT t (s2 i) H1 (f i)) (hk : ∀ (i : Nat) x, xs[i]? = some x → f i = true → Ev tk (s2 i) H1 (kV (k i))) (hv : ∀ (i : Nat) x, xs[i]? = some x → f i = true → Ev tv (s2 i) H1 (v i))
    (hd : ∀ i j, j < i → i < xs.length → f i = true → f j = true → k j ≠ k i)
    (q : ∀ Dl H2, H1 Dl = none → Ex H1 H2 → H2 Dl = some (.dK (dgiven xs.length f k v)) → Q (.ref Dl) H2) :
    ∀ Dl, H1 Dl = none → ∃ W : Nat → Nat → Hp → Prop, (∃ m, W 0 m (upd H1 Dl (.dK []))) ∧ ∀ i m H, W i m H →
      ((Itl K a).stop i H ∧ Q (.ref Dl) H) ∨ ((Itl K a).go i H ∧ ∃ Nx : Hp → Prop, (∀ H', Nx H' → ∃ m', m' < m ∧ W (i + 1) m' H') ∧ ∀ x H', (Itl K a).yld i H x H' → g x (wipe σ vs) H' fun σ2 H2 => wipe σ2 vs = wipe σ vs ∧ t σ2 H2 fun b H3 =>
        if b = true then tk σ2 H3 fun y H4 => tv σ2 H4 fun z H5 => ∃ kvs k, y = kV k ∧ H5 Dl = some (.dK kvs) ∧ kvs.length < sizeLine ∧ Nx (upd H5 Dl (.dK (putK kvs k z))) else Nx H3) := fun Dl hD => by
  let I : Nat → Hp → Prop := fun i H => Ex H1 H ∧ H Dl = some (.dK (dgiven i f k v))
  refine ⟨fun i m H => m = xs.length - i ∧ i ≤ xs.length ∧ I i H, ⟨xs.length, rfl, Nat.zero_le _, Ex.new hD, upd_same⟩, ?_⟩
  rintro i m H ⟨rfl, hi, p⟩
  have sq := ex_l p.1 hx
  rcases Nat.lt_or_ge i xs.length with hlt | hge
  · have hxi : xs[i]? = some xs[i] := List.getElem?_eq_getElem hlt
    refine .inr ⟨⟨xs, xs[i], sq, hxi⟩, I (i + 1), fun H' p' => ⟨xs.length - (i + 1), by omega, rfl, hlt, p'⟩, fun x H' y => ?_⟩
    obtain ⟨rfl, y⟩ := y
    have hxx := y xs sq
    refine (hg i x hxx).2 H' p.1 _ fun H3 e3 => ⟨(hg i x hxx).1, ?_⟩
    refine ht i x hxx H3 (p.1.trans e3) _ fun H4 e4 => ?_
    cases hf : f i with
    | true =>
      show tk (s2 i) H4 fun y H4 => tv (s2 i) H4 fun z H5 => ∃ kvs k, y = kV k ∧ H5 Dl = some (.dK kvs) ∧ kvs.length < sizeLine ∧ I (i + 1) (upd H5 Dl (.dK (putK kvs k z)))
      have E4 := (p.1.trans e3).trans e4
      refine hk i x hxx hf H4 E4 _ fun H5 e5 => hv i x hxx hf H5 (E4.trans e5) _ fun H6 e6 => ⟨dgiven i f k v, k i, rfl, e6 _ _ (e5 _ _ (e4 _ _ (e3 _ _ p.2))), sz_lt (by have := dgiven_len i f k v; omega), Ex.mut ((E4.trans e5).trans e6) hD, ?_⟩
      rw [upd_same, dgiven_yes hf, put_new]
      intro z hzm
      unfold dgiven at hzm
      obtain ⟨j, hj, rfl⟩ := List.mem_map.mp hzm
      have hj2 := List.mem_filter.mp hj
      exact hd i j (List.mem_range.mp hj2.1) hlt hf hj2.2
    | false =>
      show I (i + 1) H4
      refine ⟨(p.1.trans e3).trans e4, ?_⟩
      rw [dgiven_no hf]
      exact e4 _ _ (e3 _ _ p.2)
  · have e : i = xs.length := by omega
    subst e
    exact .inl ⟨⟨xs, sq, Nat.le_refl _⟩, q Dl H hD p.1 p.2⟩
theorem el_lcG {tl : TE} {H : Hp} (f : Nat → Bool) (v : Nat → V) (s2 : Nat → L2.St) (h : Ev tl σ H (.ref a)) (hx : SqL K H a xs) (hz : xs.length ≤ 40000)
    (hg : ∀ (i : Nat) x, xs[i]? = some x → wipe (s2 i) vs = wipe σ vs ∧ ∀ H2, Ex H H2 → ∀ Q' : L2.St → Hp → Prop, (∀ H3, Ex H2 H3 → Q' (s2 i) H3) → g x (wipe σ vs) H2 Q')
    (ht : ∀ (i : Nat) x, xs[i]? = some x → EvT t (s2 i) H (f i)) (he : ∀ (i : Nat) x, xs[i]? = some x → f i = true → Ev te (s2 i) H (v i)) : EvL (tLc (iList K tl) g t te vs) σ H (given xs.length f v) := fun H0 e Q q => h H0 e _ fun H1 e1 =>
  ⟨a, rfl, ⟨xs, ex_l (e.trans e1) hx⟩, lc_given f v s2 (ex_l (e.trans e1) hx) hz (fun i x hi => ⟨(hg i x hi).1, fun H2 e2 => (hg i x hi).2 H2 ((e.trans e1).trans e2)⟩) (fun i x hi => (ht i x hi).mono (e.trans e1)) (fun i x hi hf => (he i x hi hf).mono (e.trans e1))
    fun Dl H2 n e2 h2 => q Dl H2 (fresh_back e1 n) (e1.trans e2) h2⟩
end
end Vx
namespace Vx
open PySem PySem.Spec PyProof.Rows L2 Evl
section
variable {K : PySem.W.Frag} {xs : List V} {g : TG} {te tl : TE} {t : TT} {vs : List Nat} {σ : L2.St} {H : Hp}
/-- over a new list, any target -/
theorem el_lcNG (f : Nat → Bool) (v : Nat → V) (s2 : Nat → L2.St) (h : EvL tl σ H xs) (hz : xs.length ≤ 40000)
    (hg : ∀ (i : Nat) x, xs[i]? = some x → wipe (s2 i) vs = wipe σ vs ∧ ∀ H2, Ex H H2 → ∀ Q' : L2.St → Hp → Prop, (∀ H3, Ex H2 H3 → Q' (s2 i) H3) → g x (wipe σ vs) H2 Q')
    (ht : ∀ (i : Nat) x, xs[i]? = some x → EvT t (s2 i) H (f i)) (he : ∀ (i : Nat) x, xs[i]? = some x → f i = true → Ev te (s2 i) H (v i)) : EvL (tLc (iList K tl) g t te vs) σ H (given xs.length f v) := fun H0 e Q q => h H0 e _ fun a H1 na e1 h1 =>
  ⟨a, rfl, ⟨xs, sq_of h1⟩, lc_given f v s2 (sq_of h1) hz (fun i x hi => ⟨(hg i x hi).1, fun H2 e2 => (hg i x hi).2 H2 ((e.trans e1).trans e2)⟩) (fun i x hi => (ht i x hi).mono (e.trans e1)) (fun i x hi hf => (he i x hi hf).mono (e.trans e1))
    fun Dl H2 n e2 h2 => q Dl H2 (fresh_back e1 n) (e1.trans e2) h2⟩
end
end Vx

set_option Elab.async false
set_option linter.all false
set_option maxRecDepth 100000
set_option maxHeartbeats 4000000
namespace Vx
open PySem PySem.Spec PyProof.Rows L2 Evl
def En.hd : En → Str
  | .push _ => "push"
  | .pop _ => "pop"
  | .size _ => "size"
  | .steal _ _ => "steal"
def En.isPu : En → Bool
  | .push _ => true
  | _ => false
def En.isRe : En → Bool
  | .pop _ => true
  | .steal _ _ => true
  | _ => false
/-- the item -/
def En.it : En → Str
  | .push x => x
  | .pop x => x
  | .size _ => ""
  | .steal _ x => x
theorem En.at0 (e : En) : atI e.vs 0 = some (.str e.hd) := by cases e <;> rfl
theorem hdT : ∀ a ∈ ([("push", "push", true), ("pop", "push", false), ("size", "push", false), ("steal", "push", false), ("push", "pop", false), ("pop", "pop", true), ("size", "pop", false), ("steal", "pop", false)] : List (Str × Str × Bool)), decide (V.str a.1 = V.str a.2.1) = a.2.2 := by decide +kernel
theorem hdR : ∀ a ∈ ([("push", false), ("pop", true), ("size", false), ("steal", true)] : List (Str × Bool)), inV (V.str a.1) [.str "pop", .str "steal"] = a.2 := by decide +kernel
theorem En.isPu_eq (e : En) : decide (V.str e.hd = V.str "push") = e.isPu := by
  cases e
  · exact hdT ("push", "push", true) (by simp)
  · exact hdT ("pop", "push", false) (by simp)
  · exact hdT ("size", "push", false) (by simp)
  · exact hdT ("steal", "push", false) (by simp)
def En.isPo : En → Bool
  | .pop _ => true
  | _ => false
theorem En.isPo_eq (e : En) : decide (V.str e.hd = V.str "pop") = e.isPo := by
  cases e
  · exact hdT ("push", "pop", false) (by simp)
  · exact hdT ("pop", "pop", true) (by simp)
  · exact hdT ("size", "pop", false) (by simp)
  · exact hdT ("steal", "pop", false) (by simp)
theorem En.isRe_eq (e : En) : inV (V.str e.hd) [.str "pop", .str "steal"] = e.isRe := by
  cases e
  · exact hdR ("push", false) (by simp)
  · exact hdR ("pop", true) (by simp)
  · exact hdR ("size", false) (by simp)
  · exact hdR ("steal", true) (by simp)
theorem En.at1 {e : En} (h : e.isPu = true) : atI e.vs 1 = some (.str e.it) := by cases e <;> first | rfl | cases h
theorem En.atL {e : En} (h : e.isRe = true) : atI e.vs (-1) = some (.str e.it) := by cases e <;> first | rfl | cases h
theorem pus_eq (es : List En) : pus es = (es.filter En.isPu).map En.it := by
  induction es with
  | nil => rfl
  | cons e es ih =>
    have : pus (e :: es) = e.pu ++ pus es := by unfold pus; rw [List.flatMap_cons]
    rw [this, ih]
    cases e <;> rfl
theorem res_eq (es : List En) : res es = (es.filter En.isRe).map En.it := by
  induction es with
  | nil => rfl
  | cons e es ih =>
    have : res (e :: es) = e.re ++ res es := by unfold res; rw [List.flatMap_cons]
    rw [this, ih]
    cases e <;> rfl
def spPushed : Sp := fun vs H Q _ => ∃ (p : Addr) (es : List En), vs = [.ref p] ∧ TL H p (es.map En.vs) ∧ es.length ≤ 60 ∧ ∀ r H', H r = none → Ex H H' → H' r = some (.lst ((pus es).map V.str)) → Q (.ref r) H'
section
variable {P : Program} {w : World} {K : PySem.W.Frag} {mg : Str → Option Value} {base : Heap}
end
end Vx

set_option Elab.async false
set_option linter.all false
set_option maxRecDepth 100000
set_option maxHeartbeats 4000000
namespace Vx
open PySem PySem.Spec PyProof.Rows L2 Evl
/-- logs that are read: the dict may be locked, while something else that changes is at hand -/
structure HLr (H : Hp) (d : Addr) (ws : List Str) (ps : List Addr) (L : List (List En)) : Prop where
  dk : H d = some (.dK (Dk ws ps)) ∨ (∃ od, H d = some (.frz od (.dK (Dk ws ps)))) ∧ ∃ (z : Addr) (xs : List V), H z = some (.lst xs) ∧ z ∉ ps
  pl : ps.length = ws.length
  lg : ∀ (i : Nat) (p : Addr) (es : List En), ps[i]? = some p → L[i]? = some es → TL H p (es.map En.vs)
theorem HL.r {H : Hp} {d : Addr} {ws : List Str} {ps : List Addr} {L : List (List En)} (h : HL H d ws ps L) : HLr H d ws ps L := ⟨Or.inl h.dk, h.pl, h.lg⟩
theorem HLr.rd {H : Hp} {d : Addr} {ws : List Str} {ps : List Addr} {L : List (List En)} (h : HLr H d ws ps L) : Rd H d (.dK (Dk ws ps)) := h.dk.imp id fun z => z.1
theorem HLr.ex {H H' : Hp} {d : Addr} {ws : List Str} {ps : List Addr} {L : List (List En)} (h : HLr H d ws ps L) (e : Ex H H') : HLr H' d ws ps L := by
  refine ⟨h.dk.imp (fun z => e _ _ z) (fun ⟨⟨od, a⟩, z, xs, b, c⟩ => ⟨⟨od, e _ _ a⟩, z, xs, e _ _ b, c⟩), h.pl, fun i p es h1 h2 => (h.lg i p es h1 h2).ex e⟩
theorem dget_r {H : Hp} {a : Addr} {kvs : List (Key × V)} {k : Key} (e : Rd H a (.dK kvs)) : DGet H a (kV k) (valV kvs k) := .inl ⟨kvs, k, e, rfl, rfl⟩
theorem ev_dgetQ {σ : L2.St} {H : Hp} {td ty : TE} {d : Addr} {kvs : List (Key × V)} {x : Str} {v : V} (h1 : Evl.Ev td σ H (.ref d)) (h2 : Evl.Ev ty σ H (.str x)) (hd : Rd H d (.dK kvs)) (hv : valV kvs (.inr x) = some v) : Evl.Ev (tDGet td ty) σ H v := fun H1 e Q q =>
  h1 H1 e _ fun H2 e2 => h2 H2 (e.trans e2) _ fun H3 e3 => ⟨d, v, rfl, .inl ⟨kvs, .inr x, ex_rd (e.trans (e2.trans e3)) hd, rfl, hv.symm⟩, q H3 (e2.trans e3)⟩
theorem call_lenR {X : Cx} : CallR X (.builtin "len") (fun xs H Q => ∃ (a : Addr) (kvs : List (Key × V)), xs = [.ref a] ∧ Rd H a (.dK kvs) ∧ Q (.int kvs.length) H) := fun pins s σ H xs us Q I r ⟨a, kvs, e, ha, q⟩ => by
  subst e
  obtain ⟨u, rfl, ru⟩ := vals1 r
  cases ru
  exact d_len I ha fun t s' I' => ⟨.int kvs.length, H, I', ⟨t, rfl⟩, q⟩
theorem TL.frzL {z p : Addr} {H : Hp} {xs : List V} {o : HO} {ts : List (List V)} (t : TL H p ts) (h : H z = some (.lst xs)) (n : p ≠ z) : TL (upd H z o) p ts := t.keep (fun a x w => by rw [upd_ne (fun e => by rw [e, h] at w; cases w)]; exact w) (upd_ne n)
end Vx

set_option Elab.async false
set_option linter.all false
set_option maxRecDepth 100000
set_option maxHeartbeats 4000000
namespace Vx
open PySem PySem.Spec PyProof.Rows L2 Evl
/-! all entries, in the order of the workers -/
structure RowA where
  w : Str
  i : Nat
  e : En
  b : Addr
  c : Addr
def RowAt (H : Hp) (a : Addr) (r : RowA) : Prop := H a = some (.tup [.ref r.b, .ref r.c]) ∧ H r.b = some (.tup [.str r.w, .int (r.i : Int)]) ∧ H r.c = some (.tup r.e.vs)
theorem RowAt.tk {H H' : Hp} {a : Addr} {r : RowA} (h : RowAt H a r) (k : TK H H') : RowAt H' a r := ⟨k _ _ h.1, k _ _ h.2.1, k _ _ h.2.2⟩
abbrev Tri := Str × Nat × En
def RowA.tri (r : RowA) : Tri := (r.w, r.i, r.e)
abbrev Lg := Str × Addr × List En
def rw1 (z : Lg) : List Tri := z.2.2.zipIdx.map fun x => (z.1, x.2, x.1)
def Rw (zs : List Lg) : List Tri := zs.flatMap rw1
theorem rw1_at {z : Lg} {j : Nat} {e : En} (h : z.2.2[j]? = some e) : (rw1 z)[j]? = some (z.1, j, e) := by
  unfold rw1
  rw [List.getElem?_map, List.getElem?_zipIdx, h]
  simp
theorem rw1_len (z : Lg) : (rw1 z).length = z.2.2.length := by
  unfold rw1
  rw [List.length_map, List.length_zipIdx]
theorem perm_lift {α β : Type} (f : α → β) : ∀ {ys l : List β}, ys.Perm l → ∀ {T : List α}, T.map f = l → ∃ zs : List α, zs.Perm T ∧ zs.map f = ys := by
  intro ys l h
  induction h with
  | nil => exact fun {T} e => ⟨T, List.Perm.refl _, e⟩
  | cons x h ih =>
    intro T e
    cases T with
    | nil => cases e
    | cons t T =>
      rw [List.map_cons] at e
      injection e with e1 e2
      obtain ⟨zs, p1, p2⟩ := ih e2
      exact ⟨t :: zs, List.Perm.cons _ p1, by rw [List.map_cons, p2, e1]⟩
  | swap x y l =>
    intro T e
    match T, e with
    | t1 :: t2 :: T, e =>
      rw [List.map_cons, List.map_cons] at e
      injection e with e1 e2
      injection e2 with e2 e3
      exact ⟨t2 :: t1 :: T, List.Perm.swap _ _ _, by rw [List.map_cons, List.map_cons, e1, e2, e3]⟩
  | trans h1 h2 ih1 ih2 =>
    intro T e
    obtain ⟨zs, p1, p2⟩ := ih2 e
    obtain ⟨us, p3, p4⟩ := ih1 p2
    exact ⟨us, p3.trans p1, p4⟩
/-- the logs, each with its name and its place -/
def lgs (ws : List Str) (ps : List Addr) (L : List (List En)) : List Lg := ws.zip (ps.zip L)
theorem lgs_names {ws : List Str} {ps : List Addr} {L : List (List En)} (h1 : ps.length = ws.length) (h2 : L.length = ws.length) : (lgs ws ps L).map (·.1) = ws := by
  unfold lgs
  exact List.map_fst_zip (by rw [List.length_zip]; omega)
theorem lgs_at {ws : List Str} {ps : List Addr} {L : List (List En)} {z : Lg} (h : z ∈ lgs ws ps L) : ∃ k : Nat, ws[k]? = some z.1 ∧ ps[k]? = some z.2.1 ∧ L[k]? = some z.2.2 := by
  obtain ⟨k, hk⟩ := List.mem_iff_getElem?.mp h
  unfold lgs at hk
  rw [List.getElem?_zip_eq_some] at hk
  obtain ⟨h1, h2⟩ := hk
  rw [List.getElem?_zip_eq_some] at h2
  exact ⟨k, h1, h2.1, h2.2⟩
def spRows (K : PySem.W.Frag) : Sp := fun vs H Q _ => ∃ (d : Addr) (ws : List Str) (ps : List Addr) (L : List (List En)), vs = [.ref d] ∧ HLr H d ws ps L ∧ ws.Nodup ∧ ws.length ≤ 6 ∧ L.length = ws.length ∧ (∀ es ∈ L, es.length ≤ 60) ∧
  ∀ p (as : List Addr) (R : List RowA) (zs : List Lg) H', H p = none → Ex H H' → H' p = some (.lst (as.map V.ref)) → Paired (RowAt H') as R → zs.Perm (lgs ws ps L) → sortedS (zs.map (·.1)) = true → R.map RowA.tri = Rw zs → as.length ≤ 360 → Q (.ref p) H'
section
variable {P : Program} {w : World} {K : PySem.W.Frag} {mg : Str → Option Value} {base : Heap}
theorem sc_all_entries : FnScope ["logs", "worker", "index", "entry"] ["logs"] (defScope s_all_entries) := ⟨rfl, rfl, rfl, by decide +kernel, rfl, by decide +kernel, by decide +kernel⟩
theorem ok_all_entries (D : Def K mg "all_entries" s_all_entries ["logs"]) (T : Bl mg) : Good P w K mg base 1 "all_entries" ["logs"] (spRows K) := by
  refine D.good sc_all_entries (fun vs H Q E h => ?_) (fun f cdv A outer s H vs Q E hr h => ?_)
  · obtain ⟨d, ws, ps, L, rfl, _⟩ := h
    rfl
  · obtain ⟨d, ws, ps, L, rfl, hl, nd, wl, ll, el, q⟩ := h
    have hu := hu_of hr
    refine ⟨_, (pss_one (ps_ret (pe_lc2 (own := [("worker", 1), ("index", 2), ("entry", 3)]) (vs1 := [2, 3]) (g := (gName 1)) (g1 := (gTup K 2 (gCons (gName 2) (gCons (gName 3) gNil)))) (tt := tYes) (tt1 := tYes) rfl sc_all_entries.nd (x_pil (K := K) (pe_callB (call_sortedD rfl) (by rfl) T.sorted (by decide +kernel) (pa_cons (pv 0) pa_nil))) (blkOk_by (N := ["logs", "worker", "index", "entry"]) (sc := (defScope s_all_entries)) (by decide +kernel)) (by decide) (fun _ _ _ _ _ => (pg_name (i := 1) sc_all_entries.nd rfl (Or.inl rfl))) (fun _ _ _ _ _ => pts_nil) (fun _ _ _ _ _ => (x_enum (K := K) T (pe_dget hu (pv 0) (pv 1) (fun _ _ => rfl)))) (fun _ _ _ _ _ => (x_gt (K := K) (pgs_cons (pg_name (i := 2) sc_all_entries.nd rfl (Or.inl rfl)) (pgs_cons (pg_name (i := 3) sc_all_entries.nd rfl (Or.inl rfl)) pgs_nil)))) (fun _ _ _ _ _ => pts_nil) (fun _ _ _ _ _ => (pe_tup (pa_cons (pe_tup (pa_cons (pv 1) (pa_cons (pv 2) pa_nil))) (pa_cons (pv 3) pa_nil))))))), ?_⟩
    have hkeys := dk_keys (ws := ws) hl.pl
    refine ⟨.ref d, rfl, d, Dk ws ps, ws, rfl, hl.rd, hkeys, by omega, fun ys p0 hpm hso n0 => ?_⟩
    obtain ⟨zs, hz1, hz2⟩ := perm_lift (fun z : Lg => z.1) hpm (lgs_names hl.pl ll)
    subst hz2
    have zl : zs.length ≤ 6 := by
      have := hpm.length_eq
      rw [List.length_map] at this
      omega
    have e0 : Ex H (upd H p0 (.lst ((zs.map (·.1)).map V.str))) := Ex.new n0
    generalize hH0 : upd H p0 (.lst ((zs.map (·.1)).map V.str)) = H0 at e0
    have h0 : H0 p0 = some (.lst ((zs.map (·.1)).map V.str)) := by rw [← hH0]; exact upd_same
    clear hH0
    refine ⟨p0, rfl, ⟨_, sq_of h0⟩, fun Dl hD => ?_⟩
    have nD : p0 ≠ Dl := ne_of_none h0 hD
    let Iv : Nat → Nat → List Tri → Hp → Prop := fun i j done H' => Ex H0 H' ∧ ∃ (as : List Addr) (R : List RowA), H' Dl = some (.lst (as.map V.ref)) ∧ as.length ≤ 60 * i + j ∧ Paired (RowAt H') as R ∧ R.map RowA.tri = done
    refine ⟨fun i m H' => m = zs.length - i ∧ i ≤ zs.length ∧ Iv i 0 (Rw (zs.take i)) H', ⟨zs.length, rfl, Nat.zero_le _, Ex.new hD, [], [], upd_same, Nat.zero_le _, .nil, rfl⟩, ?_⟩
    rintro i m H1 ⟨rfl, hi, e1, as, R, ha, hal, hR, hRt⟩
    rcases Nat.lt_or_ge i zs.length with hlt | hge
    · have hzi : zs[i]? = some zs[i] := List.getElem?_eq_getElem hlt
      generalize zs[i] = z at hzi
      have hxi : ((zs.map (·.1)).map V.str)[i]? = some (.str z.1) := by rw [List.getElem?_map, List.getElem?_map, hzi]; rfl
      obtain ⟨k, k1, k2, k3⟩ := lgs_at (hz1.mem_iff.mp (List.mem_of_getElem? hzi))
      have tl := (hl.ex e0).lg k _ _ k2 k3
      have es60 := el _ (List.mem_of_getElem? k3)
      refine .inr ⟨⟨_, _, sq_of (e1 _ _ h0), hxi⟩, fun H' => Iv (i + 1) 0 (Rw (zs.take (i + 1))) H', fun H' p' => ⟨zs.length - (i + 1), by omega, rfl, hlt, p'⟩, fun x H1 y => ?_⟩
      obtain ⟨rfl, y⟩ := y
      have hx := y _ (sq_of (e1 _ _ h0))
      rw [hxi] at hx
      cases hx
      have hT : Rw (zs.take (i + 1)) = Rw (zs.take i) ++ rw1 z := by
        have : zs.take (i + 1) = zs.take i ++ [z] := by
          rw [List.take_add_one, hzi]
          rfl
        rw [this]
        unfold Rw
        rw [List.flatMap_append, List.flatMap_cons, List.flatMap_nil, List.append_nil]
      refine ⟨rfl, ?_⟩
      have hl1 := hl.ex (e0.trans e1)
      have dg := dget_r (k := .inr z.1) hl1.rd
      rw [dk_get nd k1 k2] at dg
      obtain ⟨cs, hcs, hcp⟩ := tl
      have csl : cs.length = z.2.2.length := by rw [hcp.length, List.length_map]
      refine ⟨.ref d, rfl, _, rfl, d, .ref z.2.1, rfl, dg, z.2.1, cs.map V.ref, rfl, sq_of (e1 _ _ hcs), ?_⟩
      refine ⟨fun j m H' => m = cs.length - j ∧ j ≤ cs.length ∧ Iv i j (Rw (zs.take i) ++ (rw1 z).take j) H', ⟨cs.length, rfl, Nat.zero_le _, e1, as, R, ha, hal, hR, by rw [hRt]; simp⟩, ?_⟩
      rintro j m H2 ⟨rfl, hj, e12, as2, R2, ha2, hal2, hR2, hRt2⟩
      rcases Nat.lt_or_ge j cs.length with jlt | jge
      · have hcj : (cs.map V.ref)[j]? = some (.ref cs[j]) := by rw [List.getElem?_map, List.getElem?_eq_getElem jlt]; rfl
        obtain ⟨e, he⟩ : ∃ e, z.2.2[j]? = some e := ⟨_, List.getElem?_eq_getElem (by omega)⟩
        obtain ⟨c, hc1, hc2⟩ := paired_get hcp (i := j) (y := e.vs) (by rw [List.getElem?_map, he]; rfl)
        rw [List.getElem?_eq_getElem jlt] at hc1
        have hc1 := Option.some.inj hc1
        refine .inr ⟨⟨_, _, sq_of (e12 _ _ hcs), hcj⟩, fun H' => Iv i (j + 1) (Rw (zs.take i) ++ (rw1 z).take (j + 1)) H', fun H' p' => ⟨cs.length - (j + 1), by omega, rfl, jlt, p'⟩, fun x H' y => ?_⟩
        obtain ⟨T, x, rfl, hT0, rfl, y⟩ := y
        have hx := y _ (sq_of (e12 _ _ hcs))
        rw [hcj] at hx
        cases hx
        refine ⟨T, _, rfl, st_of upd_same, rfl, _, _, rfl, _, _, rfl, rfl, rfl, ?_⟩
        have e3 : Ex H2 (upd H2 T (.tup [.int (j : Nat), .ref cs[j]])) := Ex.new hT0
        have ha3 := e3 _ _ ha2
        generalize hH3 : upd H2 T (.tup [.int (j : Nat), .ref cs[j]]) = H3 at e3 ha3
        clear hH3
        refine ⟨_, rfl, _, rfl, (by show 2 ≤ sizeLine; decide), fun b hb => ⟨_, rfl, (by show 2 ≤ sizeLine; decide), fun t ht => ?_⟩⟩
        have n1 : Dl ≠ b := ne_of_none ha3 hb
        have e4 : Ex H3 (upd H3 b (.tup [.str z.1, .int (j : Nat)])) := Ex.new hb
        have n2 : Dl ≠ t := ne_of_none (e4 _ _ ha3) ht
        have nbt : b ≠ t := ne_of_none (H := upd H3 b (.tup [.str z.1, .int (j : Nat)])) upd_same ht
        have hD4 : (upd (upd H3 b (.tup [.str z.1, .int (j : Nat)])) t (.tup [.ref b, .ref cs[j]])) Dl = some (.lst (as2.map V.ref)) := by
          rw [upd_ne n2, upd_ne n1]
          exact ha3
        refine ⟨as2.map V.ref, hD4, by rw [List.length_map]; exact sz_lt (by omega), ?_⟩
        have e5 : Ex H2 (upd (upd H3 b (.tup [.str z.1, .int (j : Nat)])) t (.tup [.ref b, .ref cs[j]])) := e3.trans (e4.trans (Ex.new ht))
        have tk := (tk_ex e5).trans (tk_upd (o := .lst (as2.map V.ref ++ [.ref t])) hD4)
        refine ⟨?_, as2 ++ [t], R2 ++ [⟨z.1, j, e, b, cs[j]⟩], by rw [upd_same, List.map_append]; rfl, by rw [List.length_append]; show as2.length + 1 ≤ _; omega, Paired.snoc (paired_imp (fun a r h => RowAt.tk h tk) hR2) ⟨?_, ?_, ?_⟩, ?_⟩
        · exact Ex.mut (e12.trans e5) hD
        · rw [upd_ne n2.symm, upd_same]
        · rw [upd_ne n1.symm, upd_ne nbt, upd_same]
        · refine tk _ _ (e12 _ _ ?_)
          rw [hc1]
          exact hc2
        · rw [List.map_append, hRt2, List.append_assoc]
          congr 1
          rw [List.take_add_one, rw1_at he]
          rfl
      · have : j = cs.length := by omega
        subst this
        refine .inl ⟨⟨_, sq_of (e12 _ _ hcs), by rw [List.length_map]; exact Nat.le_refl _⟩, e12, as2, R2, ha2, by omega, hR2, ?_⟩
        rw [hRt2, hT, csl, ← rw1_len, List.take_length]
    · have : i = zs.length := by omega
      subst this
      refine .inl ⟨⟨_, sq_of (e1 _ _ h0), by rw [List.length_map, List.length_map]; exact Nat.le_refl _⟩, ?_⟩
      rw [List.take_length] at hRt
      exact q Dl as R zs H1 (fresh_back e0 hD) (e0.trans e1) ha hR hz1 hso hRt (by omega)
end
end Vx

set_option Elab.async false
set_option linter.all false
set_option maxRecDepth 100000
set_option maxHeartbeats 4000000
namespace Vx
open PySem PySem.Spec PyProof.Rows L2 Evl
theorem perm_flat {α β : Type} {f : α → List β} {xs ys : List α} (h : xs.Perm ys) : (xs.flatMap f).Perm (ys.flatMap f) := by
  induction h with
  | nil => exact List.Perm.refl _
  | cons x h ih =>
    rw [List.flatMap_cons, List.flatMap_cons]
    exact List.Perm.append_left _ ih
  | swap x y l =>
    rw [List.flatMap_cons, List.flatMap_cons, List.flatMap_cons, List.flatMap_cons, ← List.append_assoc, ← List.append_assoc]
    exact List.Perm.append_right _ List.perm_append_comm
  | trans h1 h2 i1 i2 => exact i1.trans i2
theorem lgs_logs {ws : List Str} {ps : List Addr} {L : List (List En)} (h1 : ps.length = ws.length) (h2 : L.length = ws.length) : (lgs ws ps L).map (·.2.2) = L := by
  unfold lgs
  have e1 : ((ws.zip (ps.zip L)).map (·.2)) = ps.zip L := List.map_snd_zip (by rw [List.length_zip]; omega)
  have e2 : ((ps.zip L).map (·.2)) = L := List.map_snd_zip (by omega)
  have : (ws.zip (ps.zip L)).map (fun z => z.2.2) = ((ws.zip (ps.zip L)).map (·.2)).map (·.2) := by
    rw [List.map_map]
    rfl
  rw [this, e1, e2]
theorem rw1_es (z : Lg) : (rw1 z).map (·.2.2) = z.2.2 := by
  unfold rw1
  rw [List.map_map]
  have : ((fun x : Tri => x.2.2) ∘ fun x : En × Nat => (z.1, x.2, x.1)) = Prod.fst := rfl
  rw [this, List.zipIdx_map_fst]
theorem rows_es {R : List RowA} {zs : List Lg} (h : R.map RowA.tri = Rw zs) : R.map (·.e) = zs.flatMap (·.2.2) := by
  have e1 : R.map (·.e) = (R.map RowA.tri).map (·.2.2) := by
    rw [List.map_map]
    rfl
  rw [e1, h]
  unfold Rw
  rw [List.map_flatMap]
  congr 1
  funext z
  exact rw1_es z
theorem rows_pus {R : List RowA} {zs : List Lg} (h : R.map RowA.tri = Rw zs) : (R.filter (·.e.isPu)).map (·.e.it) = zs.flatMap (fun z => pus z.2.2) := by
  have e1 : (R.filter (·.e.isPu)).map (·.e.it) = pus (R.map (·.e)) := by
    rw [pus_eq, List.filter_map, List.map_map]
    rfl
  rw [e1, rows_es h]
  unfold pus
  rw [List.flatMap_assoc]
theorem rows_res {R : List RowA} {zs : List Lg} (h : R.map RowA.tri = Rw zs) : (R.filter (·.e.isRe)).map (·.e.it) = zs.flatMap (fun z => res z.2.2) := by
  have e1 : (R.filter (·.e.isRe)).map (·.e.it) = res (R.map (·.e)) := by
    rw [res_eq, List.filter_map, List.map_map]
    rfl
  rw [e1, rows_es h]
  unfold res
  rw [List.flatMap_assoc]
theorem flat_lgs {f : List En → List Str} {ws : List Str} {ps : List Addr} {L : List (List En)} {zs : List Lg} (h1 : ps.length = ws.length) (h2 : L.length = ws.length) (h : zs.Perm (lgs ws ps L)) : (zs.flatMap (fun z => f z.2.2)).Perm (L.flatMap f) := by
  refine (perm_flat h).trans (List.Perm.of_eq ?_)
  have : (lgs ws ps L).flatMap (fun z => f z.2.2) = ((lgs ws ps L).map (·.2.2)).flatMap f := by rw [List.flatMap_map]
  rw [this, lgs_logs h1 h2]
theorem nd_apart {α β : Type} {R : List α} {p : α → Bool} {g : α → β} (h : ((R.filter p).map g).Nodup) {i j : Nat} {a b : α} (hij : j < i) (hi : R[i]? = some a) (hj : R[j]? = some b) (pa : p a = true) (pb : p b = true) : g b ≠ g a := by
  unfold List.Nodup at h
  rw [List.pairwise_map, List.pairwise_filter, List.pairwise_iff_getElem] at h
  obtain ⟨h1, h2⟩ := List.getElem?_eq_some_iff.mp hi
  obtain ⟨h3, h4⟩ := List.getElem?_eq_some_iff.mp hj
  have := h j i h3 h1 hij
  rw [h2, h4] at this
  exact this pb pa
theorem dgiven_list {α : Type} (R : List α) (d : α) (p : α → Bool) (k : α → Key) (g : α → V) : dgiven R.length (fun i => p (R.getD i d)) (fun i => k (R.getD i d)) (fun i => g (R.getD i d)) = (R.filter p).map fun r => (k r, g r) := by
  have e : R = (List.range R.length).map (fun i => R.getD i d) := by
    refine List.ext_getElem? fun i => ?_
    rw [List.getElem?_map]
    by_cases h : i < R.length
    · rw [List.getElem?_range h, List.getElem?_eq_getElem h]
      simp [List.getD, List.getElem?_eq_getElem h]
    · rw [List.getElem?_eq_none (by omega), List.getElem?_eq_none (by rw [List.length_range]; omega)]
      rfl
  have e2 : (R.filter p).map (fun r => (k r, g r)) = (((List.range R.length).map (fun i => R.getD i d)).filter p).map (fun r => (k r, g r)) := by rw [← e]
  rw [e2, List.filter_map, List.map_map]
  rfl
def row0 : RowA := ⟨"", 0, .size 0, 0, 0⟩
theorem row_at {H : Hp} {as : List Addr} {R : List RowA} (hR : Paired (RowAt H) as R) {i : Nat} {x : V} (hx : (as.map V.ref)[i]? = some x) : ∃ (a : Addr) (r : RowA), x = .ref a ∧ R[i]? = some r ∧ RowAt H a r := by
  rw [List.getElem?_map] at hx
  obtain ⟨a, ha, rfl⟩ := Option.map_eq_some_iff.mp hx
  have hi : i < R.length := by rw [← hR.length]; exact (List.getElem?_eq_some_iff.mp ha).1
  obtain ⟨c, hc, hd⟩ := paired_get hR (i := i) (y := R[i]) (List.getElem?_eq_getElem hi)
  rw [ha] at hc
  cases hc
  exact ⟨a, R[i], rfl, List.getElem?_eq_getElem hi, hd⟩
structure LgOk (ws : List Str) (L : List (List En)) : Prop where
  nd : ws.Nodup
  wl : ws.length ≤ 6
  ll : L.length = ws.length
  el : ∀ es ∈ L, es.length ≤ 60
theorem Vlog.ok {top : Nat} {ws : List Str} {L : List (List En)} (v : Vlog top ws L) (h : top ≤ 60) : LgOk ws L := ⟨v.wk.2.2.1, v.wk.2.1, v.len, fun es he => Nat.le_trans (v.ent es he).1 h⟩
/-- the places of the items that p holds -/
def Plc (p : En → Bool) (R : List RowA) : List (Key × V) := (R.filter fun r => p r.e).map fun r => (.inr r.e.it, .ref r.b)
def spPlc (p : En → Bool) (fl : List En → List Str) : Sp := fun vs H Q _ => ∃ (d : Addr) (ws : List Str) (ps : List Addr) (L : List (List En)), vs = [.ref d] ∧ HLr H d ws ps L ∧ LgOk ws L ∧ (L.flatMap fl).Nodup ∧
  ∀ q (as : List Addr) (R : List RowA) (zs : List Lg) H', H q = none → Ex H H' → H' q = some (.dK (Plc p R)) → Paired (RowAt H') as R → zs.Perm (lgs ws ps L) → sortedS (zs.map (·.1)) = true → R.map RowA.tri = Rw zs → Q (.ref q) H'
section
variable {P : Program} {w : World} {K : PySem.W.Frag} {mg : Str → Option Value} {base : Heap}
theorem sc_push_places : FnScope ["logs", "place", "entry"] ["logs"] (defScope s_push_places) := ⟨rfl, rfl, rfl, by decide +kernel, rfl, by decide +kernel, by decide +kernel⟩
theorem ok_push_places (D : Def K mg "push_places" s_push_places ["logs"]) (T : Bl mg) (G_all_entries : Good P w K mg base 1 "all_entries" ["logs"] (spRows K)) : Good P w K mg base 2 "push_places" ["logs"] (spPlc En.isPu pus) := by
  refine D.good sc_push_places (fun vs H Q E h => ?_) (fun f cdv A outer s H vs Q E hr h => ?_)
  · obtain ⟨d, ws, ps, L, rfl, _⟩ := h
    rfl
  · obtain ⟨d, ws, ps, L, rfl, hl, ok, hn, q⟩ := h
    have hu := hu_of hr
    refine ⟨_, (pss_one (ps_ret (pe_dc (own := [("place", 1), ("entry", 2)]) (g := (gTup K 2 (gCons (gName 1) (gCons (gName 2) gNil)))) rfl sc_push_places.nd (x_pil (K := K) (pe_fn (G_all_entries.mono (by decide)) hr (pa_cons (pv 0) pa_nil))) (blkOk_by (N := ["logs", "place", "entry"]) (sc := (defScope s_push_places)) (by decide +kernel)) (fun _ _ _ _ _ => (x_gt (K := K) (pgs_cons (pg_name (i := 1) sc_push_places.nd rfl (Or.inl rfl)) (pgs_cons (pg_name (i := 2) sc_push_places.nd rfl (Or.inl rfl)) pgs_nil)))) (fun _ _ _ _ _ => (pts_one (pt_cmpR op_eq (x_ixt (K := K) (pv 2) pe_int) pe_str (nomark _)))) (fun _ _ _ _ _ => (x_ixt (K := K) (pv 2) pe_int)) (fun _ _ _ _ _ => (pv 1))))), ?_⟩
    refine ⟨_, rfl, d, ws, ps, L, rfl, hl, ok.nd, ok.wl, ok.ll, ok.el, fun p as R zs H1 n1 e1 h1 hR hz hso hRt hal => ⟨p, rfl, ⟨_, sq_of h1⟩, ?_⟩⟩
    have ndp : ((R.filter (·.e.isPu)).map (·.e.it)).Nodup := by
      rw [rows_pus hRt]
      exact (flat_lgs (f := pus) hl.pl ok.ll hz).nodup_iff.mpr hn
    refine dc_given (fun i => (R.getD i row0).e.isPu) (fun i => .inr (R.getD i row0).e.it) (fun i => .ref (R.getD i row0).b) (fun i => [some (.ref d), some (.ref (R.getD i row0).b), some (.ref (R.getD i row0).c)]) (sq_of h1) (by rw [List.length_map]; omega) (fun i x hx => ?_) (fun i x hx => ?_) (fun i x hx hf => ?_) (fun i x hx hf => ?_) (fun i j hji hi hfi hfj => ?_) (fun Dl H2 n2 e2 h2 => ?_)
    · obtain ⟨a, r, rfl, hr, ha, hb, hc⟩ := row_at hR hx
      rw [getD_at hr]
      exact ⟨rfl, fun H2 e2 Q' q' => ⟨a, _, rfl, st_of (e2 _ _ ha), rfl, _, _, rfl, _, _, rfl, rfl, q' H2 (Ex.refl H2)⟩⟩
    · obtain ⟨a, r, rfl, hr, ha, hb, hc⟩ := row_at hR hx
      rw [getD_at hr]
      exact et_is (et_test (ev_op (ev_op (ev_var rfl) ev_c (rv_ixT (st_of hc) r.e.at0)) ev_c (rv_eq rfl))) r.e.isPu_eq
    · obtain ⟨a, r, rfl, hr, ha, hb, hc⟩ := row_at hR hx
      rw [getD_at hr] at hf ⊢
      exact ev_op (ev_var rfl) ev_c (rv_ixT (st_of hc) (r.e.at1 hf))
    · obtain ⟨a, r, rfl, hr, ha, hb, hc⟩ := row_at hR hx
      rw [getD_at hr]
      exact ev_var rfl
    · rw [List.length_map, hR.length] at hi
      have g1 := List.getElem?_eq_getElem hi
      have g2 := List.getElem?_eq_getElem (show j < R.length by omega)
      rw [getD_at g1] at hfi ⊢
      rw [getD_at g2] at hfj ⊢
      exact fun e => nd_apart (g := fun r : RowA => r.e.it) ndp hji g1 g2 hfi hfj (Sum.inr.inj e)
    · rw [List.length_map, hR.length] at h2
      have := dgiven_list R row0 (fun r => r.e.isPu) (fun r => .inr r.e.it) (fun r => .ref r.b)
      rw [this] at h2
      exact q Dl as R zs H2 (fresh_back e1 n2) (e1.trans e2) h2 (paired_imp (fun a r h => RowAt.tk h (tk_ex e2)) hR) hz hso hRt
end
end Vx

set_option Elab.async false
set_option linter.all false
set_option maxRecDepth 100000
set_option maxHeartbeats 4000000
namespace Vx
open PySem PySem.Spec PyProof.Rows L2 Evl
theorem x_ni {X : Cx} {K : PySem.W.Frag} (hK : X.K = K) : OpR X (compareOp .NotIn) (rIn K true) := by
  subst hK
  exact op_notIn_seq
theorem ev_dni {σ : L2.St} {H : Hp} {td ty : TE} {d : Addr} {kvs : List (Key × V)} {x : Str} {r : Option V} (h1 : Ev ty σ H (.str x)) (h2 : Ev td σ H (.ref d)) (hd : H d = some (.dK kvs)) (hv : valV kvs (.inr x) = r) : Ev (tDNotIn ty td) σ H (.bl (!r.isSome)) := fun H1 e Q q =>
  h1 H1 e _ fun H2 e2 => h2 H2 (e.trans e2) _ fun H3 e3 => ⟨d, r, rfl, by
    have := DGet.k (k := .inr x) (e3 _ _ (e2 _ _ (e _ _ hd)))
    rw [hv] at this
    exact this, q H3 (e2.trans e3)⟩
theorem s_unpack {K : PySem.W.Frag} {D : Ends} {σ : L2.St} {H : Hp} {te : TE} {a : Addr} {x y : V} {i j : Nat} (h : Ev te σ H (.ref a)) (ha : H a = some (.tup [x, y])) (k : ∀ H1, Ex H H1 → D.nx ((σ.set i (some x)).set j (some y)) H1) :
    tAsg te (gTup K 2 (gCons (gName i) (gCons (gName j) gNil))) D σ H := h H (Ex.refl H) _ fun H1 e1 => ⟨a, _, rfl, st_of (e1 _ _ ha), rfl, _, _, rfl, _, _, rfl, rfl, k H1 e1⟩
theorem En.isRe_not (e : En) : (!inV (V.str e.hd) [.str "pop", .str "steal"]) = !e.isRe := by rw [e.isRe_eq]
/-- what the removal e of the log w at i asks of the place of its item -/
def Fits (e : En) (w : Str) (i : Nat) (w' : Str) (i' : Nat) : Prop := match e with
  | .pop _ => w' = w ∧ i' < i
  | .steal o _ => w' = o ∧ o ≠ w
  | _ => True
def spFits : Sp := fun vs H Q _ => ∃ (pd b c : Addr) (kvs : List (Key × V)) (x : Str) (i : Nat) (e : En), vs = [.ref pd, .ref b, .ref c] ∧ H pd = some (.dK kvs) ∧ H b = some (.tup [.str x, .int (i : Int)]) ∧ H c = some (.tup e.vs) ∧
  (e.isRe = true → ∃ (b' : Addr) (x' : Str) (i' : Nat), valV kvs (.inr e.it) = some (.ref b') ∧ H b' = some (.tup [.str x', .int (i' : Int)]) ∧ Fits e x i x' i') ∧ Yes H Q
section
variable {P : Program} {w : World} {K : PySem.W.Frag} {mg : Str → Option Value} {base : Heap}
theorem sc_removal_fits : FnScope ["places", "place", "entry", "owner", "index"] ["places", "place", "entry"] (defScope s_removal_fits) := ⟨rfl, rfl, rfl, by decide +kernel, rfl, by decide +kernel, by decide +kernel⟩
theorem ok_removal_fits (D : Def K mg "removal_fits" s_removal_fits ["places", "place", "entry"]) (T : Bl mg) : Good P w K mg base 1 "removal_fits" ["places", "place", "entry"] (spFits) := by
  refine D.good sc_removal_fits (fun vs H Q E h => ?_) (fun f cdv A outer s H vs Q E hr h => ?_)
  · obtain ⟨pd, b, c, kvs, x, i, e, rfl, _⟩ := h
    rfl
  · obtain ⟨pd, b, c, kvs, x, i, e, rfl, hd, hb, hc, hf, q⟩ := h
    have hu := hu_of hr
    refine ⟨_, (pss_cons (ps_if (pt_cmpR (x_ni (K := K) rfl) (x_ixt (K := K) (pv 2) pe_int) (pe_tup (pa_cons pe_str (pa_cons pe_str pa_nil))) (by rfl)) (pss_one (ps_ret pe_bl)) pss_nil)
      (pss_cons (ps_if (pt_cmp (pc_dnotin hu (x_ixt (K := K) (pv 2) (pe_un un_neg pe_int)) (pv 0))) (pss_one (ps_ret pe_bl)) pss_nil)
      (pss_cons (ps_asg (pe_dget hu (pv 0) (x_ixt (K := K) (pv 2) (pe_un un_neg pe_int)) (fun _ _ => rfl)) (x_gt (K := K) (pgs_cons (pg_name (i := 3) sc_removal_fits.nd rfl (Or.inl rfl)) (pgs_cons (pg_name (i := 4) sc_removal_fits.nd rfl (Or.inl rfl)) pgs_nil))))
      (pss_cons (ps_if (pt_cmpR op_eq (x_ixt (K := K) (pv 2) pe_int) pe_str (nomark _)) (pss_one (ps_ret (pe_and (pe_cmpR op_eq (pv 3) (x_ixt (K := K) (pv 1) pe_int) (nomark _)) (pe_one (pe_cmpR op_lt (pv 4) (x_ixt (K := K) (pv 1) pe_int) (nomark _)))))) pss_nil)
      (pss_one (ps_ret (pe_and (pe_cmpR op_eq (pv 3) (x_ixt (K := K) (pv 2) pe_int) (nomark _)) (pe_one (pe_cmpR op_ne (pv 3) (x_ixt (K := K) (pv 1) pe_int) (nomark _)))))))))), ?_⟩
    refine s_if (b := !e.isRe) (et_is (et_test (ev_niU (ev_op (ev_var rfl) ev_c (rv_ixT (st_of hc) e.at0)) (eu_tup (ea_cons ev_c (ea_cons ev_c ea_nil)) (by show 2 ≤ 100000; decide)) rfl rfl)) e.isRe_not) (fun _ H1 e1 => ?_) (fun hn H1 e1 => ?_)
    · exact s_ret ev_c fun H2 e2 => q H2 (e1.trans e2)
    have hre : e.isRe = true := by
      cases h : e.isRe with
      | true => rfl
      | false => rw [h] at hn; cases hn
    obtain ⟨b', x', i', hv, hb', hfit⟩ := hf hre
    have last : ∀ {σ : L2.St} {H2 : Hp}, Ex H H2 → σ[2]? = some (some (.ref c)) → Ev (tOp (rIxT K) (tVar 2) (tUn (rU fun i => .int (-i)) (tC (.int 1)))) σ H2 (.str e.it) := fun e2 h => ev_op (ev_var h) (ev_un ev_c ru_neg) (rv_ixT (st_of (e2 _ _ hc)) (e.atL hre))
    refine s_if (b := false) (et_B (ev_is (ev_dni (last e1 rfl) (ev_var rfl) (e1 _ _ hd) hv) rfl)) (fun z => nomatch z) (fun _ H2 e2 => ?_)
    have E2 := e1.trans e2
    refine s_unpack (ev_dget (ev_var rfl) (last E2 rfl) (E2 _ _ hd) hv) (E2 _ _ hb') fun H3 e3 => ?_
    have E3 := E2.trans e3
    refine s_if (b := e.isPo) (et_is (et_test (ev_op (ev_op (ev_var rfl) ev_c (rv_ixT (st_of (E3 _ _ hc)) e.at0)) ev_c (rv_eq rfl))) e.isPo_eq) (fun hp H4 e4 => ?_) (fun hp H4 e4 => ?_)
    · have E4 := E3.trans e4
      cases e with
      | pop y =>
        obtain ⟨f1, f2⟩ : x' = x ∧ i' < i := hfit
        subst f1
        exact s_ret (ev_andV (a := true) (b := true) (ev_is (ev_op (ev_var rfl) (ev_op (ev_var rfl) ev_c (rv_ixT (st_of (E4 _ _ hb)) rfl)) (rv_eq rfl)) (by simp)) (fun _ => ev_is (ev_op (ev_var rfl) (ev_op (ev_var rfl) ev_c (rv_ixT (st_of (E4 _ _ hb)) rfl)) rv_I0) (by simp; omega))) fun H5 e5 => q H5 (E4.trans e5)
      | push y => cases hp
      | size k => cases hp
      | steal o y => cases hp
    · have E4 := E3.trans e4
      cases e with
      | steal o y =>
        obtain ⟨f1, f2⟩ : x' = o ∧ o ≠ x := hfit
        subst f1
        exact s_ret (ev_andV (a := true) (b := true) (ev_is (ev_op (ev_var rfl) (ev_op (ev_var rfl) ev_c (rv_ixT (st_of (E4 _ _ hc)) rfl)) (rv_eq rfl)) (by simp)) (fun _ => ev_is (ev_op (ev_var rfl) (ev_op (ev_var rfl) ev_c (rv_ixT (st_of (E4 _ _ hb)) rfl)) (rv_ne rfl)) (by simp [f2]))) fun H5 e5 => q H5 (E4.trans e5)
      | push y => cases hre
      | size k => cases hre
      | pop y => cases hp
end
end Vx

set_option Elab.async false
set_option linter.all false
set_option maxRecDepth 100000
set_option maxHeartbeats 4000000
namespace Vx
open PySem PySem.Spec PyProof.Rows L2
/-! set(xs), xs a list of distinct keys of any kind -/
section
variable {prog : Program} {w : World} {A : Around} {R : Result → Shared → Prop} {I : Addr} {fp wr : List Addr} {G : Array GenState → Array GenState → Prop} {n : Nat} {P : Nat → Value → Prop} {St : Nat → Shared → Prop}
variable {K : Type} [DecidableEq K] [BEq K] [LawfulBEq K] {knd : KeyKind prog w K}
/-- the keys so far -/
def Sofar (key : Nat → K) (c : Nat) (x : K) : Bool := (List.range c).any fun j => decide (key j = x)
theorem sofar_no {key : Nat → K} {c : Nat} (h : ∀ j, j < c → key j ≠ key c) : Sofar key c (key c) = false := by
  unfold Sofar
  rw [List.any_eq_false]
  intro j hj
  simp [h j (List.mem_range.mp hj)]
theorem sofar_succ (key : Nat → K) (c : Nat) (x : K) : Sofar key (c + 1) x = (Sofar key c x || decide (x = key c)) := by
  unfold Sofar
  rw [List.range_succ, List.any_append]
  congr 1
  simp [eq_comm]
/-- one key more: the turns of the walk W from c on -/
theorem set_turns (W : WalksS prog w A.in1 I fp wr G n P St) {T : Addr} (hT : T ∉ fp) {key : Nat → K} (hkey : ∀ c v, P c v → knd.is (key c) v = true ∧ v.scannable = true)
    (apart : ∀ j c, j < c → c < n → key j ≠ key c) (room : n + 1 < scanBound) : ∀ (left c : Nat) (s : Shared), c + left = n → St c s → s.heap.SetOf knd T (Sofar key c) c →
      (∀ s2, Moved (T :: wr) G s s2 → s2.heap.SetOf knd T (Sofar key n) n → R (.ok (.ret .none)) s2) → codeAny (model prog w) A (.builtin "set.update.loop" ⟨[.ref T, .ref I], []⟩) R s := by
  have nT : T ∉ wr := fun z => hT (W.sub _ z)
  have up : ∀ {s1 s2 : Shared}, Moved wr G s1 s2 → Moved (T :: wr) G s1 s2 := fun m => m.mono fun b hb => List.mem_cons_of_mem _ hb
  have keep : ∀ {s1 s2 : Shared} {S : K → Bool} {c : Nat}, Moved wr G s1 s2 → s1.heap.SetOf knd T S c → s2.heap.SetOf knd T S c := fun m so => by
    obtain ⟨ob, es, ep, tb, at_, more⟩ := so
    exact ⟨ob, es, ep, tb, m.heap T _ nT at_, more⟩
  intro left
  induction left with
  | zero =>
    intro c s hc st so out
    obtain rfl : c = n := by omega
    refine codeAny_builtin PyProof.Rows.F.entry_set_update_loop ?_; rw [Around.under_plainId PyProof.Rows.F.plain_set_update_loop _]
    refine wpAny_bind (m := pyNext (.ref I)) (W.done s _ _ st fun s2 m => ?_)
    exact wpAny_pure (out s2 (up m) (keep m so))
  | succ left ih =>
    intro c s hc st so out
    have hlt : c < n := by omega
    refine codeAny_builtin PyProof.Rows.F.entry_set_update_loop ?_; rw [Around.under_plainId PyProof.Rows.F.plain_set_update_loop _]
    refine wpAny_bind (m := pyNext (.ref I)) (W.item c s _ _ hlt st fun v s2 pv st2 m => ?_)
    obtain ⟨isv, scv⟩ := hkey c v pv
    refine wpAny_bind (m := holding [v] (setAdd T v)) (wpAny_holding ?_)
    have so2 := keep m so
    unfold setAdd; refine wpAny_holding (wpAny_bind (knd.pyHash isv ?_))
    refine wpAny_setAddHashed_of (s := { s2 with toks := s2.toks + 1 }) isv scv so2 (by omega) fun h3 only so3 => ?_
    rw [if_neg (by rw [sofar_no fun j hj => apart j c hj hlt]; exact Bool.false_ne_true)] at so3
    have so4 : h3.SetOf knd T (Sofar key (c + 1)) (c + 1) := SetOf_congr so3 (fun x => (sofar_succ key c x).symm) rfl
    have other : ∀ b ∈ fp, b ≠ T := fun b hb z => hT (z ▸ hb)
    refine wpAny_pure ⟨plainId_quiet PyProof.Rows.F.plain_set_update_loop _, ih (c + 1) _ (by omega) (W.frame _ s2 _ _ st2 (Nat.le_succ _) fun b hb o e => (only.2 b (other b hb)).trans e) so4 fun s5 m5 so5 => ?_⟩
    exact out s5 (Moved.trans W.gtrans ((up m).then_heap (Nat.le_succ _) fun b o hb e => (only.2 b fun z => hb (z ▸ List.mem_cons_self)).trans e) m5) so5
end
end Vx
namespace Vx
open PySem PySem.Spec PyProof.Rows L2
section
variable {prog : Program} {w : World} {A : Around} {E : Value → Shared → Prop} {s : Shared}
variable {K : Type} [DecidableEq K] [BEq K] [LawfulBEq K] {knd : KeyKind prog w K}
def set0 (led : Bool) : Obj := { cls := .type "set", dict := none, data := .set #[] 0 (.fresh 0 0 led) }
theorem set_of_list {l : Addr} {its : Array Value} {key : Nat → K} {Q : Value → Shared → Prop} (quiet : A.handled = none) (hl : s.heap.IsList l its) (hkey : ∀ c v, its[c]? = some v → knd.is (key c) v = true ∧ v.scannable = true)
    (apart : ∀ j c, j < c → c < its.size → key j ≠ key c) (room : its.size + 1 < scanBound)
    (out : ∀ (h2 : Heap) (tk : Nat), h2.SetOf knd s.heap.objs.size (Sofar key its.size) its.size → (∀ b o, b < s.heap.objs.size → s.heap.get? b = some o → h2.get? b = some o) → Q (.ref s.heap.objs.size) { s with heap := h2, toks := tk }) :
    wpAny (model prog w) A (call (.type "set") [.ref l]) Q E s := by
  obtain ⟨cc, rest, mro⟩ := PySem.F.called_set.mro
  have a1 := PySem.F.called_set.made; have a2 := PySem.F.called_set.sub; have a3 := PySem.F.called_set.notType; have a4 := PySem.F.called_set.canCreate
  have a5 := PySem.F.typeCall_set_1 (.ref l)
  refine wpAny_call (codeAny_of_tree ?_); show wpAny _ _ (callAny (.type "set") _) _ _ _
  refine wpAny_pure ⟨Code.quiet_builtin _ (by decide +kernel), codeAny_builtin PySem.F.entry_type_call ?_⟩
  rw [Around.under_plain (weight_type_call_type "set" [.ref l] []) rfl]
  have h1 := a3; have h2 := a4; have hct := a5; have hmade := a1; have hsub := a2; have hmro := mro
  repeat (any_goals (first | assumption | wp_step))
  refine codeAny_mono (code_set_new_1 (.ref l) (E := E) (Q₁ := fun v s1 => ∃ led, v = .ref s.heap.objs.size ∧ s1 = { s with heap := s.heap.push (set0 led) }) fun led => ⟨led, rfl, rfl⟩) fun r s1 hr => ?_
  rcases r with e | fl
  · exact hr
  cases fl with
  | ret v =>
    obtain ⟨led, rfl, rfl⟩ := hr
    have at0 : (s.heap.push (set0 led)).get? s.heap.objs.size = some (set0 led) := Heap.get?_push_size _ rfl
    have hT : Shared.TypeIs { s with heap := s.heap.push (set0 led) } (.ref s.heap.objs.size) "set" := ⟨_, at0, rfl⟩
    have hli := PySem.F.called_set.init.lookup; have hbi := PySem.F.called_set.init.bind (.ref s.heap.objs.size)
    repeat (any_goals (first | assumption | wp_step))
    refine codeAny_mono (codeAny_call_builtin (R := wants (fun r s2 => r = .none ∧ ∃ h2 tk, s2 = { s with heap := h2, toks := tk } ∧ h2.SetOf knd s.heap.objs.size (Sofar key its.size) its.size ∧ ∀ b o, b < s.heap.objs.size → s.heap.get? b = some o → h2.get? b = some o) E)
      PySem.F.called_set.init.plain PySem.F.entry_set_init (check_set_init_1 hT ?_)) fun r2 s2 hr2 => ?_
    · obtain ⟨⟨_, od, _, osl⟩, at1, rfl, nl, rfl⟩ := hl
      have inl : (s.heap.push (set0 led)).IsList l its := ⟨_, Heap.get?_push_of_some _ at1, rfl, nl, rfl⟩
      have hol' : (s.heap.push (set0 led)).get? l = some { cls := .type "list", dict := od, data := .seq its nl, slots := osl } := Heap.get?_push_of_some _ at1
      have b1 := PySem.F.sub_list_set; have b2 := PySem.F.sub_list_frozenset
      have b3 : (Value.type "list" == Value.type "dict") = false := by decide
      unfold Builtin.«set.__init__» noKeywords Builtin.Frozenset.updateFrom
      generalize hit : pyIter = it0
      wp_walk
      subst hit
      refine wpAny_pyIter_list inl (wpAny_bind (wpAny_runValue ?_))
      have below : l < s.heap.objs.size := Heap.lt_size at1
      have sz : (s.heap.push (set0 led)).objs.size = s.heap.objs.size + 1 := Heap.size_push ..
      refine set_turns (knd := knd) (key := key) (n := its.size) ((Walks.list (by simp [quiet]) _ l (by rw [sz]; exact Nat.ne_of_lt (Nat.lt_succ_of_lt below)) its).toS) (by
        rw [sz]
        intro z
        rcases List.mem_cons.mp z with z | z
        · exact Nat.ne_of_lt (Nat.lt_succ_self _) z
        · exact Nat.ne_of_gt below (List.mem_singleton.mp z)) hkey apart room its.size 0 _ (by omega) ⟨⟨_, Heap.get?_push_size _ rfl, rfl, rfl⟩, inl.push _⟩ ?_ fun s5 m so => ?_
      · exact SetOf_congr ((setObjOf_fresh (knd := knd) led).setOf (Heap.get?_push_of_some _ at0) (by unfold scanBound; omega)) (fun _ => rfl) rfl
      · obtain ⟨h5, g5, d5, t5, o5⟩ := s5
        obtain rfl : g5 = s.gens := m.gens
        obtain rfl : d5 = s.drawn := m.drawn
        obtain rfl : o5 = s.os := m.os
        refine wpAny_pure (wpAny_pure ⟨rfl, h5, t5, rfl, so, fun b o hb e => m.heap b o ?_ (Heap.get?_push_of_some _ (Heap.get?_push_of_some _ e))⟩)
        rw [sz]
        intro z
        rcases List.mem_cons.mp z with z | z
        · exact Nat.ne_of_lt hb z
        · exact Nat.ne_of_lt (Nat.lt_succ_of_lt hb) (List.mem_singleton.mp z)
    · rcases r2 with e | f2
      · exact hr2
      cases f2 with
      | ret v =>
        obtain ⟨rfl, h5, t5, rfl, so, kp⟩ := hr2
        repeat (any_goals (first | assumption | wp_step))
        exact out _ _ so kp
      | _ => exact hr2.elim
  | _ => exact hr.elim
end
end Vx

set_option Elab.async false
set_option linter.all false
set_option maxRecDepth 100000
set_option maxHeartbeats 4000000
namespace Vx
open PySem PySem.Spec PyProof.Rows L2 Evl
/-- len(set(xs)), xs a list of distinct texts -/
def tLenTx (K : PySem.W.Frag) (ta : TE) : TE := fun σ H Q => ta σ H fun x H1 => ∃ (l : Addr) (xs : List Str), x = .ref l ∧ SqL K H1 l (xs.map V.str) ∧ xs.Nodup ∧ xs.length ≤ 4000 ∧ Q (.int (xs.length : Int)) H1
theorem pe_lenTx {X : Cx} {K : PySem.W.Frag} {a : Expr} {ta : TE} {p p2 pos pos2 : Pos} (hK : X.K = K) (calm : X.calm = true) (g1 : Gl X "len") (m1 : X.mg "len" = none) (g2 : Gl X "set") (m2 : X.mg "set" = none) (ha : PE X a ta)
    (st : starEach [a] X.env = (false, eval a X.env) :: starEach [] X.env := by rfl) : PE X (.Call (.Name "len" p) [.Call (.Name "set" p2) [a] [] pos2] [] pos) (tLenTx K ta) := by
  subst hK
  refine ⟨fun pins s σ H Q I hq => ?_⟩
  refine Call_ (ld_blt I g1 m1 PySem.boot_len (callWith_builtin1 (args_cons (Call_ (ld_blt I g2 m2 boot_set (callWith_type1 (args_cons (thn (ha.run pins s σ H _ I hq) fun v s1 ⟨x, H1, I1, r1, q1⟩ => args_nil ?_) st) st rfl))) rfl) rfl rfl))
  obtain ⟨l, xs, rfl, sq, nd, hz, q1⟩ := q1
  cases r1
  obtain ⟨its, r, pl, _⟩ := I1.list sq
  have sa := strsAre_of r
  have len : its.toArray.size = xs.length := by rw [List.size_toArray, ← r.length, List.length_map]
  have bound : its.toArray.size + 1 < scanBound := by rw [len]; unfold scanBound; omega
  refine set_of_list (knd := PySem.strKind X.prog X.w) (key := fun c => xs.getD c Str.empty) (I1.ok.hd calm) pl.isList (fun c v hv => ?_) (fun j c hj hc => ?_) bound fun h2 tk so kp => ?_
  · rw [← Array.getElem?_toList] at hv
    obtain ⟨t, rfl⟩ := SS.strs_at sa c v hv
    exact ⟨PySem.strKind_is _ _ _ _, rfl⟩
  · rw [len] at hc
    intro z
    have e1 := List.getElem?_eq_getElem hc
    have e2 := List.getElem?_eq_getElem (show j < xs.length by omega)
    rw [getD_at e1, getD_at e2] at z
    have := (List.getElem?_inj (show j < xs.length by omega) nd (j := c)).mp (by rw [e1, e2, z])
    omega
  · refine args_nil ?_
    obtain ⟨ob, es, ep, tb, at_, ex, dd, _, _, _, fits, num⟩ := so
    have I2 : Inv X pins σ H1 { s1 with heap := h2, toks := tk } := I1.kept fun b o e => kp b o (Heap.lt_size e) e
    exact call_len_set at_ ex dd fits (by rw [num, len]; omega) ⟨.int xs.length, H1, I2.tok _, ⟨_, by rw [num, len]⟩, q1⟩
end Vx

set_option Elab.async false
set_option linter.all false
set_option maxRecDepth 100000
set_option maxHeartbeats 8000000
namespace Vx
open PySem PySem.Spec PyProof.Rows L2 Evl
theorem mem_Rw {zs : List Lg} {x : Str} {i : Nat} {e : En} : (x, i, e) ∈ Rw zs ↔ ∃ z ∈ zs, z.1 = x ∧ z.2.2[i]? = some e := by
  unfold Rw
  rw [List.mem_flatMap]
  constructor
  · rintro ⟨z, hz, h⟩
    obtain ⟨j, hj⟩ := List.mem_iff_getElem?.mp h
    have hl : j < z.2.2.length := by rw [← rw1_len]; exact (List.getElem?_eq_some_iff.mp hj).1
    have := rw1_at (List.getElem?_eq_getElem hl)
    rw [this] at hj
    injection hj with hj
    injection hj with h1 h2
    injection h2 with h2 h3
    subst h1 h2 h3
    exact ⟨z, hz, rfl, List.getElem?_eq_getElem hl⟩
  · rintro ⟨z, hz, rfl, h⟩
    exact ⟨z, hz, List.mem_of_getElem? (rw1_at h)⟩
theorem valV_mem : ∀ {kvs : List (Key × V)} {k : Key} {v : V}, (kvs.map (·.1)).Nodup → (k, v) ∈ kvs → valV kvs k = some v
  | [], _, _, _, h => by cases h
  | p :: kvs, k, v, nd, h => by
    rw [List.map_cons, List.nodup_cons] at nd
    rcases List.mem_cons.mp h with rfl | h
    · exact valV_pos rfl
    · rw [valV_neg (fun e => nd.1 (by rw [e]; exact List.mem_map.mpr ⟨_, h, rfl⟩))]
      exact valV_mem nd.2 h
theorem lgs_mem {ws : List Str} {ps : List Addr} {L : List (List En)} {k : Nat} {x : Str} {p : Addr} {es : List En} (h1 : ws[k]? = some x) (h2 : ps[k]? = some p) (h3 : L[k]? = some es) : (x, p, es) ∈ lgs ws ps L := by
  refine List.mem_of_getElem? (i := k) ?_
  unfold lgs
  rw [List.getElem?_zip_eq_some]
  refine ⟨h1, ?_⟩
  rw [List.getElem?_zip_eq_some]
  exact ⟨h2, h3⟩
/-- the removals of valid logs fit the places of the pushes -/
theorem Vlog.fits {top : Nat} {ws : List Str} {ps : List Addr} {L : List (List En)} (v : Vlog top ws L) (pl : ps.length = ws.length) {zs zs2 : List Lg} (hz : zs.Perm (lgs ws ps L)) (hz2 : zs2.Perm (lgs ws ps L)) {R2 : List RowA} (h2 : R2.map RowA.tri = Rw zs2)
    {x : Str} {i : Nat} {e : En} (h : (x, i, e) ∈ Rw zs) (hre : e.isRe = true) : ∃ r2 ∈ R2, valV (Plc En.isPu R2) (.inr e.it) = some (.ref r2.b) ∧ Fits e x i r2.w r2.i := by
  have ndk : ((Plc En.isPu R2).map (·.1)).Nodup := by
    have : (Plc En.isPu R2).map (·.1) = ((R2.filter (·.e.isPu)).map (·.e.it)).map Sum.inr := by
      unfold Plc
      rw [List.map_map, List.map_map]
      rfl
    rw [this, rows_pus h2]
    have nd := (flat_lgs (f := pus) pl v.len hz2).nodup_iff.mpr v.pu
    unfold List.Nodup at nd ⊢
    rw [List.pairwise_map]
    exact nd.imp fun h e => h (Sum.inr.inj e)
  have got : ∀ {o y : Str} {j : Nat} {z2 : Lg}, z2 ∈ lgs ws ps L → z2.1 = o → z2.2.2[j]? = some (.push y) → ∃ r2 ∈ R2, valV (Plc En.isPu R2) (.inr y) = some (.ref r2.b) ∧ r2.w = o ∧ r2.i = j := fun {o y j z2} hm ho hj => by
    have h3 : (o, j, En.push y) ∈ R2.map RowA.tri := by
      rw [h2]
      exact mem_Rw.mpr ⟨z2, hz2.mem_iff.mpr hm, ho, hj⟩
    obtain ⟨r2, hr2, ht⟩ := List.mem_map.mp h3
    unfold RowA.tri at ht
    injection ht with t1 t2
    injection t2 with t2 t3
    refine ⟨r2, hr2, valV_mem ndk ?_, t1, t2⟩
    unfold Plc
    refine List.mem_map.mpr ⟨r2, List.mem_filter.mpr ⟨hr2, by simp [t3, En.isPu]⟩, ?_⟩
    rw [t3]
    rfl
  obtain ⟨z, hzm, rfl, hzi⟩ := mem_Rw.mp h
  have hzl := hz.mem_iff.mp hzm
  obtain ⟨k, k1, k2, k3⟩ := lgs_at hzl
  cases e with
  | push y => cases hre
  | size n => cases hre
  | pop y =>
    obtain ⟨j, hj, hp⟩ := v.own k _ i y k3 hzi
    obtain ⟨r2, m, g1, g2, g3⟩ := got hzl rfl hp
    exact ⟨r2, m, g1, g2, by omega⟩
  | steal o y =>
    obtain ⟨hne, k', es', c1, c2, c3⟩ := v.st k _ _ o y k3 k1 (List.mem_of_getElem? hzi)
    obtain ⟨j, hj⟩ := List.mem_iff_getElem?.mp c3
    have hk' : k' < ps.length := by rw [pl]; exact (List.getElem?_eq_some_iff.mp c1).1
    obtain ⟨r2, m, g1, g2, g3⟩ := got (lgs_mem c1 (List.getElem?_eq_getElem hk') c2) rfl hj
    exact ⟨r2, m, g1, g2, hne⟩
theorem given_all (n : Nat) : given n (fun _ => true) (fun _ => V.bl true) = (List.replicate n true).map V.bl := by
  unfold given
  rw [List.filter_eq_self.mpr (fun _ _ => rfl), List.map_const', List.length_range, List.map_replicate]
theorem et_yes {σ : L2.St} {H : Hp} : EvT tYes σ H true := fun H1 _ _ q => q H1 (Ex.refl H1)
theorem ev_lenTx {K : PySem.W.Frag} {σ : L2.St} {H : Hp} {te : TE} {l : Addr} {xs : List Str} (h : Ev te σ H (.ref l)) (hl : SqL K H l (xs.map V.str)) (nd : xs.Nodup) (hz : xs.length ≤ 4000) : Ev (tLenTx K te) σ H (.int (xs.length : Int)) := fun H1 e Q q =>
  h H1 e _ fun H2 e2 => ⟨l, xs, rfl, ex_l (e.trans e2) hl, nd, hz, q H2 e2⟩
def spFit : Sp := fun vs H Q _ => ∃ (d : Addr) (ws : List Str) (ps : List Addr) (L : List (List En)), vs = [.ref d] ∧ HLr H d ws ps L ∧ Vlog 60 ws L ∧ Yes H Q
section
variable {P : Program} {w : World} {K : PySem.W.Frag} {mg : Str → Option Value} {base : Heap}
theorem sc_items_fit : FnScope ["logs", "rows", "pushed", "removed", "places", "place", "entry"] ["logs"] (defScope s_items_fit) := ⟨rfl, rfl, rfl, by decide +kernel, rfl, by decide +kernel, by decide +kernel⟩
theorem ok_items_fit (D : Def K mg "items_fit" s_items_fit ["logs"]) (T : Bl mg) (G_all_entries : Good P w K mg base 1 "all_entries" ["logs"] (spRows K)) (G_push_places : Good P w K mg base 2 "push_places" ["logs"] (spPlc En.isPu pus)) (G_removal_fits : Good P w K mg base 1 "removal_fits" ["places", "place", "entry"] spFits) : Good P w K mg base 3 "items_fit" ["logs"] (spFit) := by
  refine D.good sc_items_fit (fun vs H Q E h => ?_) (fun f cdv A outer s H vs Q E hr h => ?_)
  · obtain ⟨d, ws, ps, L, rfl, _⟩ := h
    rfl
  · obtain ⟨d, ws, ps, L, rfl, hl, v, q⟩ := h
    have hu := hu_of hr
    refine ⟨_, (pss_cons (ps_set (i := 1) sc_items_fit.nd rfl (Or.inl rfl) (pe_fn (G_all_entries.mono (by decide)) hr (pa_cons (pv 0) pa_nil)))
      (pss_cons (ps_setLc (i := 2) (own := [("place", 5), ("entry", 6)]) (g := (gTup K 2 (gCons (gName 5) (gCons (gName 6) gNil))))  rfl sc_items_fit.nd rfl rfl (sw_true rfl rfl rfl (by decide +kernel)) (x_pil (K := K) (pv 1)) (blkOk_by (N := ["logs", "rows", "pushed", "removed", "places", "place", "entry"]) (sc := (defScope s_items_fit)) (by decide +kernel)) (fun _ _ _ _ _ => (x_gt (K := K) (pgs_cons (pg_name (i := 5) sc_items_fit.nd rfl (Or.inl rfl)) (pgs_cons (pg_name (i := 6) sc_items_fit.nd rfl (Or.inl rfl)) pgs_nil)))) (fun _ _ _ _ _ => (pts_one (pt_cmpR op_eq (x_ixt (K := K) (pv 6) pe_int) pe_str (nomark _)))) (fun _ _ _ _ _ => (x_ixt (K := K) (pv 6) pe_int)))
      (pss_cons (ps_setLc (i := 3) (own := [("place", 5), ("entry", 6)]) (g := (gTup K 2 (gCons (gName 5) (gCons (gName 6) gNil))))  rfl sc_items_fit.nd rfl rfl (sw_true rfl rfl rfl (by decide +kernel)) (x_pil (K := K) (pv 1)) (blkOk_by (N := ["logs", "rows", "pushed", "removed", "places", "place", "entry"]) (sc := (defScope s_items_fit)) (by decide +kernel)) (fun _ _ _ _ _ => (x_gt (K := K) (pgs_cons (pg_name (i := 5) sc_items_fit.nd rfl (Or.inl rfl)) (pgs_cons (pg_name (i := 6) sc_items_fit.nd rfl (Or.inl rfl)) pgs_nil)))) (fun _ _ _ _ _ => (pts_one (pt_cmpR (x_in (K := K) rfl) (x_ixt (K := K) (pv 6) pe_int) (pe_tup (pa_cons pe_str (pa_cons pe_str pa_nil))) (by rfl)))) (fun _ _ _ _ _ => (x_ixt (K := K) (pv 6) (pe_un un_neg pe_int))))
      (pss_cons (ps_if (pw_or (pt_cmpR op_lt (pe_lenTx (K := K) rfl rfl (by rfl) T.len (by rfl) T.set (pv 2)) (x_len (K := K) T (pv 2)) (nomark _)) (pw_or1 (pt_cmpR op_lt (pe_lenTx (K := K) rfl rfl (by rfl) T.len (by rfl) T.set (pv 3)) (x_len (K := K) T (pv 3)) (nomark _)))).pt pss_never pss_nil)
      (pss_cons (ps_set (i := 4) sc_items_fit.nd rfl (Or.inr rfl) (pe_fn (G_push_places.mono (by decide)) hr (pa_cons (pv 0) pa_nil)))
      (pss_one (ps_ret (x_all (K := K) T (pe_lc (own := [("place", 5), ("entry", 6)]) (g := (gTup K 2 (gCons (gName 5) (gCons (gName 6) gNil)))) (tt := tYes) rfl sc_items_fit.nd (x_pil (K := K) (pv 1)) (blkOk_by (N := ["logs", "rows", "pushed", "removed", "places", "place", "entry"]) (sc := (defScope s_items_fit)) (by decide +kernel)) (fun _ _ _ _ _ => (x_gt (K := K) (pgs_cons (pg_name (i := 5) sc_items_fit.nd rfl (Or.inl rfl)) (pgs_cons (pg_name (i := 6) sc_items_fit.nd rfl (Or.inl rfl)) pgs_nil)))) (fun _ _ _ _ _ => pts_nil) (fun _ _ _ _ _ => (pe_fn (G_removal_fits.mono (by decide)) hr (pa_cons (pv 4) (pa_cons (pv 5) (pa_cons (pv 6) pa_nil)))))))))))))), ?_⟩
    have ok := v.ok (Nat.le_refl _)
    refine ⟨_, rfl, d, ws, ps, L, rfl, hl, ok.nd, ok.wl, ok.ll, ok.el, fun p as R zs H1 n1 e1 h1 hR hz hso hRt hal => ?_⟩
    have tup : ∀ {H2 : Hp}, Ex H1 H2 → ∀ (i : Nat) (x : V), (as.map V.ref)[i]? = some x → ∃ (a : Addr) (r : RowA), x = .ref a ∧ R[i]? = some r ∧ RowAt H2 a r := fun e2 i x hx => by
      obtain ⟨a, r, rfl, hr, ha⟩ := row_at hR hx
      exact ⟨a, r, rfl, hr, ha.tk (tk_ex e2)⟩
    have kPu : given (as.map V.ref).length (fun i => (R.getD i row0).e.isPu) (fun i => V.str (R.getD i row0).e.it) = (zs.flatMap fun z => pus z.2.2).map V.str := by
      rw [List.length_map, hR.length, given_list R row0 (fun r => r.e.isPu) (fun r => V.str r.e.it), ← rows_pus hRt, List.map_map]
      rfl
    have kRe : given (as.map V.ref).length (fun i => (R.getD i row0).e.isRe) (fun i => V.str (R.getD i row0).e.it) = (zs.flatMap fun z => res z.2.2).map V.str := by
      rw [List.length_map, hR.length, given_list R row0 (fun r => r.e.isRe) (fun r => V.str r.e.it), ← rows_res hRt, List.map_map]
      rfl
    have ndPu := (flat_lgs (f := pus) hl.pl ok.ll hz).nodup_iff.mpr v.pu
    have ndRe := (flat_lgs (f := res) hl.pl ok.ll hz).nodup_iff.mpr v.re
    have lenR : R.length ≤ 360 := by rw [← hR.length]; exact hal
    have lPu : (zs.flatMap fun z => pus z.2.2).length ≤ 4000 := by
      rw [← rows_pus hRt, List.length_map]
      have := List.length_filter_le (fun r : RowA => r.e.isPu) R
      omega
    have lRe : (zs.flatMap fun z => res z.2.2).length ≤ 4000 := by
      rw [← rows_res hRt, List.length_map]
      have := List.length_filter_le (fun r : RowA => r.e.isRe) R
      omega
    have hasl : (as.map V.ref).length ≤ 40000 := by rw [List.length_map]; omega
    dsimp only [gName]
    refine q_asgL (xs := (zs.flatMap fun z => pus z.2.2).map V.str) ?_ fun pl H2 n2 e2 h2 => ?_
    · rw [← kPu]
      refine el_lcG _ _ (fun i => [some (.ref d), some (.ref p), none, none, none, some (.ref (R.getD i row0).b), some (.ref (R.getD i row0).c)]) (ev_var rfl) (sq_of h1) hasl (fun i x hx => ?_) (fun i x hx => ?_) (fun i x hx hf => ?_)
      · obtain ⟨a, r, rfl, hr, ha, hb, hc⟩ := tup (Ex.refl H1) i x hx
        rw [getD_at hr]
        exact ⟨rfl, fun H3 e3 Q' q' => ⟨a, _, rfl, st_of (e3 _ _ ha), rfl, _, _, rfl, _, _, rfl, rfl, q' H3 (Ex.refl H3)⟩⟩
      · obtain ⟨a, r, rfl, hr, ha, hb, hc⟩ := tup (Ex.refl H1) i x hx
        rw [getD_at hr]
        exact et_is (et_test (ev_op (ev_op (ev_var rfl) ev_c (rv_ixT (st_of hc) r.e.at0)) ev_c (rv_eq rfl))) r.e.isPu_eq
      · obtain ⟨a, r, rfl, hr, ha, hb, hc⟩ := tup (Ex.refl H1) i x hx
        rw [getD_at hr] at hf ⊢
        exact ev_op (ev_var rfl) ev_c (rv_ixT (st_of hc) (r.e.at1 hf))
    refine q_asgL (xs := (zs.flatMap fun z => res z.2.2).map V.str) ?_ fun rl H3 n3 e3 h3 => ?_
    · rw [← kRe]
      refine el_lcG _ _ (fun i => [some (.ref d), some (.ref p), some (.ref pl), none, none, some (.ref (R.getD i row0).b), some (.ref (R.getD i row0).c)]) (ev_var rfl) (sq_of (e2 _ _ h1)) hasl (fun i x hx => ?_) (fun i x hx => ?_) (fun i x hx hf => ?_)
      · obtain ⟨a, r, rfl, hr, ha, hb, hc⟩ := tup e2 i x hx
        rw [getD_at hr]
        exact ⟨rfl, fun H3 e3 Q' q' => ⟨a, _, rfl, st_of (e3 _ _ ha), rfl, _, _, rfl, _, _, rfl, rfl, q' H3 (Ex.refl H3)⟩⟩
      · obtain ⟨a, r, rfl, hr, ha, hb, hc⟩ := tup e2 i x hx
        rw [getD_at hr]
        exact et_is (et_test (ev_inU (ev_op (ev_var rfl) ev_c (rv_ixT (st_of hc) r.e.at0)) (eu_tup (ea_cons ev_c (ea_cons ev_c ea_nil)) (by show 2 ≤ 100000; decide)) rfl rfl)) r.e.isRe_eq
      · obtain ⟨a, r, rfl, hr, ha, hb, hc⟩ := tup e2 i x hx
        rw [getD_at hr] at hf ⊢
        exact ev_op (ev_var rfl) (ev_un ev_c ru_neg) (rv_ixT (st_of hc) (r.e.atL hf))
    have h23 := e3 _ _ h2
    refine q_if (b := false) (et_is (et_or (a := false) (b := false) (et_test (ev_is (ev_op (ev_lenTx (ev_var rfl) (sq_of h23) ndPu lPu) (ev_lenA (ev_var rfl) (Or.inl (sq_of h23))) rv_I0) (by rw [List.length_map]; simp)))
      (fun _ => et_test (ev_is (ev_op (ev_lenTx (ev_var rfl) (sq_of h3) ndRe lRe) (ev_lenA (ev_var rfl) (Or.inl (sq_of h3))) rv_I0) (by rw [List.length_map]; simp)))) rfl) (fun z => nomatch z) (fun _ H4 e4 => ?_)
    have E4 := (e2.trans e3).trans e4
    refine ⟨_, rfl, d, ws, ps, L, rfl, hl.ex (e1.trans E4), ok, v.pu, fun pd as2 R2 zs2 H5 n5 e5 h5 hR2 hz2 hso2 hRt2 => ?_⟩
    have E5 := E4.trans e5
    dsimp only [gName]
    refine s_ret (v := .bl true) (ev_is (ev_allN (bs := List.replicate (as.map V.ref).length true) ?_) (by rw [all_rep])) fun H6 e6 => q H6 ((e1.trans E5).trans e6)
    rw [← given_all]
    refine el_lcG _ _ (fun i => [some (.ref d), some (.ref p), some (.ref pl), some (.ref rl), some (.ref pd), some (.ref (R.getD i row0).b), some (.ref (R.getD i row0).c)]) (ev_var rfl) (sq_of (E5 _ _ h1)) hasl (fun i x hx => ?_) (fun i x hx => et_yes) (fun i x hx hf => ?_)
    · obtain ⟨a, r, rfl, hr, ha, hb, hc⟩ := tup E5 i x hx
      rw [getD_at hr]
      exact ⟨rfl, fun H3 e3 Q' q' => ⟨a, _, rfl, st_of (e3 _ _ ha), rfl, _, _, rfl, _, _, rfl, rfl, q' H3 (Ex.refl H3)⟩⟩
    · obtain ⟨a, r, rfl, hr, ha, hb, hc⟩ := tup E5 i x hx
      rw [getD_at hr]
      refine ev_call (ea_cons (ev_var rfl) (ea_cons (ev_var rfl) (ea_cons (ev_var rfl) ea_nil))) (Yes.spv fun H7 e7 Q7 y E => ⟨pd, r.b, r.c, Plc En.isPu R2, r.w, r.i, r.e, rfl, e7 _ _ h5, e7 _ _ hb, e7 _ _ hc, fun hre => ?_, y⟩)
      have hmem : (r.w, r.i, r.e) ∈ Rw zs := by
        rw [← hRt]
        exact List.mem_map.mpr ⟨r, List.mem_of_getElem? hr, rfl⟩
      obtain ⟨r2, m2, g1, g2⟩ := v.fits hl.pl hz hz2 hRt2 hmem hre
      obtain ⟨j, hj⟩ := List.mem_iff_getElem?.mp m2
      obtain ⟨a2, _, f1, f2, f3⟩ := paired_get hR2 hj
      exact ⟨r2.b, r2.w, r2.i, g1, e7 _ _ f2, g2⟩
end
end Vx

set_option Elab.async false
set_option linter.all false
set_option maxRecDepth 100000
set_option maxHeartbeats 8000000
namespace Vx
open PySem PySem.Spec PyProof.Rows L2 Evl
theorem tk_frz {d : Addr} {H : Hp} {kvs : List (Key × V)} {o : HO} (h : H d = some (.dK kvs)) : TK H (upd H d o) := fun a x z => by rw [upd_ne (fun e => by rw [e, h] at z; cases z)]; exact z
theorem TL.frz {d p : Addr} {H : Hp} {kvs : List (Key × V)} {o : HO} {ts : List (List V)} (t : TL H p ts) (h : H d = some (.dK kvs)) : TL (upd H d o) p ts := by
  obtain ⟨as, h1, _⟩ := id t
  exact t.keep (tk_frz h) (upd_ne fun e => by rw [e, h] at h1; cases h1)
/-- all([e for k, v in d.items()]) -/
theorem ev_allItems {K : PySem.W.Frag} {σ : L2.St} {H : Hp} {tl te : TE} {d : Addr} {kvs : List (Key × V)} {j1 j2 : Nat} {vs : List Nat} (hl : ∀ H', Ev tl σ H' (.ref d)) (hd : H d = some (.dK kvs)) (hz : kvs.length < 1000)
    (hw : ∀ x y, wipe (((wipe σ vs).set j1 (some x)).set j2 (some y)) vs = wipe σ vs) (hv : ∀ {H' : Hp}, H' d = H' d → tl (σ) H' = tl σ H')
    (he : ∀ H1, Ex H H1 → ∀ od (i : Nat) k v, kvs[i]? = some (k, v) → Ev te (((wipe σ vs).set j1 (some (kV k))).set j2 (some v)) (upd H1 d (.frz od (.dK kvs))) (.bl true)) :
    Ev (tCB (rAll K) (tCons (tLockE (tLc (iItems tl) (gTup K 2 (gCons (gName j1) (gCons (gName j2) gNil))) tYes te vs)) tNil)) σ H (.bl true) := fun H1 e1 Q q => by
  have hd1 := e1 _ _ hd
  refine ⟨d, .dK kvs, hd1, trivial, fun od => ?_⟩
  have nin : ∀ b o, H1 b = some o → b ≠ d → (upd H1 d (.frz od (.dK kvs))) b = some o := fun b o h n => by rw [upd_ne n]; exact h
  refine hl _ _ (Ex.refl _) _ fun H2 e2 => ⟨d, od, kvs, rfl, e2 _ _ upd_same, fun Dl hD => ?_⟩
  have hf2 : H2 d = some (.frz od (.dK kvs)) := e2 _ _ upd_same
  refine lc_P (B := upd H1 d (.frz od (.dK kvs))) (J := Iti d od kvs) (n := kvs.length) (fun _ v _ => v = .bl true) (by omega) e2 hD (fun i H3 hi e3 => ⟨e3 _ _ hf2, hi⟩) (fun H3 e3 => ⟨e3 _ _ hf2, Nat.le_refl _⟩) (fun i H3 x H4 hi e3 y => ?_) (fun xs H3 e3 h3 kn => ?_)
  · obtain ⟨T, k, v, hkv, rfl, hT, rfl⟩ := y
    exact ⟨_, Ex.new hT, hw _ _, fun Q2 q2 => ⟨T, _, rfl, st_of upd_same, rfl, _, _, rfl, _, _, rfl, rfl, q2 _ (Ex.refl _)⟩, evp_of (he H1 e1 od i k v hkv) fun _ _ => rfl⟩
  · have hx := kn.kn.now e2 e3
    have hf3 := e3 _ _ hf2
    have nD : Dl ≠ d := fun z => by rw [z, hf2] at hD; cases hD
    have : xs = (List.replicate kvs.length true).map V.bl := by
      refine List.ext_getElem? fun i => ?_
      by_cases hi : i < kvs.length
      · have hi2 : i < xs.length := by rw [hx.1]; exact hi
        rw [List.getElem?_map, List.getElem?_replicate, if_pos hi, List.getElem?_eq_getElem hi2, hx.2 i _ (List.getElem?_eq_getElem hi2)]
        rfl
      · rw [List.getElem?_eq_none (by rw [hx.1]; omega), List.getElem?_eq_none (by rw [List.length_map, List.length_replicate]; omega)]
    refine ⟨hf3, Dl, List.replicate kvs.length true, rfl, sq_of ?_, ?_⟩
    · rw [upd_ne nD, ← this]
      exact h3
    · rw [all_rep]
      refine q _ fun b o h => ?_
      by_cases z : b = d
      · rw [z, hd1] at h
        rw [z, upd_same]
        exact h
      · rw [upd_ne z]
        exact e3 _ _ (e2 _ _ (nin b o h z))
/-- the same over a dict that is locked: something else is locked here -/
theorem ev_allItemsZ {K : PySem.W.Frag} {σ : L2.St} {H : Hp} {tl te : TE} {d : Addr} {kvs : List (Key × V)} {j1 j2 : Nat} {vs : List Nat} (hl : ∀ H', Ev tl σ H' (.ref d)) {z : Addr} {zs : List V} {oz : Obj} (hd : H d = some (.frz oz (.dK kvs))) (hzz : H z = some (.lst zs)) (hz : kvs.length < 1000)
    (hw : ∀ x y, wipe (((wipe σ vs).set j1 (some x)).set j2 (some y)) vs = wipe σ vs) (hv : ∀ {H' : Hp}, H' d = H' d → tl (σ) H' = tl σ H')
    (he : ∀ H1, Ex H H1 → ∀ od (i : Nat) k v, kvs[i]? = some (k, v) → Ev te (((wipe σ vs).set j1 (some (kV k))).set j2 (some v)) (upd H1 z (.frz od (.lst zs))) (.bl true)) :
    Ev (tCB (rAll K) (tCons (tLockE (tLc (iItems tl) (gTup K 2 (gCons (gName j1) (gCons (gName j2) gNil))) tYes te vs)) tNil)) σ H (.bl true) := fun H1 e1 Q q => by
  have hd1 := e1 _ _ hd
  have hz1 := e1 _ _ hzz
  have ndz : d ≠ z := fun e => by rw [e, hz1] at hd1; cases hd1
  refine ⟨z, .lst zs, hz1, trivial, fun od => ?_⟩
  have nin : ∀ b o, H1 b = some o → b ≠ z → (upd H1 z (.frz od (.lst zs))) b = some o := fun b o h n => by rw [upd_ne n]; exact h
  refine hl _ _ (Ex.refl _) _ fun H2 e2 => ⟨d, oz, kvs, rfl, e2 _ _ (nin _ _ hd1 ndz), fun Dl hD => ?_⟩
  have hf2 : H2 d = some (.frz oz (.dK kvs)) := e2 _ _ (nin _ _ hd1 ndz)
  have hfz : H2 z = some (.frz od (.lst zs)) := e2 _ _ upd_same
  refine lc_P (B := upd H1 z (.frz od (.lst zs))) (J := Iti d oz kvs) (n := kvs.length) (fun _ v _ => v = .bl true) (by omega) e2 hD (fun i H3 hi e3 => ⟨e3 _ _ hf2, hi⟩) (fun H3 e3 => ⟨e3 _ _ hf2, Nat.le_refl _⟩) (fun i H3 x H4 hi e3 y => ?_) (fun xs H3 e3 h3 kn => ?_)
  · obtain ⟨T, k, v, hkv, rfl, hT, rfl⟩ := y
    exact ⟨_, Ex.new hT, hw _ _, fun Q2 q2 => ⟨T, _, rfl, st_of upd_same, rfl, _, _, rfl, _, _, rfl, rfl, q2 _ (Ex.refl _)⟩, evp_of (he H1 e1 od i k v hkv) fun _ _ => rfl⟩
  · have hx := kn.kn.now e2 e3
    have hf3 := e3 _ _ hfz
    have nD : Dl ≠ z := fun e => by rw [e, hfz] at hD; cases hD
    have : xs = (List.replicate kvs.length true).map V.bl := by
      refine List.ext_getElem? fun i => ?_
      by_cases hi : i < kvs.length
      · have hi2 : i < xs.length := by rw [hx.1]; exact hi
        rw [List.getElem?_map, List.getElem?_replicate, if_pos hi, List.getElem?_eq_getElem hi2, hx.2 i _ (List.getElem?_eq_getElem hi2)]
        rfl
      · rw [List.getElem?_eq_none (by rw [hx.1]; omega), List.getElem?_eq_none (by rw [List.length_map, List.length_replicate]; omega)]
    refine ⟨hf3, Dl, List.replicate kvs.length true, rfl, sq_of ?_, ?_⟩
    · rw [upd_ne nD, ← this]
      exact h3
    · rw [all_rep]
      refine q _ fun b o h => ?_
      by_cases c : b = z
      · rw [c, hz1] at h
        rw [c, upd_same]
        exact h
      · rw [upd_ne c]
        exact e3 _ _ (e2 _ _ (nin b o h c))
def spLogsOk : Sp := fun vs H Q _ => ∃ (d : Addr) (ws : List Str) (ps : List Addr) (L : List (List En)), vs = [.ref d] ∧ HLr H d ws ps L ∧ Vlog 60 ws L ∧ Yes H Q
def spCheck : Sp := fun vs H Q _ => ∃ (d : Addr) (ws : List Str) (ps : List Addr) (L : List (List En)), vs = [.ref d] ∧ HLr H d ws ps L ∧ Vlog 60 ws L ∧ ∀ H', Ex H H' → Q .non H'
theorem dk_at : ∀ {ws : List Str} {ps : List Addr} {i : Nat} {k : Key} {v : V}, (Dk ws ps)[i]? = some (k, v) → ∃ (x : Str) (p : Addr), ws[i]? = some x ∧ ps[i]? = some p ∧ k = .inr x ∧ v = .ref p := by
  intro ws ps i k v h
  unfold Dk at h
  rw [List.getElem?_map] at h
  obtain ⟨z, hz, e⟩ := Option.map_eq_some_iff.mp h
  rw [List.getElem?_zip_eq_some] at hz
  injection e with e1 e2
  exact ⟨z.1, z.2, hz.1, hz.2, e1.symm, e2.symm⟩
section
variable {P : Program} {w : World} {K : PySem.W.Frag} {mg : Str → Option Value} {base : Heap}
theorem sc_is_logs : FnScope ["thing", "worker", "log"] ["thing"] (defScope s_is_logs) := ⟨rfl, rfl, rfl, by decide +kernel, rfl, by decide +kernel, by decide +kernel⟩
theorem ok_is_logs (D : Def K mg "is_logs" s_is_logs ["thing"]) (T : Bl mg) (C : Cs mg) (G_is_name : Good P w K mg base 1 "is_name" ["thing"] spName) (G_is_log : Good P w K mg base 4 "is_log" ["thing"] spIsLog) (G_items_fit : Good P w K mg base 3 "items_fit" ["logs"] spFit) : Good P w K mg base 5 "is_logs" ["thing"] (spLogsOk) := by
  refine D.good sc_is_logs (fun vs H Q E h => ?_) (fun f cdv A outer s H vs Q E hr h => ?_)
  · obtain ⟨d, ws, ps, L, rfl, _⟩ := h
    rfl
  · obtain ⟨d, ws, ps, L, rfl, hl, v, q⟩ := h
    have hu := hu_of hr
    refine ⟨_, (pss_cons (ps_if (pw_or (pt_not (pt_val (x_isi (K := K) "dict" T (pv 0) T.dict))) (pw_or1 (pt_not (pt_chain op_le op_le pe_int (pe_callB call_lenR (by rfl) T.len PySem.boot_len (pa_cons (pv 0) pa_nil)) (x_gint C.MOST_WORKERS))))).pt pss_never pss_nil)
      (pss_cons (ps_if (pt_not (pt_val (x_all (K := K) T (pe_lock (pe_lc (own := [("worker", 1), ("log", 2)]) (g := (gTup K 2 (gCons (gName 1) (gCons (gName 2) gNil)))) (tt := tYes) rfl sc_is_logs.nd (pi_items (pv 0)) (blkOk_by (N := ["thing", "worker", "log"]) (sc := (defScope s_is_logs)) (by decide +kernel)) (fun _ _ _ _ _ => (x_gt (K := K) (pgs_cons (pg_name (i := 1) sc_is_logs.nd rfl (Or.inl rfl)) (pgs_cons (pg_name (i := 2) sc_is_logs.nd rfl (Or.inl rfl)) pgs_nil)))) (fun _ _ _ _ _ => pts_nil) (fun _ _ _ _ _ => (pe_and (pe_fn (G_is_name.mono (by decide)) hr (pa_cons (pv 1) pa_nil)) (pe_one (pe_fn (G_is_log.mono (by decide)) hr (pa_cons (pv 2) pa_nil)))))))))) pss_never pss_nil)
      (pss_one (ps_ret (pe_fn (G_items_fit.mono (by decide)) hr (pa_cons (pv 0) pa_nil)))))), ?_⟩
    have dl : (Dk ws ps).length = ws.length := dk_len hl.pl
    have lenD : ∀ {σ : L2.St} {H2 : Hp}, Ex H H2 → σ[0]? = some (some (.ref d)) → Ev (tCB (fun xs H Q => ∃ (a : Addr) (kvs : List (Key × V)), xs = [V.ref a] ∧ Rd H a (.dK kvs) ∧ Q (.int kvs.length) H) (tCons (tVar 0) tNil)) σ H2 (.int (ws.length : Int)) := fun e2 h0 H3 e3 Q3 q3 =>
      ⟨_, h0, d, _, rfl, ex_rd (e2.trans e3) hl.rd, by rw [dl]; exact q3 H3 (Ex.refl _)⟩
    refine s_if (b := false) (et_is (et_or (a := false) (b := false) (et_not (a := true) (et_B (ev_isI rfl (ty_dict (hl.rd)) rfl))) (fun _ => et_not (a := true) (et_test (ev_chain ev_c (lenD (Ex.refl H) rfl) ev_c (rv_b rv_I0 ?_) (rv_b rv_I0 ?_))))) rfl) (fun z => nomatch z) (fun _ H1 e1 => ?_)
    · have := v.wk.1
      simp
      omega
    · have := v.wk.2.1
      simp
      omega
    have hl1 := hl.ex e1
    have body : ∀ {H2 HF : Hp} {i : Nat} {k : Key} {u : V}, (Dk ws ps)[i]? = some (k, u) → (∀ p es, ps[i]? = some p → L[i]? = some es → TL HF p (es.map En.vs)) → Ev (tAndV (tCall spName [] E0 (tCons (tVar 1) tNil)) (tCall spIsLog [] E0 (tCons (tVar 2) tNil))) [some (.ref d), some (kV k), some u] HF (.bl true) := fun {H2 HF i k u} hk ht => by
      obtain ⟨x, p, g1, g2, rfl, rfl⟩ := dk_at hk
      have hiL : i < L.length := by rw [v.len]; exact (List.getElem?_eq_some_iff.mp g1).1
      have g3 := List.getElem?_eq_getElem hiL
      have tl := ht p _ g2 g3
      exact ev_andV (a := true) (b := true) (ev_call (ea_cons (ev_var rfl) ea_nil) (Yes.spv fun H3 e3 Q3 y E => ⟨x, rfl, v.wk.2.2.2 x (List.mem_of_getElem? g1), y⟩)) (fun _ => ev_call (ea_cons (ev_var rfl) ea_nil) (Yes.spv fun H3 e3 Q3 y E => ⟨p, L[i], rfl, tl.ex e3, v.ent _ (List.mem_of_getElem? g3), y⟩))
    have z1000 : (Dk ws ps).length < 1000 := by rw [dl]; have := v.wk.2.1; omega
    have all : Ev (tCB (rAll K) (tCons (tLockE (tLc (iItems (tVar 0)) (gTup K 2 (gCons (gName 1) (gCons (gName 2) gNil))) tYes (tAndV (tCall spName [] E0 (tCons (tVar 1) tNil)) (tCall spIsLog [] E0 (tCons (tVar 2) tNil))) [1, 2])) tNil)) [some (.ref d), none, none] H1 (.bl true) := by
      rcases hl1.dk with hd | ⟨⟨oz, hd⟩, z, zs, hz, nz⟩
      · exact ev_allItems (fun _ => ev_var rfl) hd z1000 (fun _ _ => rfl) (fun _ => rfl) (fun H2 e2 od i k u hk => body (H2 := H2) hk fun p es a b => ((hl1.ex e2).lg i p es a b).frz (e2 _ _ hd))
      · exact ev_allItemsZ (fun _ => ev_var rfl) hd hz z1000 (fun _ _ => rfl) (fun _ => rfl) (fun H2 e2 od i k u hk => body (H2 := H2) hk fun p es a b => ((hl1.ex e2).lg i p es a b).frzL (e2 _ _ hz) fun e => nz (by rw [← e]; exact List.mem_of_getElem? a))
    refine s_if (b := false) (et_not (a := true) (et_B all)) (fun z => nomatch z) (fun _ H2 e2 => ?_)
    exact s_ret (ev_call (ea_cons (ev_var rfl) ea_nil) (Yes.spv fun H3 e3 Q3 y E => ⟨d, ws, ps, L, rfl, (hl1.ex e2).ex e3, v, y⟩)) fun H3 e3 => q H3 ((e1.trans e2).trans e3)
end
end Vx

set_option Elab.async false
set_option linter.all false
set_option maxRecDepth 100000
set_option maxHeartbeats 8000000
namespace Vx
open PySem PySem.Spec PyProof.Rows L2 Evl
def lastScope (b : List Stmt) (outer : Scope) : Scope := match b.getLast? with
  | some (.Return (some (.DictComp _ _ _ sc _)) _) => { sc with names := sc.names.map fun (n, k) => if (k == NameKind.free && outer.kind == .function && outer.names.lookup n == some .cell) then (n, NameKind.cell) else (n, k) }
  | _ => outer
/-- the items of a log that no entry removes -/
def leftOf (L : List (List En)) (es : List En) : List Str := (pus es).filter fun x => decide (¬ x ∈ L.flatMap res)
def spLeft : Sp := fun vs H Q _ => ∃ (d : Addr) (ws : List Str) (ps : List Addr) (L : List (List En)), vs = [.ref d] ∧ HLr H d ws ps L ∧ Vlog 60 ws L ∧
  ∀ (f : Addr) (zs : List Lg) (qs : List Addr) H', H f = none → Ex H H' → zs.Perm (lgs ws ps L) → sortedS (zs.map (·.1)) = true → H' f = some (.dK (Dk (zs.map (·.1)) qs)) → qs.length = zs.length → qs.Nodup → (∀ r ∈ qs, H r = none) →
    (∀ (i : Nat) z r, zs[i]? = some z → qs[i]? = some r → H' r = some (.lst ((leftOf L z.2.2).map V.str))) → Q (.ref f) H'
theorem plc_has {p : En → Bool} {R : List RowA} {x : Str} : (valV (Plc p R) (.inr x)).isSome = decide (x ∈ (R.filter fun r => p r.e).map (·.e.it)) := by
  rw [← valV_any]
  have : (Plc p R).any (fun kv => decide (kv.1 = Sum.inr x)) = true ↔ x ∈ (R.filter fun r => p r.e).map (·.e.it) := by
    rw [List.any_eq_true]
    constructor
    · rintro ⟨kv, h1, h2⟩
      unfold Plc at h1
      obtain ⟨r, h3, rfl⟩ := List.mem_map.mp h1
      have h2 := Sum.inr.inj (of_decide_eq_true h2)
      exact List.mem_map.mpr ⟨r, h3, h2⟩
    · intro h
      obtain ⟨r, h3, h4⟩ := List.mem_map.mp h
      exact ⟨_, List.mem_map.mpr ⟨r, h3, rfl⟩, by simp [h4]⟩
  cases h : (Plc p R).any (fun kv => decide (kv.1 = Sum.inr x)) with
  | true => exact (decide_eq_true (this.mp h)).symm
  | false => exact (decide_eq_false (fun z => by rw [this.mpr z] at h; cases h)).symm
theorem dk_snoc {ws : List Str} {ps : List Addr} {x : Str} {p : Addr} (h : ps.length = ws.length) : Dk (ws ++ [x]) (ps ++ [p]) = Dk ws ps ++ [(.inr x, .ref p)] := by
  unfold Dk
  rw [List.zip_append h.symm, List.map_append]
  rfl
section
variable {P : Program} {w : World} {K : PySem.W.Frag} {mg : Str → Option Value} {base : Heap}
end
end Vx

set_option Elab.async false
set_option linter.all false
set_option maxRecDepth 100000
set_option maxHeartbeats 8000000
namespace Vx
open PySem PySem.Spec PyProof.Rows L2 Evl
/-- dict([(name, e) for name in names]), e a new list -/
theorem ev_rowsC {K : PySem.W.Frag} {σ : L2.St} {H : Hp} {tl te2 : TE} {j : Nat} {vs : List Nat} {Q : VK} (F : Addr → List Str → Hp → Prop) (C : Str → List V)
    (htl : ∀ R : VK, (∀ pw names H1, F pw names H1 → H1 pw = some (.lst (names.map V.str)) → names.Nodup → names.length ≤ 1000 → R (.ref pw) H1) → tl σ H R)
    (hj : ∀ x, ((wipe σ vs).set j (some x))[j]? = some (some x)) (hwp : ∀ x, wipe ((wipe σ vs).set j (some x)) vs = wipe σ vs)
    (he : ∀ pw names H1, F pw names H1 → ∀ (i : Nat) x, names[i]? = some x → EvL te2 ((wipe σ vs).set j (some (.str x))) H1 (C x))
    (q : ∀ pw names H1 d ps H2, F pw names H1 → H1 d = none → Ex H1 H2 → H2 d = some (.dK (Dk names ps)) → ps.length = names.length → ps.Nodup → (∀ (i : Nat) p x, ps[i]? = some p → names[i]? = some x → H1 p = none ∧ H2 p = some (.lst (C x))) → Q (.ref d) H2) :
    tCB (rDictP K) (tCons (tLc (iList K tl) (gName j) tYes (tTup (tCons (tVar j) (tCons te2 tNil))) vs) tNil) σ H Q := by
  refine htl _ fun pw names H1 hF hw1 nd hl => ⟨pw, rfl, ⟨_, sq_of hw1⟩, fun Dl hD => ?_⟩
  have nwD : pw ≠ Dl := ne_of_none hw1 hD
  refine lc_list (xs := names.map V.str) (fun i H' => Ex H1 H' ∧ ∃ as ps : List Addr, H' Dl = some (.lst (as.map V.ref)) ∧ as.length = i ∧ ps.length = i ∧ ps.Nodup ∧ (∀ (k : Nat) p x, ps[k]? = some p → names[k]? = some x → H1 p = none ∧ p ≠ Dl ∧ H' p = some (.lst (C x))) ∧ Paired (fun a (x : Key × V) => H' a = some (.tup [kV x.1, x.2])) as (Dk (names.take i) ps))
    ⟨Ex.new hD, [], [], upd_same, rfl, rfl, List.nodup_nil, fun _ _ _ z => (by simp at z), by simpa [Dk] using Paired.nil⟩ (fun i H' _ p => sq_of (p.1 _ _ hw1)) (fun i x H' hx p => ?_) (fun H' p => ?_)
  · obtain ⟨e2, as, ps, ha, hlen, n1, n2, n3, hp⟩ := p
    rw [List.getElem?_map] at hx
    obtain ⟨z, hz, rfl⟩ := Option.map_eq_some_iff.mp hx
    have hi : i < names.length := (List.getElem?_eq_some_iff.mp hz).1
    refine ⟨hwp _, ?_⟩
    refine ⟨_, hj _, he pw names H1 hF i z hz H' e2 _ fun p0 H3 hp0 e3 h3 => ⟨(by show 2 ≤ sizeLine; decide), fun t ht => ⟨as.map V.ref, ?_, ?_, ?_⟩⟩⟩
    all_goals have n0 : Dl ≠ p0 := ne_of_none ha hp0
    all_goals have n4 : Dl ≠ t := ne_of_none (e3 _ _ ha) ht
    · rw [upd_ne n4]
      exact e3 _ _ ha
    · rw [List.length_map]
      exact sz_lt (by omega)
    · have n5 : p0 ≠ t := ne_of_none h3 ht
      have tk : TK H' (upd (upd H3 t (.tup [.str z, .ref p0])) Dl (.lst (as.map V.ref ++ [.ref t]))) := ((tk_ex e3).trans (tk_new ht)).trans (tk_upd (by rw [upd_ne n4]; exact e3 _ _ ha))
      refine ⟨Ex.mut ((e2.trans e3).trans (Ex.new ht)) hD, as ++ [t], ps ++ [p0], by rw [upd_same, List.map_append]; rfl, by rw [List.length_append, hlen]; rfl, by rw [List.length_append, n1]; rfl, ?_, ?_, ?_⟩
      · refine List.nodup_append.mpr ⟨n2, by simp, fun a h1 b h2 e => ?_⟩
        have : b = p0 := by simpa using h2
        subst this e
        obtain ⟨k, hk⟩ := List.mem_iff_getElem?.mp h1
        have hk2 : k < names.length := by have := (List.getElem?_eq_some_iff.mp hk).1; omega
        have := (n3 k _ _ hk (List.getElem?_eq_getElem hk2)).2.2
        rw [hp0] at this
        cases this
      · intro k p x hk hx2
        by_cases hkl : k < ps.length
        · rw [List.getElem?_append_left hkl] at hk
          obtain ⟨g1, g2, g3⟩ := n3 k p x hk hx2
          have g4 := e3 _ _ g3
          refine ⟨g1, g2, ?_⟩
          rw [upd_ne g2, upd_ne (ne_of_none g4 ht)]
          exact g4
        · rw [List.getElem?_append_right (by omega)] at hk
          have hz0 : k - ps.length = 0 := by
            have := (List.getElem?_eq_some_iff.mp hk).1
            simp at this
            omega
          rw [hz0] at hk
          have hp2 : p0 = p := by simpa using hk
          subst hp2
          have hki : k = i := by omega
          subst hki
          rw [hz] at hx2
          cases hx2
          refine ⟨fresh_back e2 hp0, n0.symm, ?_⟩
          rw [upd_ne n0.symm, upd_ne n5]
          exact h3
      · have e5 : Dk (names.take (i + 1)) (ps ++ [p0]) = Dk (names.take i) ps ++ [(.inr z, .ref p0)] := by
          have : names.take (i + 1) = names.take i ++ [z] := by
            rw [List.take_add_one, hz]
            rfl
          rw [this, dk_snoc (by rw [List.length_take, n1]; omega)]
        rw [e5]
        refine Paired.snoc (paired_imp (fun a x z => tk _ _ z) hp) ?_
        rw [upd_ne n4.symm, upd_same]
        rfl
  · obtain ⟨e2, as, ps, ha, hlen, n1, n2, n3, hp⟩ := p
    rw [List.length_map] at n1
    rw [List.length_map, List.take_length] at hp
    refine ⟨Dl, as, Dk names ps, rfl, sq_of ha, paired_imp (fun a x z => st_of z) hp, fun d hd => ?_⟩
    rw [merge_dk n1 nd]
    refine q pw names H1 d ps _ hF (fresh_back e2 hd) (e2.trans (Ex.new hd)) upd_same n1 n2 fun k p x hk hx => ?_
    obtain ⟨g1, g2, g3⟩ := n3 k p x hk hx
    exact ⟨g1, by rw [upd_ne (ne_of_none g3 hd)]; exact g3⟩
theorem s_rowsC {K : PySem.W.Frag} {D : Ends} {σ : L2.St} {H : Hp} {tl te2 : TE} {j : Nat} {vs : List Nat} (F : Addr → List Str → Hp → Prop) (C : Str → List V)
    (htl : ∀ R : VK, (∀ pw names H1, F pw names H1 → H1 pw = some (.lst (names.map V.str)) → names.Nodup → names.length ≤ 1000 → R (.ref pw) H1) → tl σ H R)
    (hj : ∀ x, ((wipe σ vs).set j (some x))[j]? = some (some x)) (hwp : ∀ x, wipe ((wipe σ vs).set j (some x)) vs = wipe σ vs)
    (he : ∀ pw names H1, F pw names H1 → ∀ (i : Nat) x, names[i]? = some x → EvL te2 ((wipe σ vs).set j (some (.str x))) H1 (C x))
    (q : ∀ pw names H1 d ps H2, F pw names H1 → H1 d = none → Ex H1 H2 → H2 d = some (.dK (Dk names ps)) → ps.length = names.length → ps.Nodup → (∀ (i : Nat) p x, ps[i]? = some p → names[i]? = some x → H1 p = none ∧ H2 p = some (.lst (C x))) → D.rt (.ref d) H2) :
    tRet (tCB (rDictP K) (tCons (tLc (iList K tl) (gName j) tYes (tTup (tCons (tVar j) (tCons te2 tNil))) vs) tNil)) D σ H := ev_rowsC F C htl hj hwp he q
/-- what stands in the log of x -/
def cont (H : Hp) (ws : List Str) (ps : List Addr) (x : Str) : List V := match valV (Dk ws ps) (.inr x) with
  | some (.ref p) => (match H p with | some (.lst xs) => xs | _ => [])
  | _ => []
theorem zip_self {α β : Type} : ∀ T : List (α × β), (T.map (·.1)).zip (T.map (·.2)) = T
  | [] => rfl
  | t :: T => by
    rw [List.map_cons, List.map_cons, List.zip_cons_cons, zip_self T]
/-- logs the same, the names in another order -/
def Same (ws : List Str) (L : List (List En)) (ws2 : List Str) (L2 : List (List En)) : Prop := ws2.length = ws.length ∧ L2.length = ws2.length ∧ (ws2.zip L2).Perm (ws.zip L)
def spTurned (K : PySem.W.Frag) : Sp := fun vs H Q _ => ∃ (s d : Addr) (n : Nat) (ws : List Str) (ps : List Addr) (L : List (List En)), vs = [.ref s, .ref d] ∧ Src H s n ∧ n + 10 ≤ 1000000000 ∧ HL H d ws ps L ∧ (∀ p ∈ ps, p ≠ s) ∧ LgOk ws L ∧
  ∀ d2 ws2 ps2 L2 H', H d2 = none → KB s H H' → Src H' s (n + 10) → HL H' d2 ws2 ps2 L2 → (∀ p ∈ ps2, H p = none) → ps2.Nodup → Same ws L ws2 L2 → Q (.ref d2) H'
section
variable {P : Program} {w : World} {K : PySem.W.Frag} {mg : Str → Option Value} {base : Heap}
end
end Vx

set_option Elab.async false
set_option linter.all false
set_option maxRecDepth 100000
set_option maxHeartbeats 4000000
namespace Vx
open PySem PySem.Spec PyProof.Rows L2 Evl
/-! readings of texts -/
structure Cs2 (K : PySem.W.Frag) (w : World) (mg : Str → Option Value) : Prop where
  MOST_FACTS : ∃ t, mg "MOST_FACTS" = some (.int 200 t)
  MOST_DIGITS : ∃ t, mg "MOST_DIGITS" = some (.int 9 t)
  LONGEST_RUN : ∃ t, mg "LONGEST_RUN" = some (.int 360 t)
  NONE : ∃ t, mg "NONE" = some (.str "-" t)
  SIGNS : ∃ d, mg "SIGNS" = some (.ref d) ∧ KDct K w d "push" (.str "+") ∧ KDct K w d "pop" (.str "-") ∧ KDct K w d "size" (.str "=")
theorem x_gstr {X : Cx} {x z : Str} {pos : Pos} (h : ∃ t, X.mg x = some (.str z t)) (hg : Gl X x := by rfl) (hd : (x == ("__debug__" : Str)) = false := by decide) : PE X (.Name x pos) (tC (.str z)) := by
  obtain ⟨t, h⟩ := h
  exact pe_glob hg h ⟨t, rfl⟩ hd
theorem x_gref {X : Cx} {x : Str} {d : Addr} {pos : Pos} (h : X.mg x = some (.ref d)) (hg : Gl X x := by rfl) (hd : (x == ("__debug__" : Str)) = false := by decide) : PE X (.Name x pos) (tC (.ref d)) := pe_glob hg h rfl hd
section
variable {K : PySem.W.Frag} {σ : L2.St} {H : Hp} {te to : TE}
/-! f'..' -/
inductive EvTs (σ : L2.St) (H : Hp) : List TE → List Str → Prop
  | nil : EvTs σ H [] []
  | cons {t : TE} {y : Str} {ts : List TE} {ys : List Str} : Ev t σ H (.str y) → EvTs σ H ts ys → EvTs σ H (t :: ts) (y :: ys)
theorem EvTs.mono {H' : Hp} (e : Ex H H') : ∀ {ts ys}, EvTs σ H ts ys → EvTs σ H' ts ys
  | _, _, .nil => .nil
  | _, _, .cons a t => .cons (a.mono e) (t.mono e)
def cats (acc : Str) (ys : List Str) : Str := ys.foldl (· ++ ·) acc
theorem js_go : ∀ {ts : List TE} {ys : List Str} {acc : Str} {H : Hp}, EvTs σ H ts ys → acc.length + (ys.map (·.length)).sum ≤ 100000 → ∀ Q : Str → Hp → Prop, (∀ H', Ex H H' → Q (cats acc ys) H') → tJs ts acc σ H Q
  | _, _, acc, H, .nil, _, Q, q => q H (Ex.refl H)
  | _, _, acc, H, .cons (y := y) (ys := ys) a t, hz, Q, q => by
    rw [List.map_cons, List.sum_cons] at hz
    refine a H (Ex.refl H) _ fun H1 e1 => ⟨y, rfl, sz_of (by rw [PySem.Str.length_append]; omega), js_go (t.mono e1) (by rw [PySem.Str.length_append]; omega) Q fun H2 e2 => q H2 (e1.trans e2)⟩
theorem ev_joined {ts : List TE} {ys : List Str} (h : EvTs σ H ts ys) (hz : (ys.map (·.length)).sum ≤ 100000) : Ev (fun σ H Q => tJs ts Str.empty σ H fun out H1 => Q (.str out) H1) σ H (.str (cats Str.empty ys)) := fun H1 e Q q =>
  js_go (h.mono e) (by show 0 + _ ≤ _; omega) _ fun H2 e2 => q H2 e2
theorem ev_fmtS {y : Str} (h : Ev te σ H (.str y)) (hz : y.length ≤ 100000) : Ev (tFmt te) σ H (.str y) := fun H1 e Q q => h H1 e _ fun H2 e2 => Or.inl ⟨y, rfl, sz_of hz, q H2 e2⟩
theorem log_small {n : Nat} (h : n < 2 ^ 64) : n.log2 < 1920 := Nat.lt_of_lt_of_le (PySem.Flt.log2_lt_of (by decide) h) (by decide)
theorem ev_fmtN {n : Nat} (h : Ev te σ H (.int (n : Int))) (hz : n < 2 ^ 64) : Ev (tFmt te) σ H (.str (nT n)) := fun H1 e Q q => h H1 e _ fun H2 e2 => Or.inr ⟨(n : Int), rfl, log_small (by simpa using hz), q H2 e2⟩
/-- str(n) -/
theorem ev_strN {n : Nat} (h : Ev te σ H (.int (n : Int))) (hz : n < 2 ^ 64) : Ev (tCB (fun xs H Q => ∃ i, xs = [V.int i] ∧ i.natAbs.log2 < 1920 ∧ Q (.str (toString i)) H) (tCons te tNil)) σ H (.str (nT n)) := fun H1 e Q q =>
  h H1 e _ fun H2 e2 => ⟨(n : Int), rfl, log_small (by simpa using hz), q H2 e2⟩
/-- int(text) -/
theorem ev_intN {n : Nat} (h : Ev te σ H (.str (nT n))) (hz : n < 10 ^ 9) : Ev (tCB (fun xs H Q => ∃ a n, xs = [V.str a] ∧ PySem.intText? a = some n ∧ a.length ≤ 640 ∧ Q (.int n) H) (tCons te tNil)) σ H (.int (n : Int)) := fun H1 e Q q =>
  h H1 e _ fun H2 e2 => ⟨nT n, (n : Int), rfl, nT_reads (by omega), by have := nT_len 8 n hz; show (nT n).cps.size ≤ 640; rw [← Array.length_toList]; omega, q H2 e2⟩
/-! join, split, partition -/
theorem ev_joinG {K : PySem.W.Frag} {a : Str} {P : List V → Hp → Prop} {ys : List Str} (ho : Ev to σ H (.str a)) (h : ∀ H1, Ex H H1 → ∀ Q : VK, (∀ p H2, Ex H1 H2 → SqL K H2 p (ys.map V.str) → Q (.ref p) H2) → te σ H1 Q) (hz : (ys.map (·.length)).sum + ys.length * a.length ≤ 16777216) :
    Ev (tM1 (fun x xs H Q => ∃ a p, ∃ ys : List Str, x = .str a ∧ xs = [.ref p] ∧ (SqL K H p (ys.map V.str) ∨ SqT K H p (ys.map V.str)) ∧ (ys.map (·.length)).sum + ys.length * a.length ≤ 16777216 ∧ Q (.str (Txt.join a ys)) H) to te) σ H (.str (Txt.join a ys)) := fun H1 e Q q =>
  ho H1 e _ fun H2 e2 => ⟨⟨a, rfl⟩, h H2 (e.trans e2) _ fun p H3 e3 h3 => ⟨a, p, ys, rfl, rfl, Or.inl h3, hz, q H3 (e2.trans e3)⟩⟩
theorem ev_joinL {K : PySem.W.Frag} {a : Str} {ys : List Str} (ho : Ev to σ H (.str a)) (h : EvL te σ H (ys.map V.str)) (hz : (ys.map (·.length)).sum + ys.length * a.length ≤ 16777216) :
    Ev (tM1 (fun x xs H Q => ∃ a p, ∃ ys : List Str, x = .str a ∧ xs = [.ref p] ∧ (SqL K H p (ys.map V.str) ∨ SqT K H p (ys.map V.str)) ∧ (ys.map (·.length)).sum + ys.length * a.length ≤ 16777216 ∧ Q (.str (Txt.join a ys)) H) to te) σ H (.str (Txt.join a ys)) :=
  ev_joinG (P := fun _ _ => True) ho (fun H1 e Q q => h H1 e Q fun p H2 _ e2 h2 => q p H2 e2 (sq_of h2)) hz
theorem ev_joinV {K : PySem.W.Frag} {a : Str} {p : Addr} {ys : List Str} (ho : Ev to σ H (.str a)) (h : Ev te σ H (.ref p)) (hp : SqL K H p (ys.map V.str)) (hz : (ys.map (·.length)).sum + ys.length * a.length ≤ 16777216) :
    Ev (tM1 (fun x xs H Q => ∃ a p, ∃ ys : List Str, x = .str a ∧ xs = [.ref p] ∧ (SqL K H p (ys.map V.str) ∨ SqT K H p (ys.map V.str)) ∧ (ys.map (·.length)).sum + ys.length * a.length ≤ 16777216 ∧ Q (.str (Txt.join a ys)) H) to te) σ H (.str (Txt.join a ys)) :=
  ev_joinG (P := fun _ _ => True) ho (fun H1 e Q q => h H1 e Q fun H2 e2 => q p H2 e2 (ex_l (e.trans e2) hp)) hz
theorem el_split {c : Nat} {ws : List Str} (ho : Ev to σ H (.str (Str.join (sg c) ws))) (hs : Ev te σ H (.str (sg c))) (hf : ∀ w ∈ ws, Free c w) (hn : ws ≠ []) (hz : (Str.join (sg c) ws).length ≤ 100000) :
    EvL (tM1 (fun x xs H Q => ∃ a b, x = .str a ∧ xs = [.str b] ∧ (b.length == 0) = false ∧ a.length + 2 ≤ sizeLine ∧ rNewStrs (Txt.split a b) H Q) to te) σ H (ws.map V.str) := fun H1 e Q q =>
  ho H1 e _ fun H2 e2 => ⟨⟨_, rfl⟩, hs H2 (e.trans e2) _ fun H3 e3 => ⟨_, sg c, rfl, rfl, rfl, Nat.le_trans (Nat.add_le_add_right hz 2) (by decide), fun p hp => by
    rw [split_join hf hn]
    exact q p _ (fresh_back (e2.trans e3) hp) ((e2.trans e3).trans (Ex.new hp)) upd_same⟩⟩
theorem eu_part {c : Nat} {a b : Str} (ho : Ev to σ H (.str (a ++ sg c ++ b))) (hs : Ev te σ H (.str (sg c))) (hf : Free c a) (hz : (a ++ sg c ++ b).length ≤ 100000) :
    EvU (tM1 (fun x xs H Q => ∃ a b, x = .str a ∧ xs = [.str b] ∧ (b.length == 0) = false ∧ a.length ≤ sizeLine ∧ ∀ p, H p = none → Q (.ref p) (upd H p (.tup [.str (Txt.partition a b).1, .str (Txt.partition a b).2.1, .str (Txt.partition a b).2.2]))) to te) σ H [.str a, .str (sg c), .str b] := fun H1 e Q q =>
  ho H1 e _ fun H2 e2 => ⟨⟨_, rfl⟩, hs H2 (e.trans e2) _ fun H3 e3 => ⟨_, sg c, rfl, rfl, rfl, sz_of hz, fun p hp => by
    rw [part_at hf]
    exact q p _ (fresh_back (e2.trans e3) hp) ((e2.trans e3).trans (Ex.new hp)) upd_same⟩⟩
/-- a, b, c = .. (a new tuple of three) -/
theorem s_three {D : Ends} {x y z : V} {i j l : Nat} (h : EvU te σ H [x, y, z]) (k : ∀ H1, Ex H H1 → D.nx (((σ.set i (some x)).set j (some y)).set l (some z)) H1) : tAsg te (gTup K 3 (gCons (gName i) (gCons (gName j) (gCons (gName l) gNil)))) D σ H :=
  h H (Ex.refl H) _ fun p H1 n e h1 => ⟨p, [x, y, z], rfl, st_of h1, rfl, x, _, rfl, y, _, rfl, z, _, rfl, rfl, k H1 e⟩
theorem q_three {D : Ends} {tz : TS} {x y z : V} {i j l : Nat} (h : EvU te σ H [x, y, z]) (k : ∀ H1, Ex H H1 → tz D (((σ.set i (some x)).set j (some y)).set l (some z)) H1) : tSeq (tAsg te (gTup K 3 (gCons (gName i) (gCons (gName j) (gCons (gName l) gNil))))) tz D σ H :=
  s_three (D := { D with nx := tz D }) h k
/-- a, b = t -/
theorem q_two {D : Ends} {tz : TS} {p : Addr} {x y : V} {i j : Nat} (h : Ev te σ H (.ref p)) (hp : H p = some (.tup [x, y])) (k : ∀ H1, Ex H H1 → tz D ((σ.set i (some x)).set j (some y)) H1) : tSeq (tAsg te (gTup K 2 (gCons (gName i) (gCons (gName j) gNil)))) tz D σ H :=
  h H (Ex.refl H) _ fun H1 e => ⟨p, [x, y], rfl, st_of (e _ _ hp), rfl, x, _, rfl, y, _, rfl, rfl, k H1 e⟩
/-- text[:1], text[1:], text[:-1] -/
theorem ev_slS {tl th : TO} {z y : Str} {lo hi : Option Int} (h : Ev te σ H (.str z)) (h1 : EvO tl σ H lo) (h2 : EvO th σ H hi) (hz : z.length ≤ 100000) (e : cutS z lo hi = y) : Ev (tSl rSlS te tl th) σ H (.str y) := fun H1 e1 Q q =>
  h H1 e1 _ fun H2 e2 => h1 H2 (e1.trans e2) _ fun H3 e3 => h2 H3 (e1.trans (e2.trans e3)) _ fun H4 e4 => ⟨z, rfl, sz_of hz, by rw [e]; exact q H4 (e2.trans (e3.trans e4))⟩
theorem ev_kd {w : World} {d : Addr} {x : Str} {v : V} {ta tb : TE} (ha : Ev ta σ H (.ref d)) (hb : Ev tb σ H (.str x)) (h : KDct K w d x v) : Ev (tOp (rIxD K w) ta tb) σ H v := fun H1 e Q q =>
  ha H1 e _ fun H2 e2 => hb H2 (e.trans e2) _ fun H3 e3 => ⟨d, x, v, rfl, rfl, h, q H3 (e2.trans e3)⟩
end
/-! None in a list of tuples -/
def rNoneT (K : PySem.W.Frag) : R2 := fun x y H Q => ∃ p xs, x = .non ∧ y = .ref p ∧ SqL K H p xs ∧ (∀ z ∈ xs, ∃ t ts, z = .ref t ∧ H t = some (.tup ts)) ∧ Q (.bl false) H
theorem op_noneT {X : Cx} {K : PySem.W.Frag} (hK : X.K = K) (hu : X.A.units + 64 < cLine) : OpR X (compareOp .In) (rNoneT K) := by
  subst hK
  intro pins s σ H x y v u Q I rx ry h
  obtain ⟨p, xs, rfl, rfl, hq, f, q⟩ := h
  cases rx
  cases ry
  obtain ⟨its, rv, hl, _⟩ := I.list hq
  have hu1 : X.A.in1.units < cLine := by show X.A.units + 1 < cLine; omega
  have all : ∀ {xs : List V} {us : List Value}, Vals xs us → (∀ z ∈ xs, ∃ t ts, z = .ref t ∧ H t = some (.tup ts)) → ∀ u ∈ us, SeqAt.EqAt X.A.in1 s u .none false := by
    intro xs us r
    induction r with
    | nil => intro _ u hu; cases hu
    | cons r t ih =>
      intro f u hu
      rcases List.mem_cons.mp hu with e | hu
      · subst e
        obtain ⟨t, ts, rfl, ht⟩ := f _ (List.mem_cons_self ..)
        cases r
        obtain ⟨its, rv, g, _⟩ := I.tuple (X := X) (Or.inl (Or.inl ht))
        exact SeqAt.EqAt.tuple_none g hu1
      · exact ih (fun z hz => f z (List.mem_cons_of_mem _ hz)) u hu
  refine SeqAt.in_listAt (fun _ => false) hl.isList (fun z hz => all rv f z (by simpa using hz)) ⟨.bl _, H, I, rfl, ?_⟩
  have : its.toArray.any (fun _ => false) = false := by simp
  rw [this]
  exact q
end Vx

set_option Elab.async false
set_option linter.all false
set_option maxRecDepth 100000
set_option maxHeartbeats 8000000
namespace Vx
open PySem PySem.Spec PyProof.Rows L2 Evl
/-! places, and pairs of places -/
abbrev Pl2 := Str × Nat
abbrev Pr2 := Pl2 × Pl2
def PlV (H : Hp) (v : V) (z : Pl2) : Prop := ∃ b, v = .ref b ∧ H b = some (.tup [.str z.1, .int (z.2 : Int)])
def PrV (H : Hp) (v : V) (a : Pr2) : Prop := ∃ p x y, v = .ref p ∧ H p = some (.tup [x, y]) ∧ PlV H x a.1 ∧ PlV H y a.2
def PrsA (H : Hp) (vs : List V) (as : List Pr2) : Prop := vs.length = as.length ∧ ∀ (i : Nat) v a, vs[i]? = some v → as[i]? = some a → PrV H v a
theorem PlV.tk {H H' : Hp} {v : V} {z : Pl2} (h : PlV H v z) (k : TK H H') : PlV H' v z := by
  obtain ⟨b, rfl, hb⟩ := h
  exact ⟨b, rfl, k _ _ hb⟩
theorem PrV.tk {H H' : Hp} {v : V} {a : Pr2} (h : PrV H v a) (k : TK H H') : PrV H' v a := by
  obtain ⟨p, x, y, rfl, hp, h1, h2⟩ := h
  exact ⟨p, x, y, rfl, k _ _ hp, h1.tk k, h2.tk k⟩
theorem PrsA.tk {H H' : Hp} {vs : List V} {as : List Pr2} (h : PrsA H vs as) (k : TK H H') : PrsA H' vs as := ⟨h.1, fun i v a h1 h2 => (h.2 i v a h1 h2).tk k⟩
theorem PrsA.nil {H : Hp} : PrsA H [] [] := ⟨rfl, fun i v a h => by simp at h⟩
theorem PrsA.snoc {H : Hp} {vs : List V} {as : List Pr2} {v : V} {a : Pr2} (h : PrsA H vs as) (hv : PrV H v a) : PrsA H (vs ++ [v]) (as ++ [a]) := by
  refine ⟨by rw [List.length_append, List.length_append, h.1]; rfl, fun i u b h1 h2 => ?_⟩
  by_cases hi : i < vs.length
  · rw [List.getElem?_append_left hi] at h1
    rw [List.getElem?_append_left (by rw [← h.1]; exact hi)] at h2
    exact h.2 i u b h1 h2
  · rw [List.getElem?_append_right (by omega)] at h1
    rw [List.getElem?_append_right (by rw [← h.1]; omega), ← h.1] at h2
    have hz : i - vs.length = 0 := by
      have := (List.getElem?_eq_some_iff.mp h1).1
      simp at this
      omega
    rw [hz] at h1 h2
    cases h1
    cases h2
    exact hv
theorem PrsA.app {H : Hp} {vs us : List V} {as bs : List Pr2} (h : PrsA H vs as) (g : PrsA H us bs) : PrsA H (vs ++ us) (as ++ bs) := by
  refine ⟨by rw [List.length_append, List.length_append, h.1, g.1], fun i u b h1 h2 => ?_⟩
  by_cases hi : i < vs.length
  · rw [List.getElem?_append_left hi] at h1
    rw [List.getElem?_append_left (by rw [← h.1]; exact hi)] at h2
    exact h.2 i u b h1 h2
  · rw [List.getElem?_append_right (by omega)] at h1
    rw [List.getElem?_append_right (by rw [← h.1]; omega), ← h.1] at h2
    exact g.2 _ u b h1 h2
/-- over range(m), m maybe below 0 -/
theorem elp_lcRi {σ : L2.St} {H : Hp} {te : TE} {vs : List Nat} {j : Nat} {ta : TA} {m : Int} (Φ : Nat → V → Hp → Prop) (h : EvA ta σ H [.int m]) (h0 : -40000 ≤ m) (hz : m < 40000) (hw : ∀ x, wipe ((wipe σ vs).set j (some x)) vs = wipe σ vs)
    (he : ∀ i : Nat, i < m.toNat → EvP te ((wipe σ vs).set j (some (.int (i : Int)))) H (Φ i)) : EvLP (tLc (iRng1 ta) (gName j) tYes te vs) σ H (fun ys H' => ys.length = m.toNat ∧ ∀ i v, ys[i]? = some v → Φ i v H') := fun H0 e Q q => h H0 e _ fun H1 e1 =>
  ⟨m, rfl, by omega, by omega, fun Dl hD => lc_P (J := Itr 0 m.toNat) (B := H) Φ (by omega) (e.trans e1) hD (fun i H2 hi e2 => by show i < m.toNat; omega) (fun H2 e2 => by show m.toNat ≤ m.toNat; omega)
    (fun i H2 x H' hi e2 y => by
      obtain ⟨rfl, rfl⟩ := y
      have e0 : (0 : Int) + (i : Int) = (i : Int) := Int.zero_add _
      rw [e0]
      exact ⟨_, Ex.refl _, hw _, fun Q2 q2 => q2 _ (Ex.refl _), he i hi⟩)
    (fun ys H2 e2 h2 k => q Dl ys H2 (fresh_back e1 hD) (e1.trans e2) h2 (k.pre e1))⟩
/-- ((..), (..)), two new tuples in a new tuple -/
theorem evp_pair {σ : L2.St} {H : Hp} {ta tb : TE} {a b : Pl2} (h1 : EvU ta σ H [.str a.1, .int (a.2 : Int)]) (h2 : ∀ H1, Ex H H1 → EvU tb σ H1 [.str b.1, .int (b.2 : Int)]) : EvP (tTup (tCons ta (tCons tb tNil))) σ H (fun v H' => PrV H' v (a, b)) := fun H1 e1 Q q =>
  h1 H1 e1 _ fun x H2 nx e2 hx => h2 H2 (e1.trans e2) H2 (Ex.refl H2) _ fun y H3 ny e3 hy => ⟨(by show 2 ≤ sizeLine; decide), fun c hc => q (.ref c) _ ((e2.trans e3).trans (Ex.new hc)) fun H' u z => by
    have ncx : x ≠ c := ne_of_none (e3 _ _ hx) hc
    have ncy : y ≠ c := ne_of_none hy hc
    exact ⟨c, .ref x, .ref y, rfl, z c _ (fresh_back (e2.trans e3) hc) upd_same, ⟨x, rfl, z x _ nx (by rw [upd_ne ncx]; exact e3 _ _ hx)⟩, ⟨y, rfl, z y _ (fresh_back e2 ny) (by rw [upd_ne ncy]; exact hy)⟩⟩⟩
end Vx

set_option Elab.async false
set_option linter.all false
set_option maxRecDepth 100000
set_option maxHeartbeats 4000000
namespace Vx
open PySem PySem.Spec PyProof.Rows L2 Evl
/-! texts of entries, places, facts -/
def sgn : En → Nat
  | .push _ => 43
  | .pop _ => 45
  | .size _ => 61
  | .steal _ _ => 60
def rst : En → Str
  | .push x => x
  | .pop x => x
  | .size k => nT k.toNat
  | .steal o x => o ++ sg 46 ++ x
def eT (e : En) : Str := sg (sgn e) ++ rst e
def PlOk (z : Pl2) : Prop := IsNm z.1 ∧ z.2 < 10 ^ 9
def pT (z : Pl2) : Str := z.1 ++ sg 46 ++ nT z.2
def FcOk (a : Pr2) : Prop := (PlOk a.1 ∧ PlOk a.2) ∧ a.1 ≠ a.2
def fT (a : Pr2) : Str := pT a.1 ++ sg 60 ++ pT a.2
def lT (w : Str) (es : List En) : Str := Str.join (sg 32) ((w ++ sg 58) :: es.map eT)
def wT (ys : List Str) : Str := if ys = [] then "-" else Str.join (sg 32) ys
def gT (zs : List (Str × List En)) : Str := Str.join (sg 10) (zs.map fun z => lT z.1 z.2)
theorem k43 : ("+" : Str) = sg 43 := by decide +kernel
theorem k45 : ("-" : Str) = sg 45 := by decide +kernel
theorem k61 : ("=" : Str) = sg 61 := by decide +kernel
theorem k60 : ("<" : Str) = sg 60 := by decide +kernel
theorem k46 : ("." : Str) = sg 46 := by decide +kernel
theorem k58 : (":" : Str) = sg 58 := by decide +kernel
theorem k32 : (" " : Str) = sg 32 := by decide +kernel
theorem k10' : ("\n" : Str) = sg 10 := by decide +kernel
theorem nm_free {z : Str} (h : IsNm z) {c : Nat} (hc : c < 97) : Free c z := fun m => by have := (h.2.2 c m).1; omega
theorem sg_len (c : Nat) : (sg c).length = 1 := rfl
theorem nT_length {n : Nat} (h : n < 10 ^ 9) : (nT n).length ≤ 9 := by
  have := nT_len 8 n h
  show (nT n).cps.size ≤ 9
  rw [← Array.length_toList]
  exact this
theorem IsNm.len {z : Str} (h : IsNm z) : z.length ≤ 8 := h.2.1
theorem rst_len {e : En} (h : e.ok) : (rst e).length ≤ 17 := by
  cases e with
  | push x => exact Nat.le_trans (IsNm.len h) (by decide)
  | pop x => exact Nat.le_trans (IsNm.len h) (by decide)
  | size k =>
    have := nT_length (n := k.toNat) (by have := h.2; have := h.1; omega)
    show (nT k.toNat).length ≤ 17
    omega
  | steal o x =>
    show (o ++ sg 46 ++ x).length ≤ 17
    rw [PySem.Str.length_append, PySem.Str.length_append, sg_len]
    have := h.1.2.1
    have := h.2.2.1
    omega
theorem eT_len {e : En} (h : e.ok) : (eT e).length ≤ 18 := by
  unfold eT
  rw [PySem.Str.length_append, sg_len]
  have := rst_len h
  omega
theorem pT_len {z : Pl2} (h : PlOk z) : (pT z).length ≤ 18 := by
  unfold pT
  rw [PySem.Str.length_append, PySem.Str.length_append, sg_len]
  have := h.1.2.1
  have := nT_length h.2
  omega
theorem fT_len {a : Pr2} (h : FcOk a) : (fT a).length ≤ 37 := by
  unfold fT
  rw [PySem.Str.length_append, PySem.Str.length_append, sg_len]
  have := pT_len h.1.1
  have := pT_len h.1.2
  omega
theorem rst_free {e : En} (h : e.ok) {c : Nat} (hc : c < 46) (h45 : c ≠ 45) : Free c (rst e) := by
  cases e with
  | push x => exact nm_free h (by omega)
  | pop x => exact nm_free h (by omega)
  | size k => exact nT_free c ⟨h45, Or.inl (by omega)⟩ _
  | steal o x => exact free_cat (free_cat (nm_free h.1 (by omega)) (free_sg (by omega))) (nm_free h.2 (by omega))
theorem eT_free {e : En} (h : e.ok) {c : Nat} (hc : c < 43) : Free c (eT e) := free_cat (free_sg (by cases e <;> show c ≠ _ <;> first | (show c ≠ 43; omega) | (show c ≠ 45; omega) | (show c ≠ 61; omega) | (show c ≠ 60; omega))) (rst_free h (by omega) (by omega))
theorem pT_free {z : Pl2} (h : PlOk z) {c : Nat} (hc : c < 46 ∧ c ≠ 45 ∨ 57 < c ∧ c < 97) : Free c (pT z) := free_cat (free_cat (nm_free h.1 (by omega)) (free_sg (by omega))) (nT_free c (by omega) _)
theorem fT_free {a : Pr2} (h : FcOk a) {c : Nat} (hc : c < 45) : Free c (fT a) := free_cat (free_cat (pT_free h.1.1 (by omega)) (free_sg (by omega))) (pT_free h.1.2 (by omega))
theorem cut_1 (c : Nat) (r : Str) : cutS (sg c ++ r) none (some 1) = sg c := by
  refine str_ext ?_
  unfold cutS
  rw [HT.sIx_none, show (1 : Int) = ((1 : Nat) : Int) from rfl, HT.sIx_nat, PySem.Str.length_append, sg_len, cat_list, List.drop_zero]
  have : min 1 (1 + r.length) - 0 = 1 := by omega
  rw [this]
  rfl
theorem cut_2 (c : Nat) (r : Str) : cutS (sg c ++ r) (some 1) none = r := by
  refine str_ext ?_
  unfold cutS
  rw [HT.sIx_none, show (1 : Int) = ((1 : Nat) : Int) from rfl, HT.sIx_nat, PySem.Str.length_append, sg_len, cat_list]
  have : min 1 (1 + r.length) = 1 := by omega
  rw [this]
  show (r.cps.toList.take (1 + r.length - 1)) = r.cps.toList
  refine List.take_of_length_le ?_
  rw [Array.length_toList]
  show r.length ≤ _
  omega
theorem emp_cat (a : Str) : Str.empty ++ a = a := PySem.Str.empty_append a
theorem sgn_is (e : En) : decide (V.str (sg (sgn e)) = V.str "+") = (match e with | .push _ => true | _ => false) ∧ decide (V.str (sg (sgn e)) = V.str "-") = (match e with | .pop _ => true | _ => false) ∧
    decide (V.str (sg (sgn e)) = V.str "=") = (match e with | .size _ => true | _ => false) ∧ decide (V.str (sg (sgn e)) = V.str "<") = (match e with | .steal _ _ => true | _ => false) := by
  have all : ∀ a ∈ ([(43, true, false, false, false), (45, false, true, false, false), (61, false, false, true, false), (60, false, false, false, true)] : List (Nat × Bool × Bool × Bool × Bool)), decide (V.str (sg a.1) = V.str "+") = a.2.1 ∧ decide (V.str (sg a.1) = V.str "-") = a.2.2.1 ∧ decide (V.str (sg a.1) = V.str "=") = a.2.2.2.1 ∧ decide (V.str (sg a.1) = V.str "<") = a.2.2.2.2 := by decide +kernel
  cases e with
  | push => exact all (43, true, false, false, false) (by simp)
  | pop => exact all (45, false, true, false, false) (by simp)
  | size => exact all (61, false, false, true, false) (by simp)
  | steal => exact all (60, false, false, false, true) (by simp)
theorem shp {z : Pl2} (h : PlOk z) : SeqAt.shaped (.tuple [.str z.1, .int (z.2 : Int)]) = true := by
  have hs : PyData.strOk z.1 = true := by
    unfold PyData.strOk
    rw [← Array.all_toList, List.all_eq_true]
    exact fun c hc => decide_eq_true (by have := (h.1.2.2 c hc).2; omega)
  show (PyData.canLay0 _ && decide (PyData.depth _ ≤ 64)) = true
  simp only [PyData.canLay0, PyData.canLayAll0, hs, PyData.depth, PyData.depthAll]
  rfl
theorem eqv_pl {a b : Pl2} (h : a ≠ b) : PyData.eqv (.tuple [.str a.1, .int (a.2 : Int)]) (.tuple [.str b.1, .int (b.2 : Int)]) = false := by
  simp only [PyData.eqv, PyData.eqvAll, Bool.and_true]
  by_cases h1 : a.1 = b.1
  · have h2 : a.2 ≠ b.2 := fun z => h (Prod.ext h1 z)
    have h3 : ((a.2 : Int) == (b.2 : Int)) = false := beq_eq_false_iff_ne.mpr fun z => h2 (by omega)
    rw [h3, Bool.and_false]
  · rw [beq_eq_false_iff_ne.mpr h1, Bool.false_and]
theorem s_ret' {D : Ends} {te : TE} {σ : L2.St} {H : Hp} {xs : List V} (k : ∀ p H1, H p = none → Ex H H1 → H1 p = some (.tup xs) → D.rt (.ref p) H1) (h : EvU te σ H xs) : tRet te D σ H := s_retU h k
def spWPlace : Sp := fun vs H Q _ => ∃ (v : V) (z : Pl2), vs = [v] ∧ PlV H v z ∧ PlOk z ∧ ∀ H', Ex H H' → Q (.str (pT z)) H'
def spWEntry : Sp := fun vs H Q _ => ∃ (a : Addr) (e : En), vs = [.ref a] ∧ H a = some (.tup e.vs) ∧ e.ok ∧ ∀ H', Ex H H' → Q (.str (eT e)) H'
def spNumber : Sp := fun vs H Q _ => ∃ n : Nat, vs = [.str (nT n)] ∧ n < 10 ^ 9 ∧ Yes H Q
def RetU (xs : List V) (H : Hp) (Q : VK) : Prop := ∀ p H2, H p = none → Ex H H2 → H2 p = some (.tup xs) → Q (.ref p) H2
def spRPlace : Sp := fun vs H Q _ => ∃ z : Pl2, vs = [.str (pT z)] ∧ PlOk z ∧ RetU [.str z.1, .int (z.2 : Int)] H Q
def spRName : Sp := fun vs H Q _ => ∃ z : Str, vs = [.str z] ∧ IsNm z ∧ ∀ H', Ex H H' → Q (.str z) H'
def spREntry : Sp := fun vs H Q _ => ∃ e : En, vs = [.str (eT e)] ∧ e.ok ∧ RetU e.vs H Q
def spRFact : Sp := fun vs H Q _ => ∃ a : Pr2, vs = [.str (fT a)] ∧ FcOk a ∧ ∀ v H', Ex H H' → PrV H' v a → Q v H'
theorem op_eqDK2 {X : Cx} {K : PySem.W.Frag} (hK : X.K = K) (hu : X.A.units + 64 < cLine) : OpR X (compareOp .Eq) (rEqD K) := by
  subst hK
  exact op_eqD hu
theorem eu_call {sp : Sp} {vs : List V} {E : XK} {ta : TA} {σ : L2.St} {H : Hp} {xs : List V} (h : EvA ta σ H vs) (hs : ∀ H1, Ex H H1 → ∀ Q : VK, RetU xs H1 Q → ∀ E : XK, sp vs H1 Q E) : EvU (tCall sp [] E ta) σ H xs := fun H1 e Q q =>
  h H1 e _ fun H2 e2 => by
    show sp (vs ++ []) H2 Q E
    rw [List.append_nil]
    exact hs H2 (e.trans e2) Q (fun p H3 n e3 h3 => q p H3 (fresh_back e2 n) (e2.trans e3) h3) E
section
variable {P : Program} {w : World} {K : PySem.W.Frag} {mg : Str → Option Value} {base : Heap}
theorem sc_write_place : FnScope ["place", "worker", "index"] ["place"] (defScope s_write_place) := ⟨rfl, rfl, rfl, by decide +kernel, rfl, by decide +kernel, by decide +kernel⟩
theorem ok_write_place (D : Def K mg "write_place" s_write_place ["place"]) (T : Bl mg) : Good P w K mg base 1 "write_place" ["place"] (spWPlace) := by
  refine D.good sc_write_place (fun vs H Q E h => ?_) (fun f cdv A outer s H vs Q E hr h => ?_)
  · obtain ⟨v, z, rfl, _⟩ := h
    rfl
  · obtain ⟨v, z, rfl, hv, hz, q⟩ := h
    have hu := hu_of hr
    refine ⟨_, (pss_cons (ps_asg (pv 0) (x_gt (K := K) (pgs_cons (pg_name (i := 1) sc_write_place.nd rfl (Or.inl rfl)) (pgs_cons (pg_name (i := 2) sc_write_place.nd rfl (Or.inl rfl)) pgs_nil))))
      (pss_one (ps_ret (pe_joined (.cons (pe_fmt (pv 1)) (.cons pe_str (.cons (pe_fmt (pv 2)) .nil))))))), ?_⟩
    obtain ⟨b, rfl, hb⟩ := hv
    refine q_two (ev_var rfl) hb fun H1 e1 => ?_
    refine s_ret (v := .str (pT z)) (ev_is (ev_joined (.cons (ev_fmtS (ev_var rfl) (by have := hz.1.2.1; omega)) (.cons ev_c (.cons (ev_fmtN (ev_var rfl) (by have := hz.2; omega)) .nil))) ?_) ?_) fun H2 e2 => q H2 (e1.trans e2)
    · have := hz.1.2.1
      have := nT_length hz.2
      rw [k46]
      show z.1.length + (1 + ((nT z.2).length + 0)) ≤ 100000
      omega
    · rw [k46]
      show V.str (Str.empty ++ z.1 ++ sg 46 ++ nT z.2) = _
      rw [emp_cat]
      rfl
theorem sc_write_entry : FnScope ["entry"] ["entry"] (defScope s_write_entry) := ⟨rfl, rfl, rfl, by decide +kernel, rfl, by decide +kernel, by decide +kernel⟩
theorem ok_write_entry (D : Def K mg "write_entry" s_write_entry ["entry"]) (T : Bl mg) (C2 : Cs2 K w mg) : Good P w K mg base 1 "write_entry" ["entry"] (spWEntry) := by
  refine D.good sc_write_entry (fun vs H Q E h => ?_) (fun f cdv A outer s H vs Q E hr h => ?_)
  · obtain ⟨a, e, rfl, _⟩ := h
    rfl
  · obtain ⟨a, e, rfl, ha, ok, q⟩ := h
    have hu := hu_of hr
    obtain ⟨sd, sm, s1, s2, s3⟩ := C2.SIGNS
    refine ⟨_, (pss_cons (ps_if (pt_cmpR op_eq (x_ixt (K := K) (pv 0) pe_int) pe_str (nomark _)) (pss_one (ps_ret (pe_joined (.cons pe_str (.cons (pe_fmt (x_ixt (K := K) (pv 0) pe_int)) (.cons pe_str (.cons (pe_fmt (x_ixt (K := K) (pv 0) pe_int)) .nil))))))) pss_nil)
      (pss_one (ps_ret (pe_joined (.cons (pe_fmt (pe_ix ix_kdict (x_gref sm) (x_ixt (K := K) (pv 0) pe_int) (fun _ _ => rfl))) (.cons (pe_fmt (x_ixt (K := K) (pv 0) pe_int)) .nil)))))), ?_⟩
    have e0 : ∀ {σ : L2.St} {H' : Hp}, Ex H H' → σ[0]? = some (some (.ref a)) → Ev (tOp (rIxT K) (tVar 0) (tC (.int 0))) σ H' (.str e.hd) := fun ee h => ev_op (ev_var h) ev_c (rv_ixT (st_of (ee _ _ ha)) e.at0)
    have st : ∀ (o x : Str), e = .steal o x → decide (V.str e.hd = V.str "steal") = true := fun o x z => by
      subst z
      exact (by decide +kernel : decide (V.str "steal" = V.str "steal") = true)
    cases e with
    | steal o x =>
      refine q_if (b := true) (et_is (et_test (ev_op (e0 (Ex.refl H) rfl) ev_c (rv_eq rfl))) (st o x rfl)) (fun _ H1 e1 => ?_) (fun z => nomatch z)
      have ix1 : ∀ {σ : L2.St} {H' : Hp}, Ex H H' → σ[0]? = some (some (.ref a)) → Ev (tOp (rIxT K) (tVar 0) (tC (.int 1))) σ H' (.str o) := fun ee h => ev_op (ev_var h) ev_c (rv_ixT (st_of (ee _ _ ha)) rfl)
      have ix2 : ∀ {σ : L2.St} {H' : Hp}, Ex H H' → σ[0]? = some (some (.ref a)) → Ev (tOp (rIxT K) (tVar 0) (tC (.int 2))) σ H' (.str x) := fun ee h => ev_op (ev_var h) ev_c (rv_ixT (st_of (ee _ _ ha)) rfl)
      refine s_ret (v := .str (eT (.steal o x))) (ev_is (ev_joined (.cons ev_c (.cons (ev_fmtS (ix1 e1 rfl) (by have := ok.1.2.1; omega)) (.cons ev_c (.cons (ev_fmtS (ix2 e1 rfl) (by have := ok.2.2.1; omega)) .nil)))) ?_) ?_) fun H2 e2 => q H2 (e1.trans e2)
      · rw [k46, k60]
        have := ok.1.2.1
        have := ok.2.2.1
        show 1 + (o.length + (1 + (x.length + 0))) ≤ 100000
        omega
      · rw [k46, k60]
        show V.str (Str.empty ++ sg 60 ++ o ++ sg 46 ++ x) = V.str (sg 60 ++ (o ++ sg 46 ++ x))
        rw [emp_cat, PySem.Str.append_assoc, PySem.Str.append_assoc, PySem.Str.append_assoc]
    | push x =>
      refine q_if (b := false) (et_is (et_test (ev_op (e0 (Ex.refl H) rfl) ev_c (rv_eq rfl))) (by show decide (V.str "push" = V.str "steal") = false; decide +kernel)) (fun z => nomatch z) (fun _ H1 e1 => ?_)
      have ix1 : ∀ {σ : L2.St} {H' : Hp}, Ex H H' → σ[0]? = some (some (.ref a)) → Ev (tOp (rIxT K) (tVar 0) (tC (.int 1))) σ H' (.str x) := fun ee h => ev_op (ev_var h) ev_c (rv_ixT (st_of (ee _ _ ha)) rfl)
      refine s_ret (v := .str (eT (.push x))) (ev_is (ev_joined (.cons (ev_fmtS (ev_kd ev_c (e0 e1 rfl) s1) (by decide)) (.cons (ev_fmtS (ix1 e1 rfl) (by have := IsNm.len ok; omega)) .nil)) ?_) ?_) fun H2 e2 => q H2 (e1.trans e2)
      · rw [k43]
        have := IsNm.len ok
        show 1 + (x.length + 0) ≤ 100000
        omega
      · rw [k43]
        show V.str (Str.empty ++ sg 43 ++ x) = V.str (sg 43 ++ x)
        rw [emp_cat]
    | pop x =>
      refine q_if (b := false) (et_is (et_test (ev_op (e0 (Ex.refl H) rfl) ev_c (rv_eq rfl))) (by show decide (V.str "pop" = V.str "steal") = false; decide +kernel)) (fun z => nomatch z) (fun _ H1 e1 => ?_)
      have ix1 : ∀ {σ : L2.St} {H' : Hp}, Ex H H' → σ[0]? = some (some (.ref a)) → Ev (tOp (rIxT K) (tVar 0) (tC (.int 1))) σ H' (.str x) := fun ee h => ev_op (ev_var h) ev_c (rv_ixT (st_of (ee _ _ ha)) rfl)
      refine s_ret (v := .str (eT (.pop x))) (ev_is (ev_joined (.cons (ev_fmtS (ev_kd ev_c (e0 e1 rfl) s2) (by decide)) (.cons (ev_fmtS (ix1 e1 rfl) (by have := IsNm.len ok; omega)) .nil)) ?_) ?_) fun H2 e2 => q H2 (e1.trans e2)
      · rw [k45]
        have := IsNm.len ok
        show 1 + (x.length + 0) ≤ 100000
        omega
      · rw [k45]
        show V.str (Str.empty ++ sg 45 ++ x) = V.str (sg 45 ++ x)
        rw [emp_cat]
    | size k =>
      have k0 := ok.1
      have k6 := ok.2
      have ek : ((k.toNat : Nat) : Int) = k := Int.toNat_of_nonneg k0
      refine q_if (b := false) (et_is (et_test (ev_op (e0 (Ex.refl H) rfl) ev_c (rv_eq rfl))) (by show decide (V.str "size" = V.str "steal") = false; decide +kernel)) (fun z => nomatch z) (fun _ H1 e1 => ?_)
      have ix1 : ∀ {σ : L2.St} {H' : Hp}, Ex H H' → σ[0]? = some (some (.ref a)) → Ev (tOp (rIxT K) (tVar 0) (tC (.int 1))) σ H' (.int (k.toNat : Int)) := fun ee h => ev_is (ev_op (ev_var h) ev_c (rv_ixT (v := .int k) (st_of (ee _ _ ha)) rfl)) (by rw [ek])
      refine s_ret (v := .str (eT (.size k))) (ev_is (ev_joined (.cons (ev_fmtS (ev_kd ev_c (e0 e1 rfl) s3) (by decide)) (.cons (ev_fmtN (ix1 e1 rfl) (by omega)) .nil)) ?_) ?_) fun H2 e2 => q H2 (e1.trans e2)
      · rw [k61]
        have := nT_length (n := k.toNat) (by omega)
        show 1 + ((nT k.toNat).length + 0) ≤ 100000
        omega
      · rw [k61]
        show V.str (Str.empty ++ sg 61 ++ nT k.toNat) = V.str (sg 61 ++ nT k.toNat)
        rw [emp_cat]
theorem sc_is_number : FnScope ["word", "digit"] ["word"] (defScope s_is_number) := ⟨rfl, rfl, rfl, by decide +kernel, rfl, by decide +kernel, by decide +kernel⟩
theorem ok_is_number (D : Def K mg "is_number" s_is_number ["word"]) (T : Bl mg) (C2 : Cs2 K w mg) : Good P w K mg base 1 "is_number" ["word"] (spNumber) := by
  refine D.good sc_is_number (fun vs H Q E h => ?_) (fun f cdv A outer s H vs Q E hr h => ?_)
  · obtain ⟨n, rfl, _⟩ := h
    rfl
  · obtain ⟨n, rfl, hn, q⟩ := h
    have hu := hu_of hr
    refine ⟨_, (pss_cons (ps_if (pw_or (pt_not (pt_chain op_le op_le pe_int (pe_callB call_len_str (by rfl) T.len PySem.boot_len (pa_cons (pv 0) pa_nil)) (x_gint C2.MOST_DIGITS))) (pw_or1 (pt_not (pt_val (x_all (K := K) T (pe_lc (own := [("digit", 1)]) (g := (gName 1)) (tt := tYes) rfl sc_is_number.nd (pi_str (pv 0)) (blkOk_by (N := ["word", "digit"]) (sc := (defScope s_is_number)) (by decide +kernel)) (fun _ _ _ _ _ => (pg_name (i := 1) sc_is_number.nd rfl (Or.inl rfl))) (fun _ _ _ _ _ => pts_nil) (fun _ _ _ _ _ => (pe_chain op_le_str op_le_str pe_str (pv 1) pe_str)))))))).pt pss_never pss_nil)
      (pss_one (ps_ret (pe_or (pe_cmpR op_eq (pv 0) pe_str (nomark _)) (pe_one (pe_cmpR op_ne (pe_ix ix_str (pv 0) pe_int (fun _ _ => rfl)) pe_str (nomark _))))))), ?_⟩
    have hl := nT_length hn
    obtain ⟨c0, r0, hc0⟩ := nT_ne n
    have h1 : 1 ≤ (nT n).length := by
      show 1 ≤ (nT n).cps.size
      rw [← Array.length_toList, hc0, List.length_cons]
      omega
    refine q_if (b := false) (et_is (et_or (a := false) (b := false) (et_not (a := true) (et_test (ev_chain ev_c (ev_lenS (fun H Q q => ?_) (ev_var rfl)) ev_c ?_ ?_))) (fun _ => et_not (a := true) (et_B (ev_allT ((elp_lcS (fun _ v _ => v = .bl true) (ev_var rfl) (by omega) (fun _ => rfl) (fun i c hc => evp_of (ev_chain ev_c (ev_var rfl) ev_c ?_ ?_) fun _ _ => rfl)).imp fun _ _ _ h => h.2))))) rfl) (fun z => nomatch z) (fun _ H1 e1 => ?_)
    · exact ⟨nT n, rfl, sz_of (by omega), q⟩
    · exact rv_b rv_I0 (by simp; omega)
    · exact rv_b rv_I0 (by simp; omega)
    · exact rv_b rv_leS (le_one (a := 48) (b := c) (by decide +kernel) rfl (nT_digits n c (List.mem_of_getElem? hc)).1)
    · exact rv_b rv_leS (le_one (a := c) (b := 57) rfl (by decide +kernel) (nT_digits n c (List.mem_of_getElem? hc)).2)
    · by_cases h0 : n = 0
      · subst h0
        have e : nT 0 = "0" := by decide +kernel
        rw [e]
        refine s_ret (v := .bl true) (ev_is (ev_orV (a := true) (b := true) (ev_is (ev_op (ev_var rfl) ev_c (rv_eq rfl)) (congrArg V.bl (by decide +kernel))) (fun z => nomatch z)) rfl) fun H2 e2 => q H2 (e1.trans e2)
      · obtain ⟨c, r, hc, hne⟩ := nT_head n (by omega)
        have n0 : nT n ≠ "0" := fun z => by
          have := congrArg (fun s : Str => s.cps.toList) z
          have e : ("0" : Str).cps.toList = [48] := by decide +kernel
          rw [hc, e] at this
          exact hne (List.cons.inj this).1
        refine s_ret (v := .bl true) (ev_is (ev_orV (a := false) (b := true) (ev_is (ev_op (ev_var rfl) ev_c (rv_eq rfl)) (congrArg V.bl (decide_eq_false fun z => n0 (V.str.inj z)))) (fun _ => ev_is (ev_op (ev_op (ev_var rfl) ev_c (rv_ixS (c := c) (by omega) ?_)) ev_c (rv_ne rfl)) ?_)) rfl) fun H2 e2 => q H2 (e1.trans e2)
        · rw [hc]
          exact atI_nat (j := 0) (xs := c :: r) (v := c) rfl
        · have : ¬ (V.str (sg c) = V.str "0") := fun z => by
            have := congrArg (fun s : Str => s.cps.toList) (V.str.inj z)
            have e : ("0" : Str).cps.toList = [48] := by decide +kernel
            rw [e] at this
            exact hne (List.cons.inj this).1
          rw [decide_eq_false this]
          rfl
theorem sc_read_place : FnScope ["text", "worker", "_", "index"] ["text"] (defScope s_read_place) := ⟨rfl, rfl, rfl, by decide +kernel, rfl, by decide +kernel, by decide +kernel⟩
theorem ok_read_place (D : Def K mg "read_place" s_read_place ["text"]) (T : Bl mg) (G_is_name : Good P w K mg base 1 "is_name" ["thing"] spName) (G_is_number : Good P w K mg base 1 "is_number" ["word"] spNumber) : Good P w K mg base 2 "read_place" ["text"] (spRPlace) := by
  refine D.good sc_read_place (fun vs H Q E h => ?_) (fun f cdv A outer s H vs Q E hr h => ?_)
  · obtain ⟨z, rfl, _⟩ := h
    rfl
  · obtain ⟨z, rfl, hz, q⟩ := h
    have hu := hu_of hr
    refine ⟨_, (pss_cons (ps_asg (pe_partition (pv 0) pe_str) (x_gt (K := K) (pgs_cons (pg_name (i := 1) sc_read_place.nd rfl (Or.inl rfl)) (pgs_cons (pg_name (i := 2) sc_read_place.nd rfl (Or.inl rfl)) (pgs_cons (pg_name (i := 3) sc_read_place.nd rfl (Or.inl rfl)) pgs_nil)))))
      (pss_cons (ps_if (pw_or (pt_not (pt_val (pe_fn (G_is_name.mono (by decide)) hr (pa_cons (pv 1) pa_nil)))) (pw_or1 (pt_not (pt_val (pe_fn (G_is_number.mono (by decide)) hr (pa_cons (pv 3) pa_nil)))))).pt pss_never pss_nil)
      (pss_one (ps_ret (pe_tup (pa_cons (pv 1) (pa_cons (pe_callTy (hc := call_int_str) (hg := by rfl) (hm := T.int) (hv := by decide +kernel) (ha := pa_cons (pv 3) pa_nil)) pa_nil))))))), ?_⟩
    refine q_three (eu_part (c := 46) (a := z.1) (b := nT z.2) (ev_var rfl) (ev_is ev_c (congrArg V.str k46)) (nm_free hz.1 (by decide)) (Nat.le_trans (pT_len hz) (by decide))) fun H1 e1 => ?_
    refine q_if (b := false) (et_is (et_or (a := false) (b := false) (et_not (a := true) (et_B (ev_call (ea_cons (ev_var rfl) ea_nil) (Yes.spv fun H1 _ Q y E => ⟨z.1, rfl, hz.1, y⟩)))) (fun _ => et_not (a := true) (et_B (ev_call (ea_cons (ev_var rfl) ea_nil) (Yes.spv fun H1 _ Q y E => ⟨z.2, rfl, hz.2, y⟩))))) rfl) (fun z => nomatch z) (fun _ H2 e2 => ?_)
    refine s_retU (xs := [.str z.1, .int (z.2 : Int)]) (eu_tup (ea_cons (ev_var rfl) (ea_cons (ev_intN (ev_var rfl) hz.2) ea_nil)) (by show 2 ≤ 100000; decide)) fun p H3 n e3 h3 => q p H3 (fresh_back (e1.trans e2) n) ((e1.trans e2).trans e3) h3
theorem sc_read_name : FnScope ["word"] ["word"] (defScope s_read_name) := ⟨rfl, rfl, rfl, by decide +kernel, rfl, by decide +kernel, by decide +kernel⟩
theorem ok_read_name (D : Def K mg "read_name" s_read_name ["word"]) (T : Bl mg) (G_is_name : Good P w K mg base 1 "is_name" ["thing"] spName) : Good P w K mg base 2 "read_name" ["word"] (spRName) := by
  refine D.good sc_read_name (fun vs H Q E h => ?_) (fun f cdv A outer s H vs Q E hr h => ?_)
  · obtain ⟨z, rfl, _⟩ := h
    rfl
  · obtain ⟨z, rfl, hz, q⟩ := h
    have hu := hu_of hr
    refine ⟨_, (pss_one (ps_ret (pe_ifExp (pt_val (pe_fn (G_is_name.mono (by decide)) hr (pa_cons (pv 0) pa_nil))) (pv 0) pe_non))), ?_⟩
    exact s_ret (v := .str z) (ev_if (b := true) (et_B (ev_call (ea_cons (ev_var rfl) ea_nil) (Yes.spv fun H1 _ Q y E => ⟨z, rfl, hz, y⟩))) (fun _ => ev_var rfl) (fun z => nomatch z)) fun H1 e1 => q H1 e1
theorem sc_read_entry : FnScope ["word", "sign", "rest", "worker", "_", "item"] ["word"] (defScope s_read_entry) := ⟨rfl, rfl, rfl, by decide +kernel, rfl, by decide +kernel, by decide +kernel⟩
theorem ok_read_entry (D : Def K mg "read_entry" s_read_entry ["word"]) (T : Bl mg) (G_is_name : Good P w K mg base 1 "is_name" ["thing"] spName) (G_is_number : Good P w K mg base 1 "is_number" ["word"] spNumber) : Good P w K mg base 2 "read_entry" ["word"] (spREntry) := by
  refine D.good sc_read_entry (fun vs H Q E h => ?_) (fun f cdv A outer s H vs Q E hr h => ?_)
  · obtain ⟨e, rfl, _⟩ := h
    rfl
  · obtain ⟨e, rfl, ok, q⟩ := h
    have hu := hu_of hr
    refine ⟨_, (pss_cons (ps_set (i := 1) sc_read_entry.nd rfl (Or.inl rfl) (pe_slice sl_str (pv 0) po_none (po_some pe_int)))
      (pss_cons (ps_set (i := 2) sc_read_entry.nd rfl (Or.inl rfl) (pe_slice sl_str (pv 0) (po_some pe_int) po_none))
      (pss_cons (ps_if (pw_and (pt_cmpR op_eq (pv 1) pe_str (nomark _)) (pw_and1 (pt_val (pe_fn (G_is_name.mono (by decide)) hr (pa_cons (pv 2) pa_nil))))).pt (pss_one (ps_ret (pe_tup (pa_cons pe_str (pa_cons (pv 2) pa_nil))))) pss_nil)
      (pss_cons (ps_if (pw_and (pt_cmpR op_eq (pv 1) pe_str (nomark _)) (pw_and1 (pt_val (pe_fn (G_is_name.mono (by decide)) hr (pa_cons (pv 2) pa_nil))))).pt (pss_one (ps_ret (pe_tup (pa_cons pe_str (pa_cons (pv 2) pa_nil))))) pss_nil)
      (pss_cons (ps_if (pw_and (pt_cmpR op_eq (pv 1) pe_str (nomark _)) (pw_and1 (pt_val (pe_fn (G_is_number.mono (by decide)) hr (pa_cons (pv 2) pa_nil))))).pt (pss_one (ps_ret (pe_tup (pa_cons pe_str (pa_cons (pe_callTy (hc := call_int_str) (hg := by rfl) (hm := T.int) (hv := by decide +kernel) (ha := pa_cons (pv 2) pa_nil)) pa_nil))))) pss_nil)
      (pss_cons (ps_asg (pe_partition (pv 2) pe_str) (x_gt (K := K) (pgs_cons (pg_name (i := 3) sc_read_entry.nd rfl (Or.inl rfl)) (pgs_cons (pg_name (i := 4) sc_read_entry.nd rfl (Or.inl rfl)) (pgs_cons (pg_name (i := 5) sc_read_entry.nd rfl (Or.inl rfl)) pgs_nil)))))
      (pss_cons (ps_if (pw_and (pt_cmpR op_eq (pv 1) pe_str (nomark _)) (pw_and (pt_val (pe_fn (G_is_name.mono (by decide)) hr (pa_cons (pv 3) pa_nil))) (pw_and1 (pt_val (pe_fn (G_is_name.mono (by decide)) hr (pa_cons (pv 5) pa_nil)))))).pt (pss_one (ps_ret (pe_tup (pa_cons pe_str (pa_cons (pv 3) (pa_cons (pv 5) pa_nil)))))) pss_nil)
      (pss_one (ps_ret pe_non))))))))), ?_⟩
    obtain ⟨t1, t2, t3, t4⟩ := sgn_is e
    have el : (eT e).length ≤ 100000 := Nat.le_trans (eT_len ok) (by decide)
    refine q_asg (v := .str (sg (sgn e))) (ev_slS (ev_var rfl) eo_none (eo_some ev_c) el (cut_1 _ _)) fun H1 e1 => ?_
    refine q_asg (v := .str (rst e)) (ev_slS (ev_var rfl) (eo_some ev_c) eo_none el (cut_2 _ _)) fun H2 e2 => ?_
    have E2 := e1.trans e2
    dsimp only [gName]
    cases e with
    | push x =>
      refine q_if (b := true) (et_is (et_and (a := true) (b := true) (et_is (et_test (ev_op (ev_var rfl) ev_c (rv_eq rfl))) t1) (fun _ => et_B (ev_call (ea_cons (ev_var rfl) ea_nil) (Yes.spv fun H1 _ Q y E => ⟨x, rfl, ok, y⟩)))) rfl) (fun _ H3 e3 => ?_) (fun z => nomatch z)
      refine s_retU (xs := [.str "push", .str x]) (eu_tup (ea_cons ev_c (ea_cons (ev_var rfl) ea_nil)) (by show 2 ≤ 100000; decide)) fun p H4 n e4 h4 => q p H4 (fresh_back (E2.trans e3) n) ((E2.trans e3).trans e4) h4
    | pop x =>
      refine q_if (b := false) (et_is (et_and (a := false) (b := false) (et_is (et_test (ev_op (ev_var rfl) ev_c (rv_eq rfl))) t1) (fun z => nomatch z)) rfl) (fun z => nomatch z) (fun _ H3 e3 => ?_)
      refine q_if (b := true) (et_is (et_and (a := true) (b := true) (et_is (et_test (ev_op (ev_var rfl) ev_c (rv_eq rfl))) t2) (fun _ => et_B (ev_call (ea_cons (ev_var rfl) ea_nil) (Yes.spv fun H1 _ Q y E => ⟨x, rfl, ok, y⟩)))) rfl) (fun _ H4 e4 => ?_) (fun z => nomatch z)
      refine s_retU (xs := [.str "pop", .str x]) (eu_tup (ea_cons ev_c (ea_cons (ev_var rfl) ea_nil)) (by show 2 ≤ 100000; decide)) fun p H5 n e5 h5 => q p H5 (fresh_back ((E2.trans e3).trans e4) n) (((E2.trans e3).trans e4).trans e5) h5
    | size k =>
      have k0 := ok.1
      have k6 := ok.2
      have ek : ((k.toNat : Nat) : Int) = k := Int.toNat_of_nonneg k0
      refine q_if (b := false) (et_is (et_and (a := false) (b := false) (et_is (et_test (ev_op (ev_var rfl) ev_c (rv_eq rfl))) t1) (fun z => nomatch z)) rfl) (fun z => nomatch z) (fun _ H3 e3 => ?_)
      refine q_if (b := false) (et_is (et_and (a := false) (b := false) (et_is (et_test (ev_op (ev_var rfl) ev_c (rv_eq rfl))) t2) (fun z => nomatch z)) rfl) (fun z => nomatch z) (fun _ H4 e4 => ?_)
      refine q_if (b := true) (et_is (et_and (a := true) (b := true) (et_is (et_test (ev_op (ev_var rfl) ev_c (rv_eq rfl))) t3) (fun _ => et_B (ev_call (ea_cons (ev_var rfl) ea_nil) (Yes.spv fun H1 _ Q y E => ⟨k.toNat, rfl, by omega, y⟩)))) rfl) (fun _ H5 e5 => ?_) (fun z => nomatch z)
      have E5 := ((E2.trans e3).trans e4).trans e5
      refine s_retU (xs := [.str "size", .int k]) (eu_tup (ea_cons ev_c (ea_cons (ev_is (ev_intN (n := k.toNat) (ev_var rfl) (by omega)) (by rw [ek])) ea_nil)) (by show 2 ≤ 100000; decide)) fun p H6 n e6 h6 => q p H6 (fresh_back E5 n) (E5.trans e6) h6
    | steal o x =>
      refine q_if (b := false) (et_is (et_and (a := false) (b := false) (et_is (et_test (ev_op (ev_var rfl) ev_c (rv_eq rfl))) t1) (fun z => nomatch z)) rfl) (fun z => nomatch z) (fun _ H3 e3 => ?_)
      refine q_if (b := false) (et_is (et_and (a := false) (b := false) (et_is (et_test (ev_op (ev_var rfl) ev_c (rv_eq rfl))) t2) (fun z => nomatch z)) rfl) (fun z => nomatch z) (fun _ H4 e4 => ?_)
      refine q_if (b := false) (et_is (et_and (a := false) (b := false) (et_is (et_test (ev_op (ev_var rfl) ev_c (rv_eq rfl))) t3) (fun z => nomatch z)) rfl) (fun z => nomatch z) (fun _ H5 e5 => ?_)
      refine q_three (eu_part (c := 46) (a := o) (b := x) (ev_var rfl) (ev_is ev_c (congrArg V.str k46)) (nm_free ok.1 (by decide)) (Nat.le_trans (rst_len (e := .steal o x) ok) (by decide))) fun H6 e6 => ?_
      refine q_if (b := true) (et_is (et_and (a := true) (b := true) (et_is (et_test (ev_op (ev_var rfl) ev_c (rv_eq rfl))) t4) (fun _ => et_and (a := true) (b := true) (et_B (ev_call (ea_cons (ev_var rfl) ea_nil) (Yes.spv fun H1 _ Q y E => ⟨o, rfl, ok.1, y⟩))) (fun _ => et_B (ev_call (ea_cons (ev_var rfl) ea_nil) (Yes.spv fun H1 _ Q y E => ⟨x, rfl, ok.2, y⟩))))) rfl) (fun _ H7 e7 => ?_) (fun z => nomatch z)
      have E7 := ((((E2.trans e3).trans e4).trans e5).trans e6).trans e7
      refine s_retU (xs := [.str "steal", .str o, .str x]) (eu_tup (ea_cons ev_c (ea_cons (ev_var rfl) (ea_cons (ev_var rfl) ea_nil))) (by show 3 ≤ 100000; decide)) fun p H8 n e8 h8 => q p H8 (fresh_back E7 n) (E7.trans e8) h8
theorem sc_read_fact : FnScope ["word", "left", "_", "right", "one", "other"] ["word"] (defScope s_read_fact) := ⟨rfl, rfl, rfl, by decide +kernel, rfl, by decide +kernel, by decide +kernel⟩
theorem ok_read_fact (D : Def K mg "read_fact" s_read_fact ["word"]) (T : Bl mg) (G_read_place : Good P w K mg base 2 "read_place" ["text"] spRPlace) : Good P w K mg base 3 "read_fact" ["word"] (spRFact) := by
  refine D.good sc_read_fact (fun vs H Q E h => ?_) (fun f cdv A outer s H vs Q E hr h => ?_)
  · obtain ⟨a, rfl, _⟩ := h
    rfl
  · obtain ⟨a, rfl, ha, q⟩ := h
    have hu := hu_of hr
    refine ⟨_, (pss_cons (ps_asg (pe_partition (pv 0) pe_str) (x_gt (K := K) (pgs_cons (pg_name (i := 1) sc_read_fact.nd rfl (Or.inl rfl)) (pgs_cons (pg_name (i := 2) sc_read_fact.nd rfl (Or.inl rfl)) (pgs_cons (pg_name (i := 3) sc_read_fact.nd rfl (Or.inl rfl)) pgs_nil)))))
      (pss_cons (ps_set (i := 4) sc_read_fact.nd rfl (Or.inl rfl) (pe_fn (G_read_place.mono (by decide)) hr (pa_cons (pv 1) pa_nil)))
      (pss_cons (ps_set (i := 5) sc_read_fact.nd rfl (Or.inl rfl) (pe_fn (G_read_place.mono (by decide)) hr (pa_cons (pv 3) pa_nil)))
      (pss_cons (ps_if (pw_or (pt_cmpR op_isN (pv 4) pe_non (nomark _)) (pw_or (pt_cmpR op_isN (pv 5) pe_non (nomark _)) (pw_or1 (pt_cmpR (op_eqDK2 (K := K) rfl hr.units) (pv 4) (pv 5) (nomark _))))).pt pss_never pss_nil)
      (pss_one (ps_ret (pe_tup (pa_cons (pv 4) (pa_cons (pv 5) pa_nil))))))))), ?_⟩
    have h1 := ha.1.1
    have h2 := ha.1.2
    refine q_three (eu_part (c := 60) (a := pT a.1) (b := pT a.2) (ev_var rfl) (ev_is ev_c (congrArg V.str k60)) (pT_free h1 (by omega)) (Nat.le_trans (fT_len ha) (by decide))) fun H1 e1 => ?_
    refine q_asgU (xs := [.str a.1.1, .int (a.1.2 : Int)]) (eu_call (ea_cons (ev_var rfl) ea_nil) fun H2 e2 Q2 r E => ⟨a.1, rfl, h1, r⟩) fun p1 H2 n2 e2 hp1 => ?_
    refine q_asgU (xs := [.str a.2.1, .int (a.2.2 : Int)]) (eu_call (ea_cons (ev_var rfl) ea_nil) fun H3 e3 Q3 r E => ⟨a.2, rfl, h2, r⟩) fun p2 H3 n3 e3 hp2 => ?_
    have hp13 := e3 _ _ hp1
    refine q_if (b := false) (et_is (et_or (a := false) (b := false) (et_is (et_test (fun H8 e8 Q8 q8 => ⟨_, rfl, rfl, q8 H8 (Ex.refl H8)⟩)) (decide_eq_false fun z => nomatch z)) (fun _ => et_or (a := false) (b := false) (et_is (et_test (fun H8 e8 Q8 q8 => ⟨_, rfl, rfl, q8 H8 (Ex.refl H8)⟩)) (decide_eq_false fun z => nomatch z)) (fun _ => et_is (et_test (ev_op (z := .bl (PyData.eqv (.tuple [.str a.1.1, .int (a.1.2 : Int)]) (.tuple [.str a.2.1, .int (a.2.2 : Int)]))) (ev_var rfl) (ev_var rfl) (fun H8 e8 Q8 q8 => ⟨.tuple [.str a.1.1, .int (a.1.2 : Int)], .tuple [.str a.2.1, .int (a.2.2 : Int)], .tup (st_of (e8 _ _ hp13)) (.cons (.str _) (.cons (.int _) .nil)), .tup (st_of (e8 _ _ hp2)) (.cons (.str _) (.cons (.int _) .nil)), shp h1, shp h2, q8 H8 (Ex.refl H8)⟩))) (eqv_pl ha.2)))) rfl) (fun z => nomatch z) (fun _ H4 e4 => ?_)
    refine s_ret' (fun c H5 n5 e5 h5 => q (.ref c) H5 ((((e1.trans e2).trans e3).trans e4).trans e5) ⟨c, .ref p1, .ref p2, rfl, h5, ⟨p1, rfl, e5 _ _ (e4 _ _ hp13)⟩, ⟨p2, rfl, e5 _ _ (e4 _ _ hp2)⟩⟩) (eu_tup (ea_cons (ev_var rfl) (ea_cons (ev_var rfl) ea_nil)) (by show 2 ≤ 100000; decide))
end
end Vx

set_option Elab.async false
set_option linter.all false
set_option maxRecDepth 100000
set_option maxHeartbeats 4000000
namespace Vx
open PySem PySem.Spec PyProof.Rows L2 Evl
/-- one order -/
def leS1 (a b : Str) : Prop := ltCps b.cps.toList a.cps.toList = false
theorem leS1_iff {a b : Str} : leS1 a b ↔ ¬ b.cps.toList < a.cps.toList := by
  unfold leS1
  rw [ltCps_eq]
  simp
theorem leS1_trans {a b c : Str} (h1 : leS1 a b) (h2 : leS1 b c) : leS1 a c := by
  rw [leS1_iff, List.not_lt] at *
  exact List.le_trans h1 h2
theorem leS1_anti {a b : Str} (h1 : leS1 a b) (h2 : leS1 b a) : a = b := by
  rw [leS1_iff, List.not_lt] at *
  exact str_ext (List.le_antisymm h1 h2)
theorem rising_pw1 : ∀ (xs : List Str) (p : Str), risingS p xs = true → (p :: xs).Pairwise leS1
  | [], p, _ => by simp
  | x :: xs, p, h => by
    unfold risingS at h
    rw [Bool.and_eq_true] at h
    have h1 : leS1 p x := by
      unfold leS1
      simpa using h.1
    have ih := rising_pw1 xs x h.2
    refine List.pairwise_cons.mpr ⟨fun y hy => ?_, ih⟩
    rcases List.mem_cons.mp hy with rfl | hy
    · exact h1
    · exact leS1_trans h1 ((List.pairwise_cons.mp ih).1 y hy)
theorem sorted_pw1 {xs : List Str} (h : sortedS xs = true) : xs.Pairwise leS1 := by
  cases xs with
  | nil => exact List.Pairwise.nil
  | cons x xs => exact rising_pw1 xs x h
theorem sorted_one1 {xs ys : List Str} (p : xs.Perm ys) (h1 : sortedS xs = true) (h2 : sortedS ys = true) : xs = ys :=
  p.eq_of_pairwise (fun _ _ _ _ a b => leS1_anti a b) (sorted_pw1 h1) (sorted_pw1 h2)
section
variable {K : PySem.W.Frag} {σ : L2.St} {H : Hp} {te tl ta tb : TE} {g : TG} {vs : List Nat}
theorem given_allV (n : Nat) (v : Nat → V) : given n (fun _ => true) v = (List.range n).map v := by
  unfold given
  rw [List.filter_eq_self.mpr (fun _ _ => rfl)]
theorem range_list (ys : List V) : (List.range ys.length).map (fun i => ys.getD i .non) = ys := by
  refine List.ext_getElem? fun i => ?_
  rw [List.getElem?_map]
  by_cases h : i < ys.length
  · rw [List.getElem?_range h, List.getElem?_eq_getElem h]
    simp [List.getD, List.getElem?_eq_getElem h]
  · rw [List.getElem?_eq_none (l := ys) (by omega), List.getElem?_eq_none (l := List.range ys.length) (by rw [List.length_range]; omega)]
    rfl
/-- [e for x in xs], x any pattern -/
theorem el_lcA {a : Addr} {xs ys : List V} (s2 : Nat → L2.St) (h : Ev tl σ H (.ref a)) (hx : SqL K H a xs) (hz : xs.length ≤ 40000) (hl : ys.length = xs.length)
    (hg : ∀ (i : Nat) x, xs[i]? = some x → wipe (s2 i) vs = wipe σ vs ∧ ∀ H2, Ex H H2 → ∀ Q' : L2.St → Hp → Prop, (∀ H3, Ex H2 H3 → Q' (s2 i) H3) → g x (wipe σ vs) H2 Q')
    (he : ∀ (i : Nat) x y, xs[i]? = some x → ys[i]? = some y → Ev te (s2 i) H y) : EvL (tLc (iList K tl) g tYes te vs) σ H ys := fun H0 e Q q => h H0 e _ fun H1 e1 => ⟨a, rfl, ⟨_, ex_l (e.trans e1) hx⟩, fun Dl hD => by
  have E := e.trans e1
  have e2 : (fun Q : VK => Q) = fun Q => Q := rfl
  refine lc_given (H1 := H1) (Q := Q) (fun _ => true) (fun i => ys.getD i .non) s2 (ex_l E hx) hz (fun i x hi => ⟨(hg i x hi).1, fun H2 e3 => (hg i x hi).2 H2 (E.trans e3)⟩) (fun i x hi H3 e3 Q3 q3 => q3 H3 (Ex.refl H3)) (fun i x hi _ => ?_) (fun Dl2 H2 n2 e3 h2 => ?_) Dl hD
  · have hi2 : i < ys.length := by rw [hl]; exact (List.getElem?_eq_some_iff.mp hi).1
    have hy := List.getElem?_eq_getElem hi2
    have := (he i x _ hi hy).mono E
    have eq : ys.getD i .non = ys[i] := by simp [List.getD, hy]
    rw [eq]
    exact this
  · rw [given_allV, ← hl, range_list] at h2
    exact q Dl2 H2 (fresh_back e1 n2) (e1.trans e3) h2⟩
/-- .. over a list that is new -/
theorem el_lcNA {xs ys : List V} (s2 : Nat → L2.St) (h : EvL tl σ H xs) (hz : xs.length ≤ 40000) (hl : ys.length = xs.length)
    (hg : ∀ (i : Nat) x, xs[i]? = some x → wipe (s2 i) vs = wipe σ vs ∧ ∀ H2, Ex H H2 → ∀ Q' : L2.St → Hp → Prop, (∀ H3, Ex H2 H3 → Q' (s2 i) H3) → g x (wipe σ vs) H2 Q')
    (he : ∀ (i : Nat) x y, xs[i]? = some x → ys[i]? = some y → Ev te (s2 i) H y) : EvL (tLc (iList K tl) g tYes te vs) σ H ys := fun H0 e Q q => h H0 e _ fun a H1 na e1 h1 => ⟨a, rfl, ⟨_, sq_of h1⟩, fun Dl hD => by
  have E := e.trans e1
  refine lc_given (H1 := H1) (Q := Q) (fun _ => true) (fun i => ys.getD i .non) s2 (sq_of h1) hz (fun i x hi => ⟨(hg i x hi).1, fun H2 e3 => (hg i x hi).2 H2 (E.trans e3)⟩) (fun i x hi H3 e3 Q3 q3 => q3 H3 (Ex.refl H3)) (fun i x hi _ => ?_) (fun Dl2 H2 n2 e3 h2 => ?_) Dl hD
  · have hi2 : i < ys.length := by rw [hl]; exact (List.getElem?_eq_some_iff.mp hi).1
    have hy := List.getElem?_eq_getElem hi2
    have := (he i x _ hi hy).mono E
    have eq : ys.getD i .non = ys[i] := by simp [List.getD, hy]
    rw [eq]
    exact this
  · rw [given_allV, ← hl, range_list] at h2
    exact q Dl2 H2 (fresh_back e1 n2) (e1.trans e3) h2⟩
theorem tru_l {p : Addr} {xs : List V} (h : SqL K H p xs) : TruV K (.ref p) H (!xs.isEmpty) := Or.inl ⟨xs, h, rfl⟩
theorem el_catN {xs ys : List V} (ha : EvL ta σ H xs) (hb : EvL tb σ H ys) (hz : xs.length + ys.length ≤ 100000) : EvL (tOp rCat ta tb) σ H (xs ++ ys) := fun H1 e Q q =>
  ha H1 e _ fun l H2 hl e2 h2 => hb H2 (e.trans e2) _ fun r H3 hr e3 h3 => ⟨l, r, xs, ys, rfl, rfl, e3 _ _ h2, h3, sz_of hz, fun p hp => q p _ (fresh_back (e2.trans e3) hp) ((e2.trans e3).trans (Ex.new hp)) upd_same⟩
/-- f([..]) -/
theorem ev_callN {sp : Sp} {E : XK} {xs : List V} {v : V} (h : EvL te σ H xs) (hs : ∀ p H1, H1 p = some (.lst xs) → Ex H H1 → SpV sp [.ref p] H1 v) : Ev (tCall sp [] E (tCons te tNil)) σ H v := fun H1 e Q q =>
  h H1 e _ fun p H2 n e2 h2 => by
    show sp ([.ref p] ++ []) H2 Q E
    rw [List.append_nil]
    exact hs p H2 h2 (e.trans e2) H2 (Ex.refl H2) Q (fun H3 e3 => q H3 (e2.trans e3)) E
/-- sorted(d), told by what is sorted -/
theorem el_sortedD {d : Addr} {kvs : List (Key × V)} {ks ys : List Str} (ht : Ev te σ H (.ref d)) (hd : Rd H d (.dK kvs)) (hk : kvs.map (·.1) = ks.map Sum.inr) (hl : ks.length < 64) (pm : ys.Perm ks) (hs : sortedS ys = true) :
    EvL (tCB (fun xs H Q => ∃ (a : Addr) (kvs : List (Key × V)) (ks : List Str), xs = [.ref a] ∧ Rd H a (.dK kvs) ∧ kvs.map (·.1) = ks.map Sum.inr ∧ ks.length < 64 ∧ ∀ ys p, ys.Perm ks → sortedS ys = true → H p = none → Q (.ref p) (upd H p (.lst (ys.map V.str)))) (tCons te tNil)) σ H (ys.map V.str) := fun H1 e Q q =>
  ht H1 e _ fun H2 e2 => ⟨d, kvs, ks, rfl, ex_rd (e.trans e2) hd, hk, hl, fun zs p pz sz hp => by
    have : zs = ys := sorted_one1 (pz.trans pm.symm) sz hs
    rw [this]
    exact q p _ (fresh_back e2 hp) (e2.trans (Ex.new hp)) upd_same⟩
end
/-- the logs, by name -/
def SortZ (zs : List (Str × List En)) (ws : List Str) (L : List (List En)) : Prop := zs.Perm (ws.zip L) ∧ sortedS (zs.map (·.1)) = true
theorem SortZ.names {zs : List (Str × List En)} {ws : List Str} {L : List (List En)} (h : SortZ zs ws L) (hl : L.length = ws.length) : (zs.map (·.1)).Perm ws := by
  have := h.1.map (fun z : Str × List En => z.1)
  rwa [List.map_fst_zip (by omega)] at this
def spWWords (K : PySem.W.Frag) : Sp := fun vs H Q _ => ∃ (p : Addr) (ys : List Str), vs = [.ref p] ∧ SqL K H p (ys.map V.str) ∧ ys.length ≤ 400 ∧ (∀ y ∈ ys, y.length ≤ 100) ∧ ∀ H', Ex H H' → Q (.str (wT ys)) H'
def FsOk (fs : List Pr2) : Prop := fs.length ≤ 200 ∧ ∀ a ∈ fs, FcOk a
def RnOk (xs : List Str) : Prop := xs.length ≤ 360 ∧ ∀ x ∈ xs, IsNm x
def spWFacts : Sp := fun vs H Q _ => ∃ (p : Addr) (us : List V) (fs : List Pr2), vs = [.ref p] ∧ H p = some (.lst us) ∧ PrsA H us fs ∧ FsOk fs ∧ ∀ H', Ex H H' → Q (.str (wT (fs.map fT))) H'
def spWRun : Sp := fun vs H Q _ => ∃ (p : Addr) (xs : List Str), vs = [.ref p] ∧ H p = some (.lst (xs.map V.str)) ∧ RnOk xs ∧ ∀ H', Ex H H' → Q (.str (wT xs)) H'
def spWLog : Sp := fun vs H Q _ => ∃ (x : Str) (p : Addr) (es : List En), vs = [.str x, .ref p] ∧ IsNm x ∧ TL H p (es.map En.vs) ∧ es.length ≤ 60 ∧ (∀ e ∈ es, e.ok) ∧ ∀ H', Ex H H' → Q (.str (lT x es)) H'
def spWLogs : Sp := fun vs H Q _ => ∃ (d : Addr) (ws : List Str) (ps : List Addr) (L : List (List En)) (zs : List (Str × List En)), vs = [.ref d] ∧ HL H d ws ps L ∧ Vlog 60 ws L ∧ SortZ zs ws L ∧ ∀ H', Ex H H' → Q (.str (gT zs)) H'
theorem sum_len {B : Nat} {ys : List Str} (h : ∀ y ∈ ys, y.length ≤ B) : (ys.map (·.length)).sum ≤ ys.length * B := PySem.StrLaws.sumLen_le ys h
theorem join_len {c B : Nat} : ∀ {ys : List Str}, (∀ y ∈ ys, y.length ≤ B) → (Str.join (sg c) ys).length ≤ ys.length * (B + 1)
  | [], _ => Nat.zero_le _
  | [x], h => by
    have := h x (List.mem_cons_self ..)
    show x.length ≤ 1 * (B + 1)
    omega
  | x :: y :: r, h => by
    have ih := join_len (c := c) (ys := y :: r) fun z hz => h z (List.mem_cons_of_mem _ hz)
    have hx := h x (List.mem_cons_self ..)
    show (x ++ sg c ++ Str.join (sg c) (y :: r)).length ≤ _
    rw [PySem.Str.length_append, PySem.Str.length_append, sg_len, List.length_cons, Nat.succ_mul]
    omega
theorem lT_len {x : Str} {es : List En} (hx : IsNm x) (hl : es.length ≤ 60) (ok : ∀ e ∈ es, e.ok) : (lT x es).length ≤ 2000 := by
  have hw : ∀ y ∈ (x ++ sg 58) :: es.map eT, y.length ≤ 18 := fun y hy => by
    rcases List.mem_cons.mp hy with rfl | hy
    · rw [PySem.Str.length_append, sg_len]
      have := IsNm.len hx
      omega
    · obtain ⟨e, he, rfl⟩ := List.mem_map.mp hy
      exact eT_len (ok e he)
  have := join_len (c := 32) hw
  rw [List.length_cons, List.length_map] at this
  unfold lT
  omega
section
variable {P : Program} {w : World} {K : PySem.W.Frag} {mg : Str → Option Value} {base : Heap}
theorem sc_write_words : FnScope ["words"] ["words"] (defScope s_write_words) := ⟨rfl, rfl, rfl, by decide +kernel, rfl, by decide +kernel, by decide +kernel⟩
theorem ok_write_words (D : Def K mg "write_words" s_write_words ["words"]) (T : Bl mg) (C2 : Cs2 K w mg) : Good P w K mg base 1 "write_words" ["words"] ((spWWords K)) := by
  refine D.good sc_write_words (fun vs H Q E h => ?_) (fun f cdv A outer s H vs Q E hr h => ?_)
  · obtain ⟨p, ys, rfl, _⟩ := h
    rfl
  · obtain ⟨p, ys, rfl, hp, hl, hy, q⟩ := h
    have hu := hu_of hr
    refine ⟨_, (pss_one (ps_ret (pe_ifExp (pt_truth (pv 0) (fun _ => rfl)) (pe_join pe_str (pv 0)) (x_gstr C2.NONE)))), ?_⟩
    have hs := sum_len hy
    cases ys with
    | nil =>
      exact s_ret (v := .str "-") (ev_if (b := false) (fun H1 e1 Q1 q1 => (ev_var rfl : Ev (tVar 0) _ H _) H1 e1 _ fun H2 e2 => ⟨false, tru_l (ex_l (e1.trans e2) hp), q1 H2 e2⟩) (fun z => nomatch z) (fun _ => ev_c)) fun H1 e1 => q H1 e1
    | cons y ys =>
      refine s_ret (v := .str (Txt.join (sg 32) (y :: ys))) (ev_if (b := true) (fun H1 e1 Q1 q1 => (ev_var rfl : Ev (tVar 0) _ H _) H1 e1 _ fun H2 e2 => ⟨true, tru_l (ex_l (e1.trans e2) hp), q1 H2 e2⟩) (fun _ => ev_joinV (ev_is ev_c (congrArg V.str k32)) (ev_var rfl) hp ?_) (fun z => nomatch z)) fun H1 e1 => ?_
      · rw [sg_len]
        omega
      · have := q H1 e1
        unfold wT at this
        rw [if_neg (by simp)] at this
        rw [tjoin]
        exact this
theorem sc_write_facts : FnScope ["facts", "one", "other"] ["facts"] (defScope s_write_facts) := ⟨rfl, rfl, rfl, by decide +kernel, rfl, by decide +kernel, by decide +kernel⟩
theorem ok_write_facts (D : Def K mg "write_facts" s_write_facts ["facts"]) (T : Bl mg) (G_write_words : Good P w K mg base 1 "write_words" ["words"] (spWWords K)) (G_write_place : Good P w K mg base 1 "write_place" ["place"] spWPlace) : Good P w K mg base 2 "write_facts" ["facts"] (spWFacts) := by
  refine D.good sc_write_facts (fun vs H Q E h => ?_) (fun f cdv A outer s H vs Q E hr h => ?_)
  · obtain ⟨p, us, fs, rfl, _⟩ := h
    rfl
  · obtain ⟨p, us, fs, rfl, hp, pr, ok, q⟩ := h
    have hu := hu_of hr
    refine ⟨_, (pss_one (ps_ret (pe_fn (G_write_words.mono (by decide)) hr (pa_cons (pe_lc (own := [("one", 1), ("other", 2)]) (g := (gTup K 2 (gCons (gName 1) (gCons (gName 2) gNil)))) (tt := tYes) rfl sc_write_facts.nd (x_pil (K := K) (pv 0)) (blkOk_by (N := ["facts", "one", "other"]) (sc := (defScope s_write_facts)) (by decide +kernel)) (fun _ _ _ _ _ => (x_gt (K := K) (pgs_cons (pg_name (i := 1) sc_write_facts.nd rfl (Or.inl rfl)) (pgs_cons (pg_name (i := 2) sc_write_facts.nd rfl (Or.inl rfl)) pgs_nil)))) (fun _ _ _ _ _ => pts_nil) (fun _ _ _ _ _ => (pe_joined (.cons (pe_fmt (pe_fn (G_write_place.mono (by decide)) hr (pa_cons (pv 1) pa_nil))) (.cons pe_str (.cons (pe_fmt (pe_fn (G_write_place.mono (by decide)) hr (pa_cons (pv 2) pa_nil))) .nil)))))) pa_nil)))), ?_⟩
    refine s_ret (v := .str (wT (fs.map fT))) (ev_callN (xs := (fs.map fT).map V.str) (el_lcA (xs := us) (fun i => match us[i]? with | some (.ref b) => (match H b with | some (.tup [x, y]) => [some (.ref p), some x, some y] | _ => []) | _ => []) (ev_var rfl) (sq_of hp) (by rw [pr.1]; have := ok.1; omega) (by rw [List.length_map, List.length_map, pr.1]) (fun i x hx => ?_) (fun i x y hx hy => ?_)) fun p1 H1 h1 e1 H2 e2 Q2 q2 E2 => ⟨p1, fs.map fT, rfl, sq_of (e2 _ _ h1), by rw [List.length_map]; have := ok.1; omega, fun y hy => ?_, q2⟩) fun H1 e1 => q H1 e1
    · obtain ⟨a, ha⟩ : ∃ a, fs[i]? = some a := ⟨_, List.getElem?_eq_getElem (by rw [← pr.1]; exact (List.getElem?_eq_some_iff.mp hx).1)⟩
      obtain ⟨b, x1, y1, rfl, hb, _, _⟩ := pr.2 i x a hx ha
      simp only [hx, hb]
      exact ⟨rfl, fun H2 e2 Q' q' => ⟨b, [x1, y1], rfl, st_of (e2 _ _ hb), rfl, x1, _, rfl, y1, _, rfl, rfl, q' H2 (Ex.refl H2)⟩⟩
    · rw [List.getElem?_map, List.getElem?_map] at hy
      obtain ⟨z, hz, rfl⟩ := Option.map_eq_some_iff.mp hy
      obtain ⟨a, ha, rfl⟩ := Option.map_eq_some_iff.mp hz
      have fa := ok.2 a (List.mem_of_getElem? ha)
      obtain ⟨b, x1, y1, rfl, hb, v1, v2⟩ := pr.2 i x a hx ha
      simp only [hx, hb]
      refine ev_is (ev_joined (.cons (ev_fmtS (ev_call (z := .str (pT a.1)) (ea_cons (ev_var rfl) ea_nil) fun H1 e1 Q1 q1 E1 => ⟨x1, a.1, rfl, v1.tk fun b y w => e1 _ _ w, fa.1.1, q1⟩) (Nat.le_trans (pT_len fa.1.1) (by decide))) (.cons ev_c (.cons (ev_fmtS (ev_call (z := .str (pT a.2)) (ea_cons (ev_var rfl) ea_nil) fun H1 e1 Q1 q1 E1 => ⟨y1, a.2, rfl, v2.tk fun b y w => e1 _ _ w, fa.1.2, q1⟩) (Nat.le_trans (pT_len fa.1.2) (by decide))) .nil))) ?_) ?_
      · rw [k60]
        have := pT_len fa.1.1
        have := pT_len fa.1.2
        show (pT a.1).length + (1 + ((pT a.2).length + 0)) ≤ 100000
        omega
      · rw [k60]
        show V.str (Str.empty ++ pT a.1 ++ sg 60 ++ pT a.2) = _
        rw [emp_cat]
        rfl
    · obtain ⟨a, ha, rfl⟩ := List.mem_map.mp hy
      exact Nat.le_trans (fT_len (ok.2 a ha)) (by decide)
theorem sc_write_run : FnScope ["run"] ["run"] (defScope s_write_run) := ⟨rfl, rfl, rfl, by decide +kernel, rfl, by decide +kernel, by decide +kernel⟩
theorem ok_write_run (D : Def K mg "write_run" s_write_run ["run"]) (T : Bl mg) (G_write_words : Good P w K mg base 1 "write_words" ["words"] (spWWords K)) : Good P w K mg base 2 "write_run" ["run"] (spWRun) := by
  refine D.good sc_write_run (fun vs H Q E h => ?_) (fun f cdv A outer s H vs Q E hr h => ?_)
  · obtain ⟨p, xs, rfl, _⟩ := h
    rfl
  · obtain ⟨p, xs, rfl, hp, ok, q⟩ := h
    have hu := hu_of hr
    refine ⟨_, (pss_one (ps_ret (pe_fn (G_write_words.mono (by decide)) hr (pa_cons (pv 0) pa_nil)))), ?_⟩
    exact s_ret (v := .str (wT xs)) (ev_call (ea_cons (ev_var rfl) ea_nil) fun H1 e1 Q1 q1 E1 => ⟨p, xs, rfl, sq_of (e1 _ _ hp), by have := ok.1; omega, fun y hy => Nat.le_trans (IsNm.len (ok.2 y hy)) (by decide), q1⟩) fun H1 e1 => q H1 e1
theorem sc_write_log : FnScope ["worker", "log", "entry"] ["worker", "log"] (defScope s_write_log) := ⟨rfl, rfl, rfl, by decide +kernel, rfl, by decide +kernel, by decide +kernel⟩
theorem ok_write_log (D : Def K mg "write_log" s_write_log ["worker", "log"]) (T : Bl mg) (G_write_entry : Good P w K mg base 1 "write_entry" ["entry"] spWEntry) : Good P w K mg base 2 "write_log" ["worker", "log"] (spWLog) := by
  refine D.good sc_write_log (fun vs H Q E h => ?_) (fun f cdv A outer s H vs Q E hr h => ?_)
  · obtain ⟨w, p, es, rfl, _⟩ := h
    rfl
  · obtain ⟨x, p, es, rfl, hx, hp, hl, ok, q⟩ := h
    have hu := hu_of hr
    refine ⟨_, (pss_one (ps_ret (pe_join pe_str (pe_op op_cat (pe_lst (pa_cons (pe_joined (.cons (pe_fmt (pv 0)) (.cons pe_str .nil))) pa_nil)) (pe_lc (own := [("entry", 2)]) (g := (gName 2)) (tt := tYes) rfl sc_write_log.nd (x_pil (K := K) (pv 1)) (blkOk_by (N := ["worker", "log", "entry"]) (sc := (defScope s_write_log)) (by decide +kernel)) (fun _ _ _ _ _ => (pg_name (i := 2) sc_write_log.nd rfl (Or.inl rfl))) (fun _ _ _ _ _ => pts_nil) (fun _ _ _ _ _ => (pe_fn (G_write_entry.mono (by decide)) hr (pa_cons (pv 2) pa_nil)))))))), ?_⟩
    obtain ⟨as, ha, hpa⟩ := hp
    have al : as.length = es.length := by rw [hpa.length, List.length_map]
    have hx8 := IsNm.len hx
    have hw : ∀ y ∈ (x ++ sg 58) :: es.map eT, y.length ≤ 18 := fun y hy => by
      rcases List.mem_cons.mp hy with rfl | hy
      · rw [PySem.Str.length_append, sg_len]
        omega
      · obtain ⟨e, he, rfl⟩ := List.mem_map.mp hy
        exact eT_len (ok e he)
    have hs := sum_len hw
    refine s_ret (v := .str (Txt.join (sg 32) ((x ++ sg 58) :: es.map eT))) (ev_joinL (ys := (x ++ sg 58) :: es.map eT) (ev_is ev_c (congrArg V.str k32)) (el_catN (xs := [V.str (x ++ sg 58)]) (ys := (es.map eT).map V.str) (el_lst (ea_cons (ev_is (ev_joined (.cons (ev_fmtS (ev_var rfl) (by omega)) (.cons ev_c .nil)) ?_) ?_) ea_nil) (by show 1 ≤ 100000; decide)) (el_lcA (xs := as.map V.ref) (fun i => match as[i]? with | some c => [some (.str x), some (.ref p), some (.ref c)] | none => []) (ev_var rfl) (sq_of ha) (by rw [List.length_map]; omega) (by rw [List.length_map, List.length_map, List.length_map, al]) (fun i y hy => ?_) (fun i y z hy hz => ?_)) ?_) ?_) fun H1 e1 => ?_
    · rw [k58]
      show x.length + (1 + 0) ≤ 100000
      omega
    · rw [k58]
      show V.str (Str.empty ++ x ++ sg 58) = _
      rw [emp_cat]
    · rw [List.getElem?_map] at hy
      obtain ⟨c, hc, rfl⟩ := Option.map_eq_some_iff.mp hy
      simp only [hc]
      exact ⟨rfl, fun H2 e2 Q' q' => q' H2 (Ex.refl H2)⟩
    · rw [List.getElem?_map] at hy
      obtain ⟨c, hc, rfl⟩ := Option.map_eq_some_iff.mp hy
      rw [List.getElem?_map, List.getElem?_map] at hz
      obtain ⟨z, hz2, rfl⟩ := Option.map_eq_some_iff.mp hz
      obtain ⟨e, he, rfl⟩ := Option.map_eq_some_iff.mp hz2
      obtain ⟨c2, g1, g2⟩ := paired_get hpa (i := i) (by rw [List.getElem?_map, he]; rfl)
      rw [hc] at g1
      cases g1
      simp only [hc]
      exact ev_call (ea_cons (ev_var rfl) ea_nil) fun H1 e1 Q1 q1 E1 => ⟨c, e, rfl, e1 _ _ g2, ok e (List.mem_of_getElem? he), q1⟩
    · rw [List.length_map, List.length_map]
      show 1 + _ ≤ _
      omega
    · rw [sg_len]
      rw [List.length_cons, List.length_map] at hs ⊢
      omega
    · rw [tjoin]
      exact q H1 e1
theorem sc_write_logs : FnScope ["logs", "worker"] ["logs"] (defScope s_write_logs) := ⟨rfl, rfl, rfl, by decide +kernel, rfl, by decide +kernel, by decide +kernel⟩
theorem ok_write_logs (D : Def K mg "write_logs" s_write_logs ["logs"]) (T : Bl mg) (G_write_log : Good P w K mg base 2 "write_log" ["worker", "log"] spWLog) : Good P w K mg base 3 "write_logs" ["logs"] (spWLogs) := by
  refine D.good sc_write_logs (fun vs H Q E h => ?_) (fun f cdv A outer s H vs Q E hr h => ?_)
  · obtain ⟨d, ws, ps, L, zs, rfl, _⟩ := h
    rfl
  · obtain ⟨d, ws, ps, L, zs, rfl, hl, v, q⟩ := h
    have hu := hu_of hr
    refine ⟨_, (pss_one (ps_ret (pe_join pe_str (pe_lc (own := [("worker", 1)]) (g := (gName 1)) (tt := tYes) rfl sc_write_logs.nd (x_pil (K := K) (pe_callB (call_sortedD rfl) (by rfl) T.sorted (by decide +kernel) (pa_cons (pv 0) pa_nil))) (blkOk_by (N := ["logs", "worker"]) (sc := (defScope s_write_logs)) (by decide +kernel)) (fun _ _ _ _ _ => (pg_name (i := 1) sc_write_logs.nd rfl (Or.inl rfl))) (fun _ _ _ _ _ => pts_nil) (fun _ _ _ _ _ => (pe_fn (G_write_log.mono (by decide)) hr (pa_cons (pv 1) (pa_cons (pe_dget hu (pv 0) (pv 1) (fun _ _ => rfl)) pa_nil)))))))), ?_⟩
    have wk := v.wk.2.1
    obtain ⟨pz, sz⟩ := q.1
    have pn := q.1.names v.len
    have zl : zs.length = ws.length := by have := pn.length_eq; rwa [List.length_map] at this
    have at_ : ∀ z ∈ zs, ∃ k : Nat, ws[k]? = some z.1 ∧ L[k]? = some z.2 := fun z hz => by
      obtain ⟨k, hk⟩ := List.mem_iff_getElem?.mp (pz.mem_iff.mp hz)
      rw [List.getElem?_zip_eq_some] at hk
      exact ⟨k, hk.1, hk.2⟩
    have okz : ∀ z ∈ zs, IsNm z.1 ∧ z.2.length ≤ 60 ∧ ∀ e ∈ z.2, e.ok := fun z hz => by
      obtain ⟨k, h1, h2⟩ := at_ z hz
      have := v.ent _ (List.mem_of_getElem? h2)
      exact ⟨v.wk.2.2.2 _ (List.mem_of_getElem? h1), this.1, this.2⟩
    have hw : ∀ y ∈ zs.map (fun z => lT z.1 z.2), y.length ≤ 2000 := fun y hy => by
      obtain ⟨z, hz, rfl⟩ := List.mem_map.mp hy
      exact lT_len (okz z hz).1 (okz z hz).2.1 (okz z hz).2.2
    have hs := sum_len hw
    refine s_ret (v := .str (Txt.join (sg 10) (zs.map fun z => lT z.1 z.2))) (ev_joinL (ys := zs.map fun z => lT z.1 z.2) (ev_is ev_c (congrArg V.str k10')) (el_lcNA (xs := (zs.map (·.1)).map V.str) (fun i => match zs[i]? with | some z => [some (.ref d), some (.str z.1)] | none => []) (el_sortedD (ev_var rfl) (Or.inl hl.dk) (dk_keys hl.pl) (by omega) pn sz) (by rw [List.length_map, List.length_map]; omega) (by rw [List.length_map, List.length_map, List.length_map, List.length_map]) (fun i y hy => ?_) (fun i y u hy hu => ?_)) ?_) fun H1 e1 => ?_
    · rw [List.getElem?_map, List.getElem?_map] at hy
      obtain ⟨x, hx, rfl⟩ := Option.map_eq_some_iff.mp hy
      obtain ⟨z, hz, rfl⟩ := Option.map_eq_some_iff.mp hx
      simp only [hz]
      exact ⟨rfl, fun H2 e2 Q' q' => q' H2 (Ex.refl H2)⟩
    · rw [List.getElem?_map, List.getElem?_map] at hy
      obtain ⟨x, hx, rfl⟩ := Option.map_eq_some_iff.mp hy
      obtain ⟨z, hz, rfl⟩ := Option.map_eq_some_iff.mp hx
      rw [List.getElem?_map, List.getElem?_map, hz] at hu
      cases hu
      simp only [hz]
      obtain ⟨k, h1, h2⟩ := at_ z (List.mem_of_getElem? hz)
      obtain ⟨o1, o2, o3⟩ := okz z (List.mem_of_getElem? hz)
      obtain ⟨pk, hpk⟩ : ∃ pk, ps[k]? = some pk := ⟨_, List.getElem?_eq_getElem (by rw [hl.pl]; exact (List.getElem?_eq_some_iff.mp h1).1)⟩
      exact ev_call (ea_cons (ev_var rfl) (ea_cons (ev_dget (ev_var rfl) (ev_var rfl) hl.dk (dk_get v.wk.2.2.1 h1 hpk)) ea_nil)) fun H1 e1 Q1 q1 E1 => ⟨z.1, pk, z.2, rfl, o1, (hl.lg k pk _ hpk h2).ex e1, o2, o3, q1⟩
    · rw [List.length_map] at hs ⊢
      rw [sg_len]
      omega
    · rw [tjoin]
      exact q.2 H1 e1
end
end Vx

set_option Elab.async false
set_option linter.all false
set_option maxRecDepth 100000
set_option maxHeartbeats 4000000
namespace Vx
open PySem PySem.Spec PyProof.Rows L2 Evl
/-- a for over enumerate -/
theorem q_forEn {K : PySem.W.Frag} {ta : TA} {g : TG} {tu tz : TS} {D : Ends} {σ : L2.St} {H : Hp} {p : Addr} {xs : List V} (h : EvA ta σ H [.ref p]) (hx : SqL K H p xs) (Pv : Nat → L2.St → Hp → Prop) (h0 : ∀ H1, Ex H H1 → Pv 0 σ H1) (hl : ∀ i σ' H', Pv i σ' H' → SqL K H' p xs)
    (hs : ∀ (D' : Ends) (i : Nat) x σ' H' T, xs[i]? = some x → Pv i σ' H' → H' T = none → (∀ σ2 H2, Pv (i + 1) σ2 H2 → D'.nx σ2 H2) → (∀ σ2 H2, Pv (i + 1) σ2 H2 → D'.ct σ2 H2) → g (.ref T) σ' (upd H' T (.tup [.int (i : Int), x])) fun σ2 H2 => tu D' σ2 H2)
    (hend : ∀ σ' H', Pv xs.length σ' H' → tz D σ' H') : tSeq (tFor (iEnum K ta) g tu) tz D σ H := by
  refine h H (Ex.refl _) _ fun H1 e1 => ⟨p, xs, rfl, ex_l e1 hx, ?_⟩
  refine ⟨fun i m σ' H' => m = xs.length - i ∧ i ≤ xs.length ∧ Pv i σ' H', ⟨xs.length, rfl, Nat.zero_le _, h0 H1 e1⟩, ?_⟩
  rintro i m σ' H' ⟨rfl, hi, pv⟩
  have q := hl i σ' H' pv
  by_cases hlt : i < xs.length
  · refine .inr ⟨⟨xs, xs[i], q, List.getElem?_eq_getElem hlt⟩, Pv (i + 1), fun σ2 H2 p' => ⟨xs.length - (i + 1), by omega, rfl, hlt, p'⟩, fun v H2 y => ?_⟩
    obtain ⟨T, x, rfl, hT, rfl, hxx⟩ := y
    exact hs _ i x σ' H' T (hxx xs q) pv hT (fun _ _ a => a) (fun _ _ a => a)
  · have ei : i = xs.length := by omega
    subst ei
    exact .inl ⟨⟨xs, q, Nat.le_refl _⟩, hend σ' H' pv⟩
theorem s_forEn {K : PySem.W.Frag} {ta : TA} {g : TG} {tu : TS} {D : Ends} {σ : L2.St} {H : Hp} {p : Addr} {xs : List V} (h : EvA ta σ H [.ref p]) (hx : SqL K H p xs) (Pv : Nat → L2.St → Hp → Prop) (h0 : ∀ H1, Ex H H1 → Pv 0 σ H1) (hl : ∀ i σ' H', Pv i σ' H' → SqL K H' p xs)
    (hs : ∀ (D' : Ends) (i : Nat) x σ' H' T, xs[i]? = some x → Pv i σ' H' → H' T = none → (∀ σ2 H2, Pv (i + 1) σ2 H2 → D'.nx σ2 H2) → (∀ σ2 H2, Pv (i + 1) σ2 H2 → D'.ct σ2 H2) → g (.ref T) σ' (upd H' T (.tup [.int (i : Int), x])) fun σ2 H2 => tu D' σ2 H2)
    (hend : ∀ σ' H', Pv xs.length σ' H' → D.nx σ' H') : tFor (iEnum K ta) g tu D σ H := by
  have := q_forEn (tz := tNext) (D := D) h hx Pv h0 hl hs hend
  exact this
theorem g_two {K : PySem.W.Frag} {n i j : Nat} {a : Addr} {x y : V} {σ : L2.St} {H : Hp} {Q : L2.St → Hp → Prop} (hn : n = 2) (h : H a = some (.tup [x, y])) (q : Q ((σ.set i (some x)).set j (some y)) H) : gTup K n (gCons (gName i) (gCons (gName j) gNil)) (.ref a) σ H Q :=
  ⟨a, _, rfl, st_of h, hn.symm, x, _, rfl, y, _, rfl, rfl, q⟩

def spRW (f : Addr) (spx : Sp) : Sp := fun vs H Q _ => ∃ (ys : List Str) (m : Nat) (Φ : Nat → V → Hp → Prop), vs = [.str (wT ys), .ref f, .int (m : Int)] ∧ ys.length ≤ m ∧ m ≤ 400 ∧ (∀ y ∈ ys, Free 32 y ∧ y.length ≤ 100 ∧ y ≠ "-") ∧
  (∀ (i : Nat) y, ys[i]? = some y → ∀ H1 (Q1 : VK) (E1 : XK), (∀ v H2, Ex H1 H2 → v ≠ .non → Φ i v H2 → Q1 v H2) → spx [.str y] H1 Q1 E1) ∧ (∀ i v H1 H2, TK H1 H2 → Φ i v H1 → Φ i v H2) ∧
  ∀ p us H', H p = none → Ex H H' → H' p = some (.lst us) → us.length = ys.length → (∀ (i : Nat) v, us[i]? = some v → Φ i v H') → Q (.ref p) H'
theorem wT_ne {ys : List Str} (hn : ys ≠ []) (h : ∀ y ∈ ys, Free 32 y ∧ y.length ≤ 100 ∧ y ≠ "-") : wT ys = Str.join (sg 32) ys ∧ wT ys ≠ "-" := by
  have e : wT ys = Str.join (sg 32) ys := if_neg hn
  refine ⟨e, fun z => ?_⟩
  rw [e] at z
  have f1 : Free 32 ("-" : Str) := by
    unfold Free
    decide +kernel
  have := join_inj (c := 32) (ws := ys) (us := ["-"]) (fun w hw => (h w hw).1) (fun u hu => by rw [List.mem_singleton.mp hu]; exact f1) hn (by simp) z
  exact (h "-" (by rw [this]; simp)).2.2 rfl
section
variable {P : Program} {w : World} {K : PySem.W.Frag} {mg : Str → Option Value} {base : Heap}
theorem sc_read_words : FnScope ["text", "read_word", "most", "words", "found", "at", "word", "thing"] ["text", "read_word", "most"] (defScope s_read_words) := ⟨rfl, rfl, rfl, by decide +kernel, rfl, by decide +kernel, by decide +kernel⟩
theorem ok_read_words (D : Def K mg "read_words" s_read_words ["text", "read_word", "most"]) (T : Bl mg) (C2 : Cs2 K w mg) {f0 : Addr} {fd0 : FuncData} {spx : Sp} (FF : FnOk P w K mg base CX0 4 f0 fd0 ["word"] spx) (KF : PySem.W.keepIn K (.ref f0) = true) (BF : Binds K fd0 ["word"] []) : Good P w K mg base 5 "read_words" ["text", "read_word", "most"] ((spRW f0 spx)) := by
  refine D.good sc_read_words (fun vs H Q E h => ?_) (fun f cdv A outer s H vs Q E hr h => ?_)
  · obtain ⟨ys, m, Φ, rfl, _⟩ := h
    rfl
  · obtain ⟨ys, m, Φ, rfl, hl, hm, hy, rd, st, q⟩ := h
    have hu := hu_of hr
    refine ⟨_, (pss_cons (ps_if (pt_cmpR op_eq (pv 0) (x_gstr C2.NONE) (nomark _)) (pss_one (ps_ret (pe_lst pa_nil))) pss_nil)
      (pss_cons (ps_set (i := 3) sc_read_words.nd rfl (Or.inl rfl) (pe_split (pv 0) pe_str))
      (pss_cons (ps_if (pt_cmpR op_eq (x_ixl (K := K) (pv 3) pe_int) (x_gstr C2.NONE) (nomark _)) pss_never pss_nil)
      (pss_cons (ps_set (i := 4) sc_read_words.nd rfl (Or.inl rfl) (pe_lst pa_nil))
      (pss_cons (ps_for PassesOwn.never rfl (x_enum (K := K) T (pv 3)) (x_gt (K := K) (pgs_cons (pg_name (i := 5) sc_read_words.nd rfl (Or.inl rfl)) (pgs_cons (pg_name (i := 6) sc_read_words.nd rfl (Or.inl rfl)) pgs_nil))) (pss_cons (ps_set (i := 7) sc_read_words.nd rfl (Or.inl rfl) (pe_callL (i := 1) FF hr rfl (Or.inl rfl) KF BF .nil pass0 (pa_cons (pv 6) pa_nil)))
      (pss_cons (ps_if (pw_or (pt_cmpR op_isN (pv 7) pe_non (nomark _)) (pw_or1 (pt_cmpR op_ge (pv 5) (pv 2) (nomark _)))).pt pss_never pss_nil)
      (pss_one (ps_expr (x_bm (K := K) PySem.F.plainAttrs_list PySem.F.slot_list_append PySem.F.type_list_append mt_append (pv 4) (pa_cons (pv 7) pa_nil)))))))
      (pss_one (ps_ret (pv 4)))))))), ?_⟩
    by_cases hn : ys = []
    · subst hn
      refine q_if (b := true) (et_is (et_test (ev_op (ev_var rfl) ev_c (rv_eq rfl))) (decide_eq_true rfl)) (fun _ H1 e1 => ?_) (fun z => nomatch z)
      refine s_retL (xs := []) (el_lst ea_nil (by decide)) fun p H2 n e2 h2 => q p [] H2 (fresh_back e1 n) (e1.trans e2) h2 rfl fun i v h => by simp at h
    · obtain ⟨we, wn⟩ := wT_ne hn hy
      refine q_if (b := false) (et_is (et_test (ev_op (ev_var rfl) ev_c (rv_eq rfl))) (decide_eq_false fun z => wn (V.str.inj z))) (fun z => nomatch z) (fun _ H1 e1 => ?_)
      have jl := join_len (c := 32) (B := 100) (ys := ys) fun y h => (hy y h).2.1
      refine q_asgL (xs := ys.map V.str) (el_split (c := 32) (ws := ys) (ev_is (ev_var rfl) (congrArg V.str we)) (ev_is ev_c (congrArg V.str k32)) (fun y h => (hy y h).1) hn (by omega)) fun pw H2 n2 e2 h2 => ?_
      obtain ⟨y0, ys0, ey⟩ : ∃ y r, ys = y :: r := by
        cases ys with
        | nil => exact absurd rfl hn
        | cons y r => exact ⟨y, r, rfl⟩
      refine q_if (b := false) (et_is (et_test (ev_op (ev_op (ev_var rfl) ev_c (rv_ixL (v := .str y0) (sq_of h2) (atI_nat (j := 0) (by rw [ey]; rfl)))) ev_c (rv_eq rfl))) (decide_eq_false fun z => (hy y0 (by rw [ey]; simp)).2.2 (V.str.inj z))) (fun z => nomatch z) (fun _ H3 e3 => ?_)
      refine q_asgL (xs := []) (el_lst ea_nil (by decide)) fun l H4 n4 e4 h4 => ?_
      have E4 := ((e1.trans e2).trans e3).trans e4
      have h2' := e4 _ _ (e3 _ _ h2)
      have npl : pw ≠ l := fun z => by rw [← z, e3 _ _ h2] at n4; cases n4
      refine q_forEn (xs := ys.map V.str) (ea_cons (ev_var rfl) ea_nil) (sq_of h2') (fun i σ' H' => (∃ b5 b6 b7, σ' = [some (.str (wT ys)), some (.ref f0), some (.int (m : Int)), some (.ref pw), some (.ref l), b5, b6, b7]) ∧ KB l H4 H' ∧ ∃ us, H' l = some (.lst us) ∧ us.length = i ∧ ∀ (j : Nat) v, us[j]? = some v → Φ j v H')
        (fun H5 e5 => ⟨⟨_, _, _, rfl⟩, kb_ex e5, [], e5 _ _ h4, rfl, fun j v h => by simp at h⟩) (fun i σ' H' p => sq_of (p.2.1 _ _ npl h2')) (fun D' i x σ' H5 T hx pv hT nx _ => ?_) (fun σ' H5 pv => ?_)
      · obtain ⟨⟨b5, b6, b7, rfl⟩, k5, us, h5, ul, hΦ⟩ := pv
        rw [List.getElem?_map] at hx
        obtain ⟨y, hyi, rfl⟩ := Option.map_eq_some_iff.mp hx
        have hi := (List.getElem?_eq_some_iff.mp hyi).1
        have e6 : Ex H5 (upd H5 T (.tup [.int (i : Int), .str y])) := Ex.new hT
        have hT6 : (upd H5 T (.tup [.int (i : Int), .str y])) T = some (.tup [.int (i : Int), .str y]) := upd_same
        generalize upd H5 T (.tup [.int (i : Int), .str y]) = H6 at e6 hT6 ⊢
        refine g_two rfl hT6 ?_
        refine ⟨rfl, _, rfl, ?_⟩
        refine rd i y hyi H6 _ _ fun v H7 e7 vn hv => ?_
        have E7 := e6.trans e7
        have h7 := E7 _ _ h5
        dsimp only [gName]
        refine q_if (b := false) (et_is (et_or (a := false) (b := false) (et_is (et_test (fun H8 e8 Q8 q8 => ⟨v, rfl, rfl, q8 H8 (Ex.refl H8)⟩)) (decide_eq_false vn)) (fun _ => et_is (et_test (ev_op (ev_var rfl) (ev_var rfl) rv_I0)) (decide_eq_false (by omega)))) rfl) (fun z => nomatch z) (fun _ H8 e8 => ?_)
        refine s_app (v := v) (e8 _ _ h7) (ev_var rfl) (ev_var rfl) (by omega) fun H9 e9 => nx _ _ ⟨⟨_, _, _, rfl⟩, (k5.trans (kb_ex ((E7.trans e8).trans e9))).trans KB.upd, us ++ [v], upd_same, by rw [List.length_append, ul]; rfl, fun j u hj => ?_⟩
        have h9 := e9 _ _ (e8 _ _ h7)
        have tk : TK H9 (upd H9 l (.lst (us ++ [v]))) := tk_upd h9
        by_cases hjl : j < us.length
        · rw [List.getElem?_append_left hjl] at hj
          exact st _ _ _ _ ((tk_ex ((E7.trans e8).trans e9)).trans tk) (hΦ j u hj)
        · rw [List.getElem?_append_right (by omega)] at hj
          have hz : j - us.length = 0 := by
            have := (List.getElem?_eq_some_iff.mp hj).1
            simp at this
            omega
          rw [hz] at hj
          cases hj
          have ji : j = i := by omega
          rw [ji]
          exact st _ _ _ _ ((tk_ex (e8.trans e9)).trans tk) hv
      · obtain ⟨⟨b5, b6, b7, rfl⟩, k5, us, h5, ul, hΦ⟩ := pv
        rw [List.length_map] at ul
        have nl : H l = none := fresh_back ((e1.trans e2).trans e3) n4
        refine s_ret (v := .ref l) (ev_var rfl) fun H6 e6 => q l us H6 nl (fun b o hb => e6 _ _ (k5 _ _ (ne_of_none hb nl) (E4 _ _ hb))) (e6 _ _ h5) ul fun i v hv => st _ _ _ _ (tk_ex e6) (hΦ i v hv)
def spRFacts : Sp := fun vs H Q _ => ∃ fs : List Pr2, vs = [.str (wT (fs.map fT))] ∧ FsOk fs ∧ ∀ p us H', H p = none → Ex H H' → H' p = some (.lst us) → PrsA H' us fs → Q (.ref p) H'
def spRRun : Sp := fun vs H Q _ => ∃ xs : List Str, vs = [.str (wT xs)] ∧ RnOk xs ∧ RetL (xs.map V.str) H Q
theorem sc_read_facts : FnScope ["text"] ["text"] (defScope s_read_facts) := ⟨rfl, rfl, rfl, by decide +kernel, rfl, by decide +kernel, by decide +kernel⟩
theorem ok_read_facts (D : Def K mg "read_facts" s_read_facts ["text"]) (T : Bl mg) (C2 : Cs2 K w mg) {f0 : Addr} (hm_read_fact : mg "read_fact" = some (.ref f0)) (G_read_words : Good P w K mg base 5 "read_words" ["text", "read_word", "most"] (spRW f0 spRFact)) : Good P w K mg base 6 "read_facts" ["text"] (spRFacts) := by
  refine D.good sc_read_facts (fun vs H Q E h => ?_) (fun f cdv A outer s H vs Q E hr h => ?_)
  · obtain ⟨fs, rfl, _⟩ := h
    rfl
  · obtain ⟨fs, rfl, ok, q⟩ := h
    have hu := hu_of hr
    refine ⟨_, (pss_one (ps_ret (pe_fn (G_read_words.mono (by decide)) hr (pa_cons (pv 0) (pa_cons (x_gref hm_read_fact) (pa_cons (x_gint C2.MOST_FACTS) pa_nil)))))), ?_⟩
    refine ⟨_, rfl, fs.map fT, 200, fun i v H1 => ∃ a, fs[i]? = some a ∧ PrV H1 v a, rfl, by rw [List.length_map]; exact ok.1, by decide, fun y hy => ?_, fun i y hy H1 Q1 E1 q1 => ?_, fun i v H1 H2 tk ⟨a, h1, h2⟩ => ⟨a, h1, h2.tk tk⟩, fun p us H' n e h ul hΦ => q p us H' n e h ⟨by rw [ul, List.length_map], fun i v a h1 h2 => ?_⟩⟩
    · obtain ⟨a, ha, rfl⟩ := List.mem_map.mp hy
      have fa := ok.2 a ha
      refine ⟨fT_free fa (by decide), Nat.le_trans (fT_len fa) (by decide), fun z => ?_⟩
      have h60 : 60 ∈ (fT a).cps.toList := by
        unfold fT
        rw [cat_list, cat_list]
        simp
      rw [z] at h60
      exact absurd h60 (by decide +kernel)
    · rw [List.getElem?_map] at hy
      obtain ⟨a, ha, rfl⟩ := Option.map_eq_some_iff.mp hy
      refine ⟨a, rfl, ok.2 a (List.mem_of_getElem? ha), fun v H2 e2 hv => q1 v H2 e2 ?_ ⟨a, ha, hv⟩⟩
      obtain ⟨p, x, y, rfl, _⟩ := hv
      exact fun z => nomatch z
    · obtain ⟨a2, g1, g2⟩ := hΦ i v h1
      rw [h2] at g1
      cases g1
      exact g2
theorem sc_read_run : FnScope ["text"] ["text"] (defScope s_read_run) := ⟨rfl, rfl, rfl, by decide +kernel, rfl, by decide +kernel, by decide +kernel⟩
theorem ok_read_run (D : Def K mg "read_run" s_read_run ["text"]) (T : Bl mg) (C2 : Cs2 K w mg) {f0 : Addr} (hm_read_name : mg "read_name" = some (.ref f0)) (G_read_words : Good P w K mg base 5 "read_words" ["text", "read_word", "most"] (spRW f0 spRName)) : Good P w K mg base 6 "read_run" ["text"] (spRRun) := by
  refine D.good sc_read_run (fun vs H Q E h => ?_) (fun f cdv A outer s H vs Q E hr h => ?_)
  · obtain ⟨xs, rfl, _⟩ := h
    rfl
  · obtain ⟨xs, rfl, ok, q⟩ := h
    have hu := hu_of hr
    refine ⟨_, (pss_one (ps_ret (pe_fn (G_read_words.mono (by decide)) hr (pa_cons (pv 0) (pa_cons (x_gref hm_read_name) (pa_cons (x_gint C2.LONGEST_RUN) pa_nil)))))), ?_⟩
    refine ⟨_, rfl, xs, 360, fun i v H1 => ∃ z, xs[i]? = some z ∧ v = .str z, rfl, ok.1, by decide, fun y hy => ?_, fun i y hy H1 Q1 E1 q1 => ?_, fun i v H1 H2 tk h => h, fun p us H' n e h ul hΦ => q p H' n e ?_⟩
    · have n := ok.2 y hy
      refine ⟨nm_free n (by decide), Nat.le_trans (IsNm.len n) (by decide), fun z => ?_⟩
      have := n.2.2 45 (by rw [z]; decide +kernel)
      omega
    · exact ⟨y, rfl, ok.2 y (List.mem_of_getElem? hy), fun H2 e2 => q1 _ H2 e2 (fun z => nomatch z) ⟨y, hy, rfl⟩⟩
    · rw [h]
      refine congrArg (fun l => some (HO.lst l)) (List.ext_getElem? fun i => ?_)
      by_cases hi : i < us.length
      · obtain ⟨z, g1, g2⟩ := hΦ i _ (List.getElem?_eq_getElem hi)
        rw [List.getElem?_eq_getElem hi, g2, List.getElem?_map, g1]
        rfl
      · rw [List.getElem?_eq_none (by omega), List.getElem?_eq_none (by rw [List.length_map]; omega)]
end
end Vx

set_option Elab.async false
set_option linter.all false
set_option maxRecDepth 100000
set_option maxHeartbeats 4000000
namespace Vx
open PySem PySem.Spec PyProof.Rows L2 Evl
/-- d = {} -/
theorem q_asgD {D : Ends} {tz : TS} {σ : L2.St} {H : Hp} {i : Nat} (k : ∀ d H1, H d = none → Ex H H1 → H1 d = some (.dK []) → tz D (σ.set i (some (.ref d))) H1) : tSeq (tAsg tDNewK (gName i)) tz D σ H := fun d hd => k d _ hd (Ex.new hd) upd_same
theorem evp_U {te : TE} {σ : L2.St} {H : Hp} {xs : List V} (h : EvU te σ H xs) : EvP te σ H (fun v H' => ∃ p, v = .ref p ∧ H' p = some (.tup xs)) := fun H1 e Q q => h H1 e Q fun p H2 n e2 h2 => q _ H2 e2 fun H' _ b => ⟨p, rfl, b p _ n h2⟩
theorem q_asgLP {D : Ends} {tz : TS} {te : TE} {σ : L2.St} {H : Hp} {P : List V → Hp → Prop} {i : Nat} (h : EvLP te σ H P) (k : ∀ p vs H1, H p = none → Ex H H1 → H1 p = some (.lst vs) → KnX p H H H1 (P vs) → tz D (σ.set i (some (.ref p))) H1) : tSeq (tAsg te (gName i)) tz D σ H := s_asgLP (D := { D with nx := tz D }) h k
theorem tl_of {H : Hp} {p : Addr} : ∀ {vs : List V} {ts : List (List V)}, vs.length = ts.length → (∀ (i : Nat) v t, vs[i]? = some v → ts[i]? = some t → ∃ a, v = .ref a ∧ H a = some (.tup t)) → ∃ as : List Addr, vs = as.map V.ref ∧ Paired (fun a t => H a = some (.tup t)) as ts
  | [], [], _, _ => ⟨[], rfl, .nil⟩
  | [], _ :: _, h, _ => by cases h
  | _ :: _, [], h, _ => by cases h
  | v :: vs, t :: ts, h, f => by
    obtain ⟨a, rfl, ha⟩ := f 0 v t rfl rfl
    obtain ⟨as, rfl, hp⟩ := tl_of (p := p) (vs := vs) (ts := ts) (by simpa using h) fun i x y h1 h2 => f (i + 1) x y h1 h2
    exact ⟨a :: as, rfl, .cons ha hp⟩
theorem cut_tail {x : V} {r : List V} : cutV (x :: r) (some 1) none = r := by
  unfold cutV
  rw [HT.sIx_none, show (1 : Int) = ((1 : Nat) : Int) from rfl, HT.sIx_nat, List.length_cons]
  have : min 1 (r.length + 1) = 1 := by omega
  rw [this]
  show r.take (r.length + 1 - 1) = r
  exact List.take_of_length_le (by omega)
theorem cut_m1 (x : Str) (c : Nat) : cutS (x ++ sg c) none (some (-1)) = x := by
  refine str_ext ?_
  unfold cutS
  rw [HT.sIx_none, PySem.Str.length_append, sg_len, cat_list]
  have : HT.sIx (x.length + 1) (x.length + 1) (some (-1)) = x.length := by
    show (if (-1 : Int) < 0 then ((-1 : Int) + ((x.length + 1 : Nat) : Int)).toNat else min (-1 : Int).toNat (x.length + 1)) = _
    rw [if_pos (by decide)]
    omega
  rw [this, List.drop_zero, Nat.sub_zero]
  show (x.cps.toList ++ [c]).take x.length = x.cps.toList
  rw [List.take_append_of_le_length (by rw [Array.length_toList]; exact Nat.le_refl _), List.take_of_length_le (by rw [Array.length_toList]; exact Nat.le_refl _)]
def spRLogs : Sp := fun vs H Q _ => ∃ zs : List (Str × List En), vs = [.str (gT zs)] ∧ zs ≠ [] ∧ sortedS (zs.map (·.1)) = true ∧ Vlog 60 (zs.map (·.1)) (zs.map (·.2)) ∧
  ∀ d ps H', H d = none → Ex H H' → HL H' d (zs.map (·.1)) ps (zs.map (·.2)) → (∀ p ∈ ps, H p = none) → ps.Nodup → Q (.ref d) H'
theorem lT_free {x : Str} {es : List En} (hx : IsNm x) (ok : ∀ e ∈ es, e.ok) : Free 10 (lT x es) := by
  have all : ∀ {ys : List Str}, (∀ y ∈ ys, Free 10 y) → Free 10 (Str.join (sg 32) ys) := by
    intro ys
    induction ys with
    | nil => exact fun _ h => by cases h
    | cons y r ih =>
      intro h
      cases r with
      | nil => exact h y (List.mem_cons_self ..)
      | cons z r => exact free_cat (free_cat (h y (List.mem_cons_self ..)) (free_sg (by decide))) (ih fun u hu => h u (List.mem_cons_of_mem _ hu))
  refine all fun y hy => ?_
  rcases List.mem_cons.mp hy with rfl | hy
  · exact free_cat (nm_free hx (by decide)) (free_sg (by decide))
  · obtain ⟨e, he, rfl⟩ := List.mem_map.mp hy
    exact eT_free (ok e he) (by decide)
theorem lt_of_sorted {names : List Str} (hs : sortedS names = true) (nd : names.Nodup) {i : Nat} {a b : Str} (ha : names[i]? = some a) (hb : names[i + 1]? = some b) : a.cps.toList < b.cps.toList := by
  have h1 := sorted_pw1 hs
  have hi := (List.getElem?_eq_some_iff.mp ha).1
  have hi2 := (List.getElem?_eq_some_iff.mp hb).1
  have le := List.pairwise_iff_getElem.mp h1 i (i + 1) hi hi2 (by omega)
  rw [(List.getElem?_eq_some_iff.mp ha).2, (List.getElem?_eq_some_iff.mp hb).2, leS1_iff, List.not_lt] at le
  rcases Classical.em (a.cps.toList < b.cps.toList) with h | h
  · exact h
  · have e : a = b := str_ext (List.le_antisymm le (List.not_lt.mp h))
    have := (List.getElem?_inj hi nd).mp (ha.trans (by rw [hb, e]))
    omega
def lastN (names : List Str) : Nat → Str
  | 0 => ""
  | i + 1 => names.getD i ""
section
variable {P : Program} {w : World} {K : PySem.W.Frag} {mg : Str → Option Value} {base : Heap}
theorem sc_read_logs : FnScope ["text", "logs", "last", "lines", "at", "line", "words", "worker", "log", "word"] ["text"] (defScope s_read_logs) := ⟨rfl, rfl, rfl, by decide +kernel, rfl, by decide +kernel, by decide +kernel⟩
theorem ok_read_logs (D : Def K mg "read_logs" s_read_logs ["text"]) (T : Bl mg) (G_is_name : Good P w K mg base 1 "is_name" ["thing"] spName) (G_read_entry : Good P w K mg base 3 "read_entry" ["word"] spREntry) (G_is_logs : Good P w K mg base 5 "is_logs" ["thing"] spLogsOk) : Good P w K mg base 6 "read_logs" ["text"] (spRLogs) := by
  refine D.good sc_read_logs (fun vs H Q E h => ?_) (fun f cdv A outer s H vs Q E hr h => ?_)
  · obtain ⟨zs, rfl, _⟩ := h
    rfl
  · obtain ⟨zs, rfl, zn, zso, v, q⟩ := h
    have hu := hu_of hr
    refine ⟨_, (pss_cons (ps_set (i := 1) sc_read_logs.nd rfl (Or.inl rfl) pe_dnewK)
      (pss_cons (ps_set (i := 2) sc_read_logs.nd rfl (Or.inl rfl) pe_str)
      (pss_cons (ps_set (i := 3) sc_read_logs.nd rfl (Or.inl rfl) (pe_split (pv 0) pe_str))
      (pss_cons (ps_for PassesOwn.never rfl (x_enum (K := K) T (pv 3)) (x_gt (K := K) (pgs_cons (pg_name (i := 4) sc_read_logs.nd rfl (Or.inl rfl)) (pgs_cons (pg_name (i := 5) sc_read_logs.nd rfl (Or.inl rfl)) pgs_nil))) (pss_cons (ps_set (i := 6) sc_read_logs.nd rfl (Or.inl rfl) (pe_split (pv 5) pe_str))
      (pss_cons (ps_set (i := 7) sc_read_logs.nd rfl (Or.inl rfl) (pe_slice sl_str (x_ixl (K := K) (pv 6) pe_int) po_none (po_some (pe_un un_neg pe_int))))
      (pss_cons (ps_setLc (i := 8) (own := [("word", 9)]) (g := (gName 9)) (tt := tYes) rfl sc_read_logs.nd rfl rfl (sw_true rfl rfl rfl (by decide +kernel)) (x_pil (K := K) (pe_slice sl_list (pv 6) (po_some pe_int) po_none)) (blkOk_by (N := ["text", "logs", "last", "lines", "at", "line", "words", "worker", "log", "word"]) (sc := (defScope s_read_logs)) (by decide +kernel)) (fun _ _ _ _ _ => (pg_name (i := 9) sc_read_logs.nd rfl (Or.inl rfl))) (fun _ _ _ _ _ => pts_nil) (fun _ _ _ _ _ => (pe_fn (G_read_entry.mono (by decide)) hr (pa_cons (pv 9) pa_nil))))
      (pss_cons (ps_if (pw_or (pt_cmpR op_ne (x_ixl (K := K) (pv 6) pe_int) (pe_joined (.cons (pe_fmt (pv 7)) (.cons pe_str .nil))) (nomark _)) (pw_or (pt_not (pt_val (pe_fn (G_is_name.mono (by decide)) hr (pa_cons (pv 7) pa_nil)))) (pw_or (pt_cmpR (op_noneT (K := K) rfl hr.units) pe_non (pv 8) (by rfl)) (pw_or1 (pt_cmpR op_le_str (pv 7) (pv 2) (nomark _)))))).pt pss_never pss_nil)
      (pss_cons (ps_dput hu (pv 1) (pv 7) (pv 8) rfl)
      (pss_one (ps_set (i := 2) sc_read_logs.nd rfl (Or.inl rfl) (pv 7)))))))))
      (pss_cons (ps_if (pt_not (pt_val (pe_fn (G_is_logs.mono (by decide)) hr (pa_cons (pv 1) pa_nil)))) pss_never pss_nil)
      (pss_one (ps_ret (pv 1)))))))), ?_⟩
    have wl := v.wk.2.1
    have nd := v.wk.2.2.1
    rw [List.length_map] at wl
    have okz : ∀ z ∈ zs, IsNm z.1 ∧ z.2.length ≤ 60 ∧ ∀ e ∈ z.2, e.ok := fun z hz => by
      have := v.ent z.2 (List.mem_map.mpr ⟨z, hz, rfl⟩)
      exact ⟨v.wk.2.2.2 z.1 (List.mem_map.mpr ⟨z, hz, rfl⟩), this.1, this.2⟩
    have jl := join_len (c := 10) (B := 2000) (ys := zs.map fun z => lT z.1 z.2) fun y hy => by
      obtain ⟨z, hz, rfl⟩ := List.mem_map.mp hy
      exact lT_len (okz z hz).1 (okz z hz).2.1 (okz z hz).2.2
    rw [List.length_map] at jl
    refine q_asgD fun d H1 nd1 e1 h1 => ?_
    refine q_asg (v := .str "") ev_c fun H2 e2 => ?_
    refine q_asgL (xs := (zs.map fun z => lT z.1 z.2).map V.str) (el_split (c := 10) (ws := zs.map fun z => lT z.1 z.2) (ev_var rfl) (ev_is ev_c (congrArg V.str k10')) (fun y hy => by
      obtain ⟨z, hz, rfl⟩ := List.mem_map.mp hy
      exact lT_free (okz z hz).1 (okz z hz).2.2) (by simpa using zn) (by show (gT zs).length ≤ _; unfold gT; omega)) fun pl H3 n3 e3 h3 => ?_
    have hd3 := e3 _ _ (e2 _ _ h1)
    have E3 := (e1.trans e2).trans e3
    have npd : pl ≠ d := fun z => by rw [z, hd3] at h3; cases h3
    refine q_forEn (xs := (zs.map fun z => lT z.1 z.2).map V.str) (ea_cons (ev_var rfl) ea_nil) (sq_of h3) (fun i σ' H' => (∃ b4 b5 b6 b7 b8 b9, σ' = [some (.str (gT zs)), some (.ref d), some (.str (lastN (zs.map (·.1)) i)), some (.ref pl), b4, b5, b6, b7, b8, b9]) ∧ KB d H3 H' ∧ ∃ ps : List Addr, ps.length = i ∧ ps.Nodup ∧ (∀ p ∈ ps, H3 p = none) ∧ H' d = some (.dK (Dk ((zs.map (·.1)).take i) ps)) ∧ ∀ (k : Nat) p z, ps[k]? = some p → zs[k]? = some z → TL H' p (z.2.map En.vs))
      (fun H4 e4 => ⟨⟨_, _, _, _, _, _, rfl⟩, kb_ex e4, [], rfl, List.nodup_nil, (fun _ h => by cases h), e4 _ _ hd3, fun k p z h => by simp at h⟩) (fun i σ' H' p => sq_of (p.2.1 _ _ npd h3)) (fun D' i x σ' H4 T hx pv hT nx _ => ?_) (fun σ' H4 pv => ?_)
    · obtain ⟨⟨b4, b5, b6, b7, b8, b9, rfl⟩, k4, ps, pl4, pn4, pf4, hd4, tl4⟩ := pv
      rw [List.getElem?_map, List.getElem?_map] at hx
      obtain ⟨y, hy, rfl⟩ := Option.map_eq_some_iff.mp hx
      obtain ⟨z, hz, rfl⟩ := Option.map_eq_some_iff.mp hy
      have hi := (List.getElem?_eq_some_iff.mp hz).1
      obtain ⟨o1, o2, o3⟩ := okz z (List.mem_of_getElem? hz)
      have e5 : Ex H4 (upd H4 T (.tup [.int (i : Int), .str (lT z.1 z.2)])) := Ex.new hT
      have hT5 : (upd H4 T (.tup [.int (i : Int), .str (lT z.1 z.2)])) T = some (.tup [.int (i : Int), .str (lT z.1 z.2)]) := upd_same
      generalize upd H4 T (.tup [.int (i : Int), .str (lT z.1 z.2)]) = H5 at e5 hT5 ⊢
      refine g_two rfl hT5 ?_
      have ll := lT_len o1 o2 o3
      refine q_asgL (xs := ((z.1 ++ sg 58) :: z.2.map eT).map V.str) (el_split (c := 32) (ws := (z.1 ++ sg 58) :: z.2.map eT) (ev_var rfl) (ev_is ev_c (congrArg V.str k32)) (fun y hy => by
        rcases List.mem_cons.mp hy with rfl | hy
        · exact free_cat (nm_free o1 (by decide)) (free_sg (by decide))
        · obtain ⟨e, he, rfl⟩ := List.mem_map.mp hy
          exact eT_free (o3 e he) (by decide)) (by simp) (by show (lT z.1 z.2).length ≤ _; omega)) fun pw H6 n6 e6 h6 => ?_
      have x8 := IsNm.len o1
      refine q_asg (v := .str z.1) (ev_slS (z := z.1 ++ sg 58) (ev_op (ev_var rfl) ev_c (rv_ixL (sq_of h6) (atI_nat (j := 0) rfl))) eo_none (eo_some (ev_un ev_c ru_neg)) (by rw [PySem.Str.length_append, sg_len]; omega) (cut_m1 _ _)) fun H7 e7 => ?_
      have h7 := e7 _ _ h6
      dsimp only [gName]
      refine q_asgLP (elp_lcN (P := fun xs _ => xs = (z.2.map eT).map V.str) (fun _ j v H' => ∃ t e, v = .ref t ∧ z.2[j]? = some e ∧ H' t = some (.tup e.vs)) (elp_of (el_sl (ev_var rfl) (eo_some ev_c) eo_none (sq_of h7)) fun _ _ => cut_tail) (fun xs H' h => by rw [h, List.length_map, List.length_map]; omega) (fun _ => rfl) (fun xs B eB hxs j u hu => ?_)) fun lg us H8 n8 e8 h8 kn => ?_
      · rw [hxs, List.getElem?_map, List.getElem?_map] at hu
        obtain ⟨y, hy2, rfl⟩ := Option.map_eq_some_iff.mp hu
        obtain ⟨e, he, rfl⟩ := Option.map_eq_some_iff.mp hy2
        exact (evp_U (eu_call (xs := e.vs) (ea_cons (ev_var rfl) ea_nil) fun H9 e9 Q9 r E9 => ⟨e, rfl, o3 e (List.mem_of_getElem? he), r⟩)).imp fun v H' _ ⟨t, a, b⟩ => ⟨t, e, a, he, b⟩
      · obtain ⟨xs, hxs, ul, uk⟩ := kn.kn.now (Ex.refl _) e8
        rw [hxs, List.length_map, List.length_map] at ul
        obtain ⟨as, rfl, pr⟩ := tl_of (p := lg) (vs := us) (ts := z.2.map En.vs) (H := H8) (by rw [ul, List.length_map]) fun j u t h1 h2 => by
          obtain ⟨a, e, g1, g2, g3⟩ := uk j u h1
          rw [List.getElem?_map, g2] at h2
          cases h2
          exact ⟨a, g1, g3⟩
        have E8 := ((e5.trans e6).trans e7).trans e8
        have hl8 := E8 _ _ hd4
        have nmi : (zs.map (·.1))[i]? = some z.1 := by rw [List.getElem?_map, hz]; rfl
        refine q_if (b := false) (et_is (et_or (a := false) (b := false) (et_is (et_test (ev_op (x := .str (z.1 ++ sg 58)) (y := .str (z.1 ++ sg 58)) (ev_op (ev_var rfl) ev_c (rv_ixL (sq_of (e8 _ _ h7)) (atI_nat (j := 0) rfl))) (ev_is (ev_joined (.cons (ev_fmtS (ev_var rfl) (by omega)) (.cons ev_c .nil)) ?_) ?_) (rv_ne rfl))) (by rw [decide_eq_true rfl]; rfl)) (fun _ => et_or (a := false) (b := false) (et_not (a := true) (et_B (ev_call (ea_cons (ev_var rfl) ea_nil) (Yes.spv fun H1 _ Q y E => ⟨z.1, rfl, o1, y⟩)))) (fun _ => et_or (a := false) (b := false) (et_test (fun H9 e9 Q9 q9 => ⟨.ref lg, rfl, lg, _, rfl, rfl, sq_of (e9 _ _ h8), fun u hu => ?_, q9 H9 (Ex.refl H9)⟩)) (fun _ => et_is (et_test (ev_op (ev_var rfl) (ev_var rfl) rv_leS)) ?_)))) rfl) (fun z => nomatch z) (fun _ H9 e9 => ?_)
        · rw [k58]
          show z.1.length + (1 + 0) ≤ 100000
          omega
        · rw [k58]
          show V.str (Str.empty ++ z.1 ++ sg 58) = _
          rw [emp_cat]
        · obtain ⟨a, ha, rfl⟩ := List.mem_map.mp hu
          obtain ⟨j, hj⟩ := List.mem_iff_getElem?.mp ha
          obtain ⟨a2, e, g1, g2, g3⟩ := uk j (.ref a) (by rw [List.getElem?_map, hj]; rfl)
          cases g1
          exact ⟨a, _, rfl, e9 _ _ g3⟩
        · have hlt : (lastN (zs.map (·.1)) i).cps.toList < z.1.cps.toList := by
            cases i with
            | zero =>
              obtain ⟨c, r, ec⟩ : ∃ c r, z.1.cps.toList = c :: r := by
                cases hc : z.1.cps.toList with
                | nil =>
                  have := o1.1
                  have h0 : z.1.length = z.1.cps.toList.length := (Array.length_toList).symm
                  rw [hc] at h0
                  simp at h0
                  omega
                | cons c r => exact ⟨c, r, rfl⟩
              rw [ec]
              have e0 : (lastN (zs.map (·.1)) 0).cps.toList = [] := by
                show ("" : Str).cps.toList = []
                decide +kernel
              rw [e0]
              exact List.nil_lt_cons _ _
            | succ j =>
              obtain ⟨a, ha⟩ : ∃ a, (zs.map (·.1))[j]? = some a := ⟨_, List.getElem?_eq_getElem (by rw [List.length_map]; omega)⟩
              have : lastN (zs.map (·.1)) (j + 1) = a := getD_at ha
              rw [this]
              exact lt_of_sorted zso nd ha nmi
          rw [decide_eq_true hlt]
          rfl
        have E9 := E8.trans e9
        have hd9 := E9 _ _ hd4
        have kvl : (Dk ((zs.map (·.1)).take i) ps).length = i := by
          rw [dk_len (by rw [pl4, List.length_take, List.length_map]; omega), List.length_take, List.length_map]
          omega
        have tkl : ((zs.map (·.1)).take i).length = ps.length := by rw [pl4, List.length_take, List.length_map]; omega
        refine ⟨_, rfl, _, rfl, _, rfl, d, _, rfl, DPut.k (k := .inr z.1) (v := .ref lg) hd9 (sz_lt (by omega)), ?_⟩
        have pnew : putK (Dk ((zs.map (·.1)).take i) ps) (.inr z.1) (.ref lg) = Dk ((zs.map (·.1)).take (i + 1)) (ps ++ [lg]) := by
          rw [put_new fun kv hkv e => ?_]
          · have : (zs.map (·.1)).take (i + 1) = (zs.map (·.1)).take i ++ [z.1] := by
              rw [List.take_add_one, nmi]
              rfl
            rw [this, dk_snoc tkl.symm]
          · have h1 := dk_keys (ws := (zs.map (·.1)).take i) (ps := ps) tkl.symm
            have h2 : kv.1 ∈ ((zs.map (·.1)).take i).map Sum.inr := by
              rw [← h1]
              exact List.mem_map.mpr ⟨kv, hkv, rfl⟩
            rw [e] at h2
            obtain ⟨a, ha, ea⟩ := List.mem_map.mp h2
            have ea := Sum.inr.inj ea
            subst ea
            obtain ⟨j, hj⟩ := List.mem_iff_getElem?.mp ha
            rw [List.getElem?_take] at hj
            split at hj
            · rename_i hji
              have := (List.getElem?_inj (show j < (zs.map (·.1)).length by rw [List.length_map]; omega) nd).mp (hj.trans nmi.symm)
              omega
            · cases hj
        rw [pnew]
        have nlg : lg ≠ d := fun z2 => by rw [← z2] at hl8; rw [hl8] at h8; cases h8
        have h9 := e9 _ _ h8
        have tk9 : TK H9 (upd H9 d (.dK (Dk ((zs.map (·.1)).take (i + 1)) (ps ++ [lg])))) := fun a xs h => by rw [upd_ne (fun z2 => by rw [z2, hd9] at h; cases h)]; exact h
        have nlgf : H4 lg = none := fresh_back ((e5.trans e6).trans e7) n8
        refine s_asg (v := .str z.1) (ev_var rfl) fun H10 e10 => nx _ _ ⟨⟨_, _, _, _, _, _, by rw [show lastN (zs.map (·.1)) (i + 1) = z.1 from getD_at nmi]; rfl⟩, ((k4.trans (kb_ex E9)).trans KB.upd).trans (kb_ex e10), ps ++ [lg], by rw [List.length_append, pl4]; rfl, ?_, fun p hp => ?_, e10 _ _ upd_same, fun k p z2 h1 h2 => ?_⟩
        · refine List.nodup_append.mpr ⟨pn4, by simp, fun a ha b hb eab => ?_⟩
          have : b = lg := by simpa using hb
          subst this eab
          obtain ⟨k, hk⟩ := List.mem_iff_getElem?.mp ha
          have hkz : k < zs.length := by have := (List.getElem?_eq_some_iff.mp hk).1; omega
          obtain ⟨vs, hvs, _⟩ := (tl4 k _ _ hk (List.getElem?_eq_getElem hkz)).at_
          rw [hvs] at nlgf
          cases nlgf
        · rcases List.mem_append.mp hp with hp | hp
          · exact pf4 p hp
          · have : p = lg := by simpa using hp
            subst this
            cases q3 : H3 p with
            | none => rfl
            | some o => rw [k4 p o nlg q3] at nlgf; cases nlgf
        · by_cases hk : k < ps.length
          · rw [List.getElem?_append_left hk] at h1
            have t := tl4 k p z2 h1 h2
            obtain ⟨vs, hvs, _⟩ := t.at_
            have npd2 : p ≠ d := fun z3 => by rw [z3, hd4] at hvs; cases hvs
            exact ((t.ex E9).keep tk9 (upd_ne npd2)).ex e10
          · rw [List.getElem?_append_right (by omega)] at h1
            have hz0 : k - ps.length = 0 := by
              have := (List.getElem?_eq_some_iff.mp h1).1
              simp at this
              omega
            rw [hz0] at h1
            have : lg = p := by simpa using h1
            subst this
            have hki : k = i := by omega
            subst hki
            rw [hz] at h2
            cases h2
            have t9 : TL H9 lg (z.2.map En.vs) := ⟨as, h9, paired_imp (fun a t g => e9 _ _ g) pr⟩
            exact (t9.keep tk9 (upd_ne nlg)).ex e10
    · obtain ⟨⟨b4, b5, b6, b7, b8, b9, rfl⟩, k4, ps, pl4, pn4, pf4, hd4, tl4⟩ := pv
      rw [List.length_map, List.length_map] at pl4 hd4
      have tke : (zs.map (·.1)).take zs.length = zs.map (·.1) := List.take_of_length_le (by rw [List.length_map]; exact Nat.le_refl _)
      rw [tke] at hd4
      have hl4 : HL H4 d (zs.map (·.1)) ps (zs.map (·.2)) := ⟨hd4, by rw [pl4, List.length_map], fun i p es h1 h2 => by
        rw [List.getElem?_map] at h2
        obtain ⟨z, hz, rfl⟩ := Option.map_eq_some_iff.mp h2
        exact tl4 i p z h1 hz⟩
      refine q_if (b := false) (et_not (a := true) (et_B (ev_call (ea_cons (ev_var rfl) ea_nil) (Yes.spv fun H5 e5 Q5 y E5 => ⟨d, _, ps, _, rfl, (hl4.ex e5).r, v, y⟩)))) (fun z => nomatch z) (fun _ H5 e5 => ?_)
      refine s_ret (v := .ref d) (ev_var rfl) fun H6 e6 => q d ps H6 nd1 (fun b o hb => ?_) ((hl4.ex e5).ex e6) (fun p hp => fresh_back E3 (pf4 p hp)) pn4
      exact e6 _ _ (e5 _ _ (k4 _ _ (ne_of_none hb nd1) (E3 _ _ hb)))
end
end Vx

set_option Elab.async false
set_option linter.all false
set_option maxRecDepth 100000
set_option maxHeartbeats 8000000
namespace Vx
open PySem PySem.Spec PyProof.Rows L2 Evl
/-! drawn facts and runs -/
theorem RVis {r : R2} {x y z z' : V} {H : Hp} (h : RV r x y H z) (e : z = z') : RV r x y H z' := by rw [← e]; exact h
theorem ev_intB {te : TE} {σ : L2.St} {H : Hp} {b : Bool} {v : V} (h : Ev te σ H (.bl b)) (e : V.int (if b = true then 1 else 0) = v) : Ev (tCB (fun xs H Q => (∃ i, xs = [V.int i] ∧ Q (.int i) H) ∨ ∃ k, xs = [V.bl k] ∧ Q (.int (if k then 1 else 0)) H) (tCons te tNil)) σ H v := fun H1 e1 Q q =>
  h H1 e1 _ fun H2 e2 => Or.inr ⟨b, rfl, by rw [e]; exact q H2 e2⟩
theorem te_appPr2 {K : PySem.W.Frag} {σ : L2.St} {H : Hp} {tl te : TE} {l : Addr} {us : List V} {as : List Pr2} {z : Pr2} {Q : VK} (hl : H l = some (.lst us)) (ha : Ev tl σ H (.ref l)) (h : EvP te σ H (fun v H' => PrV H' v z)) (pr : PrsA H us as) (hz : us.length < 100000) (k : ∀ us' H1, KB l H H1 → H1 l = some (.lst us') → PrsA H1 us' (as ++ [z]) → ∀ v, Q v H1) : tBM K "list" rAppend tl (tCons te tNil) σ H Q := ha H (Ex.refl H) _ fun H1 e1 =>
  ⟨Or.inl ⟨rfl, us, sq_of (e1 l _ hl)⟩, h H1 e1 _ fun v H2 e2 kn => by
    have E := e1.trans e2
    have hv := kn.now e1 e2
    have tk : TK H2 (upd H2 l (.lst (us ++ [v]))) := fun b y w => by
      rw [upd_ne (fun z => by rw [z, E _ _ hl] at w; cases w)]
      exact w
    exact ⟨l, us, v, rfl, rfl, E _ _ hl, sz_lt hz, k (us ++ [v]) _ (fun b o n hb => by rw [upd_ne n]; exact E _ _ hb) upd_same (((pr.tk fun a y w => E _ _ w).tk tk).snoc (hv.tk tk)) _⟩⟩
section
variable {K : PySem.W.Frag} {σ : L2.St} {s : Addr} {B : Hp} {i j : Nat}
/-- names[_law_pick(source, len(names))] -/
theorem ek_nameOf {pw : Addr} {ws : List Str} (hs : B s = none) (hi : σ[i]? = some (some (.ref pw))) (hj : σ[j]? = some (some (.ref s))) (hw : B pw = some (.lst (ws.map V.str))) (h1 : 1 ≤ ws.length) (h2 : ws.length ≤ 1000) :
    EvK s 1 (tOp (rIxL K) (tVar i) (tCall spPick [] E0 (tCons (tVar j) (tCons (tCB (rLenS K) (tCons (tVar i) tNil)) tNil)))) σ B (fun v => ∃ x ∈ ws, v = .str x) :=
  ek_op (c := 0) (d := 1) (P := fun v => v = .ref pw) hs (ek_of (ev_var hi) rfl)
    (ek_pick (c := 0) (m := (ws.length : Int)) hs hj (ek_of (ev_is (ev_len (ev_var hi) (sq_of hw)) (by rw [List.length_map])) rfl) (by omega) (by omega)) (fun x y hx hy => by
      obtain ⟨r, rfl, r0, r1⟩ := hy
      subst hx
      obtain ⟨k, rfl⟩ : ∃ k : Nat, r = (k : Int) := ⟨r.toNat, by omega⟩
      have hk : k < ws.length := by omega
      exact ⟨_, ⟨ws[k], List.getElem_mem hk, rfl⟩, rv_ixL (sq_of hw) (atI_nat (by rw [List.getElem?_map, List.getElem?_eq_getElem hk]; rfl))⟩)
/-- counts[_law_pick(source, m)] -/
theorem ek_cntOf {pc : Addr} {cs : List V} {m N : Nat} (hs : B s = none) (hi : σ[i]? = some (some (.ref pc))) (hj : σ[j]? = some (some (.ref s))) (hc : B pc = some (.lst cs)) (h1 : 1 ≤ m) (h2 : m ≤ 1000) (hl : cs.length = m) (hv : ∀ v ∈ cs, ∃ r : Int, v = .int r ∧ 0 ≤ r ∧ r ≤ (N : Int)) :
    EvK s 1 (tOp (rIxL K) (tVar i) (tCall spPick [] E0 (tCons (tVar j) (tCons (tC (.int (m : Int))) tNil)))) σ B (fun v => ∃ r : Nat, v = .int (r : Int) ∧ r ≤ N) :=
  ek_op (c := 0) (d := 1) (P := fun v => v = .ref pc) hs (ek_of (ev_var hi) rfl)
    (ek_pick (c := 0) (m := (m : Int)) hs hj (ek_of ev_c rfl) (by omega) (by omega)) (fun x y hx hy => by
      obtain ⟨r, rfl, r0, r1⟩ := hy
      subst hx
      obtain ⟨k, rfl⟩ : ∃ k : Nat, r = (k : Int) := ⟨r.toNat, by omega⟩
      have hk : k < cs.length := by omega
      obtain ⟨t, ht, t0, t1⟩ := hv cs[k] (List.getElem_mem hk)
      obtain ⟨u, rfl⟩ : ∃ u : Nat, t = (u : Int) := ⟨t.toNat, by omega⟩
      exact ⟨_, ⟨u, rfl, by omega⟩, rv_ixL (sq_of hc) (atI_nat (by rw [List.getElem?_eq_getElem hk, ht]))⟩)
/-- names = [..][:a + _law_pick(source, m)] -/
theorem q_namesK {tz : TS} {D : Ends} {H : Hp} {n m : Nat} {ta : TA} {ws : List Str} {a : Nat} (hs : Src H s n) (hn : n + 1 ≤ 1000000000) (hj : σ[j]? = some (some (.ref s))) (hl : EvA ta σ H (ws.map V.str)) (wl : ws.length ≤ 1000) (h1 : 1 ≤ m) (h2 : m ≤ 1000)
    (k : ∀ p c H1, H p = none → KB s H H1 → Src H1 s (n + 1) → H1 p = some (.lst ((ws.take (a + c)).map V.str)) → c < m → tz D (σ.set i (some (.ref p))) H1) :
    tSeq (tAsg (tSl (rSlL K) (tLst ta) tNoPart (tPart (tOp (rI0 fun i j => .int (i + j)) (tC (.int (a : Int))) (tCall spPick [] E0 (tCons (tVar j) (tCons (tC (.int (m : Int))) tNil)))))) (gName i)) tz D σ H := by
  unfold tSeq tAsg tSl
  dsimp only
  refine el_lst hl (by rw [List.length_map]; omega) H (Ex.refl H) _ fun p1 H1 n1 e1 h1' => ?_
  have S1 := hs.ex e1
  refine eo_none H1 (Ex.refl H1) _ fun H2 e2 => ?_
  have S2 := S1.ex e2
  obtain ⟨ys0, hs0⟩ := hs.at_
  have n1s : p1 ≠ s := fun z => by rw [z, hs0] at n1; cases n1
  refine ek_pick (c := 0) (m := (m : Int)) (hid_s s H2) hj (ek_of ev_c rfl) (by omega) (by omega) H2 n (hid_ex _ _) S2 (by omega) _ fun v H3 k3 S3 p3 => ?_
  obtain ⟨r, rfl, r0, r1⟩ := p3
  obtain ⟨c, rfl⟩ : ∃ c : Nat, r = (c : Int) := ⟨r.toNat, by omega⟩
  refine ⟨_, _, rfl, rfl, _, rfl, p1, ws.map V.str, rfl, sq_of (k3 _ _ n1s (e2 _ _ h1')), fun p hp => ?_⟩
  have KA : KB s H H3 := (kb_ex (e1.trans e2)).trans k3
  obtain ⟨ys3, hs3⟩ := S3.at_
  have np : p ≠ s := fun z => by rw [z, hs3] at hp; cases hp
  refine k p c _ (KA.fresh ⟨_, hs3⟩ hp) (KA.trans (kb_ex (Ex.new hp))) (S3.upd np.symm) ?_ (by omega)
  rw [upd_same]
  have : (a : Int) + (c : Int) = ((a + c : Nat) : Int) := by omega
  rw [this]
  unfold cutV
  rw [HT.sIx_none, HT.sIx_nat, List.length_map, List.drop_zero, List.map_take, Nat.sub_zero]
  congr 2
  by_cases h : a + c ≤ ws.length
  · rw [Nat.min_eq_left h]
  · rw [Nat.min_eq_right (by omega), List.take_of_length_le (by rw [List.length_map]; exact Nat.le_refl _), List.take_of_length_le (by rw [List.length_map]; omega)]
end
def nmF : List Str := ["a", "b", "abcdefgh", "x", "zz", "size"]
def nmR : List Str := ["a", "b", "abcdefgh", "x", "zz", "push"]
theorem nmF_ok : ∀ z ∈ nmF, 1 ≤ z.length ∧ z.length ≤ 8 ∧ ∀ c ∈ z.cps.toList, 97 ≤ c ∧ c ≤ 122 := by decide +kernel
theorem nmR_ok : ∀ z ∈ nmR, 1 ≤ z.length ∧ z.length ≤ 8 ∧ ∀ c ∈ z.cps.toList, 97 ≤ c ∧ c ≤ 122 := by decide +kernel
def spFacts (K : PySem.W.Frag) : Sp := fun vs H Q _ => ∃ (s : Addr) (n : Nat), vs = [.ref s] ∧ Src H s n ∧ n + 2000 ≤ 1000000000 ∧
  ∀ p us fs H', H p = none → KB s H H' → Src H' s (n + 2000) → H' p = some (.lst us) → PrsA H' us fs → FsOk fs → Q (.ref p) H'
def spRunL (K : PySem.W.Frag) : Sp := fun vs H Q _ => ∃ (s : Addr) (n : Nat), vs = [.ref s] ∧ Src H s n ∧ n + 1000 ≤ 1000000000 ∧
  ∀ p xs H', H p = none → KB s H H' → Src H' s (n + 1000) → H' p = some (.lst (xs.map V.str)) → RnOk xs → Q (.ref p) H'
section
variable {P : Program} {w : World} {K : PySem.W.Frag} {mg : Str → Option Value} {base : Heap}
theorem sc_law_facts : FnScope ["source", "counts", "names", "wide", "found", "k", "one", "other", "spot", "place"] ["source"] (defScope s_law_facts) := ⟨rfl, rfl, rfl, by decide +kernel, rfl, by decide +kernel, by decide +kernel⟩
theorem ok_law_facts (D : Def K mg "_law_facts" s_law_facts ["source"]) (T : Bl mg) (G_law_pick : Good P w K mg base 1 "_law_pick" ["source", "count"] spPick) : Good P w K mg base 2 "_law_facts" ["source"] ((spFacts K)) := by
  refine D.good sc_law_facts (fun vs H Q E h => ?_) (fun f cdv A outer s H vs Q E hr h => ?_)
  · obtain ⟨s, n, rfl, _⟩ := h
    rfl
  · obtain ⟨s, n, rfl, hs, hn, q⟩ := h
    have hu := hu_of hr
    refine ⟨_, (pss_cons (ps_set (i := 1) sc_law_facts.nd rfl (Or.inl rfl) (pe_lst (pa_cons pe_int (pa_cons pe_int (pa_cons (pe_fn (G_law_pick.mono (by decide)) hr (pa_cons (pv 0) (pa_cons pe_int pa_nil))) (pa_cons (pe_fn (G_law_pick.mono (by decide)) hr (pa_cons (pv 0) (pa_cons pe_int pa_nil))) (pa_cons pe_int pa_nil)))))))
      (pss_cons (ps_set (i := 2) sc_law_facts.nd rfl (Or.inl rfl) (pe_slice sl_list (pe_lst (pa_cons pe_str (pa_cons pe_str (pa_cons pe_str (pa_cons pe_str (pa_cons pe_str (pa_cons pe_str pa_nil))))))) po_none (po_some (pe_op op_add pe_int (pe_fn (G_law_pick.mono (by decide)) hr (pa_cons (pv 0) (pa_cons pe_int pa_nil)))))))
      (pss_cons (ps_set (i := 3) sc_law_facts.nd rfl (Or.inl rfl) (x_ixl (K := K) (pe_lst (pa_cons pe_int (pa_cons pe_int (pa_cons (pe_op op_sub (pe_op op_pw pe_int pe_int) pe_int) pa_nil)))) (pe_fn (G_law_pick.mono (by decide)) hr (pa_cons (pv 0) (pa_cons pe_int pa_nil)))))
      (pss_cons (ps_set (i := 4) sc_law_facts.nd rfl (Or.inl rfl) (pe_lst pa_nil))
      (pss_cons (ps_for PassesOwn.never rfl (x_rng T (pa_cons (x_ixl (K := K) (pv 1) (pe_fn (G_law_pick.mono (by decide)) hr (pa_cons (pv 0) (pa_cons pe_int pa_nil)))) pa_nil)) (pg_name (i := 5) sc_law_facts.nd rfl (Or.inl rfl)) (pss_cons (ps_par (i := 6) (j := 7) rfl sc_law_facts.nd rfl rfl (by decide) rfl rfl (pa_cons (x_ixl (K := K) (pv 2) (pe_fn (G_law_pick.mono (by decide)) hr (pa_cons (pv 0) (pa_cons (x_len (K := K) T (pv 2)) pa_nil)))) (pa_cons (x_ixl (K := K) (pv 2) (pe_fn (G_law_pick.mono (by decide)) hr (pa_cons (pv 0) (pa_cons (x_len (K := K) T (pv 2)) pa_nil)))) pa_nil)) (by rfl))
      (pss_cons (ps_par (i := 8) (j := 9) rfl sc_law_facts.nd rfl rfl (by decide) rfl rfl (pa_cons (pe_fn (G_law_pick.mono (by decide)) hr (pa_cons (pv 0) (pa_cons (pv 3) pa_nil))) (pa_cons (pe_fn (G_law_pick.mono (by decide)) hr (pa_cons (pv 0) (pa_cons (pv 3) pa_nil))) pa_nil)) (by rfl))
      (pss_one (ps_expr (x_bm (K := K) PySem.F.plainAttrs_list PySem.F.slot_list_append PySem.F.type_list_append mt_append (pv 4) (pa_cons (pe_tup (pa_cons (pe_tup (pa_cons (pv 6) (pa_cons (pv 8) pa_nil))) (pa_cons (pe_tup (pa_cons (pv 7) (pa_cons (pe_op op_add (pv 9) (pe_callTy (hc := call_int1) (hg := by rfl) (hm := T.int) (hv := by decide +kernel) (ha := pa_cons (pe_and (pe_cmpR op_eq (pv 6) (pv 7) (nomark _)) (pe_one (pe_cmpR op_eq (pv 9) (pv 8) (nomark _)))) pa_nil))) pa_nil))) pa_nil))) pa_nil)))))))
      (pss_one (ps_ret (pv 4)))))))), ?_⟩
    have bnd : ∀ {a : Int}, a ≤ 201 → ∀ v : V, (∃ r : Int, v = .int r ∧ 0 ≤ r ∧ r < a) → ∃ r : Int, v = .int r ∧ 0 ≤ r ∧ r ≤ ((200 : Nat) : Int) := fun ha v h => by
      obtain ⟨r, h1, h2, h3⟩ := h
      exact ⟨r, h1, h2, by omega⟩
    refine sk_asgL (c := 2) hs (ekl_lst (c := 2) (Ps := [fun v => ∃ r : Int, v = .int r ∧ 0 ≤ r ∧ r ≤ ((200 : Nat) : Int), fun v => ∃ r : Int, v = .int r ∧ 0 ≤ r ∧ r ≤ ((200 : Nat) : Int), _, _, fun v => ∃ r : Int, v = .int r ∧ 0 ≤ r ∧ r ≤ ((200 : Nat) : Int)]) (hid_s _ _) (eka_cons (c := 0) (d := 2) (hid_s _ _) (ek_of ev_c ⟨0, rfl, by decide, by decide⟩) (eka_cons (c := 0) (d := 2) (hid_s _ _) (ek_of ev_c ⟨1, rfl, by decide, by decide⟩)
      (eka_cons (c := 1) (d := 1) (hid_s _ _) ((ek_pick (c := 0) (m := 8) (hid_s _ _) rfl (ek_of ev_c rfl) (by decide) (by decide)).imp (bnd (by decide)))
      (eka_cons (c := 1) (d := 0) (hid_s _ _) ((ek_pick (c := 0) (m := 201) (hid_s _ _) rfl (ek_of ev_c rfl) (by decide) (by decide)).imp (bnd (by decide)))
      (eka_cons (c := 0) (d := 0) (hid_s _ _) (ek_of ev_c ⟨200, rfl, by decide, by decide⟩) eka_nil))))) (by show 5 ≤ 100000; decide)) (by omega) fun pc cs H1 n1 k1 S1 h1 hcs => ?_
    have hcl : cs.length = 5 := hcs.length
    have hcv : ∀ v ∈ cs, ∃ r : Int, v = .int r ∧ 0 ≤ r ∧ r ≤ ((200 : Nat) : Int) := fun v hv => by
      obtain ⟨k, hk⟩ := List.mem_iff_getElem?.mp hv
      have hk5 : k < 5 := by rw [← hcl]; exact (List.getElem?_eq_some_iff.mp hk).1
      have : ∃ u, cs[k]? = some u ∧ ∃ r : Int, u = .int r ∧ 0 ≤ r ∧ r ≤ ((200 : Nat) : Int) := by
        rcases k with _ | _ | _ | _ | _ | k
        · exact paired_get hcs (i := 0) rfl
        · exact paired_get hcs (i := 1) rfl
        · exact paired_get hcs (i := 2) rfl
        · exact paired_get hcs (i := 3) rfl
        · exact paired_get hcs (i := 4) rfl
        · omega
      obtain ⟨u, g1, g2⟩ := this
      rw [hk] at g1
      cases g1
      exact g2
    obtain ⟨ys1, hs1⟩ := S1.at_
    have ncs : pc ≠ s := fun z => by obtain ⟨u, hu⟩ := hs.at_; rw [z, hu] at n1; cases n1
    refine q_namesK (a := 2) (m := 5) (ws := nmF) S1 (by omega) rfl (ea_cons ev_c (ea_cons ev_c (ea_cons ev_c (ea_cons ev_c (ea_cons ev_c (ea_cons ev_c ea_nil)))))) (by decide) (by decide) (by decide) fun pw c H2 n2 k2 S2 h2 hc => ?_
    have nws : pw ≠ s := fun z => by rw [z, hs1] at n2; cases n2
    have h21 := k2 _ _ ncs h1
    have wl1 : 1 ≤ (nmF.take (2 + c)).length := by rw [List.length_take]; show 1 ≤ min (2 + c) 6; omega
    have wl2 : (nmF.take (2 + c)).length ≤ 1000 := by rw [List.length_take]; show min (2 + c) 6 ≤ 1000; omega
    have wok : ∀ x ∈ nmF.take (2 + c), IsNm x := fun x hx => nmF_ok x (List.mem_of_mem_take hx)
    generalize nmF.take (2 + c) = ws at h2 wl1 wl2 wok
    refine sk_asg (c := 1) (P := fun v => ∃ wd : Nat, v = .int (wd : Int) ∧ 2 ≤ wd ∧ wd ≤ 999999999) S2 (ek_ixL (c := 0) (d := 1) (hid_s _ _) (ekl_lst (c := 0) (Ps := [fun v => v = .int 2, fun v => v = .int 60, fun v => v = .int 999999999]) (hid_s _ _) (eka_cons (c := 0) (d := 0) (hid_s _ _) (ek_of ev_c rfl) (eka_cons (c := 0) (d := 0) (hid_s _ _) (ek_of ev_c rfl) (eka_cons (c := 0) (d := 0) (hid_s _ _) (ek_of (ev_op (ev_op ev_c ev_c (rv_I (C := CPw) ⟨by decide, by decide, by decide⟩)) ev_c rv_I0) rfl) eka_nil))) (by show 3 ≤ 100000; decide)) (ek_pick (c := 0) (m := 3) (hid_s _ _) rfl (ek_of ev_c rfl) (by decide) (by decide)) (fun xs u hxs hu => by
        obtain ⟨r, rfl, r0, r1⟩ := hu
        obtain ⟨j, rfl⟩ : ∃ j : Nat, r = (j : Int) := ⟨r.toNat, by omega⟩
        rcases j with _ | _ | _ | j
        · obtain ⟨z, g1, g2⟩ := paired_get hxs (i := 0) rfl
          exact ⟨_, z, rfl, atI_nat g1, 2, g2, by decide, by decide⟩
        · obtain ⟨z, g1, g2⟩ := paired_get hxs (i := 1) rfl
          exact ⟨_, z, rfl, atI_nat g1, 60, g2, by decide, by decide⟩
        · obtain ⟨z, g1, g2⟩ := paired_get hxs (i := 2) rfl
          exact ⟨_, z, rfl, atI_nat g1, 999999999, g2, by decide, by decide⟩
        · omega)) (by omega) fun v H3 k3 S3 hv => ?_
    obtain ⟨wd, rfl, wd2, wd9⟩ := hv
    have h31 := k3 _ _ ncs h21
    have h32 := k3 _ _ nws h2
    obtain ⟨ys3, hs3⟩ := S3.at_
    refine q_asgL (el_lst ea_nil (by decide)) fun pf H4 n4 e4 h4 => ?_
    have S4 := S3.ex e4
    have h41 := e4 _ _ h31
    have h42 := e4 _ _ h32
    have nfs : pf ≠ s := fun z => by rw [z, hs3] at n4; cases n4
    have nfc : pf ≠ pc := fun z => by rw [z, h31] at n4; cases n4
    have nfw : pf ≠ pw := fun z => by rw [z, h32] at n4; cases n4
    have K4 : KB s H H4 := ((k1.trans k2).trans k3).trans (kb_ex e4)
    refine ek_cntOf (m := 5) (N := 200) (hid_s s H4) rfl rfl ((hid_ne ncs).trans h41) (by decide) (by decide) hcl hcv H4 (n + 4) (hid_ex _ _) S4 (by omega) _ fun v H5 k5 S5 p5 => ?_
    obtain ⟨t, rfl, ht⟩ := p5
    refine ⟨(t : Int), rfl, by omega, by omega, ?_⟩
    have h5f := k5 _ _ nfs h4
    have h5w := k5 _ _ nws h42
    have nf0 : H pf = none := ((k1.trans k2).trans k3).fresh ⟨_, hs3⟩ n4
    refine for_range (lo := 0) (n := (t : Int).toNat) (fun i σ' H' => ∃ b5 b6 b7 b8 b9, σ' = [some (.ref s), some (.ref pc), some (.ref pw), some (.int (wd : Int)), some (.ref pf), b5, b6, b7, b8, b9] ∧ Src H' s (n + 5 + 4 * i) ∧ KB s H H' ∧ H' pw = some (.lst (ws.map V.str)) ∧ ∃ us fs, H' pf = some (.lst us) ∧ PrsA H' us fs ∧ fs.length = i ∧ ∀ a ∈ fs, FcOk a)
      ⟨_, _, _, _, _, rfl, S5, K4.trans k5, h5w, [], [], h5f, PrsA.nil, rfl, fun _ z => by cases z⟩ (fun i σ' H6 hi p => ?_) (fun σ' H6 p => ?_)
    · obtain ⟨b5, b6, b7, b8, b9, rfl, S6, K6, h6w, us, fs, h6f, pr, fl, fok⟩ := p
      refine sk_par (c := 2) (P1 := fun v => ∃ x ∈ ws, v = .str x) (P2 := fun v => ∃ x ∈ ws, v = .str x) S6 (eka_cons (c := 1) (d := 1) (hid_s _ _) (ek_nameOf (hid_s _ _) rfl rfl ((hid_ne nws).trans h6w) wl1 wl2) (eka_cons (c := 1) (d := 0) (hid_s _ _) (ek_nameOf (hid_s _ _) rfl rfl ((hid_ne nws).trans h6w) wl1 wl2) eka_nil)) (by omega) fun v1 v2 H7 k7 S7 p1 p2 => ?_
      obtain ⟨x, hx, rfl⟩ := p1
      obtain ⟨y, hy, rfl⟩ := p2
      refine sk_par (c := 2) (P1 := fun v => ∃ r : Int, v = .int r ∧ 0 ≤ r ∧ r < (wd : Int)) (P2 := fun v => ∃ r : Int, v = .int r ∧ 0 ≤ r ∧ r < (wd : Int)) S7 (eka_cons (c := 1) (d := 1) (hid_s _ _) (ek_pick (c := 0) (m := (wd : Int)) (hid_s _ _) rfl (ek_of (ev_var rfl) rfl) (by omega) (by omega)) (eka_cons (c := 1) (d := 0) (hid_s _ _) (ek_pick (c := 0) (m := (wd : Int)) (hid_s _ _) rfl (ek_of (ev_var rfl) rfl) (by omega) (by omega)) eka_nil)) (by omega) fun v1 v2 H8 k8 S8 p1 p2 => ?_
      obtain ⟨sp, rfl, sp0, sp1⟩ := p1
      obtain ⟨pl, rfl, pl0, pl1⟩ := p2
      obtain ⟨a, rfl⟩ : ∃ a : Nat, sp = (a : Int) := ⟨sp.toNat, by omega⟩
      obtain ⟨b, rfl⟩ : ∃ b : Nat, pl = (b : Int) := ⟨pl.toNat, by omega⟩
      obtain ⟨ys6, hs6⟩ := S6.at_
      obtain ⟨ys7, hs7⟩ := S7.at_
      have tk68 : TK H6 H8 := (tk_kb k7 hs6).trans (tk_kb k8 hs7)
      have h8f := k8 _ _ nfs (k7 _ _ nfs h6f)
      obtain ⟨c2, hc2⟩ : ∃ c2 : Nat, c2 = b + (if x = y ∧ b = a then 1 else 0) := ⟨_, rfl⟩
      have fc : FcOk ((x, a), (y, c2)) := by
        refine ⟨⟨⟨wok x hx, by show a < 10 ^ 9; omega⟩, ⟨wok y hy, by show c2 < 10 ^ 9; rw [hc2]; split <;> omega⟩⟩, fun z => ?_⟩
        have z1 : x = y := congrArg Prod.fst z
        have z2 : a = c2 := congrArg Prod.snd z
        rw [hc2] at z2
        split at z2
        · rename_i h; omega
        · rename_i h; exact h ⟨z1, by omega⟩
      refine te_appPr2 (z := ((x, a), (y, c2))) h8f (ev_var rfl) (evp_pair (a := (x, a)) (b := (y, c2)) (eu_tup (ea_cons (ev_var rfl) (ea_cons (ev_var rfl) ea_nil)) (by show 2 ≤ 100000; decide)) fun H9 e9 => eu_tup (ea_cons (ev_var rfl) (ea_cons (ev_op (y := .int (if x = y ∧ b = a then 1 else 0)) (ev_var rfl) (ev_intB (b := decide (x = y) && decide (b = a)) (ev_andV (a := decide (x = y)) (b := decide (b = a)) (ev_is (ev_op (ev_var rfl) (ev_var rfl) (rv_eq rfl)) ?_) (fun _ => ev_is (ev_op (ev_var rfl) (ev_var rfl) (rv_eq rfl)) ?_)) ?_) ?_) ea_nil)) (by show 2 ≤ 100000; decide)) (pr.tk tk68) (by rw [pr.1]; omega) fun us' H9 k9 h9 pr9 _ => ?_
      · congr 1
        by_cases e : x = y
        · rw [decide_eq_true e, e, decide_eq_true rfl]
        · rw [decide_eq_false e, decide_eq_false fun z => e (V.str.inj z)]
      · congr 1
        by_cases e : b = a
        · rw [decide_eq_true e, e, decide_eq_true rfl]
        · rw [decide_eq_false e, decide_eq_false fun z => e (by have := V.int.inj z; omega)]
      · by_cases e : x = y ∧ b = a
        · rw [if_pos e, decide_eq_true e.1, decide_eq_true e.2]
          rfl
        · rw [if_neg e]
          by_cases e1 : x = y
          · rw [decide_eq_false fun z => e ⟨e1, z⟩, Bool.and_false]
            rfl
          · rw [decide_eq_false e1, Bool.false_and]
            rfl
      · refine RVis (rv_I0 : RV (rI0 fun i j => .int (i + j)) (.int (b : Int)) (.int (if x = y ∧ b = a then 1 else 0)) _ _) ?_
        rw [hc2]
        congr 1
        split <;> rfl
      · have n9s : pf ≠ s := nfs
        have S9 := S8.kb k9 n9s.symm
        refine ⟨_, _, _, _, _, rfl, S9.le (by omega), fun b o nb hb => ?_, k9 _ _ nfw.symm (k8 _ _ nws (k7 _ _ nws h6w)), us', fs ++ [((x, a), (y, c2))], h9, pr9, by rw [List.length_append, fl]; rfl, fun z hz => ?_⟩
        · exact k9 _ _ (fun z => by rw [z, nf0] at hb; cases hb) (k8 _ _ nb (k7 _ _ nb (K6 _ _ nb hb)))
        · rcases List.mem_append.mp hz with hz | hz
          · exact fok z hz
          · rw [List.mem_singleton.mp hz]
            exact fc
    · obtain ⟨b5, b6, b7, b8, b9, rfl, S6, K6, h6w, us, fs, h6f, pr, fl, fok⟩ := p
      refine s_ret (v := .ref pf) (ev_var rfl) fun H7 e7 => q pf us fs H7 nf0 (K6.trans (kb_ex e7)) ((S6.ex e7).le (by omega)) (e7 _ _ h6f) (pr.tk (tk_ex e7)) ⟨by omega, fok⟩
theorem sc_law_run : FnScope ["source", "counts", "names", "k"] ["source"] (defScope s_law_run) := ⟨rfl, rfl, rfl, by decide +kernel, rfl, by decide +kernel, by decide +kernel⟩
theorem ok_law_run (D : Def K mg "_law_run" s_law_run ["source"]) (T : Bl mg) (G_law_pick : Good P w K mg base 1 "_law_pick" ["source", "count"] spPick) : Good P w K mg base 2 "_law_run" ["source"] ((spRunL K)) := by
  refine D.good sc_law_run (fun vs H Q E h => ?_) (fun f cdv A outer s H vs Q E hr h => ?_)
  · obtain ⟨s, n, rfl, _⟩ := h
    rfl
  · obtain ⟨s, n, rfl, hs, hn, q⟩ := h
    have hu := hu_of hr
    refine ⟨_, (pss_cons (ps_set (i := 1) sc_law_run.nd rfl (Or.inl rfl) (pe_lst (pa_cons pe_int (pa_cons pe_int (pa_cons (pe_fn (G_law_pick.mono (by decide)) hr (pa_cons (pv 0) (pa_cons pe_int pa_nil))) (pa_cons (pe_fn (G_law_pick.mono (by decide)) hr (pa_cons (pv 0) (pa_cons pe_int pa_nil))) (pa_cons pe_int pa_nil)))))))
      (pss_cons (ps_set (i := 2) sc_law_run.nd rfl (Or.inr rfl) (pe_slice sl_list (pe_lst (pa_cons pe_str (pa_cons pe_str (pa_cons pe_str (pa_cons pe_str (pa_cons pe_str (pa_cons pe_str pa_nil))))))) po_none (po_some (pe_op op_add pe_int (pe_fn (G_law_pick.mono (by decide)) hr (pa_cons (pv 0) (pa_cons pe_int pa_nil)))))))
      (pss_one (ps_ret (pe_lc (own := [("k", 3)]) (g := (gName 3)) (tt := tYes) rfl sc_law_run.nd (x_rng T (pa_cons (x_ixl (K := K) (pv 1) (pe_fn (G_law_pick.mono (by decide)) hr (pa_cons (pv 0) (pa_cons pe_int pa_nil)))) pa_nil)) (blkOk_by (N := ["source", "counts", "names", "k"]) (sc := (defScope s_law_run)) (by decide +kernel)) (fun _ _ _ _ _ => (pg_name (i := 3) sc_law_run.nd rfl (Or.inl rfl))) (fun _ _ _ _ _ => pts_nil) (fun _ _ _ _ _ => (x_ixl (K := K) (pv 2) (pe_fn (G_law_pick.mono (by decide)) hr (pa_cons (pv 0) (pa_cons (x_len (K := K) T (pv 2)) pa_nil)))))))))), ?_⟩
    have bnd : ∀ {a : Int}, a ≤ 361 → ∀ v : V, (∃ r : Int, v = .int r ∧ 0 ≤ r ∧ r < a) → ∃ r : Int, v = .int r ∧ 0 ≤ r ∧ r ≤ ((360 : Nat) : Int) := fun ha v h => by
      obtain ⟨r, h1, h2, h3⟩ := h
      exact ⟨r, h1, h2, by omega⟩
    refine sk_asgL (c := 2) hs (ekl_lst (c := 2) (Ps := [fun v => ∃ r : Int, v = .int r ∧ 0 ≤ r ∧ r ≤ ((360 : Nat) : Int), fun v => ∃ r : Int, v = .int r ∧ 0 ≤ r ∧ r ≤ ((360 : Nat) : Int), _, _, fun v => ∃ r : Int, v = .int r ∧ 0 ≤ r ∧ r ≤ ((360 : Nat) : Int)]) (hid_s _ _) (eka_cons (c := 0) (d := 2) (hid_s _ _) (ek_of ev_c ⟨0, rfl, by decide, by decide⟩) (eka_cons (c := 0) (d := 2) (hid_s _ _) (ek_of ev_c ⟨1, rfl, by decide, by decide⟩)
      (eka_cons (c := 1) (d := 1) (hid_s _ _) ((ek_pick (c := 0) (m := 8) (hid_s _ _) rfl (ek_of ev_c rfl) (by decide) (by decide)).imp (bnd (by decide)))
      (eka_cons (c := 1) (d := 0) (hid_s _ _) ((ek_pick (c := 0) (m := 361) (hid_s _ _) rfl (ek_of ev_c rfl) (by decide) (by decide)).imp (bnd (by decide)))
      (eka_cons (c := 0) (d := 0) (hid_s _ _) (ek_of ev_c ⟨360, rfl, by decide, by decide⟩) eka_nil))))) (by show 5 ≤ 100000; decide)) (by omega) fun pc cs H1 n1 k1 S1 h1 hcs => ?_
    have hcl : cs.length = 5 := hcs.length
    have hcv : ∀ v ∈ cs, ∃ r : Int, v = .int r ∧ 0 ≤ r ∧ r ≤ ((360 : Nat) : Int) := fun v hv => by
      obtain ⟨k, hk⟩ := List.mem_iff_getElem?.mp hv
      have hk5 : k < 5 := by rw [← hcl]; exact (List.getElem?_eq_some_iff.mp hk).1
      have : ∃ u, cs[k]? = some u ∧ ∃ r : Int, u = .int r ∧ 0 ≤ r ∧ r ≤ ((360 : Nat) : Int) := by
        rcases k with _ | _ | _ | _ | _ | k
        · exact paired_get hcs (i := 0) rfl
        · exact paired_get hcs (i := 1) rfl
        · exact paired_get hcs (i := 2) rfl
        · exact paired_get hcs (i := 3) rfl
        · exact paired_get hcs (i := 4) rfl
        · omega
      obtain ⟨u, g1, g2⟩ := this
      rw [hk] at g1
      cases g1
      exact g2
    obtain ⟨ys1, hs1⟩ := S1.at_
    have ncs : pc ≠ s := fun z => by obtain ⟨u, hu⟩ := hs.at_; rw [z, hu] at n1; cases n1
    refine q_namesK (a := 1) (m := 6) (ws := nmR) S1 (by omega) rfl (ea_cons ev_c (ea_cons ev_c (ea_cons ev_c (ea_cons ev_c (ea_cons ev_c (ea_cons ev_c ea_nil)))))) (by decide) (by decide) (by decide) fun pw c H2 n2 k2 S2 h2 hc => ?_
    have nws : pw ≠ s := fun z => by rw [z, hs1] at n2; cases n2
    have h21 := k2 _ _ ncs h1
    have wl1 : 1 ≤ (nmR.take (1 + c)).length := by rw [List.length_take]; show 1 ≤ min (1 + c) 6; omega
    have wl2 : (nmR.take (1 + c)).length ≤ 1000 := by rw [List.length_take]; show min (1 + c) 6 ≤ 1000; omega
    have wok : ∀ x ∈ nmR.take (1 + c), IsNm x := fun x hx => nmR_ok x (List.mem_of_mem_take hx)
    generalize nmR.take (1 + c) = ws at h2 wl1 wl2 wok
    refine ek_cntOf (m := 5) (N := 360) (hid_s s H2) rfl rfl ((hid_ne ncs).trans h21) (by decide) (by decide) hcl hcv H2 (n + 3) (hid_ex _ _) S2 (by omega) _ fun v H5 k5 S5 p5 => ?_
    obtain ⟨t, rfl, ht⟩ := p5
    refine ⟨(t : Int), rfl, by omega, by omega, fun Dl hD => ?_⟩
    have h5w := k5 _ _ nws h2
    obtain ⟨ys5, hs5⟩ := S5.at_
    have nDs : Dl ≠ s := fun z => by rw [z, hs5] at hD; cases hD
    have nDw : Dl ≠ pw := fun z => by rw [z, h5w] at hD; cases hD
    have K5 : KB s H H5 := (k1.trans k2).trans k5
    have hDH : H Dl = none := K5.fresh ⟨_, hs5⟩ hD
    refine lc_range (lo := 0) (n := (t : Int).toNat) (fun i H' => Src H' s (n + 4 + i) ∧ KB s H H' ∧ H' pw = some (.lst (ws.map V.str)) ∧ ∃ xs : List Str, H' Dl = some (.lst (xs.map V.str)) ∧ xs.length = i ∧ ∀ x ∈ xs, IsNm x)
      ⟨(S5.upd nDs.symm).le (by omega), K5.trans (kb_ex (Ex.new hD)), by rw [upd_ne nDw.symm]; exact h5w, [], upd_same, rfl, fun _ z => by cases z⟩ (fun i H6 hi p => ?_) (fun H6 p => ?_)
    · obtain ⟨S6, K6, h6w, xs, h6, xl, xok⟩ := p
      refine ⟨rfl, ?_⟩
      refine ek_nameOf (i := 2) (j := 0) (pw := pw) (ws := ws) (hid_s s H6) rfl rfl ((hid_ne nws).trans h6w) wl1 wl2 H6 (n + 4 + i) (hid_ex _ _) S6 (by omega) _ fun v H7 k7 S7 p7 => ?_
      obtain ⟨x, hx, rfl⟩ := p7
      have h7 := k7 _ _ nDs h6
      refine ⟨_, h7, by rw [List.length_map]; exact sz_lt (by omega), S7.upd nDs.symm, (K6.trans k7).updN (Or.inl hDH), by rw [upd_ne nDw.symm]; exact k7 _ _ nws h6w, xs ++ [x], by rw [upd_same, List.map_append]; rfl, by rw [List.length_append, xl]; rfl, fun z hz => ?_⟩
      rcases List.mem_append.mp hz with hz | hz
      · exact xok z hz
      · rw [List.mem_singleton.mp hz]
        exact wok x hx
    · obtain ⟨S6, K6, h6w, xs, h6, xl, xok⟩ := p
      exact q Dl xs H6 hDH K6 (S6.le (by omega)) h6 ⟨by omega, xok⟩
end
end Vx

set_option Elab.async false
set_option linter.all false
set_option maxRecDepth 100000
set_option maxHeartbeats 8000000
namespace Vx
open PySem PySem.Spec PyProof.Rows L2 Evl
theorem ev_dgetR {σ : L2.St} {H : Hp} {td ty : TE} {d : Addr} {kvs : List (Key × V)} {x : Str} {v : V} (h1 : Ev td σ H (.ref d)) (h2 : Ev ty σ H (.str x)) (hd : Rd H d (.dK kvs)) (hv : valV kvs (.inr x) = some v) : Ev (tDGet td ty) σ H v := fun H1 e Q q =>
  h1 H1 e _ fun H2 e2 => h2 H2 (e.trans e2) _ fun H3 e3 => ⟨d, v, rfl, .inl ⟨kvs, .inr x, ex_rd (e.trans (e2.trans e3)) hd, rfl, hv.symm⟩, q H3 (e2.trans e3)⟩
def spDue : Sp := fun vs H Q _ => ∃ (d : Addr) (ws : List Str) (ps : List Addr) (L : List (List En)), vs = [.ref d] ∧ HL H d ws ps L ∧ LgOk ws L ∧
  ∀ (f : Addr) (zs : List Lg) (qs : List Addr) H', H f = none → Ex H H' → zs.Perm (lgs ws ps L) → sortedS (zs.map (·.1)) = true → H' f = some (.dK (Dk (zs.map (·.1)) qs)) → qs.length = zs.length →
    (∀ (i : Nat) z r, zs[i]? = some z → qs[i]? = some r → H' r = some (.lst ((leftOf L z.2.2).map V.str))) → Q (.ref f) H'
theorem inV_strs (y : Str) (xs : List Str) : inV (V.str y) (xs.map V.str) = decide (y ∈ xs) := by
  unfold inV
  rw [List.any_map]
  by_cases h : y ∈ xs
  · rw [decide_eq_true h, List.any_eq_true]
    exact ⟨y, h, by show (y == y) = true; simp⟩
  · rw [decide_eq_false h, List.any_eq_false]
    intro z hz
    show ¬ (z == y) = true
    intro e
    have : z = y := by simpa using e
    exact h (this ▸ hz)
theorem flat_strs (xs : List Str) : (xs.map V.str).all flatV = true := by
  rw [List.all_map, List.all_eq_true]
  intro x _
  rfl
theorem En.atN {e : En} (h : e.isRe = true) : atI e.vs ((e.vs.length : Int) - 1) = some (.str e.it) := by cases e <;> first | rfl | cases h
theorem res_len (es : List En) : (res es).length ≤ es.length := by
  rw [res_eq, List.length_map]
  exact List.length_filter_le _ _
theorem tl_at {H : Hp} {p : Addr} {es : List En} {as : List Addr} (h2 : Paired (fun a t => H a = some (.tup t)) as (es.map En.vs)) {i : Nat} {x : V} (hx : (as.map V.ref)[i]? = some x) : ∃ (a : Addr) (e : En), x = .ref a ∧ es[i]? = some e ∧ H a = some (.tup e.vs) := by
  rw [List.getElem?_map] at hx
  obtain ⟨b, hb, rfl⟩ := Option.map_eq_some_iff.mp hx
  have hi : i < es.length := by
    have := (List.getElem?_eq_some_iff.mp hb).1
    rw [h2.length, List.length_map] at this
    exact this
  obtain ⟨c, hc, hd⟩ := paired_get h2 (i := i) (y := (es[i]).vs) (by rw [List.getElem?_map, List.getElem?_eq_getElem hi]; rfl)
  rw [hb] at hc
  cases hc
  exact ⟨b, es[i], rfl, List.getElem?_eq_getElem hi, hd⟩
theorem Rd_frz {H : Hp} {d : Addr} {od : Obj} {o : HO} (h : H d = some (.frz od o)) : Rd H d o := Or.inr ⟨od, h⟩
theorem Rd.of {H : Hp} {d : Addr} {o : HO} (h : H d = some o) : Rd H d o := Or.inl h
/-- the comprehensions of the law's own reading -/
theorem el_gone {K : PySem.W.Frag} {σ : L2.St} {H : Hp} {tl : TE} {p : Addr} {es : List En} {j : Nat} (h : Ev tl σ H (.ref p)) (hp : TL H p (es.map En.vs)) (hz : es.length ≤ 60) (hj : ∀ x, ((wipe σ [j]).set j (some x))[j]? = some (some x)) (hw : ∀ x, wipe ((wipe σ [j]).set j (some x)) [j] = wipe σ [j]) :
    EvL (tLc (iList K tl) (gName j) (tTest (tOp (rIn K false) (tOp (rIxT K) (tVar j) (tC (.int 0))) (tLst (tCons (tC (.str "pop")) (tCons (tC (.str "steal")) tNil))))) (tOp (rIxT K) (tVar j) (tOp (rI0 fun i j => .int (i - j)) (tCB (rLenS K) (tCons (tVar j) tNil)) (tC (.int 1)))) [j]) σ H ((res es).map V.str) := by
  obtain ⟨as, h1, h2⟩ := hp
  have asl : as.length = es.length := by rw [h2.length, List.length_map]
  have key : given (as.map V.ref).length (fun i => (es.getD i (.size 0)).isRe) (fun i => V.str (es.getD i (.size 0)).it) = (res es).map V.str := by
    rw [List.length_map, asl, given_list es (.size 0) En.isRe (fun e => V.str e.it), res_eq, List.map_map]
    rfl
  rw [← key]
  refine el_lcL _ _ h (sq_of h1) (by rw [List.length_map]; omega) hw (fun i x H1 e1 hx => ?_) (fun i x H1 e1 hx hf => ?_)
  · obtain ⟨b, e, rfl, he, hb⟩ := tl_at (p := p) h2 hx
    rw [getD_at he]
    exact et_is (et_test (ev_opL (ev_op (ev_var (hj _)) ev_c (rv_ixT (st_of (e1 _ _ hb)) e.at0)) (el_lst (ea_cons ev_c (ea_cons ev_c ea_nil)) (by show 2 ≤ 100000; decide)) fun p H3 h3 _ => rv_isL (sq_of h3) rfl rfl)) e.isRe_eq
  · obtain ⟨b, e, rfl, he, hb⟩ := tl_at (p := p) h2 hx
    rw [getD_at he] at hf ⊢
    exact ev_op (ev_var (hj _)) (ev_op (ev_lenA (ev_var (hj _)) (Or.inr (st_of (e1 _ _ hb)))) ev_c rv_I0) (rv_ixT (st_of (e1 _ _ hb)) (e.atN hf))
theorem el_pushed {K : PySem.W.Frag} {σ : L2.St} {H : Hp} {tl : TE} {p : Addr} {es : List En} {j : Nat} (h : Ev tl σ H (.ref p)) (hp : TL H p (es.map En.vs)) (hz : es.length ≤ 60) (hj : ∀ x, ((wipe σ [j]).set j (some x))[j]? = some (some x)) (hw : ∀ x, wipe ((wipe σ [j]).set j (some x)) [j] = wipe σ [j]) :
    EvL (tLc (iList K tl) (gName j) (tTest (tOp rEq (tOp (rIxT K) (tVar j) (tC (.int 0))) (tC (.str "push")))) (tOp (rIxT K) (tVar j) (tC (.int 1))) [j]) σ H ((pus es).map V.str) := by
  obtain ⟨as, h1, h2⟩ := hp
  have asl : as.length = es.length := by rw [h2.length, List.length_map]
  have key : given (as.map V.ref).length (fun i => (es.getD i (.size 0)).isPu) (fun i => V.str (es.getD i (.size 0)).it) = (pus es).map V.str := by
    rw [List.length_map, asl, given_list es (.size 0) En.isPu (fun e => V.str e.it), pus_eq, List.map_map]
    rfl
  rw [← key]
  refine el_lcL _ _ h (sq_of h1) (by rw [List.length_map]; omega) hw (fun i x H1 e1 hx => ?_) (fun i x H1 e1 hx hf => ?_)
  · obtain ⟨b, e, rfl, he, hb⟩ := tl_at (p := p) h2 hx
    rw [getD_at he]
    exact et_is (et_test (ev_op (ev_op (ev_var (hj _)) ev_c (rv_ixT (st_of (e1 _ _ hb)) e.at0)) ev_c (rv_eq rfl))) e.isPu_eq
  · obtain ⟨b, e, rfl, he, hb⟩ := tl_at (p := p) h2 hx
    rw [getD_at he] at hf ⊢
    exact ev_op (ev_var (hj _)) ev_c (rv_ixT (st_of (e1 _ _ hb)) (e.at1 hf))
theorem el_stay {K : PySem.W.Frag} {σ : L2.St} {H : Hp} {tl : TE} {p pg : Addr} {xs gs : List Str} {j jg : Nat} (h : Ev tl σ H (.ref p)) (hp : H p = some (.lst (xs.map V.str))) (hz : xs.length ≤ 60) (hg : H pg = some (.lst (gs.map V.str)))
    (hjg : ∀ x, ((wipe σ [j]).set j (some x))[jg]? = some (some (.ref pg))) (hj : ∀ x, ((wipe σ [j]).set j (some x))[j]? = some (some x)) (hw : ∀ x, wipe ((wipe σ [j]).set j (some x)) [j] = wipe σ [j]) :
    EvL (tLc (iList K tl) (gName j) (tTest (tOp (rIn K true) (tVar j) (tVar jg))) (tVar j) [j]) σ H ((xs.filter fun x => decide (¬ x ∈ gs)).map V.str) := by
  have key : given (xs.map V.str).length (fun i => decide (¬ xs.getD i "" ∈ gs)) (fun i => V.str (xs.getD i "")) = (xs.filter fun x => decide (¬ x ∈ gs)).map V.str := by
    rw [List.length_map]
    exact given_list xs "" (fun x => decide (¬ x ∈ gs)) V.str
  rw [← key]
  have at_ : ∀ {i : Nat} {x : V}, (xs.map V.str)[i]? = some x → ∃ y : Str, x = .str y ∧ xs[i]? = some y := fun {i x} hx => by
    rw [List.getElem?_map] at hx
    obtain ⟨y, hy, rfl⟩ := Option.map_eq_some_iff.mp hx
    exact ⟨y, rfl, hy⟩
  refine el_lcL _ _ h (sq_of hp) (by rw [List.length_map]; omega) hw (fun i x H1 e1 hx => ?_) (fun i x H1 e1 hx hf => ?_)
  · obtain ⟨y, rfl, hy⟩ := at_ hx
    rw [getD_at hy]
    refine et_is (et_test (ev_op (ev_var (hj _)) (ev_var (hjg _)) (rv_niL (sq_of (e1 _ _ hg)) rfl (flat_strs gs)))) ?_
    rw [inV_strs, decide_not]
  · obtain ⟨y, rfl, hy⟩ := at_ hx
    rw [getD_at hy]
    exact ev_var (hj _)
section
variable {P : Program} {w : World} {K : PySem.W.Frag} {mg : Str → Option Value} {base : Heap}
end
end Vx

set_option Elab.async false
set_option linter.all false
set_option maxRecDepth 100000
set_option maxHeartbeats 8000000
namespace Vx
open PySem PySem.Spec PyProof.Rows L2 Evl
/-- equal data: atoms, sequences, and dicts of dict-free values -/
def EqG (H : Hp) : Nat → V → V → Prop
  | 0, x, y => x = y ∧ atom x = true
  | n + 1, x, y => (x = y ∧ atom x = true) ∨ (∃ p q xs ys, x = .ref p ∧ y = .ref q ∧ ((Rd H p (.lst xs) ∧ Rd H q (.lst ys)) ∨ (Rd H p (.tup xs) ∧ Rd H q (.tup ys))) ∧ xs.length = ys.length ∧ xs.length < 40000 ∧
      ∀ (i : Nat) (x' y' : V), xs[i]? = some x' → ys[i]? = some y' → EqG H n x' y') ∨
    ∃ p q names ps qs, x = .ref p ∧ y = .ref q ∧ H p = some (.dK (Dk names ps)) ∧ H q = some (.dK (Dk names qs)) ∧ ps.length = names.length ∧ qs.length = names.length ∧ names.Nodup ∧ names.length < 1000 ∧ 1 ≤ n ∧
      ∀ (i : Nat) (u v : Addr), ps[i]? = some u → qs[i]? = some v → EqS H n (.ref u) (.ref v)
theorem EqG.ex {H H' : Hp} (e : Ex H H') : ∀ {n : Nat} {x y : V}, EqG H n x y → EqG H' n x y
  | 0, _, _, h => h
  | n + 1, x, y, h => by
    rcases h with h | ⟨p, q, xs, ys, h1, h2, h3, h4, h5, h6⟩ | ⟨p, q, names, ps, qs, h1, h2, h3, h4, h5, h6, h7, h8, h9, h10⟩
    · exact Or.inl h
    · exact Or.inr (Or.inl ⟨p, q, xs, ys, h1, h2, h3.imp (fun z => ⟨ex_rd e z.1, ex_rd e z.2⟩) (fun z => ⟨ex_rd e z.1, ex_rd e z.2⟩), h4, h5, fun i x' y' a b => EqG.ex e (h6 i x' y' a b)⟩)
    · exact Or.inr (Or.inr ⟨p, q, names, ps, qs, h1, h2, e _ _ h3, e _ _ h4, h5, h6, h7, h8, h9, fun i u v a b => (h10 i u v a b).ex e⟩)
theorem EqS.g {H : Hp} : ∀ {n : Nat} {x y : V}, EqS H n x y → EqG H n x y
  | 0, _, _, h => h
  | n + 1, x, y, h => by
    rcases h with h | ⟨p, q, xs, ys, h1, h2, h3, h4, h5, h6⟩
    · exact Or.inl h
    · exact Or.inr (Or.inl ⟨p, q, xs, ys, h1, h2, h3, h4, h5, fun i x' y' a b => EqS.g (h6 i x' y' a b)⟩)
theorem rd_frz {H : Hp} {d b : Addr} {kvs : List (Key × V)} {o u : HO} (h : H d = some (.dK kvs)) (hu : u ≠ .dK kvs) (r : Rd H b u) : Rd (upd H d o) b u := by
  have n : b ≠ d := fun z => by
    rcases r with r | ⟨od, r⟩
    · rw [z, h] at r
      exact hu (Option.some.inj r).symm
    · rw [z, h] at r
      cases Option.some.inj r
  rcases r with r | ⟨od, r⟩
  · exact Or.inl (by rw [upd_ne n]; exact r)
  · exact Or.inr ⟨od, by rw [upd_ne n]; exact r⟩
theorem EqS.frz {H : Hp} {d : Addr} {kvs : List (Key × V)} {o : HO} (h : H d = some (.dK kvs)) : ∀ {n : Nat} {x y : V}, EqS H n x y → EqS (upd H d o) n x y
  | 0, _, _, z => z
  | n + 1, x, y, z => by
    rcases z with z | ⟨p, q, xs, ys, h1, h2, h3, h4, h5, h6⟩
    · exact Or.inl z
    · exact Or.inr ⟨p, q, xs, ys, h1, h2, h3.imp (fun z => ⟨rd_frz h (fun e => nomatch e) z.1, rd_frz h (fun e => nomatch e) z.2⟩) (fun z => ⟨rd_frz h (fun e => nomatch e) z.1, rd_frz h (fun e => nomatch e) z.2⟩), h4, h5, fun i x' y' a b => EqS.frz h (h6 i x' y' a b)⟩
theorem eqs_atom {H : Hp} {x : V} (h : atom x = true) : ∀ n : Nat, EqS H n x x
  | 0 => ⟨rfl, h⟩
  | _ + 1 => Or.inl ⟨rfl, h⟩
theorem eqs_strs {H : Hp} {p q : Addr} {xs : List Str} {n : Nat} (h1 : Rd H p (.lst (xs.map V.str))) (h2 : Rd H q (.lst (xs.map V.str))) (hz : xs.length < 40000) (hn : 1 ≤ n) : EqS H n (.ref p) (.ref q) := by
  obtain ⟨m, rfl⟩ : ∃ m, n = m + 1 := ⟨n - 1, by omega⟩
  refine Or.inr ⟨p, q, _, _, rfl, rfl, Or.inl ⟨h1, h2⟩, rfl, by rw [List.length_map]; exact hz, fun i x y a b => ?_⟩
  rw [a] at b
  cases b
  rw [List.getElem?_map] at a
  obtain ⟨z, _, rfl⟩ := Option.map_eq_some_iff.mp a
  exact eqs_atom rfl m
/-- all([e for k in d]) -/
theorem ev_allKeys {K : PySem.W.Frag} {σ : L2.St} {H : Hp} {tl te : TE} {d : Addr} {kvs : List (Key × V)} {j : Nat} {vs : List Nat} (hl : ∀ H', Ev tl σ H' (.ref d)) (hd : H d = some (.dK kvs)) (hz : kvs.length < 1000)
    (hw : ∀ x, wipe ((wipe σ vs).set j (some x)) vs = wipe σ vs)
    (he : ∀ H1, Ex H H1 → ∀ od (i : Nat) k v, kvs[i]? = some (k, v) → Ev te ((wipe σ vs).set j (some (kV k))) (upd H1 d (.frz od (.dK kvs))) (.bl true)) :
    Ev (tCB (rAll K) (tCons (tLockE (tLc (iKeys tl) (gName j) tYes te vs)) tNil)) σ H (.bl true) := fun H1 e1 Q q => by
  have hd1 := e1 _ _ hd
  refine ⟨d, .dK kvs, hd1, trivial, fun od => ?_⟩
  have nin : ∀ b o, H1 b = some o → b ≠ d → (upd H1 d (.frz od (.dK kvs))) b = some o := fun b o h n => by rw [upd_ne n]; exact h
  refine hl _ _ (Ex.refl _) _ fun H2 e2 => ⟨d, od, rfl, Or.inl ⟨kvs, e2 _ _ upd_same, fun Dl hD => ?_⟩⟩
  have hf2 : H2 d = some (.frz od (.dK kvs)) := e2 _ _ upd_same
  refine lc_P (B := upd H1 d (.frz od (.dK kvs))) (J := Itk d od kvs) (n := kvs.length) (fun _ v _ => v = .bl true) (by omega) e2 hD (fun i H3 hi e3 => ⟨e3 _ _ hf2, hi⟩) (fun H3 e3 => ⟨e3 _ _ hf2, Nat.le_refl _⟩) (fun i H3 x H4 hi e3 y => ?_) (fun xs H3 e3 h3 kn => ?_)
  · obtain ⟨rfl, k, v, hkv, rfl⟩ := y
    exact ⟨_, Ex.refl _, hw _, fun Q2 q2 => q2 _ (Ex.refl _), evp_of (he H1 e1 od i k v hkv) fun _ _ => rfl⟩
  · have hx := kn.kn.now e2 e3
    have hf3 := e3 _ _ hf2
    have nD : Dl ≠ d := fun z => by rw [z, hf2] at hD; cases hD
    have : xs = (List.replicate kvs.length true).map V.bl := by
      refine List.ext_getElem? fun i => ?_
      by_cases hi : i < kvs.length
      · have hi2 : i < xs.length := by rw [hx.1]; exact hi
        rw [List.getElem?_map, List.getElem?_replicate, if_pos hi, List.getElem?_eq_getElem hi2, hx.2 i _ (List.getElem?_eq_getElem hi2)]
        rfl
      · rw [List.getElem?_eq_none (by rw [hx.1]; omega), List.getElem?_eq_none (by rw [List.length_map, List.length_replicate]; omega)]
    refine ⟨hf3, Dl, List.replicate kvs.length true, rfl, sq_of ?_, ?_⟩
    · rw [upd_ne nD, ← this]
      exact h3
    · rw [all_rep]
      refine q _ fun b o h => ?_
      by_cases z : b = d
      · rw [z, hd1] at h
        rw [z, upd_same]
        exact h
      · rw [upd_ne z]
        exact e3 _ _ (e2 _ _ (nin b o h z))
def spSameG (n : Nat) : Sp := fun vs H Q _ => ∃ x y, vs = [x, y] ∧ EqG H n x y ∧ ∀ H', Ex H H' → Q (.bl true) H'
section
variable {P : Program} {w : World} {K : PySem.W.Frag} {mg : Str → Option Value} {base : Heap}
end
end Vx

set_option Elab.async false
set_option linter.all false
set_option maxRecDepth 100000
set_option maxHeartbeats 4000000
namespace Vx
open PySem PySem.Spec PyProof.Rows L2
/-- logs of a run while it is played: the deques hold what is pushed and not removed -/
structure Plog (top : Nat) (ws : List Str) (L : List (List En)) (fr : List Str) (q : List (List Str)) : Prop where
  v : Vlog top ws L
  pf : (L.flatMap pus ++ fr).Nodup
  cnt : (L.flatMap pus).length + fr.length = 6 * top
  frn : ∀ z ∈ fr, IsNm z
  ql : q.length = ws.length
  dq : ∀ (k : Nat) es, L[k]? = some es → q[k]? = some (leftOf L es)
theorem leftOf_mem {L : List (List En)} {es : List En} {x : Str} : x ∈ leftOf L es ↔ x ∈ pus es ∧ ¬ x ∈ L.flatMap res := by
  unfold leftOf
  rw [List.mem_filter]
  simp only [decide_eq_true_eq]
theorem filter_ne_last {q : List Str} {x : Str} (h : (q ++ [x]).Nodup) : (q ++ [x]).filter (fun y => decide (y ≠ x)) = q := by
  have h2 := (List.nodup_append.mp h).2.2
  rw [List.filter_append, List.filter_eq_self.mpr (fun y hy => by simpa using h2 y hy x (List.mem_singleton.mpr rfl))]
  simp
theorem filter_ne_first {q : List Str} {x : Str} (h : (x :: q).Nodup) : (x :: q).filter (fun y => decide (y ≠ x)) = q := by
  rw [List.filter_cons]
  simp only [ne_eq, not_true_eq_false, decide_false, Bool.false_eq_true, if_false]
  refine List.filter_eq_self.mpr fun y hy => ?_
  have := (List.nodup_cons.mp h).1
  simp only [ne_eq, decide_eq_true_eq]
  exact fun e => this (e ▸ hy)
theorem filter_ne_not {q : List Str} {x : Str} (h : ¬ x ∈ q) : q.filter (fun y => decide (y ≠ x)) = q :=
  List.filter_eq_self.mpr fun y hy => by
    simp only [ne_eq, decide_eq_true_eq]
    exact fun e => h (e ▸ hy)
/-- one removal more -/
theorem leftOf_rem {L L2 : List (List En)} {es : List En} {x : Str} (h : (L2.flatMap res).Perm (L.flatMap res ++ [x])) : leftOf L2 es = (leftOf L es).filter fun y => decide (y ≠ x) := by
  unfold leftOf
  rw [List.filter_filter]
  congr 1
  funext y
  have : y ∈ L2.flatMap res ↔ y ∈ L.flatMap res ∨ y = x := by rw [h.mem_iff, List.mem_append, List.mem_singleton]
  rw [Bool.eq_iff_iff]
  simp only [decide_eq_true_eq, Bool.and_eq_true, this, not_or, ne_eq]
  exact ⟨fun ⟨a, b⟩ => ⟨b, a⟩, fun ⟨a, b⟩ => ⟨b, a⟩⟩
theorem leftOf_same {L L2 : List (List En)} {es : List En} (h : (L2.flatMap res).Perm (L.flatMap res)) : leftOf L2 es = leftOf L es := by
  unfold leftOf
  congr 1
  funext y
  rw [Bool.eq_iff_iff]
  simp only [decide_eq_true_eq, h.mem_iff]
section
variable {top : Nat} {ws : List Str} {L : List (List En)} {fr : List Str} {q : List (List Str)} {k : Nat} {es : List En} {e : En}
theorem Plog.nd (d : Plog top ws L fr q) (hk : L[k]? = some es) : (pus es).Nodup := by
  have := d.v.pu
  obtain ⟨l1, l2, rfl⟩ := List.append_of_mem (List.mem_of_getElem? hk)
  rw [List.flatMap_append, List.flatMap_cons] at this
  exact (List.nodup_append.mp (List.nodup_append.mp this).2.1).1
/-- the pushes of two logs are apart -/
theorem Plog.apart (d : Plog top ws L fr q) {i : Nat} {es2 : List En} (hk : L[k]? = some es) (hi : L[i]? = some es2) (n : i ≠ k) {x : Str} (hx : x ∈ pus es) : ¬ x ∈ pus es2 := fun h2 => by
  have nd := d.v.pu
  unfold List.Nodup at nd
  rw [List.pairwise_flatMap] at nd
  obtain ⟨_, ap⟩ := nd
  rw [List.pairwise_iff_getElem] at ap
  obtain ⟨a1, a2⟩ := List.getElem?_eq_some_iff.mp hk
  obtain ⟨b1, b2⟩ := List.getElem?_eq_some_iff.mp hi
  rcases Nat.lt_or_ge i k with h | h
  · have := ap i k b1 a1 h
    rw [a2, b2] at this
    exact this x h2 x hx rfl
  · have := ap k i a1 b1 (by omega)
    rw [a2, b2] at this
    exact this x hx x h2 rfl
theorem Plog.size (d : Plog top ws L fr q) (hk : L[k]? = some es) (hl : es.length < top) {n : Int} (h0 : 0 ≤ n) (h1 : n ≤ 60) : Plog top ws (L.set k (es ++ [.size n])) fr q := by
  have p1 := flat_set (f := pus) (es' := es ++ [.size n]) (g := []) (by rw [pus_snoc]; rfl) hk
  have p2 := flat_set (f := res) (es' := es ++ [.size n]) (g := []) (by rw [res_snoc]; rfl) hk
  rw [List.append_nil] at p1 p2
  refine ⟨d.v.app hk hl ⟨h0, h1⟩ (by rw [show (En.size n).pu = [] from rfl, List.append_nil]; exact d.v.pu) (by rw [show (En.size n).re = [] from rfl, List.append_nil]; exact d.v.re) (fun _ z => nomatch z) (fun _ _ _ _ z => nomatch z), (p1.append_right fr).nodup_iff.mpr d.pf, ?_, d.frn, d.ql, ?_⟩
  · rw [p1.length_eq]
    exact d.cnt
  · intro i es2 h
    rw [leftOf_same p2]
    rcases set_get h with ⟨rfl, rfl⟩ | ⟨_, h3⟩
    · rw [d.dq i es hk]
      unfold leftOf
      rw [pus_snoc]
      simp [En.pu]
    · exact d.dq i es2 h3
theorem Plog.push {x w : Str} (d : Plog top ws L (fr ++ [x]) q) (hk : L[k]? = some es) (hl : es.length < top) : Plog top ws (L.set k (es ++ [.push x])) fr (q.set k (leftOf L es ++ [x])) := by
  have p1 := flat_set (f := pus) (es' := es ++ [.push x]) (g := [x]) (by rw [pus_snoc]; rfl) hk
  have p2 := flat_set (f := res) (es' := es ++ [.push x]) (g := []) (by rw [res_snoc]; rfl) hk
  rw [List.append_nil] at p2
  have nm : IsNm x := d.frn x (List.mem_append_right _ (List.mem_singleton.mpr rfl))
  have q1 : (L.flatMap pus ++ [x] ++ fr).Nodup := by
    refine (List.Perm.nodup_iff ?_).mpr d.pf
    rw [List.append_assoc]
    exact List.Perm.append_left _ List.perm_append_comm
  have nx : ¬ x ∈ L.flatMap pus := fun z => (List.nodup_append.mp (List.nodup_append.mp q1).1).2.2 x z x (List.mem_singleton.mpr rfl) rfl
  have nr : ¬ x ∈ L.flatMap res := fun h => by
    obtain ⟨es2, h2, h3⟩ := List.mem_flatMap.mp h
    obtain ⟨i, hi⟩ := List.mem_iff_getElem?.mp h2
    unfold res at h3
    obtain ⟨e2, h4, h5⟩ := List.mem_flatMap.mp h3
    refine nx ?_
    cases e2 with
    | push _ => simp [En.re] at h5
    | size _ => simp [En.re] at h5
    | pop y =>
      have : x = y := by simpa [En.re] using h5
      subst this
      obtain ⟨j, hj⟩ := List.mem_iff_getElem?.mp h4
      obtain ⟨j', _, h6⟩ := d.v.own i es2 j x hi hj
      exact List.mem_flatMap.mpr ⟨es2, h2, mem_pus.mpr (List.mem_of_getElem? h6)⟩
    | steal o y =>
      have : x = y := by simpa [En.re] using h5
      subst this
      have hlt : i < ws.length := by rw [← d.v.len]; exact (List.getElem?_eq_some_iff.mp hi).1
      obtain ⟨_, i', es', _, h7, h8⟩ := d.v.st i es2 _ o x hi (List.getElem?_eq_getElem hlt) h4
      exact List.mem_flatMap.mpr ⟨es', List.mem_of_getElem? h7, mem_pus.mpr h8⟩
  refine ⟨d.v.app hk hl nm (List.nodup_append.mp q1).1 (by rw [show (En.push x).re = [] from rfl, List.append_nil]; exact d.v.re) (fun _ z => nomatch z) (fun _ _ _ _ z => nomatch z), (p1.append_right fr).nodup_iff.mpr q1, ?_, fun z hz => d.frn z (List.mem_append_left _ hz), by rw [List.length_set]; exact d.ql, ?_⟩
  · rw [p1.length_eq]
    have := d.cnt
    rw [List.length_append] at this ⊢
    simp only [List.length_cons, List.length_nil] at this ⊢
    omega
  · intro i es2 h
    rw [leftOf_same p2]
    rcases set_get h with ⟨rfl, rfl⟩ | ⟨n, h3⟩
    · have hq : i < q.length := (List.getElem?_eq_some_iff.mp (d.dq i es hk)).1
      rw [List.getElem?_set_self hq]
      congr 1
      unfold leftOf
      rw [pus_snoc, List.filter_append]
      congr 1
      simp only [En.pu, List.filter_cons, List.filter_nil, decide_eq_true_eq]
      rw [if_pos nr]
    · rw [List.getElem?_set_ne (fun z => n z.symm)]
      exact d.dq i es2 h3
/-- an entry e of the log k removes x, which stands in the deque j -/
theorem Plog.rem {x w o : Str} {j : Nat} {ej : List En} {q' : List Str} (d : Plog top ws L fr q) (hk : L[k]? = some es) (hw : ws[k]? = some w) (hl : es.length < top) (hj : L[j]? = some ej) (ho : ws[j]? = some o) (hx : x ∈ leftOf L ej)
    (he : (j = k ∧ e = .pop x) ∨ (j ≠ k ∧ e = .steal o x)) (hq : q' = (leftOf L ej).filter fun y => decide (y ≠ x)) : Plog top ws (L.set k (es ++ [e])) fr (q.set j q') := by
  obtain ⟨x1, x2⟩ := leftOf_mem.mp hx
  have er : e.re = [x] := by rcases he with ⟨_, rfl⟩ | ⟨_, rfl⟩ <;> rfl
  have ep : e.pu = [] := by rcases he with ⟨_, rfl⟩ | ⟨_, rfl⟩ <;> rfl
  have p1 := flat_set (f := pus) (es' := es ++ [e]) (g := []) (by rw [pus_snoc, ep]) hk
  have p2 := flat_set (f := res) (es' := es ++ [e]) (g := [x]) (by rw [res_snoc, er]) hk
  rw [List.append_nil] at p1
  have xnm : IsNm x := by
    have := (d.v.ent ej (List.mem_of_getElem? hj)).2 _ (mem_pus.mp x1)
    exact this
  have onm : IsNm o := d.v.wk.2.2.2 o (List.mem_of_getElem? ho)
  have ndr : (L.flatMap res ++ [x]).Nodup := List.nodup_append.mpr ⟨d.v.re, by simp, fun a ha b hb e => x2 (by rw [← List.mem_singleton.mp hb, ← e]; exact ha)⟩
  refine ⟨d.v.app hk hl ?_ (by rw [ep, List.append_nil]; exact d.v.pu) (by rw [er]; exact ndr) ?_ ?_, (p1.append_right fr).nodup_iff.mpr d.pf, by rw [p1.length_eq]; exact d.cnt, d.frn, by rw [List.length_set]; exact d.ql, ?_⟩
  · rcases he with ⟨_, rfl⟩ | ⟨_, rfl⟩
    · exact xnm
    · exact ⟨onm, xnm⟩
  · intro y hy
    rcases he with ⟨rfl, rfl⟩ | ⟨_, rfl⟩
    · cases hy
      rw [hj] at hk
      cases hk
      exact mem_pus.mp x1
    · cases hy
  · intro w2 o2 y h1 h2
    rcases he with ⟨_, rfl⟩ | ⟨hne, rfl⟩
    · cases h2
    · cases h2
      rw [hw] at h1
      cases h1
      refine ⟨fun z => hne ?_, j, ej, ho, hj, mem_pus.mp x1⟩
      subst z
      exact (List.getElem?_inj (List.getElem?_eq_some_iff.mp ho).1 d.v.wk.2.2.1).mp (ho.trans hw.symm)
  · intro i es2 h
    have step : ∀ {i : Nat} {e3 : List En}, L[i]? = some e3 → (q.set j q')[i]? = some (leftOf (L.set k (es ++ [e])) e3) := fun {i e3} h3 => by
      rw [leftOf_rem p2]
      by_cases hij : i = j
      · subst hij
        rw [hj] at h3
        cases h3
        rw [List.getElem?_set_self (List.getElem?_eq_some_iff.mp (d.dq i ej hj)).1, hq]
      · rw [List.getElem?_set_ne (fun z => hij z.symm), d.dq i e3 h3]
        congr 1
        exact (filter_ne_not fun z => d.apart hj h3 hij x1 (leftOf_mem.mp z).1).symm
    rcases set_get h with ⟨rfl, rfl⟩ | ⟨_, h3⟩
    · have := step hk
      rw [this]
      congr 1
      unfold leftOf
      rw [pus_snoc, ep, List.append_nil]
    · exact step h3
theorem Plog.nil (h : WkOk ws) (hl : fr.length = 6 * top) (hd : fr.Nodup) (hn : ∀ z ∈ fr, IsNm z) : Plog top ws (List.replicate ws.length []) fr (List.replicate ws.length []) := by
  refine ⟨Vlog.nil h, by rw [flatMap_nil_rep rfl]; exact hd, by rw [flatMap_nil_rep rfl]; simpa using hl, hn, by rw [List.length_replicate], fun k es h1 => ?_⟩
  have h2 := (List.mem_replicate.mp (List.mem_of_getElem? h1)).2
  subst h2
  have h3 : k < ws.length := by
    have := (List.getElem?_eq_some_iff.mp h1).1
    rw [List.length_replicate] at this
    exact this
  rw [List.getElem?_replicate, if_pos h3]
  rfl
end
end Vx

set_option Elab.async false
set_option linter.all false
set_option maxRecDepth 100000
set_option maxHeartbeats 8000000
namespace Vx
open PySem PySem.Spec PyProof.Rows L2 Evl
theorem x_neD {X : Cx} {K : PySem.W.Frag} (hK : X.K = K) (hu : X.A.units + 64 < cLine) : OpR X (compareOp .NotEq) (rNeD K) := by
  subst hK
  exact op_neD hu
def spPlayed (K : PySem.W.Frag) : Sp := fun vs H Q _ => ∃ (s : Addr) (n m : Nat), vs = [.ref s, .int (m : Int)] ∧ Src H s n ∧ n + 4000 ≤ 1000000000 ∧ 1 ≤ m ∧ m ≤ 60 ∧
  ∀ (p d1 d2 po : Addr) (ws : List Str) (ps qs : List Addr) (L : List (List En)) (H' : Hp), H p = none → KB s H H' → Src H' s (n + 4000) → H' p = some (.lst [.ref d1, .ref d2, .ref po]) → HL H' d1 ws ps L → (∀ p ∈ ps, H p = none) → ps.Nodup →
    H' d2 = some (.dK (Dk ws qs)) → qs.length = ws.length → (∀ (k : Nat) r es, qs[k]? = some r → L[k]? = some es → H' r = some (.lst ((leftOf L es).map V.str))) → Vlog m ws L → Q (.ref p) H'
structure Ap2 (s pw pf po : Addr) (ps qs : List Addr) (H : Hp) : Prop where
  wf : pw ≠ pf
  wo : pw ≠ po
  fo : pf ≠ po
  nw : pw ≠ s
  nf : pf ≠ s
  no : po ≠ s
  al : ∀ p ∈ ps ++ qs, p ≠ pw ∧ p ≠ pf ∧ p ≠ po ∧ p ≠ s ∧ H p = none
  pq : ∀ p ∈ ps, ∀ r ∈ qs, p ≠ r
  pn : ps.Nodup
  qn : qs.Nodup
  f0 : H pf = none
  o0 : H po = none
structure PlH (s d1 d2 pw pf po : Addr) (ws : List Str) (ps qs : List Addr) (H H' : Hp) (n : Nat) (L : List (List En)) (fr : List Str) (q : List (List Str)) (os : List Str) : Prop where
  kb : KB s H H'
  src : Src H' s n
  hw : H' pw = some (.lst (ws.map V.str))
  hl : HL H' d1 ws ps L
  dd : H' d2 = some (.dK (Dk ws qs))
  ql : qs.length = ws.length
  qv : ∀ (k : Nat) r x, qs[k]? = some r → q[k]? = some x → H' r = some (.lst (x.map V.str))
  hf : H' pf = some (.lst (fr.map V.str))
  ho : H' po = some (.lst (os.map V.str))
section
variable {s d1 d2 pw pf po : Addr} {ws : List Str} {ps qs : List Addr} {H H' H2 : Hp} {n n2 : Nat} {L : List (List En)} {fr : List Str} {q : List (List Str)} {os : List Str}
theorem Ap2.inP (a : Ap2 s pw pf po ps qs H) {p : Addr} (h : p ∈ ps) : p ≠ pw ∧ p ≠ pf ∧ p ≠ po ∧ p ≠ s ∧ H p = none := a.al p (List.mem_append_left _ h)
theorem Ap2.inQ (a : Ap2 s pw pf po ps qs H) {p : Addr} (h : p ∈ qs) : p ≠ pw ∧ p ≠ pf ∧ p ≠ po ∧ p ≠ s ∧ H p = none := a.al p (List.mem_append_right _ h)
theorem PlH.nd1 (l : PlH s d1 d2 pw pf po ws ps qs H H' n L fr q os) {p : Addr} {vs : List V} (h : H' p = some (.lst vs)) : d1 ≠ p := fun z => by
  have := l.hl.dk
  rw [z, h] at this
  cases this
theorem PlH.nd2 (l : PlH s d1 d2 pw pf po ws ps qs H H' n L fr q os) {p : Addr} {vs : List V} (h : H' p = some (.lst vs)) : d2 ≠ p := fun z => by
  have := l.dd
  rw [z, h] at this
  cases this
theorem PlH.turn (l : PlH s d1 d2 pw pf po ws ps qs H H' n L fr q os) (a : Ap2 s pw pf po ps qs H) (k : KB s H' H2) (S : Src H2 s n2) : PlH s d1 d2 pw pf po ws ps qs H H2 n2 L fr q os := by
  obtain ⟨ys, hs⟩ := l.src.at_
  exact ⟨l.kb.trans k, S, k _ _ a.nw l.hw, l.hl.kb k hs fun p hp => (a.inP hp).2.2.2.1, k _ _ (l.nd2 hs) l.dd, l.ql, fun i r x h1 h2 => k _ _ (a.inQ (List.mem_of_getElem? h1)).2.2.2.1 (l.qv i r x h1 h2), k _ _ a.nf l.hf, k _ _ a.no l.ho⟩
theorem PlH.ex (l : PlH s d1 d2 pw pf po ws ps qs H H' n L fr q os) (a : Ap2 s pw pf po ps qs H) (e : Ex H' H2) : PlH s d1 d2 pw pf po ws ps qs H H2 n L fr q os := l.turn a (kb_ex e) (l.src.ex e)
theorem PlH.le (l : PlH s d1 d2 pw pf po ws ps qs H H' n L fr q os) (h : n ≤ n2) : PlH s d1 d2 pw pf po ws ps qs H H' n2 L fr q os := ⟨l.kb, l.src.le h, l.hw, l.hl, l.dd, l.ql, l.qv, l.hf, l.ho⟩
theorem PlH.app {k : Nat} {pk a : Addr} {es : List En} {e : En} {lv : List V} (l : PlH s d1 d2 pw pf po ws ps qs H H' n L fr q os) (ap : Ap2 s pw pf po ps qs H) (hpk : ps[k]? = some pk) (hes : L[k]? = some es) (hlv : H' pk = some (.lst lv))
    (ha : H' a = some (.tup e.vs)) : PlH s d1 d2 pw pf po ws ps qs H (upd H' pk (.lst (lv ++ [.ref a]))) n (L.set k (es ++ [e])) fr q os := by
  have pm := List.mem_of_getElem? hpk
  obtain ⟨a1, a2, a3, a4, a5⟩ := ap.inP pm
  have tk : TK H' (upd H' pk (.lst (lv ++ [.ref a]))) := tk_upd hlv
  refine ⟨l.kb.updN (Or.inl a5), l.src.upd a4.symm, by rw [upd_ne a1.symm]; exact l.hw, ?_, by rw [upd_ne (l.nd2 hlv)]; exact l.dd, l.ql, fun i r x h1 h2 => by rw [upd_ne (ap.pq pk pm r (List.mem_of_getElem? h1)).symm]; exact l.qv i r x h1 h2, by rw [upd_ne a2.symm]; exact l.hf, by rw [upd_ne a3.symm]; exact l.ho⟩
  refine l.hl.set ap.pn tk (upd_ne (l.nd1 hlv)) hpk (fun p _ h => upd_ne h) ?_
  rw [List.map_append]
  exact (l.hl.lg k pk es hpk hes).app tk hlv upd_same (tk _ _ ha)
theorem PlH.setQ {k : Nat} {rk : Addr} {x y : List Str} (l : PlH s d1 d2 pw pf po ws ps qs H H' n L fr q os) (ap : Ap2 s pw pf po ps qs H) (hrk : qs[k]? = some rk) (hx : q[k]? = some x) : PlH s d1 d2 pw pf po ws ps qs H (upd H' rk (.lst (y.map V.str))) n L fr (q.set k y) os := by
  have rm := List.mem_of_getElem? hrk
  have old := l.qv k rk x hrk hx
  obtain ⟨a1, a2, a3, a4, a5⟩ := ap.inQ rm
  have tk : TK H' (upd H' rk (.lst (y.map V.str))) := tk_upd old
  refine ⟨l.kb.updN (Or.inl a5), l.src.upd a4.symm, by rw [upd_ne a1.symm]; exact l.hw, ⟨by rw [upd_ne (l.nd1 old)]; exact l.hl.dk, l.hl.pl, fun i p es h1 h2 => (l.hl.lg i p es h1 h2).keep tk (upd_ne (ap.pq p (List.mem_of_getElem? h1) rk rm))⟩, by rw [upd_ne (l.nd2 old)]; exact l.dd, l.ql, fun i r z h1 h2 => ?_, by rw [upd_ne a2.symm]; exact l.hf, by rw [upd_ne a3.symm]; exact l.ho⟩
  by_cases e : k = i
  · subst e
    rw [hrk] at h1
    cases h1
    rw [List.getElem?_set_self (List.getElem?_eq_some_iff.mp hx).1] at h2
    cases h2
    exact upd_same
  · rw [List.getElem?_set_ne e] at h2
    have : r ≠ rk := fun z2 => e (by
      subst z2
      exact (List.getElem?_inj (List.getElem?_eq_some_iff.mp hrk).1 ap.qn).mp (hrk.trans h1.symm))
    rw [upd_ne this]
    exact l.qv i r z h1 h2
theorem PlH.popF {x : Str} (l : PlH s d1 d2 pw pf po ws ps qs H H' n L (fr ++ [x]) q os) (ap : Ap2 s pw pf po ps qs H) : PlH s d1 d2 pw pf po ws ps qs H (upd H' pf (.lst ((fr ++ [x]).map V.str).dropLast)) n L fr q os := by
  have tk : TK H' (upd H' pf (.lst ((fr ++ [x]).map V.str).dropLast)) := tk_upd l.hf
  refine ⟨l.kb.updN (Or.inl ap.f0), l.src.upd ap.nf.symm, by rw [upd_ne ap.wf]; exact l.hw, ⟨by rw [upd_ne (l.nd1 l.hf)]; exact l.hl.dk, l.hl.pl, fun i p es h1 h2 => (l.hl.lg i p es h1 h2).keep tk (upd_ne (ap.inP (List.mem_of_getElem? h1)).2.1)⟩, by rw [upd_ne (l.nd2 l.hf)]; exact l.dd, l.ql, fun i r x h1 h2 => by rw [upd_ne (ap.inQ (List.mem_of_getElem? h1)).2.1]; exact l.qv i r x h1 h2, ?_, by rw [upd_ne ap.fo.symm]; exact l.ho⟩
  rw [upd_same, List.map_append]
  have : (fr.map V.str ++ [x].map V.str).dropLast = fr.map V.str := List.dropLast_concat
  rw [this]
theorem PlH.appO {x : Str} (l : PlH s d1 d2 pw pf po ws ps qs H H' n L fr q os) (ap : Ap2 s pw pf po ps qs H) : PlH s d1 d2 pw pf po ws ps qs H (upd H' po (.lst (os.map V.str ++ [.str x]))) n L fr q (os ++ [x]) := by
  have tk : TK H' (upd H' po (.lst (os.map V.str ++ [.str x]))) := tk_upd l.ho
  refine ⟨l.kb.updN (Or.inl ap.o0), l.src.upd ap.no.symm, by rw [upd_ne ap.wo]; exact l.hw, ⟨by rw [upd_ne (l.nd1 l.ho)]; exact l.hl.dk, l.hl.pl, fun i p es h1 h2 => (l.hl.lg i p es h1 h2).keep tk (upd_ne (ap.inP (List.mem_of_getElem? h1)).2.2.1)⟩, by rw [upd_ne (l.nd2 l.ho)]; exact l.dd, l.ql, fun i r x h1 h2 => by rw [upd_ne (ap.inQ (List.mem_of_getElem? h1)).2.2.1]; exact l.qv i r x h1 h2, by rw [upd_ne ap.fo]; exact l.hf, by rw [upd_same, List.map_append]; rfl⟩
end
theorem dp_strs {K : PySem.W.Frag} {H : Hp} : ∀ q : List Str, DpAll K H (q.map V.str) (q.map PyData.str)
  | [] => .nil
  | x :: q => .cons (.str x) (dp_strs q)
theorem deep_strs : ∀ q : List Str, PyData.depthAll (q.map PyData.str) = 0
  | [] => rfl
  | x :: q => by
    rw [List.map_cons]
    simp only [PyData.depthAll, PyData.depth, deep_strs q]
    decide
theorem IsNm.strOk {x : Str} (h : IsNm x) : PyData.strOk x = true := by
  unfold PyData.strOk
  rw [← Array.all_toList, List.all_eq_true]
  intro c hc
  have := (h.2.2 c hc).2
  simp only [decide_eq_true_eq]
  omega
theorem lay_strs : ∀ q : List Str, (∀ x ∈ q, IsNm x) → PyData.canLayAll0 (q.map PyData.str) = true
  | [], _ => rfl
  | x :: q, h => by
    rw [List.map_cons]
    simp only [PyData.canLayAll0, PyData.canLay0, lay_strs q (fun y hy => h y (List.mem_cons_of_mem _ hy)), (h x (List.mem_cons_self ..)).strOk]
    decide
theorem shaped_strs (q : List Str) (h : ∀ x ∈ q, IsNm x) : SeqAt.shaped (.list (q.map PyData.str)) = true := by
  unfold SeqAt.shaped
  simp only [PyData.depth, PyData.canLay0, deep_strs, lay_strs q h]
  decide
theorem ev_neE {K : PySem.W.Frag} {σ : L2.St} {H : Hp} {te : TE} {p : Addr} {q : List Str} (h : Ev te σ H (.ref p)) (hp : H p = some (.lst (q.map V.str))) (hn : ∀ x ∈ q, IsNm x) : Ev (tOp (rNeD K) te (tLst tNil)) σ H (.bl (!decide (q = []))) :=
  ev_opL h (el_lst ea_nil (by decide)) fun r H1 h1 e1 H2 e2 Q q2 => ⟨.list (q.map PyData.str), .list [], .lst (sq_of (e2 _ _ (e1 _ _ hp))) (dp_strs q), .lst (sq_of (e2 _ _ h1)) .nil, shaped_strs q hn, rfl, by
    have : PyData.eqv (.list (q.map PyData.str)) (.list []) = decide (q = []) := by
      cases q with
      | nil => rfl
      | cons x q => rfl
    rw [this]
    exact q2 H2 (Ex.refl _)⟩
theorem te_rows {K : PySem.W.Frag} {σ : L2.St} {H : Hp} {tl : TE} {j : Nat} {vs : List Nat} {pw : Addr} {ws : List Str} {Q : VK} (h : Ev tl σ H (.ref pw)) (hw : H pw = some (.lst (ws.map V.str))) (hl : ws.length ≤ 1000) (nd : ws.Nodup)
    (hj : ∀ x, ((wipe σ vs).set j (some x))[j]? = some (some x)) (hwp : ∀ x, wipe ((wipe σ vs).set j (some x)) vs = wipe σ vs)
    (k : ∀ d ps H2, H d = none → Ex H H2 → H2 d = some (.dK (Dk ws ps)) → New H H2 ws.length ps → Q (.ref d) H2) :
      tCB (rDictP K) (tCons (tLc (iList K tl) (gName j) tYes (tTup (tCons (tVar j) (tCons (tLst tNil) tNil))) vs) tNil) σ H Q :=
  ev_rows h hw hl nd hj hwp H (Ex.refl H) Q k
theorem te_pop {K : PySem.W.Frag} {σ : L2.St} {H : Hp} {to : TE} {a y : V} {r : Addr} {xs : List V} {Q : VK} (h : Ev to σ H (.ref r)) (hr : H r = some (.lst xs)) (hy : xs[xs.length - 1]? = some y)
    (k : ∀ H1, Ex H H1 → ∀ t, (upd H1 r (.lst xs.dropLast)) t = none → Q (.ref t) (upd (upd H1 r (.lst xs.dropLast)) t (.tup [a, y]))) : tTup (tCons (tC a) (tCons (tBM0 K "list" rPop to) tNil)) σ H Q :=
  h H (Ex.refl H) _ fun H1 e1 => ⟨.inl ⟨rfl, _, sq_of (e1 _ _ hr)⟩, r, xs, y, rfl, rfl, e1 _ _ hr, hy, (by show 2 ≤ sizeLine; decide), fun t ht => k H1 e1 t ht⟩
theorem te_first {K : PySem.W.Frag} {σ : L2.St} {H : Hp} {to : TE} {a b y : V} {j : Nat} {r : Addr} {xs : List V} {Q : VK} (hb : σ[j]? = some (some b)) (h : Ev to σ H (.ref r)) (hr : H r = some (.lst (y :: xs)))
    (k : ∀ H1, Ex H H1 → ∀ t, (upd H1 r (.lst xs)) t = none → Q (.ref t) (upd (upd H1 r (.lst xs)) t (.tup [a, b, y]))) : tTup (tCons (tC a) (tCons (tVar j) (tCons (tBM K "list" rPopAt to (tCons (tC (.int 0)) tNil)) tNil))) σ H Q :=
  ⟨b, hb, h H (Ex.refl H) _ fun H1 e1 => ⟨.inl ⟨rfl, _, sq_of (e1 _ _ hr)⟩, r, y :: xs, 0, 0, y, rfl, rfl, e1 _ _ hr, by decide, by decide, seqIx (by decide) (by rw [List.length_cons]; omega), rfl, (by show 3 ≤ sizeLine; decide), fun t ht => k H1 e1 t ht⟩⟩
theorem s_rows2 {K : PySem.W.Frag} {D : Ends} {σ : L2.St} {H : Hp} {tl : TE} {i i2 i3 j : Nat} {vs : List Nat} {pw : Addr} {ws : List Str} (h : ∀ H', Ev tl σ H' (.ref pw)) (hw : H pw = some (.lst (ws.map V.str))) (hl : ws.length ≤ 1000) (nd : ws.Nodup)
    (hj : ∀ x, ((wipe σ vs).set j (some x))[j]? = some (some x)) (hwp : ∀ x, wipe ((wipe σ vs).set j (some x)) vs = wipe σ vs)
    (k : ∀ d1 ps H2 d2 qs H3 po, H d1 = none → Ex H H2 → H2 d1 = some (.dK (Dk ws ps)) → New H H2 ws.length ps → H2 d2 = none → Ex H2 H3 → H3 d2 = some (.dK (Dk ws qs)) → New H2 H3 ws.length qs → H3 po = none → D.nx (((σ.set i (some (.ref d1))).set i2 (some (.ref d2))).set i3 (some (.ref po))) (upd H3 po (.lst []))) :
      tPar3 i i2 i3 (tCons (tCB (rDictP K) (tCons (tLc (iList K tl) (gName j) tYes (tTup (tCons (tVar j) (tCons (tLst tNil) tNil))) vs) tNil)) (tCons (tCB (rDictP K) (tCons (tLc (iList K tl) (gName j) tYes (tTup (tCons (tVar j) (tCons (tLst tNil) tNil))) vs) tNil)) (tCons (tLst tNil) tNil))) D σ H := by
  unfold tPar3
  refine ev_rows (h H) hw hl nd hj hwp H (Ex.refl H) _ fun d1 ps H2 n2 e2 hd1 new => ?_
  refine ev_rows (h H2) (e2 _ _ hw) hl nd hj hwp H2 (Ex.refl H2) _ fun d2 qs H3 n3 e3 hd2 new2 => ?_
  exact ⟨(by show 0 ≤ sizeLine; decide), fun po hpo => ⟨_, _, _, rfl, k d1 ps H2 d2 qs H3 po n2 e2 hd1 new n3 e3 hd2 new2 hpo⟩⟩
section
variable {P : Program} {w : World} {K : PySem.W.Frag} {mg : Str → Option Value} {base : Heap}
end
end Vx

set_option Elab.async false
set_option linter.all false
set_option maxRecDepth 100000
set_option maxHeartbeats 4000000
namespace Vx
open PySem PySem.Spec PyProof.Rows L2 Evl
/-! defs that are called where no repr is under way -/
structure FnG (P : Program) (w : World) (K : PySem.W.Frag) (mg : Str → Option Value) (base : Heap) (k : Nat) (f : Addr) (fd : FuncData) (ps : List Str) (sp : Sp) : Prop where
  len : ∀ vs H Q E, sp vs H Q E → vs.length = ps.length
  run : ∀ (A : Around) (outer : List Env) (s : Shared) (H : Hp) (args : Args) (us : List Value) (vs : List V) (Q : VK) (E : XK), A.guards = some [] → Room k A → Env0 P w K mg base A outer s H → BindsTo s fd args (ps.zip us) → Vals vs us → sp vs H Q E →
    codeAny (model P w) A (.call (.ref f) args) (CR CX0 outer P w H s Q E) s
section
variable {P : Program} {w : World} {K : PySem.W.Frag} {mg : Str → Option Value} {base : Heap}
theorem fun_okG {x qual : Str} {st : Stmt} {f : Addr} {fd : FuncData} {N ps : List Str} {k : Nat} {sp : Sp} (F : Fun K x qual st f fd) (S : FnScope N ps (defScope st)) (len : ∀ vs H Q E, sp vs H Q E → vs.length = ps.length)
    (body : ∀ (cdv : Value) (A : Around) (outer : List Env) (s : Shared) (H : Hp) (vs : List V) (Q : VK) (E : XK), A.guards = some [] → Room k (A.deeper (envOfC qual (defScope st) s.heap.objs.size f cdv)) → sp vs H Q E →
      ∃ t, PSs (cxOf CX0 P w K mg base N qual (defScope st) f cdv A outer s H E).nox (defBody st) t ∧ t { nx := fun _ H' => Q .non H', rt := Q } (start N vs) H) : FnG P w K mg base (k + 1) f fd ps sp := by
  obtain ⟨oc, od, kV, doc, pm, an, cdv, ct, osl, rfl, look, code⟩ := F.ex
  refine ⟨len, fun A outer s H args us vs Q E quiet room e0 bind rel hs => ?_⟩
  have here : ∀ b o, base.get? b = some o → s.heap.get? b = some o := fun b o e => (e0.bs b o e).1
  have kin : K.In s.heap := e0.mod.kin.keeps here
  have kinds : ∀ y ∈ ps.zip us, (defScope st).names.lookup y.1 = some .local ∨ ((defScope st).names.lookup y.1 = some .cell ∧ ((cellsFrom (s.heap.objs.size + 1) (defScope st).names []).lookup y.1).isSome = true) := by
    rintro ⟨nm, v⟩ hy
    exact (S.par nm (List.of_mem_zip hy).1).imp id fun z => ⟨z, PySem.W.cellsFrom_some _ _ _ (.inl z)⟩
  refine codeAny_call_function room.depth (kin _ _ look) rfl S.co S.gen rfl (PySem.W.codeRec_of kin code) (bind _ _ _ _ (wpAny_newFunctionEnv_cells S.kind kinds ?_))
  rintro env rfl s1 made
  refine ⟨(e0.mod.nolimit.keeps here).keeps made.toInCall.keep, codeAny_func ?_⟩
  obtain ⟨t, reads, holds⟩ := body cdv A outer s H vs Q E quiet (room.deeper _) hs
  have I := inv_start (CX := CX0) (K := K) (mg := mg) (base := base) (E := E) S room.hd e0 (len _ _ _ _ hs) rel made
  refine wpAny_mono (reads.nox.run [] s1 (start N vs) H _ I holds) (fun fl s2 z => ?_) fun e s2 z => z
  cases fl with
  | ret u =>
    obtain ⟨v, σ2, H2, J, rv, q⟩ := z
    exact ⟨v, H2, J.os, J.bare, J.base, J.hok, rv, q⟩
  | next =>
    obtain ⟨σ2, H2, J, q⟩ := z
    exact ⟨.non, H2, J.os, J.bare, J.base, J.hok, rfl, q⟩
  | brk => exact z.elim fun _ z => z.elim fun _ z => z.2.elim
  | cont => exact z.elim fun _ z => z.elim fun _ z => z.2.elim
structure GoodG (P : Program) (w : World) (K : PySem.W.Frag) (mg : Str → Option Value) (base : Heap) (k : Nat) (x : Str) (ps : List Str) (sp : Sp) : Prop where
  ex : ∃ f fd, FnG P w K mg base k f fd ps sp ∧ mg x = some (.ref f) ∧ PySem.W.keepIn K (.ref f) = true ∧ Binds K fd ps []
theorem Def.goodG {x : Str} {st : Stmt} {N ps : List Str} {k : Nat} {sp : Sp} (D : Def K mg x st ps) (S : FnScope N ps (defScope st)) (len : ∀ vs H Q E, sp vs H Q E → vs.length = ps.length)
    (body : ∀ (f : Addr) (cdv : Value) (A : Around) (outer : List Env) (s : Shared) (H : Hp) (vs : List V) (Q : VK) (E : XK), A.guards = some [] → Room k (A.deeper (envOfC x (defScope st) s.heap.objs.size f cdv)) → sp vs H Q E →
      ∃ t, PSs (cxOf CX0 P w K mg base N x (defScope st) f cdv A outer s H E).nox (defBody st) t ∧ t { nx := fun _ H' => Q .non H', rt := Q } (start N vs) H) : GoodG P w K mg base (k + 1) x ps sp := by
  obtain ⟨f, fd, F, m, b⟩ := D.ex
  exact ⟨f, fd, fun_okG F S len fun cdv A outer s H vs Q E qu hr h => body f cdv A outer s H vs Q E qu hr h, m, F.kp, b⟩
end
section
variable {X : Cx} {k : Nat} {x : Str} {ps : List Str} {sp : Sp} {p pos : Pos} {e : Expr} {es : List Expr} {t : TA}
theorem pe_fnG (g : GoodG X.prog X.w X.K X.mg X.base k x ps sp) (quiet : X.A.guards = some []) (room : Room k X.A) (ha : PA X (e :: es) t) (hg : Gl X x := by rfl)
    (hd : (x == ("__debug__" : Str)) = false := by decide) (he : starEach (e :: es) X.env = (false, eval e X.env) :: starEach es X.env := by rfl)
    (hp : (backTo pos (starEach es X.env)).any (·.1) = false := by rfl) : PE X (.Call (.Name x p) (e :: es) [] pos) (tCall sp [] E0 t) := by
  obtain ⟨f, fd, F, m, kp, b⟩ := g.ex
  refine ⟨fun pins s σ H Q I h => wpAny_Call_Name_kw (ld_glob I hg m (PySem.W.callWith_K (h₀ := X.base) I.ok.mod.kin kp (thn (ha.run pos pins s σ H _ I h) fun us s1 ⟨vs, H1, I1, r, q⟩ => ⟨I1.kIn, ?_⟩) he hp) hd)⟩
  have q : sp (vs ++ []) H1 Q E0 := q
  rw [List.append_nil] at q
  show wpAny (model X.prog X.w) X.A (call (.ref f) us) (EP X pins σ Q) X.xe s1
  have b2 := b s1 us I1.kIn (by rw [List.append_nil, ← r.length]; exact F.len _ _ _ _ q)
  rw [List.append_nil] at b2
  refine wpAny_call (codeAny_mono (F.run X.A X.stack s1 H1 ⟨us, []⟩ us vs Q E0 quiet room I1.env0 b2 r q) fun r2 s2 z => ?_)
  rcases r2 with e2 | fl
  · exact pass0 (X := X) pins σ H1 s1 e2 s2 I1 z
  cases fl with
  | ret u => exact I1.after z
  | next => exact False.elim z
  | brk => exact False.elim z
  | cont => exact False.elim z
end
end Vx

set_option Elab.async false
set_option linter.all false
set_option maxRecDepth 100000
set_option maxHeartbeats 4000000
namespace Vx
open PySem PySem.Spec PyProof.Rows L2
section
variable {P : Program} {w : World} {K : PySem.W.Frag} {mg mb : Str → Option Value} {a : Addr} {s1 : Shared} {vs : List Value} {ns : List Int} {H : Hp}
/-- the heap behind the top, the script hidden -/
theorem head_env (kin : K.In s1.heap) (gl : s1.heap.Ns mainGlobals mg) (bi : s1.heap.Ns builtinsNs mb) (bb : ∀ x : Str, x ≠ "__name__" → mb x = bootBuiltins x) (lim : s1.heap.NoLimit) (gens : s1.gens = #[])
    (ha : s1.heap.get? a = some { cls := .type "list", data := .seq vs.toArray }) (hok : HOk P w H s1.heap) (onlyA : ∀ b, H b ≠ none → b = a) (offK : H a ≠ none → K.lookup a = none) (sm : ∃ mm, s1.heap.Ns sysModules mm) :
    Env0 P w K mg (hidT s1.heap H) callerA [] s1 H ∧ K.In (hidT s1.heap H) ∧ (hidT s1.heap H).Ns mainGlobals mg ∧ ∃ o, (hidT s1.heap H).get? sysModules = some o := by
  have seen : ∀ {b : Addr} {o : Obj}, s1.heap.get? b = some o → (b = a → H a = none) → (hidT s1.heap H).get? b = some o := fun {b o} e n => hidT_get e (by
    cases q : H b with
    | none => rfl
    | some u =>
      have ba := onlyA b (fun z => by rw [z] at q; cases q)
      rw [ba, n ba] at q
      cases q)
  have names : ∀ {b : Addr} {m : Str → Option Value}, s1.heap.Ns b m → (hidT s1.heap H).Ns b m := fun ⟨o, es, ep, e, d, r⟩ => ⟨o, es, ep, seen e fun ba => (by
    rw [ba, ha] at e
    have eo := Option.some.inj e
    rw [← eo] at d
    cases d), d, r⟩
  have kb : K.In (hidT s1.heap H) := fun b o e => seen (kin b o e) fun ba => by
    cases q : H a with
    | none => rfl
    | some u =>
      rw [ba, offK fun z => (by rw [z] at q; cases q)] at e
      cases e
  obtain ⟨mc, l1, l2⟩ := lim
  exact ⟨⟨rfl, ⟨kb, names gl, ⟨mb, names bi, bb⟩, ⟨mc, names l1, l2⟩⟩, fun b o e => of_hidT e, Nat.le_of_eq (hidT_size _ _), trivial, fun b hb => absurd (show b ∈ ([] : List Addr) from hb) (by simp), hok, .of_eq gens⟩, kb, names gl, by
    obtain ⟨mm, hm⟩ := sm
    obtain ⟨o, es, ep, e, _⟩ := names hm
    exact ⟨o, e⟩⟩
theorem head_run {k : Nat} {fa : Addr} {fd : FuncData} {x : Str} {sp : Sp} (kin : K.In s1.heap) (gl : s1.heap.Ns mainGlobals mg) (bi : s1.heap.Ns builtinsNs mb) (bb : ∀ x : Str, x ≠ "__name__" → mb x = bootBuiltins x) (lim : s1.heap.NoLimit) (gens : s1.gens = #[])
    (ha : s1.heap.get? a = some { cls := .type "list", data := .seq vs.toArray }) (hin : IntsAre vs ns) (size : ns.length ≤ sizeLine) (room : Room k callerA)
    (sm : ∃ mm, s1.heap.Ns sysModules mm) (F : ∀ base : Heap, K.In base → base.Ns mainGlobals mg → (∃ o, base.get? sysModules = some o) → FnG P w K mg base k fa fd [x] sp) (bind : ∀ (s : Shared) (u : Value), BindsTo s fd ⟨[u], []⟩ [(x, u)])
    (say : ∀ H : Hp, SqL K H a (ns.map V.int) → sp [.ref a] H (fun v _ => v = .bl true) E0) :
    codeAny (model P w) callerA (.call (.ref fa) ⟨[.ref a], []⟩) (fun r s2 => r = .ok (.ret (.bool true)) ∧ OldK s1.heap s2.heap ∧ s2.os = s1.os ∧ AllBare s2.gens) s1 := by
  have rel := vals_ints hin
  have go : ∀ H : Hp, Only H → SqL K H a (ns.map V.int) → HOk P w H s1.heap → (∀ b, H b ≠ none → b = a) → (H a ≠ none → K.lookup a = none) →
      codeAny (model P w) callerA (.call (.ref fa) ⟨[.ref a], []⟩) (fun r s2 => r = .ok (.ret (.bool true)) ∧ OldK s1.heap s2.heap ∧ s2.os = s1.os ∧ AllBare s2.gens) s1 := fun H only sq hok onlyA offK => by
    obtain ⟨e0, kb, glb, smb⟩ := head_env kin gl bi bb lim gens ha hok onlyA offK sm
    refine codeAny_mono ((F _ kb glb smb).run callerA [] s1 H ⟨[.ref a], []⟩ [.ref a] [.ref a] _ _ rfl room e0 (bind s1 (.ref a)) (.cons rfl .nil) (say H sq)) fun r s2 h => ?_
    rcases r with e | fl
    · exact False.elim h
    cases fl with
    | ret u =>
      obtain ⟨v, H2, os, bare, un, hok2, rv, rfl⟩ := h
      obtain rfl : u = Value.bool true := rv
      refine ⟨rfl, OldK.of_keep fun b o e => ?_, os, bare⟩
      rcases only b with z | ⟨ob, xs, z⟩
      · exact un.keep b o e z (fun hb => absurd (show b ∈ ([] : List Addr) from hb) (by simp)) (by simp)
      · have g1 := (hok b _ z).1
        have g2 := (hok2 b _ (un.frzs b ob _ z)).1
        rw [e] at g1
        rw [Option.some.inj g1]
        exact g2
    | next => exact False.elim h
    | brk => exact False.elim h
    | cont => exact False.elim h
  cases look : K.lookup a with
  | some o =>
    have eo := kin a o look
    rw [ha] at eo
    obtain rfl := Option.some.inj eo
    exact go (fun _ => none) (fun _ => .inl rfl) (.inr ⟨_, vs.toArray, _, look, rfl, rfl, rfl, by rw [List.size_toArray, hin.length]; exact size, by simpa using rel⟩) (fun b u z => nomatch (show (none : Option HO) = some u from z)) (fun b z => absurd rfl z) (fun z => absurd rfl z)
  | none =>
    let H0 : Hp := fun b => if b = a then some (.frz { cls := .type "list", data := .seq vs.toArray } (.lst (ns.map V.int))) else none
    have at0 : H0 a = some (.frz { cls := .type "list", data := .seq vs.toArray } (.lst (ns.map V.int))) := if_pos rfl
    have off0 : ∀ b, b ≠ a → H0 b = none := fun b h => if_neg h
    refine go H0 (fun b => ?_) (.inl (.inr ⟨_, at0⟩)) (fun b u z => ?_) (fun b z => Classical.byContradiction fun h => z (off0 b h)) fun _ => look
    · by_cases h : b = a
      · exact .inr ⟨_, _, by rw [h]; exact at0⟩
      · exact .inl (off0 b h)
    · by_cases h : b = a
      · rw [h, at0] at z
        rw [h]
        obtain rfl := Option.some.inj z
        exact ⟨ha, by rw [List.length_map]; exact size, vs, _, rel, ha⟩
      · rw [off0 b h] at z
        cases z
end
theorem walkG {l : PySem.W.OpenLaw} {n k : Nat} {q : Program} {loose : List Str} {XP : (Str → Option Value) → Heap → Prop} {YP : World → Heap → Prop} {d : DefRec} {K : Params → PySem.W.Frag} {sp : PySem.W.Frag → Sp} {x : Str}
    (hq : importsNone q = true) (hn : l.most = some n) (hn2 : n ≤ sizeLine) (hdf : d.params.defaults = []) (room : Room k callerA) (hY : ∀ (w : World) (h : Heap), YP w h → (K w.params).In h)
    (F : ∀ (w : World) (mg : Str → Option Value) (fa : Addr) (h : Heap), (K w.params).In h → h.Ns mainGlobals mg → mg d.name = some (.ref fa) →
      ∃ fd : FuncData, (∀ (s : Shared) (u : Value), BindsTo s fd ⟨[u], []⟩ [(x, u)]) ∧ ∀ base : Heap, (K w.params).In base → base.Ns mainGlobals mg → (∃ o, base.get? sysModules = some o) → FnG l.prog w (K w.params) mg base k fa fd [x] (sp (K w.params)))
    (say : ∀ (K : PySem.W.Frag) (H : Hp) (a : Addr) (ns : List Int), ns.length ≤ n → SqL K H a (ns.map V.int) → sp K [.ref a] H (fun v _ => v = .bl true) E0) :
    PySem.W.WalkO q loose XP YP l.row.toRowW d [] (fun f vs => PySem.call f vs) := by
  refine Att.attach_call hn hdf fun w s₀ s1 mg mb fa o pm cd doc a vs ns G Y ho hd hcd hmg hobj hints hlen hg => ?_
  have kin := hY w _ Y
  obtain ⟨fd, bind, hF⟩ := F w mg fa _ kin G.T.g hmg
  exact head_run kin G.T.g G.T.b G.T.builtins G.T.nolimit hg hobj hints (Nat.le_trans hlen hn2) room (let ⟨mm, h1, _⟩ := (G.T.seer hq).mods; ⟨mm, h1⟩) hF bind fun H sq => say _ H a ns hlen sq
end Vx

set_option Elab.async false
set_option linter.all false
set_option maxRecDepth 100000
set_option maxHeartbeats 4000000
namespace Vx
open PySem PySem.Spec PyProof.Rows L2
/-! repr of logs -/
def vD : V → PyData
  | .str x => .str x
  | .int i => .int i
  | _ => .none
def flat2 : V → Prop
  | .str _ => True
  | .int _ => True
  | _ => False
def En.data (e : En) : PyData := .tuple (e.vs.map vD)
def logD (es : List En) : PyData := .list (es.map En.data)
def rowD (x : Str × List En) : PyData × PyData := (.str x.1, logD x.2)
def rowsD (ws : List Str) (L : List (List En)) : PyData := .dict ((ws.zip L).map rowD)
section
variable {X : Cx} {pins : List (Addr × Obj)} {σ : L2.St} {H : Hp} {s : Shared}
theorem reads_flat {h : Heap} : ∀ {vs : List V} {us : List Value}, Vals vs us → (∀ v ∈ vs, flat2 v) → ReadsAll h us (vs.map vD) []
  | _, _, .nil, _ => .nil
  | v :: vs, u :: us, .cons r t, f => by
    have hv := f v (List.mem_cons_self ..)
    have ht := reads_flat (h := h) t fun w hw => f w (List.mem_cons_of_mem _ hw)
    cases v with
    | str x =>
      obtain ⟨k, rfl⟩ := r
      exact ReadsAll.cons (as := []) (.str x k) ht
    | int i =>
      obtain ⟨k, rfl⟩ := r
      exact ReadsAll.cons (as := []) (.int i k) ht
    | _ => exact hv.elim
theorem En.flat (e : En) : ∀ v ∈ e.vs, flat2 v := by
  cases e <;> (intro v hv; simp only [En.vs, List.mem_cons, List.mem_nil_iff, or_false] at hv)
  · rcases hv with rfl | rfl <;> trivial
  · rcases hv with rfl | rfl <;> trivial
  · rcases hv with rfl | rfl <;> trivial
  · rcases hv with rfl | rfl | rfl <;> trivial
theorem reads_en (I : L2.Inv X pins σ H s) {a : Addr} {e : En} (h : H a = some (.tup e.vs)) : Reads s.heap (.ref a) e.data [] := by
  obtain ⟨its, r, ⟨o, g1, g2, n, g3⟩, _⟩ := I.tuple (X := X) (Or.inl (Or.inl h))
  exact Reads.tuple g1 g2 g3 (by simpa using reads_flat r e.flat)
theorem reads_ens (I : L2.Inv X pins σ H s) : ∀ {as : List Addr} {es : List En}, Paired (fun a t => H a = some (.tup t)) as (es.map En.vs) → ReadsAll s.heap (as.map Value.ref) (es.map En.data) []
  | [], [], _ => .nil
  | a :: as, e :: es, .cons h t => ReadsAll.cons (as := []) (reads_en I h) (reads_ens I t)
theorem reads_log (I : L2.Inv X pins σ H s) {p : Addr} {es : List En} (h : TL H p (es.map En.vs)) : Reads s.heap (.ref p) (logD es) [p] := by
  obtain ⟨as, h1, h2⟩ := h
  obtain ⟨its, n, r, g, _⟩ := I.lst h1
  have e := refs_at r
  subst e
  exact Reads.list g rfl rfl (by simpa using reads_ens I h2)
theorem reads_rows (I : L2.Inv X pins σ H s) : ∀ {ws : List Str} {ps : List Addr} {L : List (List En)} {vs : List (Key × Value)} {es : List DictEntry}, ps.length = ws.length → L.length = ws.length → KV (Dk ws ps) vs → Pairs (mixKind X.prog X.w) es vs →
      (∀ (i : Nat) p e, ps[i]? = some p → L[i]? = some e → TL H p (e.map En.vs)) → ReadsAll s.heap (es.map (·.key)) (((ws.zip L).map rowD).map (·.1)) [] ∧ ReadsAll s.heap (es.map (·.val)) (((ws.zip L).map rowD).map (·.2)) ps
  | [], [], [], vs, es, _, _, kv, pr, _ => by
    cases kv
    cases pr
    exact ⟨.nil, .nil⟩
  | w :: ws, p :: ps, e :: L, vs, es, h1, h2, kv, pr, lg => by
    cases kv with
    | @cons _ q _ qs k t =>
      cases pr with
      | @cons en _ es _ ks vv pr =>
        obtain ⟨k1, k2⟩ := k
        obtain ⟨r1, r2⟩ := reads_rows I (ws := ws) (ps := ps) (L := L) (by simpa using h1) (by simpa using h2) t pr fun i p e a b => lg (i + 1) p e (by simpa using a) (by simpa using b)
        have hk : keyIs q.1 en.key = true := ks
        have k1' : (Sum.inr w : Key) = q.1 := k1
        rw [← k1'] at hk
        rcases keyIs_shape hk with ⟨i, t2, z, _⟩ | ⟨x, t2, z, hx⟩
        · cases z
        · have z2 : w = x := Sum.inr.inj z
          subst z2
          have hv : en.val = .ref p := vv.trans k2
          refine ⟨?_, ?_⟩
          · show ReadsAll s.heap (en.key :: es.map (·.key)) (PyData.str w :: ((ws.zip L).map rowD).map (·.1)) []
            rw [hx]
            exact ReadsAll.cons (as := []) (.str w t2) r1
          · show ReadsAll s.heap (en.val :: es.map (·.val)) (logD e :: ((ws.zip L).map rowD).map (·.2)) (p :: ps)
            rw [hv]
            exact ReadsAll.cons (as := [p]) (reads_log I (lg 0 p e rfl rfl)) r2
theorem reads_dict (I : L2.Inv X pins σ H s) {d : Addr} {ws : List Str} {ps : List Addr} {L : List (List En)} (hl : HL H d ws ps L) (ll : L.length = ws.length) : Reads s.heap (.ref d) (rowsD ws L) (d :: ps) := by
  obtain ⟨_, _, vs, kv, o, es, ep, g1, g2, g3, _, pr, _⟩ := dk_rd I.hok (Or.inl hl.dk)
  obtain ⟨r1, r2⟩ := reads_rows I hl.pl ll kv pr hl.lg
  exact Reads.dict (as := []) g1 g2.1 g3 r1 r2
end
theorem sign_strs {x : Str} (h : IsNm x) : (x.cps.toList.all fun c => decide (c < 16 ^ 8)) = true := by
  rw [List.all_eq_true]
  intro c hc
  have := (h.2.2 c hc).2
  simp only [decide_eq_true_eq]
  omega
theorem kw_nms : ∀ z ∈ (["push", "pop", "size", "steal"] : List Str), 1 ≤ z.length ∧ z.length ≤ 8 ∧ ∀ c ∈ z.cps.toList, 97 ≤ c ∧ c ≤ 122 := by decide +kernel
theorem nmP : IsNm "push" := kw_nms _ (by simp)
theorem nmO : IsNm "pop" := kw_nms _ (by simp)
theorem nmS : IsNm "size" := kw_nms _ (by simp)
theorem nmT : IsNm "steal" := kw_nms _ (by simp)
structure Small (d : PyData) (dp wt : Nat) : Prop where
  sh : d.showable = true
  sl : PyData.leavesShort 13 d = true
  dp : d.depth ≤ dp
  wt : d.weight ≤ wt
structure SmallAll (ds : List PyData) (dp wt : Nat) : Prop where
  sh : PyData.showableAll ds = true
  sl : PyData.leavesShortAll 13 ds = true
  dp : PyData.depthAll ds ≤ dp
  wt : PyData.weightAll ds ≤ wt
theorem small_str {x : Str} (h : IsNm x) : Small (.str x) 0 8 := ⟨by simp only [PyData.showable], by simp only [PyData.leavesShort]; exact sign_strs h, by simp only [PyData.depth]; exact Nat.le_refl _, by simp only [PyData.weight]; exact h.2.1⟩
theorem small_int {i : Int} (h0 : 0 ≤ i) (h1 : i ≤ 60) : Small (.int i) 0 8 := by
  have hl : i.natAbs.log2 ≤ 5 := by
    have := PySem.Flt.log2_lt_of (by decide : 0 < 6) (show i.natAbs < 2 ^ 6 by omega)
    omega
  refine ⟨by simp only [PyData.showable, decide_eq_true_eq]; omega, by simp only [PyData.leavesShort, decide_eq_true_eq]; exact PyData.shown_int_le (by omega), by simp only [PyData.depth]; exact Nat.le_refl _, ?_⟩
  simp only [PyData.weight]
  split <;> omega
theorem small_nil : SmallAll [] 0 0 := ⟨rfl, rfl, Nat.le_refl _, Nat.le_refl _⟩
theorem small_cons {x : PyData} {xs : List PyData} {dp w1 w2 : Nat} (h : Small x dp w1) (t : SmallAll xs dp w2) : SmallAll (x :: xs) dp (w1 + 1 + w2) :=
  ⟨by simp only [PyData.showableAll, h.sh, t.sh, Bool.and_self], by simp only [PyData.leavesShortAll, h.sl, t.sl, Bool.and_self], by simp only [PyData.depthAll]; exact Nat.max_le.mpr ⟨h.dp, t.dp⟩, by simp only [PyData.weightAll]; have := h.wt; have := t.wt; omega⟩
theorem SmallAll.tuple {xs : List PyData} {dp wt : Nat} (h : SmallAll xs dp wt) : Small (.tuple xs) (dp + 1) wt :=
  ⟨by simp only [PyData.showable]; exact h.sh, by simp only [PyData.leavesShort]; exact h.sl, by simp only [PyData.depth]; have := h.dp; omega, by simp only [PyData.weight]; exact h.wt⟩
theorem SmallAll.list {xs : List PyData} {dp wt : Nat} (h : SmallAll xs dp wt) : Small (.list xs) (dp + 1) wt :=
  ⟨by simp only [PyData.showable]; exact h.sh, by simp only [PyData.leavesShort]; exact h.sl, by simp only [PyData.depth]; have := h.dp; omega, by simp only [PyData.weight]; exact h.wt⟩
theorem SmallAll.le {xs : List PyData} {d1 d2 w1 w2 : Nat} (h : SmallAll xs d1 w1) (a : d1 ≤ d2) (b : w1 ≤ w2) : SmallAll xs d2 w2 := ⟨h.sh, h.sl, Nat.le_trans h.dp a, Nat.le_trans h.wt b⟩
theorem Small.le {x : PyData} {d1 d2 w1 w2 : Nat} (h : Small x d1 w1) (a : d1 ≤ d2) (b : w1 ≤ w2) : Small x d2 w2 := ⟨h.sh, h.sl, Nat.le_trans h.dp a, Nat.le_trans h.wt b⟩
theorem small_en {e : En} (h : e.ok) : Small e.data 1 30 := by
  cases e with
  | push x => exact (small_cons (small_str nmP) (small_cons (small_str (show IsNm x from h)) small_nil)).tuple.le (Nat.le_refl _) (by decide)
  | pop x => exact (small_cons (small_str nmO) (small_cons (small_str (show IsNm x from h)) small_nil)).tuple.le (Nat.le_refl _) (by decide)
  | size k => exact (small_cons (small_str nmS) (small_cons (small_int h.1 h.2) small_nil)).tuple.le (Nat.le_refl _) (by decide)
  | steal o x => exact (small_cons (small_str nmT) (small_cons (small_str h.1) (small_cons (small_str h.2) small_nil))).tuple.le (Nat.le_refl _) (by decide)
theorem small_ens : ∀ {es : List En}, (∀ e ∈ es, e.ok) → SmallAll (es.map En.data) 1 (31 * es.length)
  | [], _ => small_nil.le (by decide) (by decide)
  | e :: es, h => (small_cons (small_en (h e (List.mem_cons_self ..))) (small_ens fun x hx => h x (List.mem_cons_of_mem _ hx))).le (Nat.le_refl _) (by rw [List.length_cons]; omega)
theorem small_rows : ∀ {ws : List Str} {L : List (List En)}, (∀ x ∈ ws, IsNm x) → (∀ es ∈ L, es.length ≤ 60 ∧ ∀ e ∈ es, e.ok) → ws.length ≤ 6 →
    PyData.showableKv ((ws.zip L).map rowD) = true ∧ PyData.leavesShortKv 13 ((ws.zip L).map rowD) = true ∧ PyData.depthKv ((ws.zip L).map rowD) ≤ 2 ∧ PyData.weightKv ((ws.zip L).map rowD) ≤ 2000 * ws.length
  | [], L, _, _, _ => ⟨rfl, rfl, by show 0 ≤ 2; omega, by show 0 ≤ _; omega⟩
  | w :: ws, [], _, _, _ => ⟨rfl, rfl, by show 0 ≤ 2; omega, by show 0 ≤ _; omega⟩
  | w :: ws, es :: L, hw, hL, hl => by
    obtain ⟨a1, a2, a3, a4⟩ := small_rows (ws := ws) (L := L) (fun x hx => hw x (List.mem_cons_of_mem _ hx)) (fun e he => hL e (List.mem_cons_of_mem _ he)) (by rw [List.length_cons] at hl; omega)
    have k := small_str (hw w (List.mem_cons_self ..))
    have oe := hL es (List.mem_cons_self ..)
    have v : Small (logD es) 2 (31 * es.length) := (small_ens oe.2).list
    have e1 : (w :: ws).zip (es :: L) = (w, es) :: ws.zip L := rfl
    rw [e1, List.map_cons]
    show PyData.showableKv ((.str w, logD es) :: _) = true ∧ PyData.leavesShortKv 13 ((.str w, logD es) :: _) = true ∧ PyData.depthKv ((.str w, logD es) :: _) ≤ 2 ∧ PyData.weightKv ((.str w, logD es) :: _) ≤ _
    refine ⟨by simp only [PyData.showableKv, k.sh, v.sh, a1, Bool.and_self], by simp only [PyData.leavesShortKv, k.sl, v.sl, a2, Bool.and_self], ?_, ?_⟩
    · simp only [PyData.depthKv]
      have := k.dp
      have := v.dp
      omega
    · simp only [PyData.weightKv]
      have := k.wt
      have := v.wt
      have := oe.1
      rw [List.length_cons]
      omega
/-- repr(rows) of logs -/
def rReprL (K : PySem.W.Frag) : List V → Hp → VK → Prop := fun xs H Q => ∃ (d : Addr) (ws : List Str) (ps : List Addr) (L : List (List En)), xs = [.ref d] ∧ HL H d ws ps L ∧ Vlog 60 ws L ∧ Q (.str (rowsD ws L).shown) H
theorem call_reprL {X : Cx} {K : PySem.W.Frag} (hK : X.K = K) (quiet : X.A.guards = some []) (room : X.A.units + 64 < cLine) (hs : ∃ o, X.base.get? sysModules = some o) : CallR X (.builtin "repr") (rReprL K) := by
  intro pins s σ H xs us Q I r h
  obtain ⟨d, ws, ps, L, rfl, hl, v, q⟩ := h
  obtain ⟨u, rfl, ru⟩ := vals1 r
  cases ru
  obtain ⟨o, ho⟩ := hs
  have off : H sysModules = none := (I.bs _ _ ho).2
  obtain ⟨a1, a2, a3, a4⟩ := small_rows v.wk.2.2.2 v.ent v.wk.2.1
  have wl := v.wk.2.1
  have rd := reads_dict I hl v.len
  refine repr_of_reads' (h₀ := s.heap) rd (by simp only [rowsD, PyData.showable]; exact a1) (fun _ hm => ?_) quiet (by simp only [rowsD, PyData.depth]; omega) (fun _ _ e => e) (fun h2 t tk kp => ⟨.str (rowsD ws L).shown, H, I.kept kp, ⟨t, rfl⟩, q⟩)
    (PyData.shown_fits (B := 13) (by decide) (by decide) (by simp only [rowsD, PyData.leavesShort]; exact a2) (by simp only [rowsD, PyData.weight]; omega))
  rcases List.mem_cons.mp hm with e | hm
  · have := hl.dk
    rw [← e, off] at this
    cases this
  · obtain ⟨i, hi⟩ := List.mem_iff_getElem?.mp hm
    have hiL : i < L.length := by rw [v.len, ← hl.pl]; exact (List.getElem?_eq_some_iff.mp hi).1
    obtain ⟨as, g1, _⟩ := hl.lg i _ _ hi (List.getElem?_eq_getElem hiL)
    rw [off] at g1
    cases g1
end Vx

set_option Elab.async false
set_option linter.all false
set_option maxRecDepth 100000
set_option maxHeartbeats 4000000
namespace Vx
open PySem PySem.Spec PyProof.Rows L2 Evl
/-! plain data at any depth, as values -/
def keyD : Key → PyData
  | .inl i => .int i
  | .inr z => .str z
def zipD (kvs : List (Key × V)) (ds : List PyData) : List (PyData × PyData) := (kvs.map fun kv => keyD kv.1).zip ds
mutual
inductive Dz (H : Hp) : V → PyData → List Addr → Prop
  | non : Dz H .non .none []
  | bl (b : Bool) : Dz H (.bl b) (.bool b) []
  | int (i : Int) : Dz H (.int i) (.int i) []
  | str (z : Str) : Dz H (.str z) (.str z) []
  | lst {p : Addr} {vs : List V} {ds : List PyData} {as : List Addr} : H p = some (.lst vs) → DzA H vs ds as → Dz H (.ref p) (.list ds) (p :: as)
  | tup {p : Addr} {vs : List V} {ds : List PyData} {as : List Addr} : H p = some (.tup vs) → DzA H vs ds as → Dz H (.ref p) (.tuple ds) as
  | dict {p : Addr} {kvs : List (Key × V)} {ds : List PyData} {as : List Addr} : H p = some (.dK kvs) → (kvs.map (·.1)).Nodup → DzA H (kvs.map (·.2)) ds as → Dz H (.ref p) (.dict (zipD kvs ds)) (p :: as)
inductive DzA (H : Hp) : List V → List PyData → List Addr → Prop
  | nil : DzA H [] [] []
  | cons {v : V} {vs : List V} {d : PyData} {ds : List PyData} {as bs : List Addr} : Dz H v d as → DzA H vs ds bs → DzA H (v :: vs) (d :: ds) (as ++ bs)
end
mutual
theorem Dz.ex {H H' : Hp} (e : Ex H H') : ∀ {v : V} {d : PyData} {as : List Addr}, Dz H v d as → Dz H' v d as
  | _, _, _, .non => .non
  | _, _, _, .bl b => .bl b
  | _, _, _, .int b => .int b
  | _, _, _, .str b => .str b
  | _, _, _, .lst h t => .lst (e _ _ h) (DzA.ex e t)
  | _, _, _, .tup h t => .tup (e _ _ h) (DzA.ex e t)
  | _, _, _, .dict h n t => .dict (e _ _ h) n (DzA.ex e t)
theorem DzA.ex {H H' : Hp} (e : Ex H H') : ∀ {vs : List V} {ds : List PyData} {as : List Addr}, DzA H vs ds as → DzA H' vs ds as
  | _, _, _, .nil => .nil
  | _, _, _, .cons a t => .cons (Dz.ex e a) (DzA.ex e t)
end
mutual
theorem Dz.at {H : Hp} : ∀ {v : V} {d : PyData} {as : List Addr}, Dz H v d as → ∀ a ∈ as, H a ≠ none
  | _, _, _, .non => fun _ z => nomatch z
  | _, _, _, .bl b => fun _ z => nomatch z
  | _, _, _, .int b => fun _ z => nomatch z
  | _, _, _, .str b => fun _ z => nomatch z
  | _, _, _, .lst h t => fun a ha => by
    rcases List.mem_cons.mp ha with rfl | ha
    · rw [h]; exact fun z => by cases z
    · exact DzA.at t a ha
  | _, _, _, .tup h t => fun a ha => DzA.at t a ha
  | _, _, _, .dict h n t => fun a ha => by
    rcases List.mem_cons.mp ha with rfl | ha
    · rw [h]; exact fun z => by cases z
    · exact DzA.at t a ha
theorem DzA.at {H : Hp} : ∀ {vs : List V} {ds : List PyData} {as : List Addr}, DzA H vs ds as → ∀ a ∈ as, H a ≠ none
  | _, _, _, .nil => fun _ z => nomatch z
  | _, _, _, .cons a t => fun b hb => by
    rcases List.mem_append.mp hb with hb | hb
    · exact Dz.at a b hb
    · exact DzA.at t b hb
end
theorem DzA.len {H : Hp} : ∀ {vs : List V} {ds : List PyData} {as : List Addr}, DzA H vs ds as → vs.length = ds.length
  | _, _, _, .nil => rfl
  | _, _, _, .cons _ t => by rw [List.length_cons, List.length_cons, t.len]
theorem DzA.get {H : Hp} : ∀ {vs : List V} {ds : List PyData} {as : List Addr}, DzA H vs ds as → ∀ {i : Nat} {v : V}, vs[i]? = some v → ∃ d bs, ds[i]? = some d ∧ Dz H v d bs
  | _, _, _, .nil, i, v, h => by simp at h
  | _, _, _, .cons a t, 0, v, h => by
    have e := Option.some.inj h
    subst e
    exact ⟨_, _, rfl, a⟩
  | _, _, _, .cons a t, i + 1, v, h => t.get (i := i) h
theorem DzA.of {H : Hp} : ∀ {vs : List V} {ds : List PyData}, vs.length = ds.length → (∀ (i : Nat) v d, vs[i]? = some v → ds[i]? = some d → ∃ as, Dz H v d as) → ∃ as, DzA H vs ds as
  | [], [], _, _ => ⟨[], .nil⟩
  | [], _ :: _, h, _ => by cases h
  | _ :: _, [], h, _ => by cases h
  | v :: vs, d :: ds, h, f => by
    obtain ⟨a, ha⟩ := f 0 v d rfl rfl
    obtain ⟨b, hb⟩ := DzA.of (vs := vs) (ds := ds) (by simpa using h) fun i x y h1 h2 => f (i + 1) x y h1 h2
    exact ⟨_, .cons ha hb⟩
theorem DzA.app {H : Hp} : ∀ {vs ws : List V} {ds es : List PyData} {as bs : List Addr}, DzA H vs ds as → DzA H ws es bs → ∃ cs, DzA H (vs ++ ws) (ds ++ es) cs
  | _, _, _, _, _, _, .nil, h => ⟨_, h⟩
  | _, _, _, _, _, _, .cons a t, h => by
    obtain ⟨c, hc⟩ := t.app h
    exact ⟨_, .cons a hc⟩
section
variable {X : Cx} {pins : List (Addr × Obj)} {σ : L2.St} {H : Hp} {s : Shared}
theorem kv_reads : ∀ {kvs : List (Key × V)} {vs : List (Key × Value)} {es : List DictEntry}, KV kvs vs → Pairs (mixKind X.prog X.w) es vs →
      ReadsAll s.heap (es.map (·.key)) (kvs.map fun kv => keyD kv.1) [] ∧ L2.Vals (kvs.map (·.2)) (es.map (·.val))
  | [], vs, es, kv, pr => by
    cases kv
    cases pr
    exact ⟨.nil, .nil⟩
  | kv0 :: kvs, vs, es, kv, pr => by
    cases kv with
    | @cons _ q _ qs k t =>
      cases pr with
      | @cons en _ es _ ks vv pr =>
        obtain ⟨k1, k2⟩ := k
        obtain ⟨r1, r2⟩ := kv_reads t pr
        have hk : keyIs q.1 en.key = true := ks
        rw [← k1] at hk
        refine ⟨?_, .cons (show L2.RelV kv0.2 en.val by rw [vv]; exact k2) r2⟩
        rcases keyIs_shape hk with ⟨i, t2, z, hx⟩ | ⟨x, t2, z, hx⟩
        · show ReadsAll s.heap (en.key :: es.map (·.key)) (keyD kv0.1 :: _) []
          rw [hx, z]
          exact ReadsAll.cons (as := []) (.int i t2) r1
        · show ReadsAll s.heap (en.key :: es.map (·.key)) (keyD kv0.1 :: _) []
          rw [hx, z]
          exact ReadsAll.cons (as := []) (.str x t2) r1
mutual
theorem reads_z (I : L2.Inv X pins σ H s) : ∀ {x : V} {d : PyData} {as : List Addr} {u : Value}, Dz H x d as → RelV x u → Reads s.heap u d as
  | _, _, _, u, .non, r => by
    cases (show u = Value.none from r)
    exact .none
  | _, _, _, u, .bl b, r => by
    cases (show u = Value.bool b from r)
    exact .bool b
  | _, _, _, u, .int i, r => by
    obtain ⟨k, rfl⟩ := r
    exact .int i k
  | _, _, _, u, .str z, r => by
    obtain ⟨k, rfl⟩ := r
    exact .str z k
  | _, _, _, u, .lst (p := p) h t, r => by
    cases (show u = Value.ref p from r)
    obtain ⟨its, m, rv, g, _⟩ := I.lst h
    exact Reads.list g rfl rfl (by simpa using reads_za I t rv)
  | _, _, _, u, .tup (p := p) h t, r => by
    cases (show u = Value.ref p from r)
    obtain ⟨its, rv, ⟨o, g1, g2, m, g3⟩, _⟩ := I.tuple (X := X) (Or.inl (Or.inl h))
    exact Reads.tuple g1 g2 g3 (by simpa using reads_za I t rv)
  | _, _, _, u, .dict (p := p) (kvs := kvs) (ds := ds) h n t, r => by
    cases (show u = Value.ref p from r)
    obtain ⟨_, _, vs, kv, o, es, ep, g1, g2, g3, _, pr, _⟩ := dk_rd I.hok (Or.inl h)
    obtain ⟨r1, r2⟩ := kv_reads (X := X) (s := s) kv pr
    have l : kvs.length = ds.length := by rw [← t.len, List.length_map]
    have e1 : (zipD kvs ds).map (·.1) = kvs.map fun kv => keyD kv.1 := by
      unfold zipD
      rw [List.map_fst_zip]
      rw [List.length_map]
      omega
    have e2 : (zipD kvs ds).map (·.2) = ds := by
      unfold zipD
      rw [List.map_snd_zip]
      rw [List.length_map]
      omega
    exact Reads.dict (as := []) g1 g2.1 g3 (by rw [e1]; exact r1) (by rw [e2]; exact reads_za I t r2)
theorem reads_za (I : L2.Inv X pins σ H s) : ∀ {vs : List V} {ds : List PyData} {as : List Addr} {us : List Value}, DzA H vs ds as → L2.Vals vs us → ReadsAll s.heap us ds as
  | _, _, _, _, .nil, .nil => .nil
  | _, _, _, _, .cons a t, .cons r q => ReadsAll.cons (reads_z I a r) (reads_za I t q)
end
end
/-! sizes -/
structure Sz (d : PyData) (dp wt : Nat) : Prop where
  sh : d.showable = true
  sl : PyData.leavesShort 70 d = true
  dp : d.depth ≤ dp
  wt : d.weight ≤ wt
structure SzA (ds : List PyData) (dp wt : Nat) : Prop where
  sh : PyData.showableAll ds = true
  sl : PyData.leavesShortAll 70 ds = true
  dp : PyData.depthAll ds ≤ dp
  wt : PyData.weightAll ds ≤ wt
theorem Sz.le {x : PyData} {d1 d2 w1 w2 : Nat} (h : Sz x d1 w1) (a : d1 ≤ d2) (b : w1 ≤ w2) : Sz x d2 w2 := ⟨h.sh, h.sl, Nat.le_trans h.dp a, Nat.le_trans h.wt b⟩
theorem SzA.le {x : List PyData} {d1 d2 w1 w2 : Nat} (h : SzA x d1 w1) (a : d1 ≤ d2) (b : w1 ≤ w2) : SzA x d2 w2 := ⟨h.sh, h.sl, Nat.le_trans h.dp a, Nat.le_trans h.wt b⟩
theorem sz_non : Sz .none 0 0 := ⟨rfl, rfl, Nat.le_refl _, Nat.le_refl _⟩
theorem sz_bl (b : Bool) : Sz (.bool b) 0 0 := ⟨rfl, rfl, Nat.le_refl _, Nat.le_refl _⟩
theorem sz_int {i : Int} (h : i.natAbs < 10 ^ 60) : Sz (.int i) 0 200 := by
  have hl : i.natAbs.log2 < 200 := by
    have h2 : i.natAbs < 2 ^ 200 := Nat.lt_of_lt_of_le h (by decide)
    exact PySem.Flt.log2_lt_of (by decide) h2
  refine ⟨by simp only [PyData.showable, decide_eq_true_eq]; omega, ?_, by simp only [PyData.depth]; exact Nat.le_refl _, ?_⟩
  · simp only [PyData.leavesShort, decide_eq_true_eq]
    have e := int_text_length_le10 (k := 60) (by decide) h
    show (Str.ofString (toString i)).length ≤ 70
    rw [PySem.ofString_length]
    omega
  · simp only [PyData.weight]
    split <;> omega
theorem sz_str {z : Str} {n : Nat} (hc : ∀ c ∈ z.cps.toList, c < 16 ^ 8) (hl : z.length ≤ n) : Sz (.str z) 0 n := ⟨by simp only [PyData.showable], by simp only [PyData.leavesShort, List.all_eq_true, decide_eq_true_eq]; exact hc, by simp only [PyData.depth]; exact Nat.le_refl _, by simp only [PyData.weight]; exact hl⟩
theorem sz_nm {z : Str} (h : IsNm z) : Sz (.str z) 0 8 := sz_str (fun c hc => by have := (h.2.2 c hc).2; omega) h.2.1
theorem sza_nil : SzA [] 0 0 := ⟨rfl, rfl, Nat.le_refl _, Nat.le_refl _⟩
theorem sza_cons {x : PyData} {xs : List PyData} {dp w1 w2 : Nat} (h : Sz x dp w1) (t : SzA xs dp w2) : SzA (x :: xs) dp (w1 + 1 + w2) :=
  ⟨by simp only [PyData.showableAll, h.sh, t.sh, Bool.and_self], by simp only [PyData.leavesShortAll, h.sl, t.sl, Bool.and_self], by simp only [PyData.depthAll]; exact Nat.max_le.mpr ⟨h.dp, t.dp⟩, by simp only [PyData.weightAll]; have := h.wt; have := t.wt; omega⟩
theorem SzA.tuple {xs : List PyData} {dp wt : Nat} (h : SzA xs dp wt) : Sz (.tuple xs) (dp + 1) wt :=
  ⟨by simp only [PyData.showable]; exact h.sh, by simp only [PyData.leavesShort]; exact h.sl, by simp only [PyData.depth]; have := h.dp; omega, by simp only [PyData.weight]; exact h.wt⟩
theorem SzA.list {xs : List PyData} {dp wt : Nat} (h : SzA xs dp wt) : Sz (.list xs) (dp + 1) wt :=
  ⟨by simp only [PyData.showable]; exact h.sh, by simp only [PyData.leavesShort]; exact h.sl, by simp only [PyData.depth]; have := h.dp; omega, by simp only [PyData.weight]; exact h.wt⟩
theorem sza_all {dp w : Nat} : ∀ {xs : List PyData}, (∀ x ∈ xs, Sz x dp w) → SzA xs dp ((w + 1) * xs.length)
  | [], _ => sza_nil.le (Nat.zero_le _) (Nat.zero_le _)
  | x :: xs, h => (sza_cons (h x (List.mem_cons_self ..)) (sza_all fun y hy => h y (List.mem_cons_of_mem _ hy))).le (Nat.le_refl _) (by rw [List.length_cons, Nat.mul_succ]; omega)
theorem sz_kv {dp w : Nat} : ∀ {kds : List (PyData × PyData)}, (∀ kd ∈ kds, Sz kd.1 dp w ∧ Sz kd.2 dp w) → PyData.showableKv kds = true ∧ PyData.leavesShortKv 70 kds = true ∧ PyData.depthKv kds ≤ dp ∧ PyData.weightKv kds ≤ (2 * w + 2) * kds.length
  | [], _ => ⟨rfl, rfl, Nat.zero_le _, Nat.zero_le _⟩
  | (k, d) :: kds, h => by
    obtain ⟨a1, a2, a3, a4⟩ := sz_kv (kds := kds) fun x hx => h x (List.mem_cons_of_mem _ hx)
    obtain ⟨hk, hd⟩ := h (k, d) (List.mem_cons_self ..)
    have hk : Sz k dp w := hk
    have hd : Sz d dp w := hd
    refine ⟨by simp only [PyData.showableKv, hk.sh, hd.sh, a1, Bool.and_self], by simp only [PyData.leavesShortKv, hk.sl, hd.sl, a2, Bool.and_self], ?_, ?_⟩
    · simp only [PyData.depthKv]
      have := hk.dp
      have := hd.dp
      omega
    · simp only [PyData.weightKv]
      have := hk.wt
      have := hd.wt
      rw [List.length_cons, Nat.mul_succ]
      omega
theorem sz_dict {dp w : Nat} {kds : List (PyData × PyData)} (h : ∀ kd ∈ kds, Sz kd.1 dp w ∧ Sz kd.2 dp w) : Sz (.dict kds) (dp + 1) ((2 * w + 2) * kds.length) := by
  obtain ⟨a1, a2, a3, a4⟩ := sz_kv h
  exact ⟨by simp only [PyData.showable]; exact a1, by simp only [PyData.leavesShort]; exact a2, by simp only [PyData.depth]; omega, by simp only [PyData.weight]; exact a4⟩
def rReprZ (K : PySem.W.Frag) : List V → Hp → VK → Prop := fun xs H Q => ∃ (p : Addr) (d : PyData) (as : List Addr), xs = [.ref p] ∧ Dz H (.ref p) d as ∧ Sz d 12 200000 ∧ Q (.str d.shown) H
theorem call_reprZ {X : Cx} {K : PySem.W.Frag} (hK : X.K = K) (quiet : X.A.guards = some []) (room : X.A.units + 64 < cLine) (hs : ∃ o, X.base.get? sysModules = some o) : CallR X (.builtin "repr") (rReprZ K) := by
  intro pins s σ H xs us Q I r h
  obtain ⟨p, d, as, rfl, hd, sm, q⟩ := h
  obtain ⟨u, rfl, ru⟩ := vals1 r
  have rd := reads_z I hd ru
  cases ru
  obtain ⟨o, ho⟩ := hs
  have off : H sysModules = none := (I.bs _ _ ho).2
  have dp := sm.dp
  refine repr_of_reads' (h₀ := s.heap) rd sm.sh (fun _ hm => hd.at _ hm off) quiet (by omega) (fun _ _ e => e) (fun h2 t tk kp => ⟨.str d.shown, H, I.kept kp, ⟨t, rfl⟩, q⟩) ?_
  have := PyData.shown_le 70 (by decide) d sm.sl
  have := sm.wt
  rw [sizeLine_eq]
  omega
end Vx

set_option Elab.async false
set_option linter.all false
set_option maxRecDepth 100000
set_option maxHeartbeats 8000000
namespace Vx
open PySem PySem.Spec PyProof.Rows L2 Evl
/-! the law's own page -/
def rStrSI : List V → Hp → VK → Prop := fun xs H Q => (∃ a, xs = [V.str a] ∧ Q (.str a) H) ∨ ∃ i, xs = [V.int i] ∧ i.natAbs.log2 < 1920 ∧ Q (.str (toString i)) H
theorem call_strSI {X : Cx} : CallR X (.type "str") rStrSI := fun pins s σ H xs us Q I r h => by
  rcases h with h | h
  · exact SkE.call_str_str pins s σ H xs us Q I r h
  · exact call_str_int pins s σ H xs us Q I r h
section
variable {σ : L2.St} {H : Hp} {te : TE}
theorem ev_siS {y : Str} (h : Ev te σ H (.str y)) : Ev (tCB rStrSI (tCons te tNil)) σ H (.str y) := fun H1 e Q q => h H1 e _ fun H2 e2 => Or.inl ⟨y, rfl, q H2 e2⟩
theorem ev_siN {n : Nat} (h : Ev te σ H (.int (n : Int))) (hz : n < 2 ^ 64) : Ev (tCB rStrSI (tCons te tNil)) σ H (.str (nT n)) := fun H1 e Q q => h H1 e _ fun H2 e2 => Or.inr ⟨(n : Int), rfl, log_small (by simpa using hz), q H2 e2⟩
theorem ev_disp3 {k1 k2 k3 v1 v2 v3 x : Str} {v : V} {ty : TE} (nd : ([k1, k2, k3] : List Str).Nodup) (hx : Ev ty σ H (.str x)) (hv : valV [((.inr k1 : Key), V.str v1), (.inr k2, .str v2), (.inr k3, .str v3)] (.inr x) = some v) :
    Ev (tDGet (tDisp [(tC (.str k1), tC (.str v1)), (tC (.str k2), tC (.str v2)), (tC (.str k3), tC (.str v3))]) ty) σ H v := fun H1 e Q q => fun d hd => by
  refine ⟨upd_same, [((.inr k1 : Key), V.str v1), (.inr k2, .str v2), (.inr k3, .str v3)], rfl, (by show 3 ≤ 15; decide), ?_⟩
  have e : mergeK [] [((.inr k1 : Key), V.str v1), (.inr k2, .str v2), (.inr k3, .str v3)] = [((.inr k1 : Key), V.str v1), (.inr k2, .str v2), (.inr k3, .str v3)] := by
    rw [merge_new _ _ ?_, List.nil_append]
    have : ([((.inr k1 : Key), V.str v1), (.inr k2, .str v2), (.inr k3, .str v3)].map (·.1)) = [k1, k2, k3].map Sum.inr := rfl
    rw [List.nil_append, this]
    unfold List.Nodup at nd ⊢
    rw [List.pairwise_map]
    exact nd.imp fun h e => h (Sum.inr.inj e)
  rw [e]
  have E : Ex H1 (upd (upd H1 d (.dK [])) d (.dK [((.inr k1 : Key), V.str v1), (.inr k2, .str v2), (.inr k3, .str v3)])) := Ex.mut (Ex.new hd) hd
  have hd2 : (upd (upd H1 d (.dK [])) d (.dK [((.inr k1 : Key), V.str v1), (.inr k2, .str v2), (.inr k3, .str v3)])) d = some (.dK [((.inr k1 : Key), V.str v1), (.inr k2, .str v2), (.inr k3, .str v3)]) := upd_same
  generalize upd (upd H1 d (.dK [])) d (.dK [((.inr k1 : Key), V.str v1), (.inr k2, .str v2), (.inr k3, .str v3)]) = H2 at E hd2 ⊢
  rename_i e1
  refine hx H2 (e1.trans E) _ fun H3 e3 => ⟨d, v, rfl, .inl ⟨_, .inr x, Or.inl (e3 _ _ hd2), rfl, hv.symm⟩, q H3 (E.trans e3)⟩
end
theorem kv3 : valV [((.inr "push" : Key), V.str "+"), (.inr "pop", .str "-"), (.inr "size", .str "=")] (.inr "push") = some (V.str "+") ∧ valV [((.inr "push" : Key), V.str "+"), (.inr "pop", .str "-"), (.inr "size", .str "=")] (.inr "pop") = some (V.str "-") ∧ valV [((.inr "push" : Key), V.str "+"), (.inr "pop", .str "-"), (.inr "size", .str "=")] (.inr "size") = some (V.str "=") := by decide +kernel
def pageScope (b : List Stmt) (outer : Scope) : Scope := match b with
  | .If _ [.Return (some (.Call _ [.ListComp _ _ sc _] _ _)) _] _ _ :: _ => { sc with names := sc.names.map fun (n, k) => if (k == NameKind.free && outer.kind == .function && outer.names.lookup n == some .cell) then (n, NameKind.cell) else (n, k) }
  | _ => outer
/-- what a value is -/
inductive Vl
  | logs (ws : List Str) (L : List (List En))
  | facts (fs : List Pr2)
  | run (xs : List Str)
def Vl.door : Vl → Int
  | .logs _ _ => 0
  | .facts _ => 1
  | .run _ => 2
def VAt (H : Hp) (v : V) : Vl → List Addr → Prop
  | .logs ws L, as => ∃ d ps, v = .ref d ∧ as = d :: ps ∧ HL H d ws ps L ∧ ps.Nodup ∧ Vlog 60 ws L
  | .facts fs, as => ∃ p us, v = .ref p ∧ as = [p] ∧ H p = some (.lst us) ∧ PrsA H us fs ∧ FsOk fs
  | .run xs, as => ∃ p, v = .ref p ∧ as = [p] ∧ H p = some (.lst (xs.map V.str)) ∧ RnOk xs
theorem VAt.keep {H H' : Hp} {v : V} : ∀ {val : Vl} {as : List Addr}, VAt H v val as → TK H H' → (∀ a ∈ as, H' a = H a) → VAt H' v val as
  | .logs _ _, _, ⟨d, ps, h1, h2, hl, pn, vl⟩, tk, ha => by
    subst h2
    exact ⟨d, ps, h1, rfl, ⟨(ha d (by simp)).trans hl.dk, hl.pl, fun i p es g1 g2 => (hl.lg i p es g1 g2).keep tk (ha p (by simp [List.mem_of_getElem? g1]))⟩, pn, vl⟩
  | .facts _, _, ⟨p, us, h1, h2, h3, pr, ok⟩, tk, ha => by
    subst h2
    exact ⟨p, us, h1, rfl, (ha p (by simp)).trans h3, pr.tk tk, ok⟩
  | .run _, _, ⟨p, h1, h2, h3, ok⟩, tk, ha => by
    subst h2
    exact ⟨p, h1, rfl, (ha p (by simp)).trans h3, ok⟩
theorem VAt.has {H : Hp} {v : V} : ∀ {val : Vl} {as : List Addr}, VAt H v val as → ∀ a ∈ as, ∃ o, H a = some o ∧ ∀ t, o ≠ .tup t
  | .logs ws L, _, ⟨d, ps, h1, h2, hl, pn, vl⟩, a, ha => by
    subst h2
    rcases List.mem_cons.mp ha with rfl | ha
    · exact ⟨_, hl.dk, fun t z => nomatch z⟩
    · obtain ⟨i, hi⟩ := List.mem_iff_getElem?.mp ha
      have hi2 : i < L.length := by rw [vl.len, ← hl.pl]; exact (List.getElem?_eq_some_iff.mp hi).1
      obtain ⟨xs, g, _⟩ := hl.lg i a _ hi (List.getElem?_eq_getElem hi2)
      exact ⟨_, g, fun t z => nomatch z⟩
  | .facts _, _, ⟨p, us, h1, h2, h3, pr, ok⟩, a, ha => by
    subst h2
    rw [List.mem_singleton.mp ha]
    exact ⟨_, h3, fun t z => nomatch z⟩
  | .run _, _, ⟨p, h1, h2, h3, ok⟩, a, ha => by
    subst h2
    rw [List.mem_singleton.mp ha]
    exact ⟨_, h3, fun t z => nomatch z⟩
theorem VAt.ex {H H' : Hp} {v : V} {val : Vl} {as : List Addr} (h : VAt H v val as) (e : Ex H H') : VAt H' v val as := h.keep (tk_ex e) fun a ha => by
  obtain ⟨o, ho, _⟩ := h.has a ha
  rw [ho, e _ _ ho]
/-- .. by name -/
inductive Cn
  | logs (zs : List (Str × List En))
  | facts (fs : List Pr2)
  | run (xs : List Str)
def Cn.vl : Cn → Vl
  | .logs zs => .logs (zs.map (·.1)) (zs.map (·.2))
  | .facts fs => .facts fs
  | .run xs => .run xs
def Cn.page : Cn → Str
  | .logs zs => gT zs
  | .facts fs => wT (fs.map fT)
  | .run xs => wT xs
def Cn.ok : Cn → Prop
  | .logs zs => zs ≠ [] ∧ sortedS (zs.map (·.1)) = true ∧ Vlog 60 (zs.map (·.1)) (zs.map (·.2))
  | .facts fs => FsOk fs
  | .run xs => RnOk xs
inductive Canon : Vl → Cn → Prop
  | logs {ws : List Str} {L : List (List En)} {zs : List (Str × List En)} : SortZ zs ws L → Canon (.logs ws L) (.logs zs)
  | facts {fs : List Pr2} : Canon (.facts fs) (.facts fs)
  | run {xs : List Str} : Canon (.run xs) (.run xs)
def spPage : Sp := fun vs H Q _ => ∃ (v : V) (val : Vl) (as : List Addr) (c : Cn), vs = [.int val.door, v] ∧ VAt H v val as ∧ Canon val c ∧ ∀ H', Ex H H' → Q (.str c.page) H'
section
variable {P : Program} {w : World} {K : PySem.W.Frag} {mg : Str → Option Value} {base : Heap}
theorem sc_law_word : FnScope ["entry"] ["entry"] (defScope s_law_word) := ⟨rfl, rfl, rfl, by decide +kernel, rfl, by decide +kernel, by decide +kernel⟩
theorem ok_law_word (D : Def K mg "_law_word" s_law_word ["entry"]) (T : Bl mg) : Good P w K mg base 1 "_law_word" ["entry"] (spWEntry) := by
  refine D.good sc_law_word (fun vs H Q E h => ?_) (fun f cdv A outer s H vs Q E hr h => ?_)
  · obtain ⟨a, e, rfl, _⟩ := h
    rfl
  · obtain ⟨a, e, rfl, ha, ok, q⟩ := h
    have hu := hu_of hr
    refine ⟨_, (pss_cons (ps_if (pt_cmpR op_eq (x_ixt (K := K) (pv 0) pe_int) pe_str (nomark _)) (pss_one (ps_ret (pe_op op_add_str (pe_op op_add_str (pe_op op_add_str pe_str (x_ixt (K := K) (pv 0) pe_int)) pe_str) (x_ixt (K := K) (pv 0) pe_int)))) pss_nil)
      (pss_one (ps_ret (pe_op op_add_str (pe_dget hu (pe_disp (pps_cons pe_str pe_str (pps_cons pe_str pe_str (pps_cons pe_str pe_str pps_nil))) rfl rfl (by simp) (by decide)) (x_ixt (K := K) (pv 0) pe_int) (fun _ _ => rfl)) (pe_callTy (hc := call_strSI) (hg := by rfl) (hm := T.str) (hv := by decide +kernel) (ha := pa_cons (x_ixt (K := K) (pv 0) pe_int) pa_nil)))))), ?_⟩
    have e0 : ∀ {σ : L2.St} {H' : Hp}, Ex H H' → σ[0]? = some (some (.ref a)) → Ev (tOp (rIxT K) (tVar 0) (tC (.int 0))) σ H' (.str e.hd) := fun ee h => ev_op (ev_var h) ev_c (rv_ixT (st_of (ee _ _ ha)) e.at0)
    cases e with
    | steal o x =>
      refine q_if (b := true) (et_is (et_test (ev_op (e0 (Ex.refl H) rfl) ev_c (rv_eq rfl))) (by show decide (V.str "steal" = V.str "steal") = true; decide +kernel)) (fun _ H1 e1 => ?_) (fun z => nomatch z)
      have ix1 : ∀ {σ : L2.St} {H' : Hp}, Ex H H' → σ[0]? = some (some (.ref a)) → Ev (tOp (rIxT K) (tVar 0) (tC (.int 1))) σ H' (.str o) := fun ee h => ev_op (ev_var h) ev_c (rv_ixT (st_of (ee _ _ ha)) rfl)
      have ix2 : ∀ {σ : L2.St} {H' : Hp}, Ex H H' → σ[0]? = some (some (.ref a)) → Ev (tOp (rIxT K) (tVar 0) (tC (.int 2))) σ H' (.str x) := fun ee h => ev_op (ev_var h) ev_c (rv_ixT (st_of (ee _ _ ha)) rfl)
      have l1 := IsNm.len ok.1
      have l2 := IsNm.len ok.2
      refine s_ret (v := .str (eT (.steal o x))) (ev_is (ev_op (ev_op (ev_op (ev_is ev_c (congrArg V.str k60)) (ix1 e1 rfl) (rv_addS (by rw [sg_len]; omega))) (ev_is ev_c (congrArg V.str k46)) (rv_addS (by rw [PySem.Str.length_append, sg_len, sg_len]; omega))) (ix2 e1 rfl) (rv_addS (by rw [PySem.Str.length_append, PySem.Str.length_append, sg_len, sg_len]; omega))) ?_) fun H2 e2 => q H2 (e1.trans e2)
      show V.str (sg 60 ++ o ++ sg 46 ++ x) = V.str (sg 60 ++ (o ++ sg 46 ++ x))
      rw [PySem.Str.append_assoc, PySem.Str.append_assoc, PySem.Str.append_assoc]
    | push x =>
      refine q_if (b := false) (et_is (et_test (ev_op (e0 (Ex.refl H) rfl) ev_c (rv_eq rfl))) (by show decide (V.str "push" = V.str "steal") = false; decide +kernel)) (fun z => nomatch z) (fun _ H1 e1 => ?_)
      have ix1 : ∀ {σ : L2.St} {H' : Hp}, Ex H H' → σ[0]? = some (some (.ref a)) → Ev (tOp (rIxT K) (tVar 0) (tC (.int 1))) σ H' (.str x) := fun ee h => ev_op (ev_var h) ev_c (rv_ixT (st_of (ee _ _ ha)) rfl)
      have l1 := IsNm.len ok
      exact s_ret (v := .str (eT (.push x))) (ev_op (ev_is (ev_disp3 (v := .str "+") (by decide +kernel) (e0 e1 rfl) kv3.1) (congrArg V.str k43)) (ev_siS (ix1 e1 rfl)) (rv_addS (by rw [sg_len]; omega))) fun H2 e2 => q H2 (e1.trans e2)
    | pop x =>
      refine q_if (b := false) (et_is (et_test (ev_op (e0 (Ex.refl H) rfl) ev_c (rv_eq rfl))) (by show decide (V.str "pop" = V.str "steal") = false; decide +kernel)) (fun z => nomatch z) (fun _ H1 e1 => ?_)
      have ix1 : ∀ {σ : L2.St} {H' : Hp}, Ex H H' → σ[0]? = some (some (.ref a)) → Ev (tOp (rIxT K) (tVar 0) (tC (.int 1))) σ H' (.str x) := fun ee h => ev_op (ev_var h) ev_c (rv_ixT (st_of (ee _ _ ha)) rfl)
      have l1 := IsNm.len ok
      exact s_ret (v := .str (eT (.pop x))) (ev_op (ev_is (ev_disp3 (v := .str "-") (by decide +kernel) (e0 e1 rfl) kv3.2.1) (congrArg V.str k45)) (ev_siS (ix1 e1 rfl)) (rv_addS (by rw [sg_len]; omega))) fun H2 e2 => q H2 (e1.trans e2)
    | size k =>
      have k0 := ok.1
      have k6 := ok.2
      have ek : ((k.toNat : Nat) : Int) = k := Int.toNat_of_nonneg k0
      refine q_if (b := false) (et_is (et_test (ev_op (e0 (Ex.refl H) rfl) ev_c (rv_eq rfl))) (by show decide (V.str "size" = V.str "steal") = false; decide +kernel)) (fun z => nomatch z) (fun _ H1 e1 => ?_)
      have ix1 : ∀ {σ : L2.St} {H' : Hp}, Ex H H' → σ[0]? = some (some (.ref a)) → Ev (tOp (rIxT K) (tVar 0) (tC (.int 1))) σ H' (.int (k.toNat : Int)) := fun ee h => ev_is (ev_op (ev_var h) ev_c (rv_ixT (v := .int k) (st_of (ee _ _ ha)) rfl)) (by rw [ek])
      have := nT_length (n := k.toNat) (by omega)
      exact s_ret (v := .str (eT (.size k))) (ev_op (ev_is (ev_disp3 (v := .str "=") (by decide +kernel) (e0 e1 rfl) kv3.2.2) (congrArg V.str k61)) (ev_siN (ix1 e1 rfl) (by omega)) (rv_addS (by rw [sg_len]; omega))) fun H2 e2 => q H2 (e1.trans e2)
end
end Vx

set_option Elab.async false
set_option linter.all false
set_option maxRecDepth 100000
set_option maxHeartbeats 8000000
namespace Vx
open PySem PySem.Spec PyProof.Rows L2 Evl
theorem x_join {X : Cx} {K : PySem.W.Frag} {o e : Expr} {to te : TE} {apos pos : Pos} (ho : PE X o to) (he : PE X e te) (hK : X.K = K := by rfl) (hs : starEach [e] X.env = [(false, eval e X.env)] := by rfl) (hbase : attributeBase o "join" X.env (eval o X.env) = eval o X.env := by rfl) (hline : (apos.endLine == pos.line) = true := by rfl) :
    PE X (.Call (.Attribute o "join" apos) [e] [] pos) (tM1 (fun x xs H Q => ∃ a p, ∃ ys : List Str, x = .str a ∧ xs = [.ref p] ∧ (SqL K H p (ys.map V.str) ∨ SqT K H p (ys.map V.str)) ∧ (ys.map (·.length)).sum + ys.length * a.length ≤ 16777216 ∧ Q (.str (Txt.join a ys)) H) to te) := by
  subst hK
  exact pe_join ho he hs hbase hline
theorem wT_join {ys : List Str} (h : ys ≠ []) : wT ys = Txt.join (sg 32) ys := by
  rw [tjoin]
  exact if_neg h
theorem ev_pageEnd {K : PySem.W.Frag} {σ : L2.St} {H : Hp} {i : Nat} {p : Addr} {ys : List Str} (hi : σ[i]? = some (some (.ref p))) (hp : SqL K H p (ys.map V.str)) (hl : ys.length ≤ 400) (hy : ∀ y ∈ ys, y.length ≤ 100) : Ev (tIf (tTest (tOp (rI0 fun i j => .bl (decide (j < i))) (tCB (rLenS K) (tCons (tVar i) tNil)) (tC (.int 0)))) (tM1 (fun x xs H Q => ∃ a p, ∃ ys : List Str, x = .str a ∧ xs = [.ref p] ∧ (SqL K H p (ys.map V.str) ∨ SqT K H p (ys.map V.str)) ∧ (ys.map (·.length)).sum + ys.length * a.length ≤ 16777216 ∧ Q (.str (Txt.join a ys)) H) (tC (.str " ")) (tVar i)) (tC (.str "-"))) σ H (.str (wT ys)) := by
  have hs := sum_len hy
  cases ys with
  | nil => exact ev_if (b := false) (et_is (et_test (ev_op (ev_len (ev_var hi) hp) ev_c rv_I0)) (decide_eq_false (by simp))) (fun z => nomatch z) (fun _ => ev_c)
  | cons y ys =>
    refine ev_if (b := true) (et_is (et_test (ev_op (ev_len (ev_var hi) hp) ev_c rv_I0)) (decide_eq_true (by simp))) (fun _ => ev_is (ev_joinV (ev_is ev_c (congrArg V.str k32)) (ev_var hi) hp ?_) ?_) (fun z => nomatch z)
    · rw [sg_len]
      omega
    · rw [wT_join (by simp)]
section
variable {P : Program} {w : World} {K : PySem.W.Frag} {mg : Str → Option Value} {base : Heap}
theorem sc_law_page : FnScope ["door", "value", "words", "one", "other", "name"] ["door", "value"] (defScope s_law_page) := ⟨rfl, rfl, rfl, by decide +kernel, rfl, by decide +kernel, by decide +kernel⟩
theorem ok_law_page (D : Def K mg "_law_page" s_law_page ["door", "value"]) (T : Bl mg) (G_law_word : Good P w K mg base 1 "_law_word" ["entry"] spWEntry) : Good P w K mg base 2 "_law_page" ["door", "value"] (spPage) := by
  refine D.good sc_law_page (fun vs H Q E h => ?_) (fun f cdv A outer s H vs Q E hr h => ?_)
  · obtain ⟨v, val, as, c, rfl, _⟩ := h
    rfl
  · obtain ⟨v, val, as, c, rfl, hv, hc, q⟩ := h
    have hu := hu_of hr
    refine ⟨_, (pss_cons (ps_if (pt_cmpR op_eq (pv 0) pe_int (nomark _)) (pss_one (ps_ret (pe_join pe_str (pe_lc (own := [("name", 5)]) (g := (gName 5)) (tt := tYes) rfl sc_law_page.nd (x_pil (K := K) (pe_callB (call_sortedD rfl) (by rfl) T.sorted (by decide +kernel) (pa_cons (pv 1) pa_nil))) (blkOk_by (N := ["door", "value", "words", "one", "other", "name"]) (sc := (defScope s_law_page)) (by decide +kernel)) (fun _ _ _ _ _ => (pg_name (i := 5) sc_law_page.nd rfl (Or.inl rfl))) (fun _ _ _ _ _ => pts_nil) (fun _ _ _ _ _ => (x_join (K := K) pe_str (pe_op op_cat (pe_lst (pa_cons (pe_op op_add_str (pv 5) pe_str) pa_nil)) (pe_lc (own := [("one", 3)]) (g := (gName 3)) (tt := tYes) rfl sc_law_page.nd (x_pil (K := K) (pe_dget hu (pv 1) (pv 5) (fun _ _ => rfl))) (blkOk_by (N := ["door", "value", "words", "one", "other", "name"]) (sc := (pageScope (defBody s_law_page) (defScope s_law_page))) (by decide +kernel)) (fun _ _ _ _ _ => (pg_name (i := 3) sc_law_page.nd rfl (Or.inl rfl))) (fun _ _ _ _ _ => pts_nil) (fun _ _ _ _ _ => (pe_fn (G_law_word.mono (by decide)) hr (pa_cons (pv 3) pa_nil))))))))))) pss_nil)
      (pss_cons (ps_set (i := 2) sc_law_page.nd rfl (Or.inl rfl) (pv 1))
      (pss_cons (ps_if (pt_cmpR op_eq (pv 0) pe_int (nomark _)) (pss_one (ps_setLc (i := 2) (own := [("one", 3), ("other", 4)]) (g := (gTup K 2 (gCons (gName 3) (gCons (gName 4) gNil)))) (tt := tYes) rfl sc_law_page.nd rfl rfl (sw_true rfl rfl rfl (by decide +kernel)) (x_pil (K := K) (pv 1)) (blkOk_by (N := ["door", "value", "words", "one", "other", "name"]) (sc := (defScope s_law_page)) (by decide +kernel)) (fun _ _ _ _ _ => (x_gt (K := K) (pgs_cons (pg_name (i := 3) sc_law_page.nd rfl (Or.inl rfl)) (pgs_cons (pg_name (i := 4) sc_law_page.nd rfl (Or.inl rfl)) pgs_nil)))) (fun _ _ _ _ _ => pts_nil) (fun _ _ _ _ _ => (pe_op op_add_str (pe_op op_add_str (pe_op op_add_str (pe_op op_add_str (pe_op op_add_str (pe_op op_add_str (x_ixt (K := K) (pv 3) pe_int) pe_str) (pe_callTy (hc := call_str_int) (hg := by rfl) (hm := T.str) (hv := by decide +kernel) (ha := pa_cons (x_ixt (K := K) (pv 3) pe_int) pa_nil))) pe_str) (x_ixt (K := K) (pv 4) pe_int)) pe_str) (pe_callTy (hc := call_str_int) (hg := by rfl) (hm := T.str) (hv := by decide +kernel) (ha := pa_cons (x_ixt (K := K) (pv 4) pe_int) pa_nil)))))) pss_nil)
      (pss_one (ps_ret (pe_ifExp (pt_cmpR op_gt (x_len (K := K) T (pv 2)) pe_int (nomark _)) (pe_join pe_str (pv 2)) pe_str)))))), ?_⟩
    cases hc with
    | @logs ws L zs hz =>
      obtain ⟨d, ps, rfl, rfl, hl, pn, v⟩ := hv
      refine q_if (b := true) (et_is (et_test (ev_op (ev_var rfl) ev_c (rv_eq rfl))) (decide_eq_true rfl)) (fun _ H1 e1 => ?_) (fun z => nomatch z)
      have hl1 := hl.ex e1
      have wk := v.wk.2.1
      have hz0 := hz
      obtain ⟨pz, sz⟩ := hz
      have pn2 := hz0.names v.len
      have zl : zs.length = ws.length := by have := pn2.length_eq; rwa [List.length_map] at this
      have at_ : ∀ z ∈ zs, ∃ k : Nat, ws[k]? = some z.1 ∧ L[k]? = some z.2 := fun z hz => by
        obtain ⟨k, hk⟩ := List.mem_iff_getElem?.mp (pz.mem_iff.mp hz)
        rw [List.getElem?_zip_eq_some] at hk
        exact ⟨k, hk.1, hk.2⟩
      have okz : ∀ z ∈ zs, IsNm z.1 ∧ z.2.length ≤ 60 ∧ ∀ e ∈ z.2, e.ok := fun z hz => by
        obtain ⟨k, h1, h2⟩ := at_ z hz
        have := v.ent _ (List.mem_of_getElem? h2)
        exact ⟨v.wk.2.2.2 _ (List.mem_of_getElem? h1), this.1, this.2⟩
      have hw : ∀ y ∈ zs.map (fun z => lT z.1 z.2), y.length ≤ 2000 := fun y hy => by
        obtain ⟨z, hz, rfl⟩ := List.mem_map.mp hy
        exact lT_len (okz z hz).1 (okz z hz).2.1 (okz z hz).2.2
      have hs := sum_len hw
      refine s_ret (v := .str (Txt.join (sg 10) (zs.map fun z => lT z.1 z.2))) (ev_joinL (ys := zs.map fun z => lT z.1 z.2) (ev_is ev_c (congrArg V.str k10')) (el_lcNA (xs := (zs.map (·.1)).map V.str) (fun i => match zs[i]? with | some z => [some (.int 0), some (.ref d), none, none, none, some (.str z.1)] | none => []) (el_sortedD (ev_var rfl) (Or.inl hl1.dk) (dk_keys hl1.pl) (by omega) pn2 sz) (by rw [List.length_map, List.length_map]; omega) (by rw [List.length_map, List.length_map, List.length_map, List.length_map]) (fun i y hy => ?_) (fun i y u hy hu => ?_)) ?_) fun H2 e2 => ?_
      · rw [List.getElem?_map, List.getElem?_map] at hy
        obtain ⟨x, hx, rfl⟩ := Option.map_eq_some_iff.mp hy
        obtain ⟨z, hz, rfl⟩ := Option.map_eq_some_iff.mp hx
        simp only [hz]
        exact ⟨rfl, fun H2 e2 Q' q' => q' H2 (Ex.refl H2)⟩
      · rw [List.getElem?_map, List.getElem?_map] at hy
        obtain ⟨x, hx, rfl⟩ := Option.map_eq_some_iff.mp hy
        obtain ⟨z, hz, rfl⟩ := Option.map_eq_some_iff.mp hx
        rw [List.getElem?_map, List.getElem?_map, hz] at hu
        cases hu
        simp only [hz]
        obtain ⟨k, h1, h2⟩ := at_ z (List.mem_of_getElem? hz)
        obtain ⟨o1, o2, o3⟩ := okz z (List.mem_of_getElem? hz)
        obtain ⟨pk, hpk⟩ : ∃ pk, ps[k]? = some pk := ⟨_, List.getElem?_eq_getElem (by rw [hl1.pl]; exact (List.getElem?_eq_some_iff.mp h1).1)⟩
        obtain ⟨as, ha, hpa⟩ := hl1.lg k pk _ hpk h2
        have al : as.length = z.2.length := by rw [hpa.length, List.length_map]
        have x8 := IsNm.len o1
        have hw2 : ∀ y ∈ (z.1 ++ sg 58) :: z.2.map eT, y.length ≤ 18 := fun y hy => by
          rcases List.mem_cons.mp hy with rfl | hy
          · rw [PySem.Str.length_append, sg_len]
            omega
          · obtain ⟨e, he, rfl⟩ := List.mem_map.mp hy
            exact eT_len (o3 e he)
        have hs2 := sum_len hw2
        refine ev_is (v := .str (Txt.join (sg 32) ((z.1 ++ sg 58) :: z.2.map eT))) (ev_joinL (ys := (z.1 ++ sg 58) :: z.2.map eT) (ev_is ev_c (congrArg V.str k32)) (el_catN (xs := [V.str (z.1 ++ sg 58)]) (ys := (z.2.map eT).map V.str) (el_lst (ea_cons (ev_op (ev_var rfl) (ev_is ev_c (congrArg V.str k58)) (rv_addS (by rw [sg_len]; omega))) ea_nil) (by show 1 ≤ 100000; decide)) (el_lcA (xs := as.map V.ref) (fun i => match as[i]? with | some c => [some (.int 0), some (.ref d), none, some (.ref c), none, some (.str z.1)] | none => []) (ev_dget (ev_var rfl) (ev_var rfl) hl1.dk (dk_get v.wk.2.2.1 h1 hpk)) (sq_of ha) (by rw [List.length_map]; omega) (by rw [List.length_map, List.length_map, List.length_map, al]) (fun i y hy => ?_) (fun i y u hy hu => ?_)) ?_) ?_) ?_
        · rw [List.getElem?_map] at hy
          obtain ⟨c, hc, rfl⟩ := Option.map_eq_some_iff.mp hy
          simp only [hc]
          exact ⟨rfl, fun H2 e2 Q' q' => q' H2 (Ex.refl H2)⟩
        · rw [List.getElem?_map] at hy
          obtain ⟨c, hc, rfl⟩ := Option.map_eq_some_iff.mp hy
          rw [List.getElem?_map, List.getElem?_map] at hu
          obtain ⟨u, hu2, rfl⟩ := Option.map_eq_some_iff.mp hu
          obtain ⟨e, he, rfl⟩ := Option.map_eq_some_iff.mp hu2
          obtain ⟨c2, g1, g2⟩ := paired_get hpa (i := i) (by rw [List.getElem?_map, he]; rfl)
          rw [hc] at g1
          cases g1
          simp only [hc]
          exact ev_call (ea_cons (ev_var rfl) ea_nil) fun H1 e1 Q1 q1 E1 => ⟨c, e, rfl, e1 _ _ g2, o3 e (List.mem_of_getElem? he), q1⟩
        · rw [List.length_map, List.length_map]
          show 1 + _ ≤ _
          omega
        · rw [sg_len]
          rw [List.length_cons, List.length_map] at hs2 ⊢
          omega
        · rw [tjoin]
          rfl
      · rw [List.length_map] at hs ⊢
        rw [sg_len]
        omega
      · rw [tjoin]
        exact q H2 (e1.trans e2)
    | @facts fs =>
      obtain ⟨p, us, rfl, rfl, hp, pr, ok⟩ := hv
      refine q_if (b := false) (et_is (et_test (ev_op (ev_var rfl) ev_c (rv_eq rfl))) (decide_eq_false (fun z => nomatch z))) (fun z => nomatch z) (fun _ H1 e1 => ?_)
      refine q_asg (v := .ref p) (ev_var rfl) fun H2 e2 => ?_
      dsimp only [gName]
      refine q_if (b := true) (et_is (et_test (ev_op (ev_var rfl) ev_c (rv_eq rfl))) (decide_eq_true rfl)) (fun _ H3 e3 => ?_) (fun z => nomatch z)
      have E3 := (e1.trans e2).trans e3
      have hp3 := E3 _ _ hp
      have pr3 := pr.tk (tk_ex E3)
      refine el_lcA (ys := (fs.map fT).map V.str) (xs := us) (fun i => match us[i]? with | some (.ref b) => (match H3 b with | some (.tup [x, y]) => [some (.int 1), some (.ref p), some (.ref p), some x, some y, none] | _ => []) | _ => []) (ev_var rfl) (sq_of hp3) (by rw [pr3.1]; have := ok.1; omega) (by rw [List.length_map, List.length_map, pr3.1]) (fun i x hx => ?_) (fun i x y hx hy => ?_) H3 (Ex.refl H3) _ fun pw H4 n4 e4 h4 => ?_
      · obtain ⟨a, ha⟩ : ∃ a, fs[i]? = some a := ⟨_, List.getElem?_eq_getElem (by rw [← pr.1]; exact (List.getElem?_eq_some_iff.mp hx).1)⟩
        obtain ⟨b, x1, y1, rfl, hb, _, _⟩ := pr3.2 i x a hx ha
        simp only [hx, hb]
        exact ⟨rfl, fun H2 e2 Q' q' => ⟨b, [x1, y1], rfl, st_of (e2 _ _ hb), rfl, x1, _, rfl, y1, _, rfl, rfl, q' H2 (Ex.refl H2)⟩⟩
      · rw [List.getElem?_map, List.getElem?_map] at hy
        obtain ⟨z, hz, rfl⟩ := Option.map_eq_some_iff.mp hy
        obtain ⟨a, ha, rfl⟩ := Option.map_eq_some_iff.mp hz
        have fa := ok.2 a (List.mem_of_getElem? ha)
        obtain ⟨b, x1, y1, rfl, hb, ⟨b1, rfl, hb1⟩, ⟨b2, rfl, hb2⟩⟩ := pr3.2 i x a hx ha
        simp only [hx, hb]
        have l1 := IsNm.len fa.1.1.1
        have l2 := IsNm.len fa.1.2.1
        have m1 := nT_length fa.1.1.2
        have m2 := nT_length fa.1.2.2
        refine ev_is (v := .str (a.1.1 ++ sg 46 ++ nT a.1.2 ++ sg 60 ++ a.2.1 ++ sg 46 ++ nT a.2.2)) (ev_op (ev_op (ev_op (ev_op (ev_op (ev_op (ev_op (z := .str a.1.1) (ev_var rfl) ev_c (rv_ixT (st_of hb1) rfl)) (ev_is ev_c (congrArg V.str k46)) (rv_addS (by rw [sg_len]; omega))) (ev_strN (n := a.1.2) (ev_op (ev_var rfl) ev_c (rv_ixT (st_of hb1) rfl)) (by have := fa.1.1.2; omega)) (rv_addS (by rw [PySem.Str.length_append, sg_len]; omega))) (ev_is ev_c (congrArg V.str k60)) (rv_addS (by rw [PySem.Str.length_append, PySem.Str.length_append, sg_len, sg_len]; omega))) (ev_op (z := .str a.2.1) (ev_var rfl) ev_c (rv_ixT (st_of hb2) rfl)) (rv_addS (by rw [PySem.Str.length_append, PySem.Str.length_append, PySem.Str.length_append, sg_len, sg_len]; omega))) (ev_is ev_c (congrArg V.str k46)) (rv_addS (by rw [PySem.Str.length_append, PySem.Str.length_append, PySem.Str.length_append, PySem.Str.length_append, sg_len, sg_len]; omega))) (ev_strN (n := a.2.2) (ev_op (ev_var rfl) ev_c (rv_ixT (st_of hb2) rfl)) (by have := fa.1.2.2; omega)) (rv_addS (by rw [PySem.Str.length_append, PySem.Str.length_append, PySem.Str.length_append, PySem.Str.length_append, PySem.Str.length_append, sg_len, sg_len]; omega))) ?_
        unfold fT pT
        congr 1
        simp only [PySem.Str.append_assoc]
      · refine s_ret (v := .str (wT (fs.map fT))) (ev_pageEnd (p := pw) rfl (sq_of h4) (by rw [List.length_map]; have := ok.1; omega) (fun y hy => ?_)) fun H5 e5 => q H5 ((E3.trans e4).trans e5)
        obtain ⟨a, ha, rfl⟩ := List.mem_map.mp hy
        exact Nat.le_trans (fT_len (ok.2 a ha)) (by decide)
    | @run xs =>
      obtain ⟨p, rfl, rfl, hp, ok⟩ := hv
      refine q_if (b := false) (et_is (et_test (ev_op (ev_var rfl) ev_c (rv_eq rfl))) (decide_eq_false (fun z => nomatch z))) (fun z => nomatch z) (fun _ H1 e1 => ?_)
      refine q_asg (v := .ref p) (ev_var rfl) fun H2 e2 => ?_
      dsimp only [gName]
      refine q_if (b := false) (et_is (et_test (ev_op (ev_var rfl) ev_c (rv_eq rfl))) (decide_eq_false (fun z => nomatch z))) (fun z => nomatch z) (fun _ H3 e3 => ?_)
      have E3 := (e1.trans e2).trans e3
      exact s_ret (v := .str (wT xs)) (ev_pageEnd (p := p) rfl (sq_of (E3 _ _ hp)) (by have := ok.1; omega) (fun y hy => Nat.le_trans (IsNm.len (ok.2 y hy)) (by decide))) fun H5 e5 => q H5 (E3.trans e5)
end
end Vx

set_option Elab.async false
set_option linter.all false
set_option maxRecDepth 100000
set_option maxHeartbeats 8000000
namespace Vx
open PySem PySem.Spec PyProof.Rows L2 Evl
theorem go_call1 {sp : Sp} {E : XK} {σ : L2.St} {H : Hp} {i : Nat} {v : V} {Q : VK} (hi : σ[i]? = some (some v)) (h : sp [v] H Q E) : tCall sp [] E (tCons (tVar i) tNil) σ H Q := ⟨v, hi, h⟩
theorem go_call2 {sp : Sp} {E : XK} {σ : L2.St} {H : Hp} {i j : Nat} {v u : V} {Q : VK} (hi : σ[i]? = some (some v)) (hj : σ[j]? = some (some u)) (h : sp [v, u] H Q E) : tCall sp [] E (tCons (tVar i) (tCons (tVar j) tNil)) σ H Q := ⟨v, hi, u, hj, h⟩
theorem go_if {tc : TT} {t e : TE} {σ : L2.St} {H : Hp} {Q : VK} {b : Bool} (h : EvT tc σ H b) (h1 : b = true → ∀ H1, Ex H H1 → t σ H1 Q) (h2 : b = false → ∀ H1, Ex H H1 → e σ H1 Q) : tIf tc t e σ H Q := h H (Ex.refl H) _ fun H1 e1 => by
  cases b with
  | true => exact h1 rfl H1 e1
  | false => exact h2 rfl H1 e1
theorem et_eqI {σ : L2.St} {H : Hp} {i : Nat} {x y : Int} {b : Bool} (hi : σ[i]? = some (some (.int x))) (e : decide (V.int x = V.int y) = b) : EvT (tTest (tOp (fun x y H Q => scal x y = true ∧ Q (.bl (decide (x = y))) H) (tVar i) (tC (.int y)))) σ H b := et_is (et_test (ev_op (ev_var hi) ev_c (rv_eq rfl))) e
/-! one order of the names; values that are drawn -/
section
variable {top : Nat} {ws : List Str} {L : List (List En)} {zs : List (Str × List En)}
theorem SortZ.logs (h : SortZ zs ws L) (hl : L.length = ws.length) : (zs.map (·.2)).Perm L := by
  have := h.1.map (fun z : Str × List En => z.2)
  rwa [List.map_snd_zip (by omega)] at this
theorem permF {α β : Type} {f : α → List β} {l l' : List α} (h : l.Perm l') : (l.flatMap f).Perm (l'.flatMap f) := h.flatMap_right f
theorem SortZ.vlog (h : SortZ zs ws L) (v : Vlog top ws L) : Vlog top (zs.map (·.1)) (zs.map (·.2)) := by
  have pn := h.names v.len
  have pl := h.logs v.len
  have zl : zs.length = ws.length := by have := pn.length_eq; rwa [List.length_map] at this
  have at_ : ∀ z ∈ zs, ∃ k : Nat, ws[k]? = some z.1 ∧ L[k]? = some z.2 := fun z hz => by
    obtain ⟨k, hk⟩ := List.mem_iff_getElem?.mp (h.1.mem_iff.mp hz)
    rw [List.getElem?_zip_eq_some] at hk
    exact ⟨k, hk.1, hk.2⟩
  refine ⟨⟨by rw [List.length_map, zl]; exact v.wk.1, by rw [List.length_map, zl]; exact v.wk.2.1, pn.nodup_iff.mpr v.wk.2.2.1, fun z hz => v.wk.2.2.2 z (pn.mem_iff.mp hz)⟩, by rw [List.length_map, List.length_map], fun es he => v.ent es (pl.mem_iff.mp he), (permF pl).nodup_iff.mpr v.pu, (permF pl).nodup_iff.mpr v.re, fun i es j x h1 h2 => ?_, fun i es w o x h1 h2 h3 => ?_⟩
  · obtain ⟨k, hk⟩ := List.mem_iff_getElem?.mp (pl.mem_iff.mp (List.mem_of_getElem? h1))
    exact v.own k es j x hk h2
  · rw [List.getElem?_map] at h1 h2
    obtain ⟨z, hz, rfl⟩ := Option.map_eq_some_iff.mp h1
    rw [hz] at h2
    cases h2
    obtain ⟨k, k1, k2⟩ := at_ z (List.mem_of_getElem? hz)
    obtain ⟨n, i', es', g1, g2, g3⟩ := v.st k z.2 z.1 o x k2 k1 h3
    have hm : (o, es') ∈ zs := h.1.mem_iff.mpr (List.mem_of_getElem? (i := i') (by rw [List.getElem?_zip_eq_some]; exact ⟨g1, g2⟩))
    obtain ⟨m, hm⟩ := List.mem_iff_getElem?.mp hm
    exact ⟨n, m, es', by rw [List.getElem?_map, hm]; rfl, by rw [List.getElem?_map, hm]; rfl, g3⟩
theorem pw_rising : ∀ (xs : List Str) (p : Str), (p :: xs).Pairwise leS1 → risingS p xs = true
  | [], _, _ => rfl
  | x :: xs, p, h => by
    have h1 := (List.pairwise_cons.mp h).1 x (List.mem_cons_self ..)
    unfold risingS
    rw [Bool.and_eq_true]
    refine ⟨?_, pw_rising xs x (List.pairwise_cons.mp h).2⟩
    unfold leS1 at h1
    rw [h1]
    rfl
theorem pw_sorted {xs : List Str} (h : xs.Pairwise leS1) : sortedS xs = true := by
  cases xs with
  | nil => rfl
  | cons x xs => exact pw_rising xs x h
theorem sortz_ex (ws : List Str) (L : List (List En)) : ∃ zs, SortZ zs ws L := by
  refine ⟨(ws.zip L).mergeSort (fun a b => !ltCps b.1.cps.toList a.1.cps.toList), List.mergeSort_perm _ _, pw_sorted ?_⟩
  have := List.pairwise_mergeSort (le := fun (a b : Str × List En) => !ltCps b.1.cps.toList a.1.cps.toList) (fun a b c h1 h2 => ?_) (fun a b => ?_) (ws.zip L)
  · rw [List.pairwise_map]
    exact this.imp fun h => by simpa [leS1] using h
  · have g1 : leS1 a.1 b.1 := by simpa [leS1] using h1
    have g2 : leS1 b.1 c.1 := by simpa [leS1] using h2
    have := leS1_trans g1 g2
    simpa [leS1] using this
  · rw [Bool.or_eq_true]
    rcases Classical.em (leS1 a.1 b.1) with h | h
    · exact Or.inl (by simpa [leS1] using h)
    · refine Or.inr ?_
      rw [leS1_iff] at h
      have h : b.1.cps.toList < a.1.cps.toList := Classical.not_not.mp h
      have g : leS1 b.1 a.1 := by
        rw [leS1_iff, List.not_lt]
        exact Std.le_of_lt h
      simpa [leS1] using g
end
theorem canon_ex {H : Hp} {v : V} : ∀ {val : Vl} {as : List Addr}, VAt H v val as → ∃ c, Canon val c
  | .logs ws L, _, _ => by
    obtain ⟨zs, h⟩ := sortz_ex ws L
    exact ⟨_, .logs h⟩
  | .facts _, _, _ => ⟨_, .facts⟩
  | .run _, _, _ => ⟨_, .run⟩
theorem canon_ok {H : Hp} {v : V} {val : Vl} {as : List Addr} {c : Cn} (h : VAt H v val as) (hc : Canon val c) : c.ok ∧ c.vl.door = val.door := by
  cases hc with
  | @logs ws L zs hz =>
    obtain ⟨d, ps, rfl, rfl, hl, pn, v⟩ := h
    have zl : zs.length = ws.length := by have := (hz.names v.len).length_eq; rwa [List.length_map] at this
    refine ⟨⟨fun z => ?_, hz.2, hz.vlog v⟩, rfl⟩
    have := v.wk.1
    rw [z] at zl
    simp at zl
    omega
  | facts =>
    obtain ⟨p, us, rfl, rfl, hp, pr, ok⟩ := h
    exact ⟨ok, rfl⟩
  | run =>
    obtain ⟨p, rfl, rfl, hp, ok⟩ := h
    exact ⟨ok, rfl⟩
def spValue : Sp := fun vs H Q _ => ∃ (s : Addr) (n : Nat) (k : Int) (m : Nat), vs = [.ref s, .int k, .int (m : Int)] ∧ (k = 0 ∨ k = 1 ∨ k = 2) ∧ Src H s n ∧ n + 4000 ≤ 1000000000 ∧ 1 ≤ m ∧ m ≤ 60 ∧
  ∀ v val as H', val.door = k → VAt H' v val as → (∀ a ∈ as, H a = none) → KB s H H' → Src H' s (n + 4000) → Q v H'
def spReadV : Sp := fun vs H Q _ => ∃ c : Cn, vs = [.int c.vl.door, .str c.page] ∧ c.ok ∧ ∀ v as H', VAt H' v c.vl as → (∀ a ∈ as, H a = none) → Ex H H' → Q v H'
def spNamesV : Sp := fun vs H Q _ => ∃ (v : V) (val : Vl) (as : List Addr) (c : Cn), vs = [.int val.door, v, .str c.page] ∧ VAt H v val as ∧ Canon val c ∧
  ∀ p v2 as2 H', H p = none → H' p = some (.lst [.str c.page, v2]) → VAt H' v2 c.vl as2 → (∀ a ∈ as2, H a = none) → p ∉ as2 → Ex H H' → Q (.ref p) H'
theorem Vlog.up60 {m : Nat} {ws : List Str} {L : List (List En)} (v : Vlog m ws L) (h : m ≤ 60) : Vlog 60 ws L :=
  ⟨v.wk, v.len, fun es he => ⟨Nat.le_trans (v.ent es he).1 h, (v.ent es he).2⟩, v.pu, v.re, v.own, v.st⟩
section
variable {P : Program} {w : World} {K : PySem.W.Frag} {mg : Str → Option Value} {base : Heap}
theorem sc_law_value : FnScope ["source", "door", "top"] ["source", "door", "top"] (defScope s_law_value) := ⟨rfl, rfl, rfl, by decide +kernel, rfl, by decide +kernel, by decide +kernel⟩
theorem ok_law_value (D : Def K mg "_law_value" s_law_value ["source", "door", "top"]) (T : Bl mg) (G_law_logs : Good P w K mg base 4 "_law_logs" ["source", "top"] (spLogs K)) (G_law_facts : Good P w K mg base 2 "_law_facts" ["source"] (spFacts K)) (G_law_run : Good P w K mg base 2 "_law_run" ["source"] (spRunL K)) : Good P w K mg base 5 "_law_value" ["source", "door", "top"] (spValue) := by
  refine D.good sc_law_value (fun vs H Q E h => ?_) (fun f cdv A outer s H vs Q E hr h => ?_)
  · obtain ⟨s, n, k, m, rfl, _⟩ := h
    rfl
  · obtain ⟨s, n, k, m, rfl, hk, hs, hn, m1, m2, q⟩ := h
    have hu := hu_of hr
    refine ⟨_, (pss_cons (ps_if (pt_cmpR op_eq (pv 1) pe_int (nomark _)) (pss_one (ps_ret (pe_fn (G_law_logs.mono (by decide)) hr (pa_cons (pv 0) (pa_cons (pv 2) pa_nil))))) pss_nil)
      (pss_one (ps_ret (pe_ifExp (pt_cmpR op_eq (pv 1) pe_int (nomark _)) (pe_fn (G_law_facts.mono (by decide)) hr (pa_cons (pv 0) pa_nil)) (pe_fn (G_law_run.mono (by decide)) hr (pa_cons (pv 0) pa_nil)))))), ?_⟩
    rcases hk with rfl | rfl | rfl
    · refine q_if (b := true) (et_is (et_test (ev_op (ev_var rfl) ev_c (rv_eq rfl))) (decide_eq_true rfl)) (fun _ H1 e1 => ?_) (fun z => nomatch z)
      refine go_call2 rfl rfl ⟨s, n, m, rfl, hs.ex e1, hn, m1, m2, fun d ws ps L H' n1 kb S hl pf pn v _ _ => q (.ref d) (.logs ws L) (d :: ps) H' rfl ⟨d, ps, rfl, rfl, hl, pn, v.up60 m2⟩ (fun a ha => fresh_back e1 ?_) ((kb_ex e1).trans kb) S⟩
      rcases List.mem_cons.mp ha with rfl | ha
      · exact n1
      · exact pf a ha
    · refine q_if (b := false) (et_is (et_test (ev_op (ev_var rfl) ev_c (rv_eq rfl))) (decide_eq_false (fun z => nomatch z))) (fun z => nomatch z) (fun _ H1 e1 => ?_)
      refine go_if (et_eqI (x := 1) (b := true) rfl (by decide)) (fun _ H2 e2 => ?_) (fun z => nomatch z)
      have E2 := e1.trans e2
      exact go_call1 rfl ⟨s, n, rfl, hs.ex E2, by omega, fun p us fs H' n1 kb S hp pr ok => q (.ref p) (.facts fs) [p] H' rfl ⟨p, us, rfl, rfl, hp, pr, ok⟩ (fun a ha => by rw [List.mem_singleton.mp ha]; exact fresh_back E2 n1) ((kb_ex E2).trans kb) (S.le (by omega))⟩
    · refine q_if (b := false) (et_is (et_test (ev_op (ev_var rfl) ev_c (rv_eq rfl))) (decide_eq_false (fun z => nomatch z))) (fun z => nomatch z) (fun _ H1 e1 => ?_)
      refine go_if (et_eqI (x := 2) (b := false) rfl (by decide)) (fun z => nomatch z) (fun _ H2 e2 => ?_)
      have E2 := e1.trans e2
      exact go_call1 rfl ⟨s, n, rfl, hs.ex E2, by omega, fun p xs H' n1 kb S hp ok => q (.ref p) (.run xs) [p] H' rfl ⟨p, rfl, rfl, hp, ok⟩ (fun a ha => by rw [List.mem_singleton.mp ha]; exact fresh_back E2 n1) ((kb_ex E2).trans kb) (S.le (by omega))⟩
theorem sc_law_write : FnScope ["door", "value"] ["door", "value"] (defScope s_law_write) := ⟨rfl, rfl, rfl, by decide +kernel, rfl, by decide +kernel, by decide +kernel⟩
theorem ok_law_write (D : Def K mg "_law_write" s_law_write ["door", "value"]) (T : Bl mg) (G_write_logs : Good P w K mg base 3 "write_logs" ["logs"] spWLogs) (G_write_facts : Good P w K mg base 2 "write_facts" ["facts"] spWFacts) (G_write_run : Good P w K mg base 2 "write_run" ["run"] spWRun) : Good P w K mg base 4 "_law_write" ["door", "value"] (spPage) := by
  refine D.good sc_law_write (fun vs H Q E h => ?_) (fun f cdv A outer s H vs Q E hr h => ?_)
  · obtain ⟨v, val, as, c, rfl, _⟩ := h
    rfl
  · obtain ⟨v, val, as, c, rfl, hv, hc, q⟩ := h
    have hu := hu_of hr
    refine ⟨_, (pss_cons (ps_if (pt_cmpR op_eq (pv 0) pe_int (nomark _)) (pss_one (ps_ret (pe_fn (G_write_logs.mono (by decide)) hr (pa_cons (pv 1) pa_nil)))) pss_nil)
      (pss_one (ps_ret (pe_ifExp (pt_cmpR op_eq (pv 0) pe_int (nomark _)) (pe_fn (G_write_facts.mono (by decide)) hr (pa_cons (pv 1) pa_nil)) (pe_fn (G_write_run.mono (by decide)) hr (pa_cons (pv 1) pa_nil)))))), ?_⟩
    cases hc with
    | @logs ws L zs hz =>
      obtain ⟨d, ps, rfl, rfl, hl, pn, v⟩ := hv
      refine q_if (b := true) (et_is (et_test (ev_op (ev_var rfl) ev_c (rv_eq rfl))) (decide_eq_true rfl)) (fun _ H1 e1 => ?_) (fun z => nomatch z)
      exact s_ret (v := .str (gT zs)) (ev_call (ea_cons (ev_var rfl) ea_nil) fun H2 e2 Q2 q2 E2 => ⟨d, ws, ps, L, zs, rfl, hl.ex (e1.trans e2), v, hz, q2⟩) fun H2 e2 => q H2 (e1.trans e2)
    | @facts fs =>
      obtain ⟨p, us, rfl, rfl, hp, pr, ok⟩ := hv
      refine q_if (b := false) (et_is (et_test (ev_op (ev_var rfl) ev_c (rv_eq rfl))) (decide_eq_false (fun z => nomatch z))) (fun z => nomatch z) (fun _ H1 e1 => ?_)
      exact s_ret (v := .str (wT (fs.map fT))) (ev_if (b := true) (et_is (et_test (ev_op (ev_var rfl) ev_c (rv_eq rfl))) (decide_eq_true rfl)) (fun _ => ev_call (ea_cons (ev_var rfl) ea_nil) fun H2 e2 Q2 q2 E2 => ⟨p, us, fs, rfl, e2 _ _ (e1 _ _ hp), pr.tk (tk_ex (e1.trans e2)), ok, q2⟩) (fun z => nomatch z)) fun H2 e2 => q H2 (e1.trans e2)
    | @run xs =>
      obtain ⟨p, rfl, rfl, hp, ok⟩ := hv
      refine q_if (b := false) (et_is (et_test (ev_op (ev_var rfl) ev_c (rv_eq rfl))) (decide_eq_false (fun z => nomatch z))) (fun z => nomatch z) (fun _ H1 e1 => ?_)
      exact s_ret (v := .str (wT xs)) (ev_if (b := false) (et_eqI (x := 2) rfl (by decide)) (fun z => nomatch z) (fun _ => ev_call (ea_cons (ev_var rfl) ea_nil) fun H2 e2 Q2 q2 E2 => ⟨p, xs, rfl, e2 _ _ (e1 _ _ hp), ok, q2⟩)) fun H2 e2 => q H2 (e1.trans e2)
theorem sc_law_read : FnScope ["door", "page"] ["door", "page"] (defScope s_law_read) := ⟨rfl, rfl, rfl, by decide +kernel, rfl, by decide +kernel, by decide +kernel⟩
theorem ok_law_read (D : Def K mg "_law_read" s_law_read ["door", "page"]) (T : Bl mg) (G_read_logs : Good P w K mg base 6 "read_logs" ["text"] spRLogs) (G_read_facts : Good P w K mg base 6 "read_facts" ["text"] spRFacts) (G_read_run : Good P w K mg base 6 "read_run" ["text"] spRRun) : Good P w K mg base 7 "_law_read" ["door", "page"] (spReadV) := by
  refine D.good sc_law_read (fun vs H Q E h => ?_) (fun f cdv A outer s H vs Q E hr h => ?_)
  · obtain ⟨c, rfl, _⟩ := h
    rfl
  · obtain ⟨c, rfl, ok, q⟩ := h
    have hu := hu_of hr
    refine ⟨_, (pss_cons (ps_if (pt_cmpR op_eq (pv 0) pe_int (nomark _)) (pss_one (ps_ret (pe_fn (G_read_logs.mono (by decide)) hr (pa_cons (pv 1) pa_nil)))) pss_nil)
      (pss_one (ps_ret (pe_ifExp (pt_cmpR op_eq (pv 0) pe_int (nomark _)) (pe_fn (G_read_facts.mono (by decide)) hr (pa_cons (pv 1) pa_nil)) (pe_fn (G_read_run.mono (by decide)) hr (pa_cons (pv 1) pa_nil)))))), ?_⟩
    cases c with
    | logs zs =>
      refine q_if (b := true) (et_eqI (x := 0) rfl (by decide)) (fun _ H1 e1 => ?_) (fun z => nomatch z)
      refine go_call1 rfl ⟨zs, rfl, ok.1, ok.2.1, ok.2.2, fun d ps H' n1 e2 hl pf pn => q (.ref d) (d :: ps) H' ⟨d, ps, rfl, rfl, hl, pn, ok.2.2⟩ (fun a ha => fresh_back e1 ?_) (e1.trans e2)⟩
      rcases List.mem_cons.mp ha with rfl | ha
      · exact n1
      · exact pf a ha
    | facts fs =>
      refine q_if (b := false) (et_eqI (x := 1) rfl (by decide)) (fun z => nomatch z) (fun _ H1 e1 => ?_)
      refine go_if (et_eqI (x := 1) (b := true) rfl (by decide)) (fun _ H2 e2 => ?_) (fun z => nomatch z)
      have E2 := e1.trans e2
      exact go_call1 rfl ⟨fs, rfl, ok, fun p us H' n1 e3 hp pr => q (.ref p) [p] H' ⟨p, us, rfl, rfl, hp, pr, ok⟩ (fun a ha => by rw [List.mem_singleton.mp ha]; exact fresh_back E2 n1) (E2.trans e3)⟩
    | run xs =>
      refine q_if (b := false) (et_eqI (x := 2) rfl (by decide)) (fun z => nomatch z) (fun _ H1 e1 => ?_)
      refine go_if (et_eqI (x := 2) (b := false) rfl (by decide)) (fun z => nomatch z) (fun _ H2 e2 => ?_)
      have E2 := e1.trans e2
      exact go_call1 rfl ⟨xs, rfl, ok, fun p H' n1 e3 hp => q (.ref p) [p] H' ⟨p, rfl, rfl, hp, ok⟩ (fun a ha => by rw [List.mem_singleton.mp ha]; exact fresh_back E2 n1) (E2.trans e3)⟩
end
end Vx

set_option Elab.async false
set_option linter.all false
set_option maxRecDepth 100000
set_option maxHeartbeats 8000000
namespace Vx
open PySem PySem.Spec PyProof.Rows L2 Evl
/-! values as data; equal values -/
theorem en_dz {H : Hp} {a : Addr} {e : En} (h : H a = some (.tup e.vs)) : ∃ as, Dz H (.ref a) e.data as := by
  cases e with
  | push x => exact ⟨_, .tup h (.cons (.str _) (.cons (.str _) .nil))⟩
  | pop x => exact ⟨_, .tup h (.cons (.str _) (.cons (.str _) .nil))⟩
  | size k => exact ⟨_, .tup h (.cons (.str _) (.cons (.int _) .nil))⟩
  | steal o x => exact ⟨_, .tup h (.cons (.str _) (.cons (.str _) (.cons (.str _) .nil)))⟩
theorem sz_key {n : Nat} {z : Str} (h : ∀ c ∈ z.cps.toList, c < 16 ^ 8) (hl : z.length ≤ n) : Sz (.str z) 0 n := sz_str h hl
theorem en_sz {e : En} (h : e.ok) : Sz e.data 1 210 := by
  have w : ∀ z ∈ (["push", "pop", "size", "steal"] : List Str), (∀ c ∈ z.cps.toList, c < 16 ^ 8) ∧ z.length ≤ 8 := by decide +kernel
  have st : ∀ z ∈ (["push", "pop", "size", "steal"] : List Str), Sz (.str z) 0 8 := fun z hz => sz_str (w z hz).1 (w z hz).2
  cases e with
  | push x => exact ((sza_cons (st "push" (by simp)) (sza_cons (sz_nm h) sza_nil)).tuple).le (by decide) (by decide)
  | pop x => exact ((sza_cons (st "pop" (by simp)) (sza_cons (sz_nm h) sza_nil)).tuple).le (by decide) (by decide)
  | size k =>
    have h1 := h.1
    have h2 := h.2
    exact ((sza_cons ((st "size" (by simp)).le (Nat.le_refl _) (show 8 ≤ 8 by decide)) (sza_cons (sz_int (i := k) (by omega)) sza_nil)).tuple).le (by decide) (by decide)
  | steal o x => exact ((sza_cons (st "steal" (by simp)) (sza_cons (sz_nm h.1) (sza_cons (sz_nm h.2) sza_nil))).tuple).le (by decide) (by decide)
def plD2 (z : Pl2) : PyData := .tuple [.str z.1, .int (z.2 : Int)]
def prD2 (a : Pr2) : PyData := .tuple [plD2 a.1, plD2 a.2]
theorem pl_sz {z : Pl2} (h : PlOk z) : Sz (plD2 z) 1 210 := ((sza_cons (sz_nm h.1) (sza_cons (sz_int (i := (z.2 : Int)) (by have := h.2; omega)) sza_nil)).tuple).le (by decide) (by decide)
theorem pr_sz {a : Pr2} (h : FcOk a) : Sz (prD2 a) 2 430 := ((sza_cons (pl_sz h.1.1) (sza_cons (pl_sz h.1.2) (sza_nil.le (Nat.zero_le 1) (Nat.le_refl 0)))).tuple).le (by decide) (by decide)
theorem pr_dz {H : Hp} {v : V} {a : Pr2} (h : PrV H v a) : ∃ as, Dz H v (prD2 a) as := by
  obtain ⟨p, x, y, rfl, hp, ⟨b, rfl, hb⟩, ⟨c, rfl, hc⟩⟩ := h
  exact ⟨_, .tup hp (.cons (.tup hb (.cons (.str _) (.cons (.int _) .nil))) (.cons (.tup hc (.cons (.str _) (.cons (.int _) .nil))) .nil))⟩
theorem tl_dz {H : Hp} {p : Addr} {es : List En} (h : TL H p (es.map En.vs)) : ∃ as, Dz H (.ref p) (logD es) as := by
  obtain ⟨as, ha, hp⟩ := h
  obtain ⟨bs, hb⟩ := DzA.of (H := H) (vs := as.map V.ref) (ds := es.map En.data) (by rw [List.length_map, List.length_map, hp.length, List.length_map]) fun i v d h1 h2 => by
    rw [List.getElem?_map] at h1 h2
    obtain ⟨a, g1, rfl⟩ := Option.map_eq_some_iff.mp h1
    obtain ⟨e, g2, rfl⟩ := Option.map_eq_some_iff.mp h2
    obtain ⟨a2, g3, g4⟩ := paired_get hp (i := i) (by rw [List.getElem?_map, g2]; rfl)
    rw [g1] at g3
    cases g3
    exact en_dz g4
  exact ⟨_, .lst ha hb⟩
theorem VAt.dz {H : Hp} {v : V} : ∀ {val : Vl} {as : List Addr}, VAt H v val as → ∃ p d bs, v = .ref p ∧ Dz H v d bs ∧ Sz d 12 200000
  | .logs ws L, _, ⟨d, ps, h1, h2, hl, pn, vl⟩ => by
    subst h1
    have w6 := vl.wk.2.1
    obtain ⟨bs, hb⟩ := DzA.of (H := H) (vs := (Dk ws ps).map (·.2)) (ds := L.map logD) (by rw [List.length_map, List.length_map, dk_len hl.pl, vl.len]) fun i u x g1 g2 => by
      rw [List.getElem?_map] at g1 g2
      obtain ⟨kv, k1, rfl⟩ := Option.map_eq_some_iff.mp g1
      obtain ⟨es, k2, rfl⟩ := Option.map_eq_some_iff.mp g2
      obtain ⟨x, r, k3, k4, k5, k6⟩ := dk_at k1
      rw [k6]
      exact tl_dz (hl.lg i r es k4 k2)
    refine ⟨d, _, _, rfl, .dict hl.dk ?_ hb, (sz_dict (dp := 2) (w := 12660) fun kd hk => ?_).le (by decide) ?_⟩
    · rw [dk_keys hl.pl]
      have nd := vl.wk.2.2.1
      unfold List.Nodup at nd ⊢
      rw [List.pairwise_map]
      exact nd.imp fun h e => h (Sum.inr.inj e)
    · unfold zipD at hk
      obtain ⟨i, hi⟩ := List.mem_iff_getElem?.mp hk
      rw [List.getElem?_zip_eq_some, List.getElem?_map, List.getElem?_map] at hi
      obtain ⟨g1, g2⟩ := hi
      obtain ⟨kv, k1, k2⟩ := Option.map_eq_some_iff.mp g1
      obtain ⟨es, k3, k4⟩ := Option.map_eq_some_iff.mp g2
      obtain ⟨x, r, k5, k6, k7, k8⟩ := dk_at k1
      have en := vl.ent es (List.mem_of_getElem? k3)
      rw [← k2, ← k4, k7]
      refine ⟨(sz_nm (vl.wk.2.2.2 x (List.mem_of_getElem? k5))).le (by decide) (by decide), ((sza_all (dp := 1) (w := 210) fun y hy => ?_).list).le (by decide) ?_⟩
      · obtain ⟨e, he, rfl⟩ := List.mem_map.mp hy
        exact en_sz (en.2 e he)
      · rw [List.length_map]
        have := en.1
        omega
    · unfold zipD
      rw [List.length_zip, List.length_map, List.length_map, dk_len hl.pl]
      have : min ws.length L.length ≤ 6 := by omega
      omega
  | .facts fs, _, ⟨p, us, h1, h2, h3, pr, ok⟩ => by
    subst h1
    obtain ⟨bs, hb⟩ := DzA.of (H := H) (vs := us) (ds := fs.map prD2) (by rw [List.length_map, pr.1]) fun i u x g1 g2 => by
      rw [List.getElem?_map] at g2
      obtain ⟨a, g3, rfl⟩ := Option.map_eq_some_iff.mp g2
      exact pr_dz (pr.2 i u a g1 g3)
    refine ⟨p, _, _, rfl, .lst h3 hb, ((sza_all (dp := 2) (w := 430) fun y hy => ?_).list).le (by decide) ?_⟩
    · obtain ⟨a, ha, rfl⟩ := List.mem_map.mp hy
      exact pr_sz (ok.2 a ha)
    · rw [List.length_map]
      have := ok.1
      omega
  | .run xs, _, ⟨p, h1, h2, h3, ok⟩ => by
    subst h1
    obtain ⟨bs, hb⟩ := DzA.of (H := H) (vs := xs.map V.str) (ds := xs.map PyData.str) (by rw [List.length_map, List.length_map]) fun i u x g1 g2 => by
      rw [List.getElem?_map] at g1 g2
      obtain ⟨z, g3, rfl⟩ := Option.map_eq_some_iff.mp g1
      rw [g3] at g2
      cases g2
      exact ⟨_, .str z⟩
    refine ⟨p, _, _, rfl, .lst h3 hb, ((sza_all (dp := 0) (w := 8) fun y hy => ?_).list).le (by decide) ?_⟩
    · obtain ⟨a, ha, rfl⟩ := List.mem_map.mp hy
      exact sz_nm (ok.2 a ha)
    · rw [List.length_map]
      have := ok.1
      omega
end Vx

set_option Elab.async false
set_option linter.all false
set_option maxRecDepth 100000
set_option maxHeartbeats 8000000
namespace Vx
open PySem PySem.Spec PyProof.Rows L2 Evl
/-! equal values -/
theorem EqG.up {H : Hp} : ∀ {n : Nat} {x y : V}, EqG H n x y → EqG H (n + 1) x y
  | 0, _, _, h => Or.inl h
  | n + 1, x, y, h => by
    rcases h with h | ⟨p, q, xs, ys, h1, h2, h3, h4, h5, h6⟩ | ⟨p, q, names, ps, qs, h1, h2, h3, h4, h5, h6, h7, h8, h9, h10⟩
    · exact Or.inl h
    · exact Or.inr (Or.inl ⟨p, q, xs, ys, h1, h2, h3, h4, h5, fun i x' y' a b => EqG.up (h6 i x' y' a b)⟩)
    · exact Or.inr (Or.inr ⟨p, q, names, ps, qs, h1, h2, h3, h4, h5, h6, h7, h8, by omega, fun i u v a b => (h10 i u v a b).up⟩)
theorem eqg_two {H : Hp} {n : Nat} {a b : Addr} {x1 x2 y1 y2 : V} (ha : H a = some (.lst [x1, x2])) (hb : H b = some (.lst [y1, y2])) (h1 : EqG H n x1 y1) (h2 : EqG H n x2 y2) : EqG H (n + 1) (.ref a) (.ref b) :=
  Or.inr (Or.inl ⟨a, b, _, _, rfl, rfl, Or.inl ⟨Or.inl ha, Or.inl hb⟩, rfl, (by show 2 < 40000; decide), fun i x y hx hy => by
    rcases i with _ | _ | i
    · cases (Option.some.inj hx)
      cases (Option.some.inj hy)
      exact h1
    · cases (Option.some.inj hx)
      cases (Option.some.inj hy)
      exact h2
    · simp at hx⟩)
theorem eqg_str {H : Hp} {z : Str} : ∀ n : Nat, EqG H n (.str z) (.str z)
  | 0 => ⟨rfl, rfl⟩
  | _ + 1 => Or.inl ⟨rfl, rfl⟩
theorem en_atom (e : En) : ∀ v ∈ e.vs, atom v = true := by
  cases e <;> intro v hv <;> simp [En.vs] at hv <;> (rcases hv with rfl | rfl | rfl) <;> rfl
theorem eqs_tup {H : Hp} {a b : Addr} {xs : List V} (ha : H a = some (.tup xs)) (hb : H b = some (.tup xs)) (hx : ∀ v ∈ xs, atom v = true) (hl : xs.length < 40000) : EqS H 1 (.ref a) (.ref b) :=
  Or.inr ⟨a, b, xs, xs, rfl, rfl, Or.inr ⟨Or.inl ha, Or.inl hb⟩, rfl, hl, fun i x y h1 h2 => by
    rw [h1] at h2
    cases h2
    exact ⟨rfl, hx x (List.mem_of_getElem? h1)⟩⟩
theorem eqs_log {H : Hp} {p q : Addr} {es : List En} (hp : TL H p (es.map En.vs)) (hq : TL H q (es.map En.vs)) (hl : es.length ≤ 60) : EqS H 2 (.ref p) (.ref q) := by
  obtain ⟨as, ha, pa⟩ := hp
  obtain ⟨bs, hb, pb⟩ := hq
  have al : as.length = es.length := by rw [pa.length, List.length_map]
  have bl : bs.length = es.length := by rw [pb.length, List.length_map]
  refine Or.inr ⟨p, q, _, _, rfl, rfl, Or.inl ⟨Or.inl ha, Or.inl hb⟩, by rw [List.length_map, List.length_map, al, bl], by rw [List.length_map]; omega, fun i x y h1 h2 => ?_⟩
  rw [List.getElem?_map] at h1 h2
  obtain ⟨a, g1, rfl⟩ := Option.map_eq_some_iff.mp h1
  obtain ⟨b, g2, rfl⟩ := Option.map_eq_some_iff.mp h2
  obtain ⟨e, he⟩ : ∃ e, es[i]? = some e := ⟨_, List.getElem?_eq_getElem (by rw [← al]; exact (List.getElem?_eq_some_iff.mp g1).1)⟩
  obtain ⟨a2, g3, g4⟩ := paired_get pa (i := i) (by rw [List.getElem?_map, he]; rfl)
  obtain ⟨b2, g5, g6⟩ := paired_get pb (i := i) (by rw [List.getElem?_map, he]; rfl)
  rw [g1] at g3
  rw [g2] at g5
  cases g3
  cases g5
  exact eqs_tup g4 g6 (en_atom _) (by cases e <;> simp [En.vs])
theorem eqs_pl {H : Hp} {x y : V} {z : Pl2} (h1 : PlV H x z) (h2 : PlV H y z) : EqS H 1 x y := by
  obtain ⟨a, rfl, ha⟩ := h1
  obtain ⟨b, rfl, hb⟩ := h2
  exact eqs_tup ha hb (fun v hv => by simp at hv; rcases hv with rfl | rfl <;> rfl) (by simp)
theorem eqs_pr {H : Hp} {x y : V} {z : Pr2} (h1 : PrV H x z) (h2 : PrV H y z) : EqS H 2 x y := by
  obtain ⟨a, x1, x2, rfl, ha, p1, p2⟩ := h1
  obtain ⟨b, y1, y2, rfl, hb, q1, q2⟩ := h2
  exact Or.inr ⟨a, b, _, _, rfl, rfl, Or.inr ⟨Or.inl ha, Or.inl hb⟩, rfl, (by show 2 < 40000; decide), fun i x y hx hy => by
    rcases i with _ | _ | i
    · cases (Option.some.inj hx)
      cases (Option.some.inj hy)
      exact eqs_pl p1 q1
    · cases (Option.some.inj hx)
      cases (Option.some.inj hy)
      exact eqs_pl p2 q2
    · simp at hx⟩
theorem eqg_val {H : Hp} {v v' : V} : ∀ {val : Vl} {as as' : List Addr}, VAt H v val as → VAt H v' val as' → EqG H 3 v v'
  | .logs ws L, _, _, ⟨d, ps, h1, h2, hl, pn, vl⟩, ⟨d', ps', h1', h2', hl', pn', _⟩ => by
    subst h1
    subst h1'
    refine Or.inr (Or.inr ⟨d, d', ws, ps, ps', rfl, rfl, hl.dk, hl'.dk, hl.pl, hl'.pl, vl.wk.2.2.1, by have := vl.wk.2.1; omega, by decide, fun i u v a b => ?_⟩)
    have he := List.getElem?_eq_getElem (show i < L.length by rw [vl.len, ← hl.pl]; exact (List.getElem?_eq_some_iff.mp a).1)
    exact eqs_log (hl.lg i u _ a he) (hl'.lg i v _ b he) (vl.ent _ (List.mem_of_getElem? he)).1
  | .facts fs, _, _, ⟨p, us, h1, h2, h3, pr, ok⟩, ⟨p', us', h1', h2', h3', pr', _⟩ => by
    subst h1
    subst h1'
    refine EqS.g (Or.inr ⟨p, p', us, us', rfl, rfl, Or.inl ⟨Or.inl h3, Or.inl h3'⟩, by rw [pr.1, pr'.1], by rw [pr.1]; have := ok.1; omega, fun i x y a b => ?_⟩)
    have he := List.getElem?_eq_getElem (show i < fs.length by rw [← pr.1]; exact (List.getElem?_eq_some_iff.mp a).1)
    exact eqs_pr (pr.2 i x _ a he) (pr'.2 i y _ b he)
  | .run xs, _, _, ⟨p, h1, h2, h3, ok⟩, ⟨p', h1', h2', h3', _⟩ => by
    subst h1
    subst h1'
    exact (eqs_strs (n := 3) (Or.inl h3) (Or.inl h3') (by have := ok.1; omega) (by decide)).g
/-! list(..) of a dict or a list, .clear() of a dict or a list -/
def rListLD (K : PySem.W.Frag) : List V → Hp → VK → Prop := fun xs H Q => rListS K xs H Q ∨ ∃ (a : Addr) (kvs : List (Key × V)), xs = [V.ref a] ∧ Rd H a (.dK kvs) ∧ ∀ p, H p = none → Q (.ref p) (upd H p (.lst (kvs.map fun kv => kV kv.1)))
theorem call_listLD {X : Cx} {K : PySem.W.Frag} (hK : X.K = K) (hcalm : X.calm = true := by rfl) : CallR X (.type "list") (rListLD K) := by
  subst hK
  intro pins s σ H xs us Q I r h
  rcases h with h | h
  · exact call_list_of pins s σ H xs us Q I r h
  · exact call_listD hcalm pins s σ H xs us Q I r h
def tClearLD (K : PySem.W.Frag) (to : TE) : TE := fun σ H Q => tBM0 K "list" rClear to σ H Q ∨ tBM0 K "dict" rDClear to σ H Q
theorem pe_clearLD {X : Cx} {K : PySem.W.Frag} {o : Expr} {to : TE} {apos cpos : Pos} (ho : PE X o to) (hK : X.K = K := by rfl) (hb : attributeBase o "clear" X.env (eval o X.env) = eval o X.env := by rfl) (hl : (apos.endLine == cpos.line) = true := by rfl) : PE X (.Call (.Attribute o "clear" apos) [] [] cpos) (tClearLD K to) := by
  subst hK
  refine ⟨fun pins s σ H Q I h => ?_⟩
  rcases h with h | h
  · exact (pe_bm0 PySem.F.plainAttrs_list PySem.F.slot_list_clear PySem.F.type_list_clear mt_clear ho hb hl).run pins s σ H Q I h
  · exact (pe_dclear ho hb hl).run pins s σ H Q I h
theorem ev_reprZ {K : PySem.W.Frag} {σ : L2.St} {H : Hp} {te : TE} {p : Addr} {d : PyData} {as : List Addr} (h : Ev te σ H (.ref p)) (hd : Dz H (.ref p) d as) (hz : Sz d 12 200000) : Ev (tCB (rReprZ K) (tCons te tNil)) σ H (.str d.shown) := fun H1 e Q q =>
  h H1 e _ fun H2 e2 => ⟨p, d, as, rfl, hd.ex (e.trans e2), hz, q H2 e2⟩
/-- for k in d, the dict read from elsewhere -/
theorem s_forDkE {te : TE} {tu : TS} {D : Ends} {σ : L2.St} {H : Hp} {j : Nat} {d : Addr} {kvs : List (Key × V)} (hd : H d = some (.dK kvs)) (hte : ∀ od, Ev te σ (upd H d (.frz od (.dK kvs))) (.ref d)) (Pv : Nat → L2.St → Hp → Prop) (h0 : ∀ od H1, Ex (upd H d (.frz od (.dK kvs))) H1 → Pv 0 σ H1)
    (hs : ∀ (od : Obj) (D' : Ends) (i : Nat) k v σ' H', kvs[i]? = some (k, v) → H' d = some (.frz od (.dK kvs)) → Pv i σ' H' → (∀ σ2 H2, H2 d = some (.frz od (.dK kvs)) → Pv (i + 1) σ2 H2 → D'.nx σ2 H2) → tu D' (σ'.set j (some (kV k))) H')
    (hend : ∀ od σ' H', H' d = some (.frz od (.dK kvs)) → Pv kvs.length σ' H' → D.nx σ' (upd H' d (.dK kvs))) : tLock (tFor (iKeys te) (gName j) tu) D σ H := by
  refine ⟨d, .dK kvs, hd, trivial, fun od => hte od _ (Ex.refl _) _ fun H1 e1 => ⟨d, od, rfl, Or.inl ⟨kvs, e1 _ _ upd_same, ?_⟩⟩⟩
  refine ⟨fun i m σ' H' => m = kvs.length - i ∧ i ≤ kvs.length ∧ H' d = some (.frz od (.dK kvs)) ∧ Pv i σ' H', ⟨kvs.length, rfl, Nat.zero_le _, e1 _ _ upd_same, h0 od H1 e1⟩, ?_⟩
  rintro i m σ' H' ⟨rfl, hi, hf, p⟩
  rcases Nat.lt_or_ge i kvs.length with hlt | hge
  · refine .inr ⟨⟨hf, hlt⟩, fun σ2 H2 => H2 d = some (.frz od (.dK kvs)) ∧ Pv (i + 1) σ2 H2, fun σ2 H2 p2 => ⟨kvs.length - (i + 1), by omega, rfl, hlt, p2.1, p2.2⟩, fun x H2 y => ?_⟩
    obtain ⟨rfl, k, u, hku, rfl⟩ := y
    exact hs od _ i k u σ' H2 hku hf p fun σ2 H3 a b => ⟨a, b⟩
  · have : i = kvs.length := by omega
    subst this
    exact .inl ⟨⟨hf, Nat.le_refl _⟩, hf, hend od σ' H' hf p⟩
/-- all but what stands at as is kept -/
def KA (as : List Addr) (H H' : Hp) : Prop := ∀ b o, b ∉ as → H b = some o → H' b = some o
theorem VAt.ka {H H' : Hp} {v u : V} {val vu : Vl} {as au : List Addr} (h : VAt H v val as) (k : KA au H H') (hu : VAt H u vu au) (dj : ∀ a ∈ as, a ∉ au) : VAt H' v val as := h.keep (fun b t g => k b _ (fun m => by
    obtain ⟨o, ho, nt⟩ := hu.has b m
    rw [g] at ho
    exact nt t (Option.some.inj ho).symm) g) fun a ha => by
  obtain ⟨o, ho, _⟩ := h.has a ha
  rw [ho, k a o (dj a ha) ho]
end Vx

set_option Elab.async false
set_option linter.all false
set_option maxRecDepth 100000
set_option maxHeartbeats 8000000
namespace Vx
open PySem PySem.Spec PyProof.Rows L2 Evl
/-- due = list(value), or the logs by name -/
theorem q_due {K : PySem.W.Frag} {tz : TS} {D : Ends} {H : Hp} {v : V} {val : Vl} {as : List Addr} {c : Cn} {pg : V} (hv : VAt H v val as) (hc : Canon val c)
    (k : ∀ du asd H3, Ex H H3 → VAt H3 du c.vl asd → tz D [some (.int val.door), some v, some pg, some du, none, none, none, none, none] H3) :
    tSeq (tAsg (tCB (rListLD K) (tCons (tVar 1) tNil)) (gName 3)) (tSeq (tIfS (tTest (tOp rEq (tVar 0) (tC (.int 0)))) (tAsg (tCB (rDictP K) (tCons (tLc (iList K (tCB (fun xs H Q => ∃ (a : Addr) (kvs : List (Key × V)) (ks : List Str), xs = [.ref a] ∧ Rd H a (.dK kvs) ∧ kvs.map (·.1) = ks.map Sum.inr ∧ ks.length < 64 ∧ ∀ ys p, ys.Perm ks → sortedS ys = true → H p = none → Q (.ref p) (upd H p (.lst (ys.map V.str)))) (tCons (tVar 1) tNil))) (gName 7) tYes (tTup (tCons (tVar 7) (tCons (tCB (rListS K) (tCons (tDGet (tVar 1) (tVar 7)) tNil)) tNil))) [7]) tNil)) (gName 3)) tNext) tz) D [some (.int val.door), some v, some pg, none, none, none, none, none, none] H := by
  cases hc with
  | @logs ws L zs hz =>
    obtain ⟨d, ps, rfl, rfl, hl, pn, vl⟩ := hv
    have hz0 := hz
    obtain ⟨pz, sz⟩ := hz
    have pn2 := hz0.names vl.len
    have vl2 := hz0.vlog vl
    have wk := vl.wk.2.1
    have zl : zs.length = ws.length := by have := pn2.length_eq; rwa [List.length_map] at this
    refine ⟨.ref d, rfl, Or.inr ⟨d, _, rfl, Or.inl hl.dk, fun p hp => ?_⟩⟩
    have e1 : Ex H (upd H p (.lst ((Dk ws ps).map fun kv => kV kv.1))) := Ex.new hp
    generalize upd H p (.lst ((Dk ws ps).map fun kv => kV kv.1)) = H1 at e1
    have hl1 := hl.ex e1
    dsimp only [gName]
    refine q_if (b := true) (et_eqI (x := 0) rfl (by decide)) (fun _ H2 e2 => ?_) (fun z => nomatch z)
    have hl2 := hl1.ex e2
    have E2 := e1.trans e2
    have logAt : ∀ {x : Str}, x ∈ ws → ∃ (k : Nat) (p : Addr) (es : List En) (as : List Addr), ws[k]? = some x ∧ ps[k]? = some p ∧ L[k]? = some es ∧ H2 p = some (.lst (as.map V.ref)) ∧ Paired (fun a t => H2 a = some (.tup t)) as (es.map En.vs) ∧ cont H2 ws ps x = as.map V.ref := fun {x} hx => by
      obtain ⟨k, hk⟩ := List.mem_iff_getElem?.mp hx
      have hkl := (List.getElem?_eq_some_iff.mp hk).1
      obtain ⟨pk, g2⟩ : ∃ pk, ps[k]? = some pk := ⟨_, List.getElem?_eq_getElem (show k < ps.length by rw [hl.pl]; exact hkl)⟩
      have g3 := List.getElem?_eq_getElem (show k < L.length by rw [vl.len]; exact hkl)
      obtain ⟨as, h1, h2⟩ := hl2.lg k _ _ g2 g3
      refine ⟨k, _, _, as, hk, g2, g3, h1, h2, ?_⟩
      unfold cont
      rw [dk_get vl.wk.2.2.1 hk g2]
      show (match H2 pk with | some (.lst xs) => xs | _ => []) = _
      rw [h1]
    refine ev_rowsC (fun pw names H1 => names = zs.map (·.1) ∧ Ex H2 H1) (cont H2 ws ps) (fun R hR => ?_) (fun _ => rfl) (fun _ => rfl) (fun pw names H3 hF i x hx => ?_) (fun pw names H3 d2 ps2 H4 hF n2 e4 hd2 hpl hpn hpv => ?_)
    · exact el_sortedD (ev_var rfl) (Or.inl hl2.dk) (dk_keys hl2.pl) (by omega) pn2 sz H2 (Ex.refl H2) R fun p H3 n e h => hR p _ H3 ⟨rfl, e⟩ h (pn2.nodup_iff.mpr vl.wk.2.2.1) (by rw [List.length_map]; omega)
    · obtain ⟨rfl, e3⟩ := hF
      obtain ⟨k, p, es, as, g1, g2, g3, g4, g5, g6⟩ := logAt (pn2.mem_iff.mp (List.mem_of_getElem? hx))
      rw [g6]
      exact el_list (ev_dget (ev_var rfl) (ev_var rfl) (e3 _ _ hl2.dk) (dk_get vl.wk.2.2.1 g1 g2)) (sq_of (e3 _ _ g4))
    · obtain ⟨rfl, e3⟩ := hF
      have E4 := e3.trans e4
      refine k (.ref d2) (d2 :: ps2) H4 (E2.trans E4) ⟨d2, ps2, rfl, rfl, ⟨hd2, hpl, fun i p es h1 h2 => ?_⟩, hpn, vl2⟩
      rw [List.getElem?_map] at h2
      obtain ⟨t, ht, rfl⟩ := Option.map_eq_some_iff.mp h2
      have hx : (zs.map (·.1))[i]? = some t.1 := by rw [List.getElem?_map, ht]; rfl
      obtain ⟨k2, p2, es2, as, g1, g2, g3, g4, g5, g6⟩ := logAt (pn2.mem_iff.mp (List.mem_of_getElem? hx))
      obtain ⟨k3, hk3⟩ := List.mem_iff_getElem?.mp (pz.mem_iff.mp (List.mem_of_getElem? ht))
      rw [List.getElem?_zip_eq_some] at hk3
      have : k2 = k3 := (List.getElem?_inj (List.getElem?_eq_some_iff.mp g1).1 vl.wk.2.2.1).mp (g1.trans hk3.1.symm)
      subst this
      rw [hk3.2] at g3
      cases g3
      have := (hpv i p t.1 h1 hx).2
      rw [g6] at this
      exact ⟨as, this, paired_imp (fun a t z => E4 _ _ z) g5⟩
  | @facts fs =>
    obtain ⟨p0, us, rfl, rfl, h0, pr, ok⟩ := hv
    refine ⟨.ref p0, rfl, Or.inl ⟨p0, us, rfl, Or.inl (sq_of h0), fun p hp => ?_⟩⟩
    have e1 : Ex H (upd H p (.lst us)) := Ex.new hp
    have h1 : (upd H p (.lst us)) p = some (.lst us) := upd_same
    generalize upd H p (.lst us) = H1 at e1 h1
    dsimp only [gName]
    refine q_if (b := false) (et_eqI (x := 1) rfl (by decide)) (fun z => nomatch z) (fun _ H2 e2 => ?_)
    exact k (.ref p) [p] H2 (e1.trans e2) ⟨p, us, rfl, rfl, e2 _ _ h1, pr.tk (tk_ex (e1.trans e2)), ok⟩
  | @run xs =>
    obtain ⟨p0, rfl, rfl, h0, ok⟩ := hv
    refine ⟨.ref p0, rfl, Or.inl ⟨p0, xs.map V.str, rfl, Or.inl (sq_of h0), fun p hp => ?_⟩⟩
    have e1 : Ex H (upd H p (.lst (xs.map V.str))) := Ex.new hp
    have h1 : (upd H p (.lst (xs.map V.str))) p = some (.lst (xs.map V.str)) := upd_same
    generalize upd H p (.lst (xs.map V.str)) = H1 at e1 h1
    dsimp only [gName]
    refine q_if (b := false) (et_eqI (x := 2) rfl (by decide)) (fun z => nomatch z) (fun _ H2 e2 => ?_)
    exact k (.ref p) [p] H2 (e1.trans e2) ⟨p, rfl, rfl, e2 _ _ h1, ok⟩
/-- what was read is changed, and emptied -/
theorem q_wreck {K : PySem.W.Frag} {tz : TS} {D : Ends} {H : Hp} {c : Vl} {t1 pg : V} {as1 : List Addr} {pt : Addr} {x : Int} {a1 a2 a3 a4 a6 a7 a8 : Option V} (hx : x = c.door) (h1 : VAt H t1 c as1) (hp : H pt = some (.lst [pg, t1])) (hn : pt ∉ as1)
    (k : ∀ b7 H', KA as1 H H' → tz D [some (.int x), a1, a2, a3, a4, some (.ref pt), a6, b7, a8] H') :
    tSeq (tIfS (tTest (tOp rEq (tVar 0) (tC (.int 0)))) (tLock (tFor (iKeys (tOp (rIxL K) (tVar 5) (tC (.int 1)))) (gName 7) (tDrop (tBM K "list" rAppend (tDGet (tOp (rIxL K) (tVar 5) (tC (.int 1))) (tVar 7)) (tCons (tTup (tCons (tC (.str "size")) (tCons (tC (.int 0)) tNil))) tNil))))) tNext) (tSeq (tDrop (tClearLD K (tOp (rIxL K) (tVar 5) (tC (.int 1))))) tz) D [some (.int x), a1, a2, a3, a4, some (.ref pt), a6, a7, a8] H := by
  subst hx
  have ix : ∀ {b7 : Option V} {H' : Hp}, H' pt = some (.lst [pg, t1]) → Ev (tOp (rIxL K) (tVar 5) (tC (.int 1))) [some (.int c.door), a1, a2, a3, a4, some (.ref pt), a6, b7, a8] H' t1 := fun h => ev_op (ev_var rfl) ev_c (rv_ixL (sq_of h) (atI_nat (j := 1) rfl))
  cases c with
  | logs ws L =>
    obtain ⟨d, ps, rfl, rfl, hl, pn, vl⟩ := h1
    have nd : pt ≠ d := fun z => hn (by rw [z]; simp)
    refine q_if (b := true) (et_eqI (x := 0) rfl (by decide)) (fun _ H1 e1 => ?_) (fun z => nomatch z)
    have hl1 := hl.ex e1
    have hp1 := e1 _ _ hp
    refine s_forDkE (kvs := Dk ws ps) hl1.dk (fun od => ix (by rw [upd_ne nd]; exact hp1)) (fun i σ' H' => (∃ b7, σ' = [some (.int 0), a1, a2, a3, a4, some (.ref pt), a6, b7, a8]) ∧ KA (d :: ps) H1 H' ∧ ∀ (j : Nat) p, ps[j]? = some p → ∃ xs, H' p = some (.lst xs) ∧ xs.length ≤ 60 + i) (fun od H2 e2 => ⟨⟨_, rfl⟩, fun b o n h => e2 _ _ (by rw [upd_ne (fun z => n (by rw [z]; simp))]; exact h), fun j p hj => ?_⟩) (fun od D' i k0 v0 σ' H2 hk hf pv nx => ?_) (fun od σ' H2 hf pv => ?_)
    · obtain ⟨es, he⟩ : ∃ es, L[j]? = some es := ⟨_, List.getElem?_eq_getElem (by rw [vl.len, ← hl.pl]; exact (List.getElem?_eq_some_iff.mp hj).1)⟩
      obtain ⟨bs, hb, pb⟩ := hl1.lg j p es hj he
      have np : p ≠ d := fun z => by rw [z, hl1.dk] at hb; cases hb
      refine ⟨_, e2 _ _ (by rw [upd_ne np]; exact hb), ?_⟩
      have := (vl.ent es (List.mem_of_getElem? he)).1
      rw [List.length_map, pb.length, List.length_map]
      omega
    · obtain ⟨⟨b7, rfl⟩, ka, hps⟩ := pv
      obtain ⟨x, p, g1, g2, rfl, rfl⟩ := dk_at hk
      obtain ⟨xs, hxs, xl⟩ := hps i p g2
      have hp2 := ka pt _ hn hp1
      have i6 : i < 6 := by
        have h6 := vl.wk.2.1
        have := (List.getElem?_eq_some_iff.mp g1).1
        omega
      refine s_appU (ys := [.str "size", .int 0]) hxs (ev_dgetQ (ix hp2) (ev_var rfl) (Or.inr ⟨od, hf⟩) (dk_get vl.wk.2.2.1 g1 g2)) (eu_tup (ea_cons ev_c (ea_cons ev_c ea_nil)) (by show 2 ≤ 100000; decide)) (by omega) fun t H3 nt e3 ht => ?_
      have hxs3 := e3 _ _ hxs
      have npd : d ≠ p := fun z => by rw [← z, hf] at hxs; cases hxs
      refine nx _ _ (by rw [upd_ne npd]; exact e3 _ _ hf) ⟨⟨_, rfl⟩, fun b o n h => ?_, fun j r hj => ?_⟩
      · rw [upd_ne (fun z => n (by rw [z]; exact List.mem_cons_of_mem _ (List.mem_of_getElem? g2)))]
        exact e3 _ _ (ka b o n h)
      · by_cases z : r = p
        · rw [z, upd_same]
          exact ⟨_, rfl, by rw [List.length_append]; show xs.length + 1 ≤ _; omega⟩
        · obtain ⟨ys, hy, yl⟩ := hps j r hj
          exact ⟨ys, by rw [upd_ne z]; exact e3 _ _ hy, by omega⟩
    · obtain ⟨⟨b7, rfl⟩, ka, hps⟩ := pv
      have hp3 : (upd H2 d (.dK (Dk ws ps))) pt = some (.lst [pg, .ref d]) := by rw [upd_ne nd]; exact ka pt _ hn hp1
      refine Or.inr (ix hp3 _ (Ex.refl _) _ fun H4 e4 => ?_)
      have hd4 : H4 d = some (.dK (Dk ws ps)) := e4 _ _ upd_same
      refine ⟨Or.inr (Or.inr (Or.inl ⟨rfl, Or.inl ⟨_, hd4⟩⟩)), d, _, rfl, rfl, hd4, k b7 _ fun b o n h => ?_⟩
      have nb : b ≠ d := fun z => n (by rw [z]; simp)
      rw [upd_ne nb]
      exact e4 _ _ (by rw [upd_ne nb]; exact ka b o n (e1 _ _ h))
  | facts fs =>
    obtain ⟨p, us, rfl, rfl, hh, pr, ok⟩ := h1
    refine q_if (b := false) (et_eqI (x := 1) rfl (by decide)) (fun z => nomatch z) (fun _ H1 e1 => ?_)
    refine Or.inl (ix (e1 _ _ hp) _ (Ex.refl _) _ fun H4 e4 => ?_)
    have h4 := e4 _ _ (e1 _ _ hh)
    refine ⟨Or.inl ⟨rfl, _, sq_of h4⟩, p, _, rfl, rfl, h4, k a7 _ fun b o n h => ?_⟩
    rw [upd_ne (fun z => n (by rw [z]; simp))]
    exact e4 _ _ (e1 _ _ h)
  | run xs =>
    obtain ⟨p, rfl, rfl, hh, ok⟩ := h1
    refine q_if (b := false) (et_eqI (x := 2) rfl (by decide)) (fun z => nomatch z) (fun _ H1 e1 => ?_)
    refine Or.inl (ix (e1 _ _ hp) _ (Ex.refl _) _ fun H4 e4 => ?_)
    have h4 := e4 _ _ (e1 _ _ hh)
    refine ⟨Or.inl ⟨rfl, _, sq_of h4⟩, p, _, rfl, rfl, h4, k a7 _ fun b o n h => ?_⟩
    rw [upd_ne (fun z => n (by rw [z]; simp))]
    exact e4 _ _ (e1 _ _ h)
end Vx

set_option Elab.async false
set_option linter.all false
set_option maxRecDepth 100000
set_option maxHeartbeats 8000000
namespace Vx
open PySem PySem.Spec PyProof.Rows L2 Evl
theorem lc_keys {d : Addr} {od : Obj} {kvs : List (Key × V)} {g : TG} {tt : TT} {te : TE} {vs : List Nat} {σ : L2.St} {H1 : Hp} {D : Addr} {Qd : Hp → Prop} (Pv : Nat → Hp → Prop) (h0 : Pv 0 (upd H1 D (.lst []))) (hf : ∀ i H, i ≤ kvs.length → Pv i H → H d = some (.frz od (.dK kvs)))
    (hs : ∀ i k v H, kvs[i]? = some (k, v) → Pv i H → g (kV k) (wipe σ vs) H fun σ2 H2 => wipe σ2 vs = wipe σ vs ∧ tt σ2 H2 fun b H3 => if b = true then te σ2 H3 fun y H4 => ∃ acc, H4 D = some (.lst acc) ∧ acc.length < sizeLine ∧ Pv (i + 1) (upd H4 D (.lst (acc ++ [y]))) else Pv (i + 1) H3) (hd : ∀ H, Pv kvs.length H → Qd H) :
    ∃ W : Nat → Nat → Hp → Prop, (∃ m, W 0 m (upd H1 D (.lst []))) ∧ ∀ i m H, W i m H → ((Itk d od kvs).stop i H ∧ Qd H) ∨ ((Itk d od kvs).go i H ∧ ∃ Nx : Hp → Prop, (∀ H', Nx H' → ∃ m', m' < m ∧ W (i + 1) m' H') ∧ ∀ x H', (Itk d od kvs).yld i H x H' → g x (wipe σ vs) H' fun σ2 H2 => wipe σ2 vs = wipe σ vs ∧ tt σ2 H2 fun b H3 =>
      if b = true then te σ2 H3 fun y H4 => ∃ acc, H4 D = some (.lst acc) ∧ acc.length < sizeLine ∧ Nx (upd H4 D (.lst (acc ++ [y]))) else Nx H3) := by
  refine ⟨fun i m H => m = kvs.length - i ∧ i ≤ kvs.length ∧ Pv i H, ⟨kvs.length, rfl, Nat.zero_le _, h0⟩, ?_⟩
  rintro i m H ⟨rfl, hi, p⟩
  have q := hf i H hi p
  rcases Nat.lt_or_ge i kvs.length with hlt | hge
  · refine .inr ⟨⟨q, hlt⟩, Pv (i + 1), fun H' p' => ⟨kvs.length - (i + 1), by omega, rfl, hlt, p'⟩, fun x H' y => ?_⟩
    obtain ⟨rfl, k, v, hkv, rfl⟩ := y
    exact hs i k v _ hkv p
  · have : i = kvs.length := by omega
    subst this
    exact .inl ⟨⟨q, Nat.le_refl _⟩, hd H p⟩
theorem dk_put {ws : List Str} {ps : List Addr} {i : Nat} {k : Key} {v : V} (h : (Dk ws ps)[i]? = some (k, v)) : ∃ x, ws[i]? = some x ∧ k = .inr x := by
  obtain ⟨x, p, a, _, b, _⟩ := dk_at h
  exact ⟨x, a, b⟩
theorem ev_rowsKC {K : PySem.W.Frag} {σ : L2.St} {H : Hp} {tl te2 : TE} {j : Nat} {vs : List Nat} {d : Addr} {ws : List Str} {ps : List Addr} {Q : VK} (C : Nat → List V) (hte : ∀ H', Ev tl σ H' (.ref d)) (hdd : H d = some (.dK (Dk ws ps))) (pl : ps.length = ws.length) (hl : ws.length ≤ 1000) (nd : ws.Nodup)
    (hj : ∀ x, ((wipe σ vs).set j (some x))[j]? = some (some x)) (hwp : ∀ x, wipe ((wipe σ vs).set j (some x)) vs = wipe σ vs)
    (he : ∀ od H1, Ex (upd H d (.frz od (.dK (Dk ws ps)))) H1 → ∀ (i : Nat) x, ws[i]? = some x → EvL te2 ((wipe σ vs).set j (some (.str x))) H1 (C i))
    (q : ∀ f qs H2, H f = none → Ex H H2 → H2 f = some (.dK (Dk ws qs)) → qs.length = ws.length → qs.Nodup → (∀ (i : Nat) p, qs[i]? = some p → H p = none ∧ H2 p = some (.lst (C i))) → Q (.ref f) H2) :
    tCB (rDictP K) (tCons (tLockE (tLc (iKeys tl) (gName j) tYes (tTup (tCons (tVar j) (tCons te2 tNil))) vs)) tNil) σ H Q := by
  refine ⟨d, .dK (Dk ws ps), hdd, trivial, fun od => hte _ _ (Ex.refl _) _ fun H1 e1 => ⟨d, od, rfl, Or.inl ⟨_, e1 _ _ upd_same, fun Dl hD => ?_⟩⟩⟩
  have fz : H1 d = some (.frz od (.dK (Dk ws ps))) := e1 _ _ upd_same
  have old : ∀ b o, b ≠ d → H b = some o → H1 b = some o := fun b o n h => e1 _ _ (by rw [upd_ne n]; exact h)
  have dl : (Dk ws ps).length = ws.length := dk_len pl
  refine lc_keys (kvs := Dk ws ps) (fun i H' => Ex H1 H' ∧ ∃ as rs : List Addr, H' Dl = some (.lst (as.map V.ref)) ∧ as.length = i ∧ rs.length = i ∧ rs.Nodup ∧ (∀ (k : Nat) p, rs[k]? = some p → H1 p = none ∧ p ≠ Dl ∧ H' p = some (.lst (C k))) ∧ Paired (fun a (x : Key × V) => H' a = some (.tup [kV x.1, x.2])) as (Dk (ws.take i) rs))
    ⟨Ex.new hD, [], [], upd_same, rfl, rfl, List.nodup_nil, fun _ _ z => (by simp at z), by simpa [Dk] using Paired.nil⟩ (fun i H' _ p => p.1 _ _ fz) (fun i k v H' hkv p => ?_) (fun H' p => ?_)
  · obtain ⟨e2, as, rs, ha, hlen, n1, n2, n3, hp⟩ := p
    obtain ⟨z, hz, rfl⟩ := dk_put hkv
    have hi : i < ws.length := (List.getElem?_eq_some_iff.mp hz).1
    refine ⟨hwp _, ?_⟩
    refine ⟨_, hj _, he od H1 e1 i z hz H' e2 _ fun p0 H3 hp0 e3 h3 => ⟨(by show 2 ≤ sizeLine; decide), fun t ht => ⟨as.map V.ref, ?_, ?_, ?_⟩⟩⟩
    all_goals have n0 : Dl ≠ p0 := ne_of_none ha hp0
    all_goals have n4 : Dl ≠ t := ne_of_none (e3 _ _ ha) ht
    · rw [upd_ne n4]
      exact e3 _ _ ha
    · rw [List.length_map]
      exact sz_lt (by omega)
    · have n5 : p0 ≠ t := ne_of_none h3 ht
      have tk : TK H' (upd (upd H3 t (.tup [.str z, .ref p0])) Dl (.lst (as.map V.ref ++ [.ref t]))) := ((tk_ex e3).trans (tk_new ht)).trans (tk_upd (by rw [upd_ne n4]; exact e3 _ _ ha))
      refine ⟨Ex.mut ((e2.trans e3).trans (Ex.new ht)) hD, as ++ [t], rs ++ [p0], by rw [upd_same, List.map_append]; rfl, by rw [List.length_append, hlen]; rfl, by rw [List.length_append, n1]; rfl, ?_, ?_, ?_⟩
      · refine List.nodup_append.mpr ⟨n2, by simp, fun a h1 b h2 e => ?_⟩
        have : b = p0 := by simpa using h2
        subst this e
        obtain ⟨k, hk⟩ := List.mem_iff_getElem?.mp h1
        have := (n3 k _ hk).2.2
        rw [hp0] at this
        cases this
      · intro k p hk
        by_cases hkl : k < rs.length
        · rw [List.getElem?_append_left hkl] at hk
          obtain ⟨g1, g2, g3⟩ := n3 k p hk
          have g4 := e3 _ _ g3
          refine ⟨g1, g2, ?_⟩
          rw [upd_ne g2, upd_ne (ne_of_none g4 ht)]
          exact g4
        · rw [List.getElem?_append_right (by omega)] at hk
          have hz0 : k - rs.length = 0 := by
            have := (List.getElem?_eq_some_iff.mp hk).1
            simp at this
            omega
          rw [hz0] at hk
          have hp2 : p0 = p := by simpa using hk
          subst hp2
          have hki : k = i := by omega
          subst hki
          refine ⟨fresh_back e2 hp0, n0.symm, ?_⟩
          rw [upd_ne n0.symm, upd_ne n5]
          exact h3
      · have e5 : Dk (ws.take (i + 1)) (rs ++ [p0]) = Dk (ws.take i) rs ++ [(.inr z, .ref p0)] := by
          have : ws.take (i + 1) = ws.take i ++ [z] := by
            rw [List.take_add_one, hz]
            rfl
          rw [this]
          exact dk_snoc (by rw [List.length_take, n1]; omega)
        rw [e5]
        refine Paired.snoc (paired_imp (fun a x z => tk _ _ z) hp) ?_
        rw [upd_ne n4.symm, upd_same]
  · obtain ⟨e2, as, rs, ha, hlen, n1, n2, n3, hp⟩ := p
    rw [dl] at n1
    rw [dl, List.take_length] at hp
    have fz2 := e2 _ _ fz
    refine ⟨fz2, ?_⟩
    have nD : Dl ≠ d := fun z => by rw [z, fz] at hD; cases hD
    have tk : ∀ b o, b ≠ d → H' b = some o → (upd H' d (.dK (Dk ws ps))) b = some o := fun b o n h => by rw [upd_ne n]; exact h
    have EX : Ex H (upd H' d (.dK (Dk ws ps))) := fun b o h => by
      by_cases z : b = d
      · rw [z, hdd] at h
        rw [z, upd_same]
        exact h
      · exact tk b o z (e2 _ _ (old b o z h))
    refine ⟨Dl, as, Dk ws rs, rfl, sq_of (tk _ _ nD ha), paired_imp (fun a x z => st_of (tk _ _ (fun e => by rw [e, fz2] at z; cases z) z)) hp, fun f hf => ?_⟩
    rw [merge_dk n1 nd]
    refine q f rs _ (fresh_back EX hf) (EX.trans (Ex.new hf)) upd_same n1 n2 fun i p h1 => ?_
    obtain ⟨g1, _, g3⟩ := n3 i p h1
    have npd : p ≠ d := fun e => by rw [e, fz] at g1; cases g1
    have h3 := tk _ _ npd g3
    refine ⟨?_, by rw [upd_ne (ne_of_none h3 hf)]; exact h3⟩
    cases hh : H p with
    | none => rfl
    | some o =>
      have := old p o npd hh
      rw [g1] at this
      cases this
def lawScope (b : List Stmt) (outer : Scope) : Scope := match b with
  | .For _ _ (_ :: .For _ _ (.For _ _ (_ :: _ :: _ :: .If _ (_ :: .Assign _ (.Call _ [.ListComp _ _ sc _] _ _) _ :: _) _ _ :: _) _ _ :: _) _ _ :: _) _ _ :: _ => { sc with names := sc.names.map fun (n, k) => if (k == NameKind.free && outer.kind == .function && outer.names.lookup n == some .cell) then (n, NameKind.cell) else (n, k) }
  | _ => outer
theorem op_eqVK {X : Cx} {K : PySem.W.Frag} (hK : X.K = K) (hu : X.A.units + 64 < cLine) : OpR X (compareOp .Eq) (rEqV K) := by
  subst hK
  exact op_eqV hu
def spLaw (K : PySem.W.Frag) : Sp := fun vs H Q _ => ∃ (a : Addr) (ns : List Int), vs = [.ref a] ∧ SqL K H a (ns.map V.int) ∧ ns.length ≤ 63 ∧ ∀ H', Q (.bl true) H'
end Vx

set_option Elab.async false
set_option linter.all false
set_option maxRecDepth 100000
set_option maxHeartbeats 8000000
namespace Vx
open PySem PySem.Spec PyProof.Rows L2 Evl
def En.isSz (e : En) : Bool := decide (V.str e.hd = V.str "size")
theorem isSz_is {e : En} (h : e.isSz = true) : ∃ k, e = .size k := by
  have no : decide (V.str "push" = V.str "size") = false ∧ decide (V.str "pop" = V.str "size") = false ∧ decide (V.str "steal" = V.str "size") = false := by decide +kernel
  cases e with
  | push x => exact absurd (no.1.symm.trans h) (by decide)
  | pop x => exact absurd (no.2.1.symm.trans h) (by decide)
  | size k => exact ⟨k, rfl⟩
  | steal o x => exact absurd (no.2.2.symm.trans h) (by decide)
theorem Vlog.sizes {ws : List Str} {L : List (List En)} (wk : WkOk ws) (len : L.length = ws.length) (ent : ∀ es ∈ L, es.length ≤ 60 ∧ ∀ e ∈ es, e.ok) (sz : ∀ es ∈ L, ∀ e ∈ es, ∃ k, e = .size k) : Vlog 60 ws L := by
  have nop : ∀ es ∈ L, pus es = [] := fun es he => by
    refine List.eq_nil_iff_forall_not_mem.mpr fun x hx => ?_
    unfold pus at hx
    obtain ⟨e, h1, h2⟩ := List.mem_flatMap.mp hx
    obtain ⟨k, rfl⟩ := sz es he e h1
    cases h2
  have nor : ∀ es ∈ L, res es = [] := fun es he => by
    refine List.eq_nil_iff_forall_not_mem.mpr fun x hx => ?_
    unfold res at hx
    obtain ⟨e, h1, h2⟩ := List.mem_flatMap.mp hx
    obtain ⟨k, rfl⟩ := sz es he e h1
    cases h2
  refine ⟨wk, len, ent, ?_, ?_, fun i es j x h1 h2 => ?_, fun i es w o x h1 h2 h3 => ?_⟩
  · rw [List.flatMap_eq_nil_iff.mpr nop]
    exact List.nodup_nil
  · rw [List.flatMap_eq_nil_iff.mpr nor]
    exact List.nodup_nil
  · obtain ⟨k, hk⟩ := sz es (List.mem_of_getElem? h1) _ (List.mem_of_getElem? h2)
    cases hk
  · obtain ⟨k, hk⟩ := sz es (List.mem_of_getElem? h1) _ h3
    cases hk
theorem paired_filter {H : Hp} {g : En → Bool} : ∀ {as : List Addr} {es : List En}, Paired (fun a t => H a = some (.tup t)) as (es.map En.vs) → Paired (fun a t => H a = some (.tup t)) (((as.zip es).filter fun z => g z.2).map (·.1)) ((es.filter g).map En.vs)
  | [], [], _ => .nil
  | a :: as, e :: es, .cons h t => by
    have ih := paired_filter (g := g) t
    rw [List.zip_cons_cons, List.filter_cons, List.filter_cons]
    cases g e with
    | true => exact .cons h ih
    | false => exact ih
theorem ev_neF {K : PySem.W.Frag} {σ : L2.St} {H : Hp} {te : TE} {p : Addr} {us : List V} {fs : List Pr2} (h : Ev te σ H (.ref p)) (hp : H p = some (.lst us)) (pr : PrsA H us fs) (ok : FsOk fs) : Ev (tOp (rNeD K) te (tLst tNil)) σ H (.bl (!fs.isEmpty)) :=
  ev_opL h (el_lst ea_nil (by decide)) fun r H1 h1 e1 H2 e2 Q q2 => by
    have pr2 := pr.tk (tk_ex (e1.trans e2))
    have st : ∀ {z : Pl2}, PlOk z → PyData.canLay0 (plD2 z) = true := fun hz => by
      simp only [plD2, PyData.canLay0, PyData.canLayAll0, hz.1.strOk, Bool.and_self]
    have sp : ∀ {a : Pr2}, FcOk a → PyData.canLay0 (prD2 a) = true := fun ha => by
      simp only [prD2, PyData.canLay0, PyData.canLayAll0, st ha.1.1, st ha.1.2, Bool.and_self]
    have ly : ∀ {fs : List Pr2}, (∀ a ∈ fs, FcOk a) → PyData.canLayAll0 (fs.map prD2) = true := by
      intro fs
      induction fs with
      | nil => exact fun _ => rfl
      | cons a fs ih =>
        intro h
        rw [List.map_cons]
        simp only [PyData.canLayAll0, sp (h a (List.mem_cons_self ..)), ih fun b hb => h b (List.mem_cons_of_mem _ hb), Bool.and_self]
    have dp : (PyData.list (fs.map prD2)).depth ≤ 64 := Nat.le_trans ((sza_all (dp := 2) (w := 430) fun y hy => by
      obtain ⟨a, ha, rfl⟩ := List.mem_map.mp hy
      exact pr_sz (ok.2 a ha)).list).dp (by decide)
    have sh : SeqAt.shaped (.list (fs.map prD2)) = true := by
      unfold SeqAt.shaped
      rw [Bool.and_eq_true]
      refine ⟨?_, decide_eq_true dp⟩
      simp only [PyData.canLay0]
      exact ly ok.2
    refine ⟨.list (fs.map prD2), .list [], .lst (sq_of (e2 _ _ (e1 _ _ hp))) (dpAll_of (by rw [List.length_map, pr.1]) fun i v d g1 g2 => ?_), .lst (sq_of (e2 _ _ h1)) .nil, sh, rfl, ?_⟩
    · rw [List.getElem?_map] at g2
      obtain ⟨a, g3, rfl⟩ := Option.map_eq_some_iff.mp g2
      obtain ⟨p, x, y, rfl, hp, ⟨b, rfl, hb⟩, ⟨c, rfl, hc⟩⟩ := pr2.2 i v a g1 g3
      exact .tup (st_of hp) (.cons (.tup (st_of hb) (.cons (.str _) (.cons (.int _) .nil))) (.cons (.tup (st_of hc) (.cons (.str _) (.cons (.int _) .nil))) .nil))
    · have : PyData.eqv (.list (fs.map prD2)) (.list []) = fs.isEmpty := by
        cases fs with
        | nil => rfl
        | cons a fs => simp [PyData.eqv, PyData.eqvAll]
      rw [this]
      exact q2 H2 (Ex.refl _)
theorem PrsA.dropLast {H : Hp} {us : List V} {fs : List Pr2} (h : PrsA H us fs) : PrsA H us.dropLast fs.dropLast := by
  refine ⟨by rw [List.length_dropLast, List.length_dropLast, h.1], fun i v a h1 h2 => ?_⟩
  have i1 := (List.getElem?_eq_some_iff.mp h1).1
  have i2 := (List.getElem?_eq_some_iff.mp h2).1
  rw [List.length_dropLast] at i1 i2
  rw [List.getElem?_dropLast, if_pos (by omega)] at h1 h2
  exact h.2 i v a h1 h2
theorem s_popL {K : PySem.W.Frag} {ta : TE} {D : Ends} {σ : L2.St} {H : Hp} {l : Addr} {xs : List V} (hl : H l = some (.lst xs)) (hn : xs ≠ []) (ha : Ev ta σ H (.ref l)) (k : ∀ H1, Ex H H1 → D.nx σ (upd H1 l (.lst xs.dropLast))) : tDrop (tBM0 K "list" rPop ta) D σ H := ha H (Ex.refl H) _ fun H1 e1 => by
  have hp : xs.length - 1 < xs.length := by
    have := List.length_pos_iff.mpr hn
    omega
  exact ⟨Or.inl ⟨rfl, _, sq_of (e1 l _ hl)⟩, l, _, xs[xs.length - 1], rfl, rfl, e1 l _ hl, List.getElem?_eq_getElem hp, k H1 e1⟩
/-- a value gets smaller -/
theorem q_shrink {K : PySem.W.Frag} {tz : TS} {D : Ends} {H : Hp} {v : V} {val : Vl} {as : List Addr} {a0 a1 a2 a3 b6 b7 : Option V} (hv : VAt H v val as)
    (k : ∀ v' val' as' H', val'.door = val.door → VAt H' v' val' as' → KA as H H' → tz D [a0, a1, a2, a3, some (.int val.door), some v', b6, b7] H') :
    tSeq (tIfS (tTest (tOp rEq (tVar 4) (tC (.int 0)))) (tSeq (tDrop (tClearLD K (tDGet (tVar 5) (tOp (rIxL K) (tCB (fun xs H Q => ∃ (a : Addr) (kvs : List (Key × V)) (ks : List Str), xs = [.ref a] ∧ Rd H a (.dK kvs) ∧ kvs.map (·.1) = ks.map Sum.inr ∧ ks.length < 64 ∧ ∀ ys p, ys.Perm ks → sortedS ys = true → H p = none → Q (.ref p) (upd H p (.lst (ys.map V.str)))) (tCons (tVar 5) tNil)) (tC (.int 0))))))
        (tAsg (tCB (rDictP K) (tCons (tLockE (tLc (iKeys (tVar 5)) (gName 6) tYes (tTup (tCons (tVar 6) (tCons (tLc (iList K (tDGet (tVar 5) (tVar 6))) (gName 7) (tTest (tOp rEq (tOp (rIxT K) (tVar 7) (tC (.int 0))) (tC (.str "size")))) (tVar 7) [7]) tNil))) [6])) tNil)) (gName 5)))
      (tIfS (tTest (tOp (rNeD K) (tVar 5) (tLst tNil))) (tDrop (tBM0 K "list" rPop (tVar 5))) tNext)) tz D [a0, a1, a2, a3, some (.int val.door), some v, b6, b7] H := by
  cases val with
  | logs ws L =>
    obtain ⟨d, ps, rfl, rfl, hl, pn, vl⟩ := hv
    refine q_if (b := true) (et_eqI (x := 0) rfl (by decide)) (fun _ H1 e1 => ?_) (fun z => nomatch z)
    have hl1 := hl.ex e1
    obtain ⟨zs, hz⟩ := sortz_ex ws L
    have pn2 := hz.names vl.len
    have wk := vl.wk.2.1
    have zl : zs.length = ws.length := by have := pn2.length_eq; rwa [List.length_map] at this
    obtain ⟨x, hx⟩ : ∃ x, (zs.map (·.1))[0]? = some x := ⟨_, List.getElem?_eq_getElem (by rw [List.length_map, zl]; exact vl.wk.1)⟩
    obtain ⟨n, hn⟩ := List.mem_iff_getElem?.mp (pn2.mem_iff.mp (List.mem_of_getElem? hx))
    obtain ⟨pk, hpk⟩ : ∃ pk, ps[n]? = some pk := ⟨_, List.getElem?_eq_getElem (by rw [hl.pl]; exact (List.getElem?_eq_some_iff.mp hn).1)⟩
    obtain ⟨esn, hesn⟩ : ∃ es, L[n]? = some es := ⟨_, List.getElem?_eq_getElem (by rw [vl.len]; exact (List.getElem?_eq_some_iff.mp hn).1)⟩
    have evk : Ev (tDGet (tVar 5) (tOp (rIxL K) (tCB (fun xs H Q => ∃ (a : Addr) (kvs : List (Key × V)) (ks : List Str), xs = [.ref a] ∧ Rd H a (.dK kvs) ∧ kvs.map (·.1) = ks.map Sum.inr ∧ ks.length < 64 ∧ ∀ ys p, ys.Perm ks → sortedS ys = true → H p = none → Q (.ref p) (upd H p (.lst (ys.map V.str)))) (tCons (tVar 5) tNil)) (tC (.int 0)))) [a0, a1, a2, a3, some (.int (Vl.logs ws L).door), some (.ref d), b6, b7] H1 (.ref pk) :=
      ev_dget (ev_var rfl) (ev_opL1 (el_sortedD (ev_var rfl) (Or.inl hl1.dk) (dk_keys hl1.pl) (by omega) pn2 hz.2) (fun _ _ => ev_c) fun p H2 hp _ => rv_ixL (sq_of hp) (atI_nat (j := 0) (by rw [List.getElem?_map, hx]; rfl))) hl1.dk (dk_get vl.wk.2.2.1 hn hpk)
    refine Or.inl (evk H1 (Ex.refl _) _ fun H2 e2 => ?_)
    have hl2 := hl1.ex e2
    obtain ⟨bs, hb, pb⟩ := hl2.lg n pk esn hpk hesn
    refine ⟨Or.inl ⟨rfl, _, sq_of hb⟩, pk, _, rfl, rfl, hb, ?_⟩
    have npd : d ≠ pk := fun z => by rw [← z, hl2.dk] at hb; cases hb
    have tk3 : TK H2 (upd H2 pk (.lst [])) := fun a t w => by rw [upd_ne (fun z => by rw [z, hb] at w; cases w)]; exact w
    have hl3 : HL (upd H2 pk (.lst [])) d ws ps (L.set n []) := ⟨by rw [upd_ne npd]; exact hl2.dk, hl2.pl, fun i p es h1 h2 => by
      rcases set_get h2 with ⟨rfl, rfl⟩ | ⟨ne, h3⟩
      · rw [hpk] at h1
        cases h1
        exact TL.nil upd_same
      · refine (hl2.lg i p es h1 h3).keep tk3 (upd_ne fun z => ne ?_)
        subst z
        exact (List.getElem?_inj (List.getElem?_eq_some_iff.mp h1).1 pn).mp (h1.trans hpk.symm)⟩
    have k3 : KA (d :: ps) H (upd H2 pk (.lst [])) := fun b o nb hb2 => by
      rw [upd_ne (fun z => nb (by rw [z]; exact List.mem_cons_of_mem _ (List.mem_of_getElem? hpk)))]
      exact e2 _ _ (e1 _ _ hb2)
    have ll : (L.set n []).length = ws.length := by rw [List.length_set]; exact vl.len
    have ent : ∀ es ∈ L.set n [], es.length ≤ 60 ∧ ∀ e ∈ es, e.ok := fun es he => by
      obtain ⟨i, hi⟩ := List.mem_iff_getElem?.mp he
      rcases set_get hi with ⟨_, rfl⟩ | ⟨_, h3⟩
      · exact ⟨Nat.zero_le _, fun e h => by cases h⟩
      · exact vl.ent es (List.mem_of_getElem? h3)
    generalize L.set n [] = L3 at hl3 ll ent
    generalize upd H2 pk (.lst []) = H3 at hl3 k3 ⊢
    obtain ⟨A, hA⟩ : ∃ A : Nat → List Addr, ∀ i, ∀ p es, ps[i]? = some p → L3[i]? = some es → H3 p = some (.lst ((A i).map V.ref)) ∧ Paired (fun a t => H3 a = some (.tup t)) (A i) (es.map En.vs) := by
      suffices h : ∀ i : Nat, ∃ as : List Addr, ∀ (p : Addr) (es : List En), ps[i]? = some p → L3[i]? = some es → H3 p = some (.lst (as.map V.ref)) ∧ Paired (fun a t => H3 a = some (.tup t)) as (es.map En.vs) from ⟨fun i => Classical.choose (h i), fun i => Classical.choose_spec (h i)⟩
      intro i
      cases hp : ps[i]? with
      | none => exact ⟨[], fun p es z => by cases z⟩
      | some p =>
        cases he : L3[i]? with
        | none => exact ⟨[], fun p es _ z => by cases z⟩
        | some es =>
          obtain ⟨bs, h1, h2⟩ := hl3.lg i p es hp he
          exact ⟨bs, fun p2 es2 z1 z2 => by
            cases z1
            cases z2
            exact ⟨h1, h2⟩⟩
    refine ev_rowsKC (fun i => (((A i).zip (L3.getD i [])).filter fun z => z.2.isSz).map fun z => V.ref z.1) (fun _ => ev_var rfl) hl3.dk hl3.pl (by omega) vl.wk.2.2.1 (fun _ => rfl) (fun _ => rfl) (fun od H4 e4 i y hy => ?_) (fun f qs H4 nf e4 hf ql qn hq => ?_)
    · obtain ⟨p, hp⟩ : ∃ p, ps[i]? = some p := ⟨_, List.getElem?_eq_getElem (by rw [hl3.pl]; exact (List.getElem?_eq_some_iff.mp hy).1)⟩
      obtain ⟨es, he⟩ : ∃ es, L3[i]? = some es := ⟨_, List.getElem?_eq_getElem (by rw [ll]; exact (List.getElem?_eq_some_iff.mp hy).1)⟩
      obtain ⟨h1, h2⟩ := hA i p es hp he
      have np : p ≠ d := fun z => by rw [z, hl3.dk] at h1; cases h1
      have h1' := e4 _ _ (show (upd H3 d (.frz od (.dK (Dk ws ps)))) p = some _ by rw [upd_ne np]; exact h1)
      have h2' : Paired (fun a t => H4 a = some (.tup t)) (A i) (es.map En.vs) := paired_imp (fun a t z => e4 _ _ (by rw [upd_ne (fun y => by rw [y, hl3.dk] at z; cases z)]; exact z)) h2
      have al : (A i).length = es.length := by rw [h2.length, List.length_map]
      have e60 := (ent es (List.mem_of_getElem? he)).1
      have zl2 : ((A i).zip es).length = (A i).length := by rw [List.length_zip, al, Nat.min_self]
      have gD : L3.getD i [] = es := getD_at he
      have at_ : ∀ (j : Nat) x, ((A i).map V.ref)[j]? = some x → ∃ a e, x = .ref a ∧ (A i)[j]? = some a ∧ es[j]? = some e ∧ H4 a = some (.tup e.vs) ∧ ((A i).zip es).getD j (0, .push "") = (a, e) := fun j x hj => by
        rw [List.getElem?_map] at hj
        obtain ⟨a, ha, rfl⟩ := Option.map_eq_some_iff.mp hj
        obtain ⟨e, hee⟩ : ∃ e, es[j]? = some e := ⟨_, List.getElem?_eq_getElem (by rw [← al]; exact (List.getElem?_eq_some_iff.mp ha).1)⟩
        obtain ⟨a2, g1, g2⟩ := paired_get h2' (i := j) (by rw [List.getElem?_map, hee]; rfl)
        rw [ha] at g1
        cases g1
        exact ⟨a, e, rfl, ha, hee, g2, getD_at (by rw [List.getElem?_zip_eq_some]; exact ⟨ha, hee⟩)⟩
      rw [gD, ← given_list ((A i).zip es) (0, .push "") (fun z => z.2.isSz) (fun z => V.ref z.1), zl2, ← List.length_map (f := V.ref)]
      refine el_lcG (a := p) (xs := (A i).map V.ref) (fun j => (((A i).zip es).getD j (0, .push "")).2.isSz) (fun j => V.ref (((A i).zip es).getD j (0, .push "")).1) (fun j => [a0, a1, a2, a3, some (.int (Vl.logs ws L).door), some (.ref d), some (.str y), ((A i).map V.ref)[j]?]) (ev_dgetQ (ev_var rfl) (ev_var rfl) (Or.inr ⟨od, e4 _ _ upd_same⟩) (dk_get vl.wk.2.2.1 hy hp)) (sq_of h1') (by rw [List.length_map]; omega) (fun j x hj => ?_) (fun j x hj => ?_) (fun j x hj hf => ?_)
      · rw [hj]
        exact ⟨rfl, fun H5 e5 Q' q' => q' H5 (Ex.refl _)⟩
      · obtain ⟨a, e, rfl, g1, g2, g3, g4⟩ := at_ j x hj
        rw [hj, g4]
        exact et_test (ev_op (ev_op (ev_var rfl) ev_c (rv_ixT (st_of g3) e.at0)) ev_c (rv_eq rfl))
      · obtain ⟨a, e, rfl, g1, g2, g3, g4⟩ := at_ j x hj
        rw [hj, g4]
        exact ev_var rfl
    · refine k (.ref f) (.logs ws (L3.map fun es => es.filter En.isSz)) (f :: qs) H4 rfl ⟨f, qs, rfl, rfl, ⟨hf, ql, fun i q es h1 h2 => ?_⟩, qn, Vlog.sizes vl.wk (by rw [List.length_map]; exact ll) (fun es he => ?_) (fun es he e hee => ?_)⟩ fun b o nb hb2 => e4 _ _ (k3 b o nb hb2)
      · rw [List.getElem?_map] at h2
        obtain ⟨es0, he, rfl⟩ := Option.map_eq_some_iff.mp h2
        obtain ⟨p, hp⟩ : ∃ p, ps[i]? = some p := ⟨_, List.getElem?_eq_getElem (by rw [hl3.pl, ← ql]; exact (List.getElem?_eq_some_iff.mp h1).1)⟩
        obtain ⟨g1, g2⟩ := hA i p es0 hp he
        have := (hq i q h1).2
        rw [getD_at he] at this
        refine ⟨(((A i).zip es0).filter fun z => z.2.isSz).map (·.1), by rw [this, List.map_map]; rfl, paired_imp (fun a t z => e4 _ _ z) (paired_filter g2)⟩
      · obtain ⟨es0, h0, rfl⟩ := List.mem_map.mp he
        have := ent es0 h0
        exact ⟨Nat.le_trans (List.length_filter_le _ _) this.1, fun e h => this.2 e (List.mem_filter.mp h).1⟩
      · obtain ⟨es0, h0, rfl⟩ := List.mem_map.mp he
        exact isSz_is (List.mem_filter.mp hee).2
  | facts fs =>
    obtain ⟨p, us, rfl, rfl, hp, pr, ok⟩ := hv
    refine q_if (b := false) (et_eqI (x := 1) rfl (by decide)) (fun z => nomatch z) (fun _ H1 e1 => ?_)
    have hp1 := e1 _ _ hp
    refine s_if (b := !fs.isEmpty) (et_test (ev_neF (ev_var rfl) hp1 (pr.tk (tk_ex e1)) ok)) (fun hb H2 e2 => ?_) (fun hb H2 e2 => ?_)
    · have hne : fs ≠ [] := fun z => by rw [z] at hb; cases hb
      have une : us ≠ [] := fun z => hne (List.length_eq_zero_iff.mp (by rw [← pr.1, z]; rfl))
      refine s_popL (e2 _ _ hp1) une (ev_var rfl) fun H3 e3 => ?_
      have hp3 := e3 _ _ (e2 _ _ hp1)
      refine k (.ref p) (.facts fs.dropLast) [p] _ rfl ⟨p, _, rfl, rfl, upd_same, (pr.tk (((tk_ex (e1.trans e2)).trans (tk_ex e3)).trans (tk_upd hp3))).dropLast, by rw [List.length_dropLast]; have := ok.1; omega, fun a ha => ok.2 a ((List.dropLast_sublist _).subset ha)⟩ fun b o nb hb2 => ?_
      rw [upd_ne (fun z => nb (by rw [z]; simp))]
      exact e3 _ _ (e2 _ _ (e1 _ _ hb2))
    · exact k (.ref p) (.facts fs) [p] H2 rfl ⟨p, us, rfl, rfl, e2 _ _ hp1, pr.tk (tk_ex (e1.trans e2)), ok⟩ fun b o nb hb2 => e2 _ _ (e1 _ _ hb2)
  | run xs =>
    obtain ⟨p, rfl, rfl, hp, ok⟩ := hv
    refine q_if (b := false) (et_eqI (x := 2) rfl (by decide)) (fun z => nomatch z) (fun _ H1 e1 => ?_)
    have hp1 := e1 _ _ hp
    refine s_if (b := !decide (xs = [])) (et_test (ev_neE (ev_var rfl) hp1 ok.2)) (fun hb H2 e2 => ?_) (fun hb H2 e2 => ?_)
    · have hne : xs ≠ [] := fun z => by rw [decide_eq_true z] at hb; cases hb
      refine s_popL (e2 _ _ hp1) (by simpa using hne) (ev_var rfl) fun H3 e3 => ?_
      refine k (.ref p) (.run xs.dropLast) [p] _ rfl ⟨p, rfl, rfl, by rw [upd_same, List.map_dropLast], by rw [List.length_dropLast]; have := ok.1; omega, fun a ha => ok.2 a ((List.dropLast_sublist _).subset ha)⟩ fun b o nb hb2 => ?_
      rw [upd_ne (fun z => nb (by rw [z]; simp))]
      exact e3 _ _ (e2 _ _ (e1 _ _ hb2))
    · exact k (.ref p) (.run xs) [p] H2 rfl ⟨p, rfl, rfl, e2 _ _ hp1, ok⟩ fun b o nb hb2 => e2 _ _ (e1 _ _ hb2)
end Vx

set_option Elab.async false
set_option linter.all false
set_option maxRecDepth 100000
set_option maxHeartbeats 8000000
namespace Vx
open PySem PySem.Spec PyProof.Rows L2 Evl
/-! != of dicts whose values are data; list.remove of data -/
def rNeDV (K : PySem.W.Frag) : R2 := fun x y H Q => ∃ a b ks ls, x = .ref a ∧ y = .ref b ∧ H a = some (.dK ks) ∧ H b = some (.dK ls) ∧ ks.length = ls.length ∧ (∀ p ∈ ks, ∃ u d, valV ls p.1 = some u ∧ Dp K H p.2 d ∧ Dp K H u d ∧ d.canLay0 = true ∧ d.depth ≤ 8) ∧ Q (.bl false) H
section
variable {X : Cx} {K : PySem.W.Frag} {pins : List (Addr × Obj)} {σ : L2.St} {H : Hp} {s : Shared}
theorem hits_dp (I : L2.Inv X pins σ H s) (hu : X.A.units + 64 < cLine) {ls : List (Key × V)} {vb : List (Key × Value)} (rb : KV ls vb) {ks : List (Key × V)} {va : List (Key × Value)} (ra : KV ks va) :
    (∀ p ∈ ks, ∃ u d, valV ls p.1 = some u ∧ Dp X.K H p.2 d ∧ Dp X.K H u d ∧ d.canLay0 = true ∧ d.depth ≤ 8) → PySem.W.KeqHits X.A.in1 s vb va true := by
  unfold KV at ra
  induction ra with
  | nil => exact fun _ => PySem.W.KeqHits.nil
  | @cons p q ps qs h t ih =>
    intro hp
    have rest := ih fun r hr => hp r (List.mem_cons_of_mem _ hr)
    obtain ⟨key, val⟩ := q
    obtain ⟨hkey, hval⟩ := h
    obtain ⟨u, d, hu1, d1, d2, ly, dp⟩ := hp p (List.mem_cons_self ..)
    have hkey : p.1 = key := hkey
    have rel : RelO (some u) (valueAt vb p.1) := hu1 ▸ rb.val p.1
    obtain ⟨y, hy, ry⟩ := rel.some_of
    rw [hkey] at hy
    obtain ⟨as, r1⟩ := Dp.reads I d _ _ d1 hval
    obtain ⟨bs, r2⟩ := Dp.reads I d _ _ d2 ry
    have eq := SeqAt.eqAt_reads d d X.A.in1 s val y as bs r1 r2 ly ly (by show X.A.units + 1 + min d.depth d.depth < cLine; omega)
    rw [SeqAt.eqv_refl d ly] at eq
    exact PySem.W.KeqHits.hit hy eq rest
theorem op_neDV (hK : X.K = K) (hu : X.A.units + 64 < cLine) : OpR X (compareOp .NotEq) (rNeDV K) := by
  subst hK
  intro pins s σ H x y v u Q I rx ry h
  obtain ⟨a, b, ks, ls, rfl, rfl, ea, eb, hlen, hp, q⟩ := h
  obtain rfl : v = Value.ref a := rx
  obtain rfl : u = Value.ref b := ry
  have oa : ObjOk X.prog X.w H s.heap a (.dK ks) := I.hok a _ ea
  have ob : ObjOk X.prog X.w H s.heap b (.dK ls) := I.hok b _ eb
  obtain ⟨_, na, va, ka, da⟩ := oa
  obtain ⟨_, nb, vb, kb, db⟩ := ob
  have sameLen : va.length = vb.length := ka.length.symm.trans (hlen.trans kb.length)
  refine PySem.W.keq_ne (r := true) (knd := mixKind X.prog X.w) na nb da db (by omega) (fun _ => hits_dp I hu kb ka hp) ⟨.bl false, H, I, ?_, q⟩
  show Value.bool _ = Value.bool false
  simp [sameLen]
/-- != of two lists of data, or of two dicts -/
def rNeLD (K : PySem.W.Frag) : R2 := fun x y H Q => rNeD K x y H Q ∨ rNeDV K x y H Q
theorem op_neLD (hK : X.K = K) (hu : X.A.units + 64 < cLine) : OpR X (compareOp .NotEq) (rNeLD K) := by
  intro pins s σ H x y v u Q I rx ry h
  rcases h with h | h
  · subst hK
    exact op_neD hu pins s σ H x y v u Q I rx ry h
  · exact op_neDV hK hu pins s σ H x y v u Q I rx ry h
/-- xs.remove(y), the first item equal to y -/
def rRemD (K : PySem.W.Frag) : V → List V → Hp → VK → Prop := fun x vs H Q => ∃ (l : Addr) (y : V) (d : PyData) (ds : List PyData) (xs : List V) (j : Nat), x = .ref l ∧ vs = [y] ∧ H l = some (.lst xs) ∧ DpAll K H xs ds ∧ Dp K H y d ∧ PyData.canLayAll0 ds = true ∧ d.canLay0 = true ∧ d.depth ≤ 8 ∧ SeqAt.dataPlace ds d = some j ∧ Q .non (upd H l (.lst (xs.eraseIdx j)))
theorem plainAll_lay : ∀ {ds : List PyData}, PyData.canLayAll0 ds = true → PyData.plainAll ds = true
  | [], _ => rfl
  | d :: ds, h => by
    have h' : d.canLay0 = true ∧ PyData.canLayAll0 ds = true := by simpa [PyData.canLayAll0] using h
    simp only [PyData.plainAll, PyData.plain_of_canLay0 d h'.1, plainAll_lay h'.2, Bool.and_self]
theorem vals_erase : ∀ {vs : List V} {us : List Value} (j : Nat), Vals vs us → Vals (vs.eraseIdx j) (us.eraseIdx j)
  | _, _, _, .nil => .nil
  | _, _, 0, .cons _ t => t
  | _, _, j + 1, .cons a t => .cons a (vals_erase j t)
theorem mt_removeD (hK : X.K = K) (hu : X.A.units + 64 < cLine) : MtM X "list.remove" (rRemD K) := by
  subst hK
  intro pins s σ H x vs v us Q I rx rv h
  obtain ⟨l, y, d, ds, xs, j, rfl, rfl, hH, hxs, hy, p1, p2, p3, p4, q⟩ := h
  cases rx
  obtain ⟨u, rfl, ru⟩ := rv.one
  obtain ⟨z, its, n, r, hl, e⟩ := I.lstM hH
  obtain ⟨as, rs⟩ := Dp.readsAll I ds _ its hxs r
  obtain ⟨bs, rd⟩ := Dp.reads I d y u hy ru
  refine SeqAt.remove_list_data (vs := its.toArray) (j := j) ⟨_, e, rfl, n, rfl⟩ rs rd (plainAll_lay p1) (PyData.plain_of_canLay0 d p2) ?_ p4 ?_ ⟨.non, _, I.lset (its' := its.eraseIdx j) (t' := s.toks) hH e ?_ (vals_erase j r) ?_, rfl, q⟩
  · have : min (PyData.depthAll ds) d.depth ≤ d.depth := Nat.min_le_right _ _
    omega
  · rw [List.size_toArray]
    omega
  · show its.toArray.eraseIdxIfInBounds j = (its.eraseIdx j).toArray
    rw [List.eraseIdxIfInBounds_toArray]
  · have := List.length_eraseIdx_le xs j
    omega
end
theorem op_inDK {X : Cx} {K : PySem.W.Frag} {k : Nat} (hK : X.K = K) (hr : Room k X.A) : OpR X (compareOp .In) (rInD K) := by
  subst hK
  exact op_inD (by have := hr.un; omega)
/-! entries as data -/
theorem dp_en {K : PySem.W.Frag} {H : Hp} {a : Addr} {e : En} (h : H a = some (.tup e.vs)) : Dp K H (.ref a) e.data := by
  cases e with
  | push x => exact .tup (st_of h) (.cons (.str _) (.cons (.str _) .nil))
  | pop x => exact .tup (st_of h) (.cons (.str _) (.cons (.str _) .nil))
  | size k => exact .tup (st_of h) (.cons (.str _) (.cons (.int _) .nil))
  | steal o x => exact .tup (st_of h) (.cons (.str _) (.cons (.str _) (.cons (.str _) .nil)))
theorem dp_ens {K : PySem.W.Frag} {H : Hp} {as : List Addr} {es : List En} (h : Paired (fun a t => H a = some (.tup t)) as (es.map En.vs)) : DpAll K H (as.map V.ref) (es.map En.data) :=
  dpAll_of (by rw [List.length_map, List.length_map, h.length, List.length_map]) fun i v d g1 g2 => by
    rw [List.getElem?_map] at g1 g2
    obtain ⟨a, h1, rfl⟩ := Option.map_eq_some_iff.mp g1
    obtain ⟨e, h2, rfl⟩ := Option.map_eq_some_iff.mp g2
    obtain ⟨a2, h3, h4⟩ := paired_get h (i := i) (by rw [List.getElem?_map, h2]; rfl)
    rw [h1] at h3
    cases h3
    exact dp_en h4
theorem lay_en {e : En} (h : e.ok) : e.data.canLay0 = true := by
  have nm : ∀ z ∈ (["push", "pop", "size", "steal"] : List Str), IsNm z := (by decide +kernel : ∀ z ∈ (["push", "pop", "size", "steal"] : List Str), 1 ≤ z.length ∧ z.length ≤ 8 ∧ ∀ c ∈ z.cps.toList, 97 ≤ c ∧ c ≤ 122)
  have st : ∀ {z : Str}, IsNm z → (PyData.str z).canLay0 = true := fun hz => by simp only [PyData.canLay0, hz.strOk]
  cases e with
  | push x => simp only [En.data, En.vs, List.map_cons, List.map_nil, vD, PyData.canLay0, PyData.canLayAll0, (nm "push" (by simp)).strOk, (show IsNm x from h).strOk, Bool.and_self]
  | pop x => simp only [En.data, En.vs, List.map_cons, List.map_nil, vD, PyData.canLay0, PyData.canLayAll0, (nm "pop" (by simp)).strOk, (show IsNm x from h).strOk, Bool.and_self]
  | size k => simp only [En.data, En.vs, List.map_cons, List.map_nil, vD, PyData.canLay0, PyData.canLayAll0, (nm "size" (by simp)).strOk, Bool.and_self]
  | steal o x => simp only [En.data, En.vs, List.map_cons, List.map_nil, vD, PyData.canLay0, PyData.canLayAll0, (nm "steal" (by simp)).strOk, (show IsNm o from h.1).strOk, (show IsNm x from h.2).strOk, Bool.and_self]
theorem lay_ens : ∀ {es : List En}, (∀ e ∈ es, e.ok) → PyData.canLayAll0 (es.map En.data) = true
  | [], _ => rfl
  | e :: es, h => by
    rw [List.map_cons]
    simp only [PyData.canLayAll0, lay_en (h e (List.mem_cons_self ..)), lay_ens fun x hx => h x (List.mem_cons_of_mem _ hx), Bool.and_self]
theorem log_lay {es : List En} (h : ∀ e ∈ es, e.ok) : (logD es).canLay0 = true ∧ (logD es).depth ≤ 8 := by
  refine ⟨by simp only [logD, PyData.canLay0]; exact lay_ens h, ?_⟩
  have := ((sza_all (dp := 1) (w := 210) fun y hy => by
    obtain ⟨e, he, rfl⟩ := List.mem_map.mp hy
    exact en_sz (h e he) : SzA (es.map En.data) 1 _).list).dp
  exact Nat.le_trans this (by decide)
theorem tl_dp {K : PySem.W.Frag} {H : Hp} {p : Addr} {es : List En} (h : TL H p (es.map En.vs)) : Dp K H (.ref p) (logD es) := by
  obtain ⟨as, ha, hp⟩ := h
  exact .lst (sq_of ha) (dp_ens hp)
end Vx

set_option Elab.async false
set_option linter.all false
set_option maxRecDepth 100000
set_option maxHeartbeats 8000000
namespace Vx
open PySem PySem.Spec PyProof.Rows L2 Evl
/-! logs that change a little -/
def Own (es : List En) : Prop := ∀ A x B, es = A ++ En.pop x :: B → En.push x ∈ A
theorem own_at {es : List En} : (∀ (j : Nat) x, es[j]? = some (.pop x) → ∃ j' : Nat, j' < j ∧ es[j']? = some (.push x)) ↔ Own es := by
  constructor
  · intro h A x B e
    obtain ⟨j', h1, h2⟩ := h A.length x (by rw [e]; simp)
    rw [e, List.getElem?_append_left h1] at h2
    exact List.mem_of_getElem? h2
  · intro h j x hj
    obtain ⟨hl, h2⟩ := List.getElem?_eq_some_iff.mp hj
    have e : es = es.take j ++ En.pop x :: es.drop (j + 1) := by
      rw [← h2, List.getElem_cons_drop, List.take_append_drop]
    obtain ⟨i, hi⟩ := List.mem_iff_getElem?.mp (h _ _ _ e)
    have hi2 := (List.getElem?_eq_some_iff.mp hi).1
    rw [List.length_take] at hi2
    refine ⟨i, by omega, ?_⟩
    rw [List.getElem?_take_of_lt (by omega)] at hi
    exact hi
def notSz : En → Bool
  | .size _ => false
  | _ => true
def nsz (es : List En) : List En := es.filter notSz
theorem own_nsz {es : List En} : Own (nsz es) ↔ Own es := by
  constructor
  · intro h A x B e
    have e2 : nsz es = nsz A ++ En.pop x :: nsz B := by
      rw [e]
      unfold nsz
      rw [List.filter_append, List.filter_cons]
      rfl
    exact (List.mem_filter.mp (h _ _ _ e2)).1
  · intro h A x B e
    unfold nsz at e
    obtain ⟨l1, l2, e1, e2, e3⟩ := List.filter_eq_append_iff.mp e
    obtain ⟨c1, c2, e4, n, _, e5⟩ := List.filter_eq_cons_iff.mp e3
    have := h (l1 ++ c1) x c2 (by rw [e1, e4, List.append_assoc])
    rcases List.mem_append.mp this with m | m
    · rw [← e2]
      exact List.mem_filter.mpr ⟨m, rfl⟩
    · exact absurd rfl (n _ m)
theorem pus_nsz : ∀ es : List En, pus (nsz es) = pus es
  | [] => rfl
  | e :: es => by
    have ih := pus_nsz es
    have c : pus (e :: es) = e.pu ++ pus es := List.flatMap_cons
    cases e with
    | size k =>
      rw [c]
      exact ih
    | push x =>
      rw [c, ← ih]
      exact List.flatMap_cons
    | pop x =>
      rw [c, ← ih]
      exact List.flatMap_cons
    | steal o x =>
      rw [c, ← ih]
      exact List.flatMap_cons
theorem res_nsz : ∀ es : List En, res (nsz es) = res es
  | [] => rfl
  | e :: es => by
    have ih := res_nsz es
    have c : res (e :: es) = e.re ++ res es := List.flatMap_cons
    cases e with
    | size k =>
      rw [c]
      exact ih
    | push x =>
      rw [c, ← ih]
      exact List.flatMap_cons
    | pop x =>
      rw [c, ← ih]
      exact List.flatMap_cons
    | steal o x =>
      rw [c, ← ih]
      exact List.flatMap_cons
theorem mem_nsz {e : En} {es es' : List En} (h : nsz es' = nsz es) (n : notSz e = true) (he : e ∈ es) : e ∈ es' := by
  have : e ∈ nsz es' := by
    rw [h]
    exact List.mem_filter.mpr ⟨he, n⟩
  exact (List.mem_filter.mp this).1
section
variable {ws : List Str} {L : List (List En)} {k : Nat} {es es' : List En} {sp : Str}
/-- the same but for entries of sizes -/
theorem Vlog.setN (v : Vlog 60 ws L) (hk : L[k]? = some es) (hn : nsz es' = nsz es) (len : es'.length ≤ 60) (ok : ∀ e ∈ es', e.ok) : Vlog 60 ws (L.set k es') := by
  have hp := flat_set (f := pus) (es' := es') (g := []) (by rw [← pus_nsz es', hn, pus_nsz, List.append_nil]) hk
  have hr := flat_set (f := res) (es' := es') (g := []) (by rw [← res_nsz es', hn, res_nsz, List.append_nil]) hk
  rw [List.append_nil] at hp hr
  refine ⟨v.wk, by rw [List.length_set]; exact v.len, fun es2 h2 => ?_, hp.nodup_iff.mpr v.pu, hr.nodup_iff.mpr v.re, fun i es2 j x h1 h2 => ?_, fun i es2 w o x h1 h2 h3 => ?_⟩
  · obtain ⟨i, hi⟩ := List.mem_iff_getElem?.mp h2
    rcases set_get hi with ⟨_, rfl⟩ | ⟨_, h3⟩
    · exact ⟨len, ok⟩
    · exact v.ent es2 (List.mem_of_getElem? h3)
  · rcases set_get h1 with ⟨rfl, rfl⟩ | ⟨_, h3⟩
    · have o1 : Own es := own_at.mp fun j x h => v.own i es j x hk h
      have o2 : Own es2 := own_nsz.mp (by rw [hn]; exact own_nsz.mpr o1)
      exact own_at.mpr o2 j x h2
    · exact v.own i es2 j x h3 h2
  · have back : ∀ {o x}, Has ws L o x → Has ws (L.set k es') o x := fun ⟨n, es3, g1, g2, g3⟩ => by
      by_cases z : k = n
      · subst z
        rw [hk] at g2
        cases g2
        exact ⟨k, es', g1, List.getElem?_set_self (List.getElem?_eq_some_iff.mp hk).1, mem_nsz hn rfl g3⟩
      · exact ⟨n, es3, g1, by rw [List.getElem?_set_ne z]; exact g2, g3⟩
    rcases set_get h1 with ⟨rfl, rfl⟩ | ⟨_, h4⟩
    · have := v.st i es w o x hk h2 (mem_nsz hn.symm rfl h3)
      exact ⟨this.1, back this.2⟩
    · have := v.st i es2 w o x h4 h2 h3
      exact ⟨this.1, back this.2⟩
/-- names that are added -/
def Spr (x : Str) : Prop := ∃ c, 97 ≤ c ∧ c ≤ 122 ∧ x = sg 113 ++ sg c ++ sg 113
theorem Spr.list {x : Str} (h : Spr x) : ∃ c, 97 ≤ c ∧ c ≤ 122 ∧ x.cps.toList = [113, c, 113] := by
  obtain ⟨c, h1, h2, rfl⟩ := h
  exact ⟨c, h1, h2, by rw [cat_list, cat_list]; rfl⟩
theorem Spr.nm {x : Str} (h : Spr x) : IsNm x := by
  obtain ⟨c, h1, h2, h3⟩ := h.list
  have hl : x.length = 3 := by
    show x.cps.size = 3
    rw [← Array.length_toList, h3]
    rfl
  refine ⟨by omega, by omega, fun d hd => ?_⟩
  rw [h3] at hd
  simp at hd
  omega
theorem Spr.no10 {x : Str} (h : Spr x) : x ∉ wk10 := fun m => by
  obtain ⟨c, _, _, h3⟩ := h.list
  have all : ∀ z ∈ wk10, z.cps.toList.head? ≠ some 113 := by decide +kernel
  exact all x m (by rw [h3]; rfl)
def StOk (L : List (List En)) : Prop := ∀ es ∈ L, ∀ o x, En.steal o x ∈ es → o ∈ wk10
theorem StOk.set (h : StOk L) (hes : ∀ o x, En.steal o x ∈ es' → o ∈ wk10) : StOk (L.set k es') := fun es2 h2 o x h3 => by
  obtain ⟨i, hi⟩ := List.mem_iff_getElem?.mp h2
  rcases set_get hi with ⟨_, rfl⟩ | ⟨_, h4⟩
  · exact hes o x h3
  · exact h es2 (List.mem_of_getElem? h4) o x h3
/-- a worker more -/
theorem Vlog.add (v : Vlog 60 ws L) (hs : IsNm sp) (hn : sp ∉ ws) (hl : ws.length < 6) : Vlog 60 (ws ++ [sp]) (L ++ [[]]) := by
  have app : ∀ {i : Nat} {es : List En}, (L ++ [[]])[i]? = some es → (L[i]? = some es) ∨ es = [] := fun {i es} h => by
    by_cases hi : i < L.length
    · rw [List.getElem?_append_left hi] at h
      exact Or.inl h
    · rw [List.getElem?_append_right (by omega)] at h
      refine Or.inr ?_
      have := List.mem_of_getElem? h
      simpa using this
  have has : ∀ {o x}, Has ws L o x → Has (ws ++ [sp]) (L ++ [[]]) o x := fun ⟨n, es, g1, g2, g3⟩ =>
    ⟨n, es, by rw [List.getElem?_append_left (List.getElem?_eq_some_iff.mp g1).1]; exact g1, by rw [List.getElem?_append_left (List.getElem?_eq_some_iff.mp g2).1]; exact g2, g3⟩
  refine ⟨⟨by rw [List.length_append]; show 1 ≤ ws.length + 1; omega, by rw [List.length_append]; show ws.length + 1 ≤ 6; omega, ?_, fun z hz => ?_⟩, by rw [List.length_append, List.length_append, v.len]; rfl, fun es he => ?_, ?_, ?_, fun i es j x h1 h2 => ?_, fun i es w o x h1 h2 h3 => ?_⟩
  · refine List.nodup_append.mpr ⟨v.wk.2.2.1, by simp, fun a ha b hb e => ?_⟩
    rw [List.mem_singleton.mp hb] at e
    exact hn (by rw [← e]; exact ha)
  · rcases List.mem_append.mp hz with hz | hz
    · exact v.wk.2.2.2 z hz
    · rw [List.mem_singleton.mp hz]
      exact hs
  · rcases List.mem_append.mp he with he | he
    · exact v.ent es he
    · rw [List.mem_singleton.mp he]
      exact ⟨Nat.zero_le _, fun e h => by cases h⟩
  · rw [List.flatMap_append]
    show (L.flatMap pus ++ []).Nodup
    rw [List.append_nil]
    exact v.pu
  · rw [List.flatMap_append]
    show (L.flatMap res ++ []).Nodup
    rw [List.append_nil]
    exact v.re
  · rcases app h1 with h1 | rfl
    · exact v.own i es j x h1 h2
    · simp at h2
  · rcases app h1 with h1 | rfl
    · have hi := (List.getElem?_eq_some_iff.mp h1).1
      rw [v.len] at hi
      rw [List.getElem?_append_left hi] at h2
      have := v.st i es w o x h1 h2 h3
      exact ⟨this.1, has this.2⟩
    · cases h3
/-- a worker's log emptied, of which nothing is stolen -/
theorem Vlog.clear1 (v : Vlog 60 ws L) (hk : ws[k]? = some sp) (hs : ∀ es ∈ L, ∀ x, En.steal sp x ∉ es) : Vlog 60 ws (L.set k []) := by
  have sub : ∀ {f : List En → List Str}, f [] = [] → ∀ {L : List (List En)} {k : Nat}, (L.flatMap f).Nodup → ((L.set k []).flatMap f).Nodup := by
    intro f hf L
    induction L with
    | nil => intro k h; exact h
    | cons a L ih =>
      intro k h
      rw [List.flatMap_cons] at h
      obtain ⟨h1, h2, h3⟩ := List.nodup_append.mp h
      cases k with
      | zero =>
        rw [List.set_cons_zero, List.flatMap_cons, hf, List.nil_append]
        exact h2
      | succ k =>
        rw [List.set_cons_succ, List.flatMap_cons]
        refine List.nodup_append.mpr ⟨h1, ih h2, fun x hx y hy => h3 x hx y ?_⟩
        obtain ⟨es, he, hye⟩ := List.mem_flatMap.mp hy
        obtain ⟨i, hi⟩ := List.mem_iff_getElem?.mp he
        rcases set_get hi with ⟨_, rfl⟩ | ⟨_, h4⟩
        · rw [hf] at hye
          cases hye
        · exact List.mem_flatMap.mpr ⟨es, List.mem_of_getElem? h4, hye⟩
  refine ⟨v.wk, by rw [List.length_set]; exact v.len, fun es2 h2 => ?_, sub rfl v.pu, sub rfl v.re, fun i es2 j x h1 h2 => ?_, fun i es2 w o x h1 h2 h3 => ?_⟩
  · obtain ⟨i, hi⟩ := List.mem_iff_getElem?.mp h2
    rcases set_get hi with ⟨_, rfl⟩ | ⟨_, h3⟩
    · exact ⟨Nat.zero_le _, fun e h => by cases h⟩
    · exact v.ent es2 (List.mem_of_getElem? h3)
  · rcases set_get h1 with ⟨rfl, rfl⟩ | ⟨_, h3⟩
    · simp at h2
    · exact v.own i es2 j x h3 h2
  · rcases set_get h1 with ⟨rfl, rfl⟩ | ⟨_, h4⟩
    · cases h3
    · obtain ⟨g0, n, es3, g1, g2, g3⟩ := v.st i es2 w o x h4 h2 h3
      refine ⟨g0, n, es3, g1, ?_, g3⟩
      rw [List.getElem?_set_ne (fun z => ?_)]
      · exact g2
      · subst z
        rw [hk] at g1
        cases g1
        exact hs es2 (List.mem_of_getElem? h4) x h3
end
theorem nsz_ins (es : List En) (p : Nat) (n : Int) : nsz (es.take p ++ [.size n] ++ es.drop p) = nsz es := by
  unfold nsz
  rw [List.filter_append, List.filter_append]
  show (es.take p).filter notSz ++ [] ++ (es.drop p).filter notSz = _
  rw [List.append_nil, ← List.filter_append, List.take_append_drop]
theorem nsz_erase {es : List En} {j : Nat} {n : Int} (h : es[j]? = some (.size n)) : nsz (es.eraseIdx j) = nsz es := by
  obtain ⟨hl, h2⟩ := List.getElem?_eq_some_iff.mp h
  have e : es = es.take j ++ En.size n :: es.drop (j + 1) := by
    rw [← h2, List.getElem_cons_drop, List.take_append_drop]
  rw [List.eraseIdx_eq_take_drop_succ]
  have e2 : nsz es = nsz (es.take j ++ En.size n :: es.drop (j + 1)) := by rw [← e]
  rw [e2]
  unfold nsz
  rw [List.filter_append, List.filter_append, List.filter_cons]
  rfl
theorem dk_mem0 {ws : List Str} {ps : List Addr} {p : Key × V} (h : p ∈ Dk ws ps) : ∃ (i : Nat) (x : Str) (r : Addr), ws[i]? = some x ∧ ps[i]? = some r ∧ p = (.inr x, .ref r) := by
  unfold Dk at h
  obtain ⟨z, hz, rfl⟩ := List.mem_map.mp h
  obtain ⟨i, hi⟩ := List.mem_iff_getElem?.mp hz
  obtain ⟨a, b⟩ := List.getElem?_zip_eq_some.mp hi
  exact ⟨i, z.1, z.2, a, b, rfl⟩
theorem map_away {ws : List Str} {ps : List Addr} {y : Str} {v : V} (h : y ∉ ws) : (Dk ws ps).map (fun kv => if kv.1 = (.inr y : Key) then (kv.1, v) else kv) = Dk ws ps := by
  have : ∀ kv ∈ Dk ws ps, (fun kv : Key × V => if kv.1 = (.inr y : Key) then (kv.1, v) else kv) kv = kv := fun kv hk => by
    obtain ⟨i, x, r, h1, _, rfl⟩ := dk_mem0 hk
    refine if_neg fun z => h ?_
    rw [← Sum.inr.inj z]
    exact List.mem_of_getElem? h1
  rw [List.map_congr_left this, List.map_id']
theorem map_put : ∀ {ws : List Str} {ps : List Addr} {k : Nat} {y : Str} {r : Addr}, ws.Nodup → ws[k]? = some y → ps.length = ws.length → (Dk ws ps).map (fun kv => if kv.1 = (.inr y : Key) then (kv.1, V.ref r) else kv) = Dk ws (ps.set k r)
  | [], _, k, y, r, _, h, _ => by simp at h
  | w :: ws, [], k, y, r, _, _, h => by cases h
  | w :: ws, p :: ps, 0, y, r, nd, h, hl => by
    have e : w = y := by simpa using h
    subst e
    have n := (List.nodup_cons.mp nd).1
    show (if (.inr w : Key) = .inr w then ((.inr w : Key), V.ref r) else (.inr w, .ref p)) :: (Dk ws ps).map _ = (.inr w, .ref r) :: Dk ws ps
    rw [if_pos rfl, map_away n]
  | w :: ws, p :: ps, k + 1, y, r, nd, h, hl => by
    have h' : ws[k]? = some y := by simpa using h
    have n : ¬ (.inr w : Key) = .inr y := fun e => (List.nodup_cons.mp nd).1 (by rw [Sum.inr.inj e]; exact List.mem_of_getElem? h')
    show (if (.inr w : Key) = .inr y then ((.inr w : Key), V.ref r) else (.inr w, .ref p)) :: (Dk ws ps).map _ = (.inr w, .ref p) :: Dk ws (ps.set k r)
    rw [if_neg n, map_put (List.nodup_cons.mp nd).2 h' (by simpa using hl)]
theorem putK_dk {ws : List Str} {ps : List Addr} {k : Nat} {y : Str} {r : Addr} (nd : ws.Nodup) (hk : ws[k]? = some y) (hl : ps.length = ws.length) : putK (Dk ws ps) (.inr y) (.ref r) = Dk ws (ps.set k r) := by
  unfold putK
  obtain ⟨p, hp⟩ : ∃ p, ps[k]? = some p := ⟨_, List.getElem?_eq_getElem (by rw [hl]; exact (List.getElem?_eq_some_iff.mp hk).1)⟩
  have hm : ((.inr y : Key), V.ref p) ∈ Dk ws ps := List.mem_map.mpr ⟨(y, p), List.mem_of_getElem? (i := k) (by rw [List.getElem?_zip_eq_some]; exact ⟨hk, hp⟩), rfl⟩
  rw [if_pos (List.any_eq_true.mpr ⟨_, hm, decide_eq_true rfl⟩)]
  exact map_put nd hk hl
theorem HL.put {d : Addr} {H : Hp} {ws : List Str} {ps : List Addr} {L : List (List En)} {k : Nat} {r : Addr} {es : List En} (h : HL H d ws ps L) (hk : k < ws.length) (hr : TL H r (es.map En.vs)) : HL (upd H d (.dK (Dk ws (ps.set k r)))) d ws (ps.set k r) (L.set k es) := by
  have tk : TK H (upd H d (.dK (Dk ws (ps.set k r)))) := fun a xs w => by rw [upd_ne (fun z => by rw [z, h.dk] at w; cases w)]; exact w
  have nl : ∀ {p ts}, TL H p ts → p ≠ d := fun t z => by
    obtain ⟨as, g, _⟩ := t
    rw [z, h.dk] at g
    cases g
  refine ⟨upd_same, by rw [List.length_set]; exact h.pl, fun i p es2 h1 h2 => ?_⟩
  rcases set_get h2 with ⟨rfl, rfl⟩ | ⟨ne, h3⟩
  · rw [List.getElem?_set_self (by rw [h.pl]; exact hk)] at h1
    cases h1
    exact hr.keep tk (upd_ne (nl hr))
  · rw [List.getElem?_set_ne (Ne.symm ne)] at h1
    have t := h.lg i p es2 h1 h3
    exact t.keep tk (upd_ne (nl t))
end Vx

set_option Elab.async false
set_option linter.all false
set_option maxRecDepth 100000
set_option maxHeartbeats 8000000
namespace Vx
open PySem PySem.Spec PyProof.Rows L2 Evl
def OkV : Vl → Prop
  | .logs _ L => StOk L
  | _ => True
def spValue2 : Sp := fun vs H Q _ => ∃ (s : Addr) (n : Nat) (k : Int) (m : Nat), vs = [.ref s, .int k, .int (m : Int)] ∧ (k = 0 ∨ k = 1 ∨ k = 2) ∧ Src H s n ∧ n + 4000 ≤ 1000000000 ∧ 1 ≤ m ∧ m ≤ 60 ∧
  ∀ v val as H', val.door = k → VAt H' v val as → OkV val → (∀ a ∈ as, H a = none) → KB s H H' → Src H' s (n + 4000) → Q v H'
def spCopy : Sp := fun vs H Q _ => ∃ (v : V) (val : Vl) (as : List Addr), vs = [.int val.door, v] ∧ VAt H v val as ∧ ∀ v2 as2 H', VAt H' v2 val as2 → (∀ a ∈ as2, H a = none) → Ex H H' → Q v2 H'
theorem et_gtI {σ : L2.St} {H : Hp} {i : Nat} {x y : Int} {b : Bool} (hi : σ[i]? = some (some (.int x))) (e : decide (y < x) = b) : EvT (tTest (tOp (rI0 fun i j => .bl (decide (j < i))) (tVar i) (tC (.int y)))) σ H b := et_is (et_test (ev_op (ev_var hi) ev_c rv_I0)) e
section
variable {P : Program} {w : World} {K : PySem.W.Frag} {mg : Str → Option Value} {base : Heap}
theorem ok_law_value2 (D : Def K mg "_law_value" s_law_value ["source", "door", "top"]) (T : Bl mg) (G_law_logs : Good P w K mg base 4 "_law_logs" ["source", "top"] (spLogs K)) (G_law_facts : Good P w K mg base 2 "_law_facts" ["source"] (spFacts K)) (G_law_run : Good P w K mg base 2 "_law_run" ["source"] (spRunL K)) : Good P w K mg base 5 "_law_value" ["source", "door", "top"] (spValue2) := by
  refine D.good sc_law_value (fun vs H Q E h => ?_) (fun f cdv A outer s H vs Q E hr h => ?_)
  · obtain ⟨s, n, k, m, rfl, _⟩ := h
    rfl
  · obtain ⟨s, n, k, m, rfl, hk, hs, hn, m1, m2, q⟩ := h
    have hu := hu_of hr
    refine ⟨_, (pss_cons (ps_if (pt_cmpR op_eq (pv 1) pe_int (nomark _)) (pss_one (ps_ret (pe_fn (G_law_logs.mono (by decide)) hr (pa_cons (pv 0) (pa_cons (pv 2) pa_nil))))) pss_nil)
      (pss_one (ps_ret (pe_ifExp (pt_cmpR op_eq (pv 1) pe_int (nomark _)) (pe_fn (G_law_facts.mono (by decide)) hr (pa_cons (pv 0) pa_nil)) (pe_fn (G_law_run.mono (by decide)) hr (pa_cons (pv 0) pa_nil)))))), ?_⟩
    rcases hk with rfl | rfl | rfl
    · refine q_if (b := true) (et_is (et_test (ev_op (ev_var rfl) ev_c (rv_eq rfl))) (decide_eq_true rfl)) (fun _ H1 e1 => ?_) (fun z => nomatch z)
      refine go_call2 rfl rfl ⟨s, n, m, rfl, hs.ex e1, hn, m1, m2, fun d ws ps L H' n1 kb S hl pf pn v _ w10 => q (.ref d) (.logs ws L) (d :: ps) H' rfl ⟨d, ps, rfl, rfl, hl, pn, v.up60 m2⟩ (fun es he o x hx => ?_) (fun a ha => fresh_back e1 ?_) ((kb_ex e1).trans kb) S⟩
      · obtain ⟨i, hi⟩ := List.mem_iff_getElem?.mp he
        obtain ⟨w, hw⟩ : ∃ w, ws[i]? = some w := ⟨_, List.getElem?_eq_getElem (by rw [← v.len]; exact (List.getElem?_eq_some_iff.mp hi).1)⟩
        obtain ⟨_, n', es', g1, _, _⟩ := v.st i es w o x hi hw hx
        exact w10 o (List.mem_of_getElem? g1)
      · rcases List.mem_cons.mp ha with rfl | ha
        · exact n1
        · exact pf a ha
    · refine q_if (b := false) (et_is (et_test (ev_op (ev_var rfl) ev_c (rv_eq rfl))) (decide_eq_false (fun z => nomatch z))) (fun z => nomatch z) (fun _ H1 e1 => ?_)
      refine go_if (et_eqI (x := 1) (b := true) rfl (by decide)) (fun _ H2 e2 => ?_) (fun z => nomatch z)
      have E2 := e1.trans e2
      exact go_call1 rfl ⟨s, n, rfl, hs.ex E2, by omega, fun p us fs H' n1 kb S hp pr ok => q (.ref p) (.facts fs) [p] H' rfl ⟨p, us, rfl, rfl, hp, pr, ok⟩ trivial (fun a ha => by rw [List.mem_singleton.mp ha]; exact fresh_back E2 n1) ((kb_ex E2).trans kb) (S.le (by omega))⟩
    · refine q_if (b := false) (et_is (et_test (ev_op (ev_var rfl) ev_c (rv_eq rfl))) (decide_eq_false (fun z => nomatch z))) (fun z => nomatch z) (fun _ H1 e1 => ?_)
      refine go_if (et_eqI (x := 2) (b := false) rfl (by decide)) (fun z => nomatch z) (fun _ H2 e2 => ?_)
      have E2 := e1.trans e2
      exact go_call1 rfl ⟨s, n, rfl, hs.ex E2, by omega, fun p xs H' n1 kb S hp ok => q (.ref p) (.run xs) [p] H' rfl ⟨p, rfl, rfl, hp, ok⟩ trivial (fun a ha => by rw [List.mem_singleton.mp ha]; exact fresh_back E2 n1) ((kb_ex E2).trans kb) (S.le (by omega))⟩
theorem sc_law_copy : FnScope ["door", "value", "name"] ["door", "value"] (defScope s_law_copy) := ⟨rfl, rfl, rfl, by decide +kernel, rfl, by decide +kernel, by decide +kernel⟩
theorem ok_law_copy (D : Def K mg "_law_copy" s_law_copy ["door", "value"]) (T : Bl mg) : Good P w K mg base 1 "_law_copy" ["door", "value"] (spCopy) := by
  refine D.good sc_law_copy (fun vs H Q E h => ?_) (fun f cdv A outer s H vs Q E hr h => ?_)
  · obtain ⟨v, val, as, rfl, _⟩ := h
    rfl
  · obtain ⟨v, val, as, rfl, hv, q⟩ := h
    have hu := hu_of hr
    refine ⟨_, (pss_cons (ps_if (pt_cmpR op_gt (pv 0) pe_int (nomark _)) (pss_one (ps_ret (x_list (K := K) T (pv 1)))) pss_nil)
      (pss_one (ps_ret (pe_callTy (hc := call_dictP rfl) (hg := rfl) (hm := T.dict) (hv := by decide +kernel) (ha := pa_cons (pe_lock (pe_lc (own := [("name", 2)]) (g := (gName 2)) (tt := tYes) rfl sc_law_copy.nd (pi_keys (pv 1)) (blkOk_by (N := ["door", "value", "name"]) (sc := (defScope s_law_copy)) (by decide +kernel)) (fun _ _ _ _ _ => (pg_name (i := 2) sc_law_copy.nd rfl (Or.inl rfl))) (fun _ _ _ _ _ => pts_nil) (fun _ _ _ _ _ => (pe_tup (pa_cons (pv 2) (pa_cons (x_list (K := K) T (pe_dget hu (pv 1) (pv 2) (fun _ _ => rfl))) pa_nil)))))) pa_nil))))), ?_⟩
    cases val with
    | logs ws L =>
      obtain ⟨d, ps, rfl, rfl, hl, pn, vl⟩ := hv
      refine q_if (b := false) (et_gtI (x := 0) rfl (by decide)) (fun z => nomatch z) (fun _ H1 e1 => ?_)
      have hl1 := hl.ex e1
      have wk := vl.wk.2.1
      obtain ⟨A, hA⟩ : ∃ A : Nat → List Addr, ∀ i, ∀ p es, ps[i]? = some p → L[i]? = some es → H1 p = some (.lst ((A i).map V.ref)) ∧ Paired (fun a t => H1 a = some (.tup t)) (A i) (es.map En.vs) := by
        suffices h : ∀ i : Nat, ∃ as : List Addr, ∀ (p : Addr) (es : List En), ps[i]? = some p → L[i]? = some es → H1 p = some (.lst (as.map V.ref)) ∧ Paired (fun a t => H1 a = some (.tup t)) as (es.map En.vs) from ⟨fun i => Classical.choose (h i), fun i => Classical.choose_spec (h i)⟩
        intro i
        cases hp : ps[i]? with
        | none => exact ⟨[], fun p es z => by cases z⟩
        | some p =>
          cases he : L[i]? with
          | none => exact ⟨[], fun p es _ z => by cases z⟩
          | some es =>
            obtain ⟨bs, h1, h2⟩ := hl1.lg i p es hp he
            exact ⟨bs, fun p2 es2 z1 z2 => by
              cases z1
              cases z2
              exact ⟨h1, h2⟩⟩
      refine ev_rowsKC (fun i => (A i).map V.ref) (fun _ => ev_var rfl) hl1.dk hl1.pl (by omega) vl.wk.2.2.1 (fun _ => rfl) (fun _ => rfl) (fun od H4 e4 i y hy => ?_) (fun f qs H4 nf e4 hf ql qn hq => ?_)
      · obtain ⟨p, hp⟩ : ∃ p, ps[i]? = some p := ⟨_, List.getElem?_eq_getElem (by rw [hl1.pl]; exact (List.getElem?_eq_some_iff.mp hy).1)⟩
        obtain ⟨es, he⟩ : ∃ es, L[i]? = some es := ⟨_, List.getElem?_eq_getElem (by rw [vl.len]; exact (List.getElem?_eq_some_iff.mp hy).1)⟩
        obtain ⟨h1, h2⟩ := hA i p es hp he
        have np : p ≠ d := fun z => by rw [z, hl1.dk] at h1; cases h1
        exact el_list (ev_dgetQ (ev_var rfl) (ev_var rfl) (Or.inr ⟨od, e4 _ _ upd_same⟩) (dk_get vl.wk.2.2.1 hy hp)) (sq_of (e4 _ _ (show (upd H1 d (.frz od (.dK (Dk ws ps)))) p = some _ by rw [upd_ne np]; exact h1)))
      · refine q (.ref f) (f :: qs) H4 ⟨f, qs, rfl, rfl, ⟨hf, ql, fun i r es h1 h2 => ?_⟩, qn, vl⟩ (fun a ha => ?_) (e1.trans e4)
        · obtain ⟨p, hp⟩ : ∃ p, ps[i]? = some p := ⟨_, List.getElem?_eq_getElem (by rw [hl1.pl, ← ql]; exact (List.getElem?_eq_some_iff.mp h1).1)⟩
          obtain ⟨g1, g2⟩ := hA i p es hp h2
          exact ⟨A i, (hq i r h1).2, paired_imp (fun a t z => e4 _ _ z) g2⟩
        · rcases List.mem_cons.mp ha with rfl | ha
          · exact fresh_back e1 nf
          · obtain ⟨i, hi⟩ := List.mem_iff_getElem?.mp ha
            exact fresh_back e1 (hq i a hi).1
    | facts fs =>
      obtain ⟨p, us, rfl, rfl, hp, pr, ok⟩ := hv
      refine q_if (b := true) (et_gtI (x := 1) rfl (by decide)) (fun _ H1 e1 => ?_) (fun z => nomatch z)
      exact s_retL (el_list (ev_var rfl) (sq_of (e1 _ _ hp))) fun r H2 n2 e2 h2 => q (.ref r) [r] H2 ⟨r, us, rfl, rfl, h2, pr.tk (tk_ex (e1.trans e2)), ok⟩ (fun a ha => by rw [List.mem_singleton.mp ha]; exact fresh_back e1 n2) (e1.trans e2)
    | run xs =>
      obtain ⟨p, rfl, rfl, hp, ok⟩ := hv
      refine q_if (b := true) (et_gtI (x := 2) rfl (by decide)) (fun _ H1 e1 => ?_) (fun z => nomatch z)
      exact s_retL (el_list (ev_var rfl) (sq_of (e1 _ _ hp))) fun r H2 n2 e2 h2 => q (.ref r) [r] H2 ⟨r, rfl, rfl, h2, ok⟩ (fun a ha => by rw [List.mem_singleton.mp ha]; exact fresh_back e1 n2) (e1.trans e2)
end
end Vx

set_option Elab.async false
set_option linter.all false
set_option maxRecDepth 100000
set_option maxHeartbeats 8000000
namespace Vx
open PySem PySem.Spec PyProof.Rows L2 Evl
def spChLogs : Sp := fun vs H Q _ => ∃ (s : Addr) (n : Nat) (d : Addr) (ws : List Str) (ps : List Addr) (L : List (List En)), vs = [.ref s, .ref d] ∧ Src H s n ∧ n + 20 ≤ 1000000000 ∧ HL H d ws ps L ∧ ps.Nodup ∧ Vlog 60 ws L ∧ StOk L ∧ s ∉ d :: ps ∧
  ∀ ws' ps' L' H', KA (s :: d :: ps) H H' → Src H' s (n + 20) → HL H' d ws' ps' L' → ps'.Nodup → Vlog 60 ws' L' → StOk L' → (∀ a ∈ ps', a ∈ ps ∨ H a = none) → Q .non H'
def En.snd1 : En → V
  | .push x => .str x
  | .pop x => .str x
  | .size k => .int k
  | .steal o _ => .str o
theorem En.at_1 (e : En) : atI e.vs 1 = some e.snd1 := by cases e <;> rfl
def En.isPu1 (e : En) : Bool := decide (V.str e.hd = V.str "push")
theorem pus_is : ∀ es : List En, (es.filter En.isPu1).map En.snd1 = (pus es).map V.str
  | [] => rfl
  | e :: es => by
    have ih := pus_is es
    have c : pus (e :: es) = e.pu ++ pus es := List.flatMap_cons
    have k : decide (V.str "push" = V.str "push") = true ∧ decide (V.str "pop" = V.str "push") = false ∧ decide (V.str "size" = V.str "push") = false ∧ decide (V.str "steal" = V.str "push") = false := by decide +kernel
    rw [c, List.filter_cons]
    cases e with
    | push x =>
      rw [show (En.push x).isPu1 = true from k.1, if_pos rfl, List.map_cons, ih]
      rfl
    | pop x =>
      rw [show (En.pop x).isPu1 = false from k.2.1, if_neg (by decide), ih]
      rfl
    | size n =>
      rw [show (En.size n).isPu1 = false from k.2.2.1, if_neg (by decide), ih]
      rfl
    | steal o x =>
      rw [show (En.steal o x).isPu1 = false from k.2.2.2, if_neg (by decide), ih]
      rfl
theorem el_pusD {K : PySem.W.Frag} {σ : L2.St} {H : Hp} {te : TE} {p : Addr} {es : List En} {j : Nat} (ht : Ev te σ H (.ref p)) (hp : TL H p (es.map En.vs)) (hl : es.length ≤ 1000) (hj : ∀ x, ((wipe σ [j]).set j (some x))[j]? = some (some x)) (hw : ∀ x, wipe ((wipe σ [j]).set j x) [j] = wipe σ [j]) :
    EvL (tLc (iList K te) (gName j) (tTest (tOp rEq (tOp (rIxT K) (tVar j) (tC (.int 0))) (tC (.str "push")))) (tOp (rIxT K) (tVar j) (tC (.int 1))) [j]) σ H ((pus es).map V.str) := by
  obtain ⟨as, ha, pa⟩ := hp
  have al : as.length = es.length := by rw [pa.length, List.length_map]
  have at_ : ∀ (i : Nat) x, (as.map V.ref)[i]? = some x → ∃ a e, x = .ref a ∧ es[i]? = some e ∧ H a = some (.tup e.vs) ∧ es.getD i (.push "") = e := fun i x hi => by
    rw [List.getElem?_map] at hi
    obtain ⟨a, ha, rfl⟩ := Option.map_eq_some_iff.mp hi
    obtain ⟨e, he⟩ : ∃ e, es[i]? = some e := ⟨_, List.getElem?_eq_getElem (by rw [← al]; exact (List.getElem?_eq_some_iff.mp ha).1)⟩
    obtain ⟨a2, g1, g2⟩ := paired_get pa (i := i) (by rw [List.getElem?_map, he]; rfl)
    rw [ha] at g1
    cases g1
    exact ⟨a, e, rfl, he, g2, getD_at he⟩
  have e1 := given_list es (.push "") En.isPu1 En.snd1
  rw [← pus_is, ← e1, ← al, ← List.length_map (f := V.ref)]
  refine el_lcG (a := p) (xs := as.map V.ref) (fun i => (es.getD i (.push "")).isPu1) (fun i => (es.getD i (.push "")).snd1) (fun i => (wipe σ [j]).set j ((as.map V.ref)[i]?)) ht (sq_of ha) (by rw [List.length_map]; omega) (fun i x hi => ?_) (fun i x hi => ?_) (fun i x hi hf => ?_)
  · rw [hi]
    exact ⟨hw _, fun H5 e5 Q' q' => q' H5 (Ex.refl _)⟩
  · obtain ⟨a, e, rfl, g1, g2, g3⟩ := at_ i x hi
    rw [hi, g3]
    exact et_test (ev_op (ev_op (ev_var (hj _)) ev_c (rv_ixT (st_of g2) e.at0)) ev_c (rv_eq rfl))
  · obtain ⟨a, e, rfl, g1, g2, g3⟩ := at_ i x hi
    rw [hi, g3]
    exact ev_op (ev_var (hj _)) ev_c (rv_ixT (st_of g2) e.at_1)
theorem paired_app {α β : Type} {P : α → β → Prop} {c : List α} {d : List β} (h2 : Paired P c d) : ∀ {a : List α} {b : List β}, Paired P a b → Paired P (a ++ c) (b ++ d)
  | _, _, .nil => h2
  | _, _, .cons h t => .cons h (paired_app h2 t)
theorem paired_take {α β : Type} {P : α → β → Prop} : ∀ {a : List α} {b : List β} (n : Nat), Paired P a b → Paired P (a.take n) (b.take n)
  | _, _, _, .nil => by rw [List.take_nil, List.take_nil]; exact .nil
  | _, _, 0, .cons _ _ => .nil
  | _, _, n + 1, .cons h t => .cons h (paired_take n t)
theorem paired_drop {α β : Type} {P : α → β → Prop} : ∀ {a : List α} {b : List β} (n : Nat), Paired P a b → Paired P (a.drop n) (b.drop n)
  | _, _, _, .nil => by rw [List.drop_nil, List.drop_nil]; exact .nil
  | _, _, 0, .cons h t => .cons h t
  | _, _, n + 1, .cons _ t => paired_drop n t
theorem HL.setL {d : Addr} {H H' : Hp} {ws : List Str} {ps : List Addr} {L : List (List En)} {k : Nat} {pk : Addr} {es : List En} (h : HL H d ws ps L) (nd : ps.Nodup) (tk : TK H H') (hd : H' d = H d) (hk : ps[k]? = some pk) (hr : ∀ p ∈ ps, p ≠ pk → H' p = H p) (hn : TL H' pk (es.map En.vs)) : HL H' d ws ps (L.set k es) := by
  refine ⟨hd.trans h.dk, h.pl, fun i p es2 h1 h2 => ?_⟩
  rcases set_get h2 with ⟨e1, e2⟩ | ⟨ne, h3⟩
  · rw [e1, hk] at h1
    rw [e2, ← Option.some.inj h1]
    exact hn
  · have np : p ≠ pk := fun z => ne ((List.getElem?_inj (List.getElem?_eq_some_iff.mp h1).1 nd).mp (by rw [h1, hk, z]))
    exact (h.lg i p es2 h1 h3).keep tk (hr p (List.mem_of_getElem? h1) np)
theorem nodup_set {α : Type} : ∀ {ps : List α} {k : Nat} {r : α}, ps.Nodup → r ∉ ps → (ps.set k r).Nodup
  | [], _, _, h, _ => h
  | p :: ps, 0, r, h, n => by
    rw [List.set_cons_zero]
    exact List.nodup_cons.mpr ⟨fun m => n (List.mem_cons_of_mem _ m), (List.nodup_cons.mp h).2⟩
  | p :: ps, k + 1, r, h, n => by
    rw [List.set_cons_succ]
    refine List.nodup_cons.mpr ⟨fun m => ?_, nodup_set (List.nodup_cons.mp h).2 fun m => n (List.mem_cons_of_mem _ m)⟩
    rcases List.mem_or_eq_of_mem_set m with m | m
    · exact (List.nodup_cons.mp h).1 m
    · exact n (by rw [m]; simp)
def szD (n : Int) : PyData := .tuple [.str "size", .int n]
theorem szD_eqv {e : En} {n : Int} (h : PyData.eqv e.data (szD n) = true) : ∃ k, e = .size k := by
  have k : (("push" : Str) == "size") = false ∧ (("pop" : Str) == "size") = false ∧ (("steal" : Str) == "size") = false := by decide +kernel
  cases e with
  | push x =>
    have : ((("push" : Str) == "size") && (PyData.eqv (.str x) (.int n) && true)) = true := h
    rw [k.1] at this
    cases this
  | pop x =>
    have : ((("pop" : Str) == "size") && (PyData.eqv (.str x) (.int n) && true)) = true := h
    rw [k.2.1] at this
    cases this
  | size m => exact ⟨m, rfl⟩
  | steal o x =>
    have : ((("steal" : Str) == "size") && PyData.eqvAll [.str o, .str x] [.int n]) = true := h
    rw [k.2.2] at this
    cases this
section
variable {P : Program} {w : World} {K : PySem.W.Frag} {mg : Str → Option Value} {base : Heap}
theorem sc_law_change_logs : FnScope ["source", "rows", "names", "name", "way", "number", "spare", "taken", "other", "entry"] ["source", "rows"] (defScope s_law_change_logs) := ⟨rfl, rfl, rfl, by decide +kernel, rfl, by decide +kernel, by decide +kernel⟩
theorem ok_law_change_logs (D : Def K mg "_law_change_logs" s_law_change_logs ["source", "rows"]) (T : Bl mg) (G_law_pick : Good P w K mg base 1 "_law_pick" ["source", "count"] spPick) : Good P w K mg base 2 "_law_change_logs" ["source", "rows"] (spChLogs) := by
  refine D.good sc_law_change_logs (fun vs H Q E h => ?_) (fun f cdv A outer s H vs Q E hr h => ?_)
  · obtain ⟨s, n, d, ws, ps, L, rfl, _⟩ := h
    rfl
  · obtain ⟨s, n, d, ws, ps, L, rfl, hs, hn, hl, pn, v, so, nsd, q⟩ := h
    have hu := hu_of hr
    refine ⟨_, (pss_cons (ps_set (i := 2) sc_law_change_logs.nd rfl (Or.inl rfl) (pe_callB (call_sortedD rfl) (by rfl) T.sorted (by decide +kernel) (pa_cons (pv 1) pa_nil)))
      (pss_cons (ps_par (i := 3) (j := 4) rfl sc_law_change_logs.nd rfl rfl (by decide) rfl rfl (pa_cons (x_ixl (K := K) (pv 2) (pe_fn (G_law_pick.mono (by decide)) hr (pa_cons (pv 0) (pa_cons (x_len (K := K) T (pv 2)) pa_nil)))) (pa_cons (pe_fn (G_law_pick.mono (by decide)) hr (pa_cons (pv 0) (pa_cons pe_int pa_nil))) pa_nil)) (by rfl))
      (pss_cons (ps_par (i := 5) (j := 6) rfl sc_law_change_logs.nd rfl rfl (by decide) rfl rfl (pa_cons (pe_fn (G_law_pick.mono (by decide)) hr (pa_cons (pv 0) (pa_cons pe_int pa_nil))) (pa_cons (pe_op op_add_str (pe_op op_add_str pe_str (pe_ix ix_str pe_str (pe_fn (G_law_pick.mono (by decide)) hr (pa_cons (pv 0) (pa_cons pe_int pa_nil))) (fun _ _ => rfl))) pe_str) pa_nil)) (by rfl))
      (pss_cons (ps_set (i := 7) sc_law_change_logs.nd rfl (Or.inl rfl) (pe_lst pa_nil))
      (pss_cons (ps_for PassesOwn.never rfl (x_pil (K := K) (pv 2)) (pg_name (i := 8) sc_law_change_logs.nd rfl (Or.inl rfl)) (pss_one (ps_expr (x_bm (K := K) PySem.F.plainAttrs_list PySem.F.slot_list_extend PySem.F.type_list_extend mt_extend (pv 7) (pa_cons (pe_lc (own := [("entry", 9)]) (g := (gName 9))  rfl sc_law_change_logs.nd (x_pil (K := K) (pe_dget hu (pv 1) (pv 8) (fun _ _ => rfl))) (blkOk_by (N := ["source", "rows", "names", "name", "way", "number", "spare", "taken", "other", "entry"]) (sc := (defScope s_law_change_logs)) (by decide +kernel)) (fun _ _ _ _ _ => (pg_name (i := 9) sc_law_change_logs.nd rfl (Or.inl rfl))) (fun _ _ _ _ _ => (pts_one (pt_cmpR op_eq (x_ixt (K := K) (pv 9) pe_int) pe_str (nomark _)))) (fun _ _ _ _ _ => (x_ixt (K := K) (pv 9) pe_int))) pa_nil)))))
      (pss_one (ps_if (pw_and (pt_cmpR op_eq (pv 4) pe_int (nomark _)) (pw_and1 (pt_cmpR op_lt (pe_callB call_lenD (by rfl) T.len PySem.boot_len (pa_cons (pv 1) pa_nil)) pe_int (nomark _)))).pt (pss_one (ps_dput hu (pv 1) (pv 6) (pe_lst pa_nil) rfl)) (pss_one (ps_if (pw_and (pt_cmpR op_eq (pv 4) pe_int (nomark _)) (pw_and1 (pt_cmpR op_lt (x_len (K := K) T (pe_dget hu (pv 1) (pv 3) (fun _ _ => rfl))) pe_int (nomark _)))).pt (pss_one (ps_expr (x_bm (K := K) PySem.F.plainAttrs_list PySem.F.slot_list_insert PySem.F.type_list_insert mt_insert (pe_dget hu (pv 1) (pv 3) (fun _ _ => rfl)) (pa_cons (pe_fn (G_law_pick.mono (by decide)) hr (pa_cons (pv 0) (pa_cons (pe_op op_add (x_len (K := K) T (pe_dget hu (pv 1) (pv 3) (fun _ _ => rfl))) pe_int) pa_nil))) (pa_cons (pe_tup (pa_cons pe_str (pa_cons (pv 5) pa_nil))) pa_nil))))) (pss_one (ps_if (pw_and (pt_cmpR op_eq (pv 4) pe_int (nomark _)) (pw_and (pt_cmpR op_lt (x_len (K := K) T (pe_dget hu (pv 1) (pv 3) (fun _ _ => rfl))) pe_int (nomark _)) (pw_and1 (pt_cmpR (x_ni (K := K) rfl) (pv 6) (pv 7) (by rfl))))).pt (pss_one (ps_expr (x_bm (K := K) PySem.F.plainAttrs_list PySem.F.slot_list_append PySem.F.type_list_append mt_append (pe_dget hu (pv 1) (pv 3) (fun _ _ => rfl)) (pa_cons (pe_tup (pa_cons pe_str (pa_cons (pv 6) pa_nil))) pa_nil)))) (pss_one (ps_if (pt_cmpR (op_inDK (K := K) rfl hr) (pe_tup (pa_cons pe_str (pa_cons (pe_op op_mod (pv 5) pe_int) pa_nil))) (pe_dget hu (pv 1) (pv 3) (fun _ _ => rfl)) (by rfl)) (pss_one (ps_expr (x_bm (K := K) PySem.F.plainAttrs_list PySem.F.slot_list_remove PySem.F.type_list_remove (mt_removeD (K := K) rfl hr.units) (pe_dget hu (pv 1) (pv 3) (fun _ _ => rfl)) (pa_cons (pe_tup (pa_cons pe_str (pa_cons (pe_op op_mod (pv 5) pe_int) pa_nil))) pa_nil)))) pss_nil))))))))))))), ?_⟩
    obtain ⟨ys0, hs0⟩ := hs.at_
    obtain ⟨zs, hz⟩ := sortz_ex ws L
    have pn2 := hz.names v.len
    have wk := v.wk.2.1
    have wk1 := v.wk.1
    have zl : zs.length = ws.length := by have := pn2.length_eq; rwa [List.length_map] at this
    have nds : d ≠ s := fun z => nsd (by rw [← z]; simp)
    refine q_asgL (xs := (zs.map (·.1)).map V.str) (el_sortedD (ev_var rfl) (Or.inl hl.dk) (dk_keys hl.pl) (by omega) pn2 hz.2) fun pw H1 n1 e1 h1 => ?_
    have S1 := hs.ex e1
    have nws : pw ≠ s := fun z => by rw [z, hs0] at n1; cases n1
    try dsimp only [gName]
    refine sk_par (c := 2) (P1 := fun u => ∃ x ∈ zs.map (·.1), u = .str x) (P2 := fun u => ∃ r : Int, u = .int r ∧ 0 ≤ r ∧ r < 4) S1 (eka_cons (c := 1) (d := 1) (hid_s _ _) (ek_nameOf (hid_s _ _) rfl rfl ((hid_ne nws).trans h1) (by rw [List.length_map]; omega) (by rw [List.length_map]; omega)) (eka_cons (c := 1) (d := 0) (hid_s _ _) (ek_pick (c := 0) (m := 4) (hid_s _ _) rfl (ek_of ev_c rfl) (by decide) (by decide)) eka_nil)) (by omega) fun v1 v2 H2 k2 S2 p1 p2 => ?_
    obtain ⟨x, hx, rfl⟩ := p1
    obtain ⟨way, rfl, wy0, wy4⟩ := p2
    try dsimp only [gName]
    refine sk_par (c := 2) (P1 := fun u => ∃ r : Int, u = .int r ∧ 0 ≤ r ∧ r < 61) (P2 := fun u => ∃ sp, u = .str sp ∧ Spr sp) S2 (eka_cons (c := 1) (d := 1) (hid_s _ _) (ek_pick (c := 0) (m := 61) (hid_s _ _) rfl (ek_of ev_c rfl) (by decide) (by decide)) (eka_cons (c := 1) (d := 0) (hid_s _ _) (ek_op (c := 1) (d := 0) (P := fun u => ∃ c, 97 ≤ c ∧ c ≤ 122 ∧ u = .str (sg 113 ++ sg c)) (hid_s _ _) (ek_op (c := 0) (d := 1) (P := fun u => u = .str (sg 113)) (hid_s _ _) (ek_of ev_c (by decide +kernel)) (ek_op (c := 0) (d := 1) (P := fun u => u = .str abc) (P2 := fun u => ∃ c, 97 ≤ c ∧ c ≤ 122 ∧ u = .str (sg c)) (hid_s _ _) (ek_of ev_c rfl) (ek_pick (c := 0) (m := 26) (hid_s _ _) rfl (ek_of ev_c rfl) (by decide) (by decide)) (fun a b ha hb => ?_)) (fun a b ha hb => ?_)) (ek_of (P := fun u => u = .str (sg 113)) ev_c (by decide +kernel)) (fun a b ha hb => ?_)) eka_nil)) (by omega) fun v1 v2 H3 k3 S3 p1 p2 => ?_
    · subst ha
      obtain ⟨r, rfl, r0, r1⟩ := hb
      obtain ⟨c, rfl⟩ : ∃ c : Nat, r = (c : Int) := ⟨r.toNat, by omega⟩
      exact ⟨_, ⟨97 + c, by omega, by omega, rfl⟩, rv_ixS (by decide +kernel) (abc_at (j := c) (by omega) rfl)⟩
    · subst ha
      obtain ⟨c, c0, c1, rfl⟩ := hb
      exact ⟨_, ⟨c, c0, c1, rfl⟩, rv_addS (by rw [sg_len, sg_len]; decide)⟩
    · subst hb
      obtain ⟨c, c0, c1, rfl⟩ := ha
      exact ⟨_, ⟨_, rfl, c, c0, c1, rfl⟩, rv_addS (by rw [PySem.Str.length_append, sg_len, sg_len]; decide)⟩
    obtain ⟨num, rfl, nm0, nm6⟩ := p1
    obtain ⟨sp, rfl, spr⟩ := p2
    try dsimp only [gName]
    obtain ⟨ys3, hs3⟩ := S3.at_
    have h3w := k3 _ _ nws (k2 _ _ nws h1)
    have K3 : KB s H H3 := ((kb_ex e1).trans k2).trans k3
    have hl3 := hl.kb K3 hs0 (fun p hp z => nsd (by rw [← z]; simp [hp]))
    obtain ⟨m, hm⟩ := List.mem_iff_getElem?.mp (pn2.mem_iff.mp hx)
    obtain ⟨pm, hpm⟩ : ∃ pm, ps[m]? = some pm := ⟨_, List.getElem?_eq_getElem (by rw [hl.pl]; exact (List.getElem?_eq_some_iff.mp hm).1)⟩
    obtain ⟨es, hes⟩ : ∃ es, L[m]? = some es := ⟨_, List.getElem?_eq_getElem (by rw [v.len]; exact (List.getElem?_eq_some_iff.mp hm).1)⟩
    have en := v.ent es (List.mem_of_getElem? hes)
    refine q_asgL (xs := []) (el_lst ea_nil (by decide)) fun pt H4 n4 e4 h4 => ?_
    have hl4 := hl3.ex e4
    have npt : ∀ {b o}, H3 b = some o → b ≠ pt := fun h => ne_of_none h n4
    have nptd : d ≠ pt := npt hl3.dk
    have npts : s ≠ pt := npt hs3
    have nptw : pw ≠ pt := npt h3w
    have ntp : ∀ p ∈ ps, p ≠ pt := fun p hp => by
      obtain ⟨i, hi⟩ := List.mem_iff_getElem?.mp hp
      obtain ⟨as, g, _⟩ := hl3.lg i p _ hi (List.getElem?_eq_getElem (show i < L.length by rw [v.len, ← hl.pl]; exact (List.getElem?_eq_some_iff.mp hi).1))
      exact npt g
    try dsimp only [gName]
    have zat : ∀ {i : Nat} {z : Str × List En}, zs[i]? = some z → ∃ k : Nat, ws[k]? = some z.1 ∧ L[k]? = some z.2 := fun {i z} h => by
      obtain ⟨k, hk⟩ := List.mem_iff_getElem?.mp (hz.1.mem_iff.mp (List.mem_of_getElem? h))
      rw [List.getElem?_zip_eq_some] at hk
      exact ⟨k, hk.1, hk.2⟩
    have tlen : ∀ i : Nat, ((((zs.take i).map (·.2)).flatMap pus)).length ≤ 360 := fun i => by
      have := flat_len (L := (zs.take i).map (·.2)) (top := 60) fun es he => by
        obtain ⟨z, hz2, rfl⟩ := List.mem_map.mp he
        obtain ⟨j, hj⟩ := List.mem_iff_getElem?.mp (List.mem_of_mem_take hz2)
        obtain ⟨k, _, h2⟩ := zat hj
        exact (v.ent _ (List.mem_of_getElem? h2)).1
      have l2 : ((zs.take i).map (·.2)).length ≤ 6 := by
        rw [List.length_map, List.length_take]
        omega
      omega
    refine q_forLn (xs := (zs.map (·.1)).map V.str) (ev_var rfl) (sq_of (e4 _ _ h3w)) (fun i σ' H' => (∃ b8 b9, σ' = [some (.ref s), some (.ref d), some (.ref pw), some (.str x), some (.int way), some (.int num), some (.str sp), some (.ref pt), b8, b9]) ∧ KB pt H4 H' ∧ H' pt = some (.lst ((((zs.take i).map (·.2)).flatMap pus).map V.str)))
      (fun H5 e5 => ⟨⟨_, _, rfl⟩, kb_ex e5, e5 _ _ h4⟩) (fun i σ' H' _ p => sq_of (p.2.1 _ _ nptw (e4 _ _ h3w))) (fun i u σ' H5 hu2 p => ?_) (fun σ' H5 p => ?_)
    · obtain ⟨⟨b8, b9, rfl⟩, k5, h5⟩ := p
      rw [List.getElem?_map, List.getElem?_map] at hu2
      obtain ⟨y, hy, rfl⟩ := Option.map_eq_some_iff.mp hu2
      obtain ⟨z, hz2, rfl⟩ := Option.map_eq_some_iff.mp hy
      obtain ⟨k, g1, g2⟩ := zat hz2
      obtain ⟨pk, hpk⟩ : ∃ pk, ps[k]? = some pk := ⟨_, List.getElem?_eq_getElem (by rw [hl.pl]; exact (List.getElem?_eq_some_iff.mp g1).1)⟩
      have hl5 := hl4.kb k5 h4 ntp
      refine ⟨_, rfl, Or.inl ⟨rfl, _, sq_of h5⟩, ?_⟩
      refine el_pusD (ev_dget (ev_var rfl) (ev_var rfl) hl5.dk (dk_get v.wk.2.2.1 g1 hpk)) (hl5.lg k pk _ hpk g2) (Nat.le_trans (v.ent _ (List.mem_of_getElem? g2)).1 (by decide)) (fun _ => rfl) (fun _ => rfl) H5 (Ex.refl _) _ fun b H6 n6 e6 h6 => ?_
      have ti := tlen i
      have pl := pus_len z.2
      have zl60 := (v.ent _ (List.mem_of_getElem? g2)).1
      refine ⟨pt, b, _, _, rfl, rfl, e6 _ _ h5, h6, sz_of (by rw [List.length_map, List.length_map]; omega), ⟨_, _, rfl⟩, (k5.trans (kb_ex e6)).trans KB.upd, ?_⟩
      have : zs.take (i + 1) = zs.take i ++ [z] := by
        rw [List.take_add_one, hz2]
        rfl
      rw [upd_same, this, List.map_append, List.flatMap_append, List.map_append]
      show some (HO.lst (_ ++ _)) = some (HO.lst (_ ++ List.map V.str (pus z.2 ++ [])))
      rw [List.append_nil]
    obtain ⟨⟨b8, b9, rfl⟩, k5, h5⟩ := p
    rw [List.length_map, List.length_map, List.take_length] at h5
    have hl5 := hl4.kb k5 h4 ntp
    have S5 : Src H5 s (n + 2 + 2) := (S3.ex e4).kb k5 npts
    have K5 : KA (s :: d :: ps) H H5 := fun b o nb hb => by
      have h3 := K3 b o (fun z => nb (by rw [z]; simp)) hb
      exact k5 b o (npt h3) (e4 _ _ h3)
    have npL : sp ∉ (zs.map (·.2)).flatMap pus → sp ∉ L.flatMap pus := fun h m => h (by
      obtain ⟨es2, h1, h2⟩ := List.mem_flatMap.mp m
      exact List.mem_flatMap.mpr ⟨es2, (hz.logs v.len).mem_iff.mpr h1, h2⟩)
    have inps : ∀ {a}, a ∈ ps → a ∈ ps ∨ H a = none := fun h => Or.inl h
    have fr : ∀ {H6 H7 : Hp} {r : Addr}, Ex H5 H6 → Ex H6 H7 → H6 r = none → H r = none := fun {H6 H7 r} e6 e7 h => by
      cases q3 : H r with
      | none => rfl
      | some o =>
        by_cases hm2 : r ∈ s :: d :: ps
        · exfalso
          rcases List.mem_cons.mp hm2 with z | hm2
          · obtain ⟨xs5, hs5⟩ := S5.at_
            rw [z, e6 _ _ hs5] at h
            cases h
          rcases List.mem_cons.mp hm2 with z | hm2
          · rw [z, e6 _ _ hl5.dk] at h
            cases h
          · obtain ⟨i, hi⟩ := List.mem_iff_getElem?.mp hm2
            obtain ⟨as, g, _⟩ := hl5.lg i r _ hi (List.getElem?_eq_getElem (show i < L.length by rw [v.len, ← hl.pl]; exact (List.getElem?_eq_some_iff.mp hi).1))
            rw [e6 _ _ g] at h
            cases h
        · have := e6 _ _ (K5 r o hm2 q3)
          rw [h] at this
          cases this
    have evx : ∀ {B : Hp}, B d = some (.dK (Dk ws ps)) → Ev (tDGet (tVar 1) (tVar 3)) [some (.ref s), some (.ref d), some (.ref pw), some (.str x), some (.int way), some (.int num), some (.str sp), some (.ref pt), b8, b9] B (.ref pm) := fun h => ev_dget (ev_var rfl) (ev_var rfl) h (dk_get v.wk.2.2.1 hm hpm)
    obtain ⟨as5, ha5, pa5⟩ := hl5.lg m pm es hpm hes
    have al5 : as5.length = es.length := by rw [pa5.length, List.length_map]
    have npm : d ≠ pm := fun z => by rw [← z, hl5.dk] at ha5; cases ha5
    have nps : s ≠ pm := fun z => nsd (by rw [z]; exact List.mem_cons_of_mem _ (List.mem_of_getElem? hpm))
    have evl : ∀ {B : Hp}, B d = some (.dK (Dk ws ps)) → B pm = some (.lst (as5.map V.ref)) → Ev (tCB (rLenS K) (tCons (tDGet (tVar 1) (tVar 3)) tNil)) [some (.ref s), some (.ref d), some (.ref pw), some (.str x), some (.int way), some (.int num), some (.str sp), some (.ref pt), b8, b9] B (.int (es.length : Int)) := fun h1 h2 => ev_is (ev_len (evx h1) (sq_of h2)) (by rw [List.length_map, al5])
    -- what stays when the one log is changed
    have done : ∀ {H6 : Hp} {es' : List En} {us : List V} {n' : Nat}, KA [s, pm] H5 H6 → Src H6 s n' → n' ≤ n + 20 → H6 pm = some (.lst us) → TL (upd H6 pm (.lst us)) pm (es'.map En.vs) → Vlog 60 ws (L.set m es') → StOk (L.set m es') → Q .non H6 := fun {H6 es' us n'} k6 S6 hn6 h6 t6 v6 so6 => by
      have tk : TK H5 H6 := fun a t h => k6 a _ (fun z => by
        rcases List.mem_cons.mp z with z | z
        · obtain ⟨xs5, hs5⟩ := S5.at_
          rw [z, hs5] at h
          cases h
        · rw [List.mem_singleton.mp z, ha5] at h
          cases h) h
      have same : ∀ p ∈ ps, p ≠ pm → H6 p = H5 p := fun p hp np => by
        obtain ⟨i, hi⟩ := List.mem_iff_getElem?.mp hp
        obtain ⟨as, g, _⟩ := hl5.lg i p _ hi (List.getElem?_eq_getElem (show i < L.length by rw [v.len, ← hl.pl]; exact (List.getElem?_eq_some_iff.mp hi).1))
        rw [g]
        exact k6 p _ (fun z => by
          rcases List.mem_cons.mp z with z | z
          · exact nsd (by rw [← z]; exact List.mem_cons_of_mem _ hp)
          · exact np (List.mem_singleton.mp z)) g
      have hd6 : H6 d = H5 d := by
        rw [hl5.dk]
        exact k6 d _ (fun z => by
          rcases List.mem_cons.mp z with z | z
          · exact nds z
          · exact npm (List.mem_singleton.mp z)) hl5.dk
      have t6' : TL H6 pm (es'.map En.vs) := t6.keep (fun a t h => by rwa [upd_ne (fun z => by rw [z, upd_same] at h; cases h)] at h) (by rw [upd_same, h6])
      exact q ws ps (L.set m es') H6 (fun b o nb hb => k6 b o (fun z => nb (by
        rcases List.mem_cons.mp z with z | z
        · rw [z]; simp
        · rw [List.mem_singleton.mp z]
          exact List.mem_cons_of_mem _ (List.mem_cons_of_mem _ (List.mem_of_getElem? hpm)))) (K5 b o nb hb)) (S6.le hn6) (hl5.setL pn tk hd6 hpm same t6') pn v6 so6 fun a ha => Or.inl ha
    have stes : ∀ o x, En.steal o x ∈ es → o ∈ wk10 := so es (List.mem_of_getElem? hes)
    have ppm : ∀ {H6 : Hp}, Ex H5 H6 → H6 pm = some (.lst (as5.map V.ref)) := fun e => e _ _ ha5
    have pd6 : ∀ {H6 : Hp}, Ex H5 H6 → H6 d = some (.dK (Dk ws ps)) := fun e => e _ _ hl5.dk
    refine s_if (b := decide (V.int way = V.int 0) && decide ((ws.length : Int) < 6)) (et_is (et_and (a := decide (V.int way = V.int 0)) (b := decide ((ws.length : Int) < 6)) (et_test (ev_op (ev_var rfl) ev_c (rv_eq rfl))) (fun _ => et_test (ev_op (x := .int (ws.length : Int)) (fun H6 e6 Q6 q6 => ⟨_, rfl, d, _, rfl, pd6 e6, by rw [dk_len hl5.pl]; exact q6 H6 (Ex.refl _)⟩) ev_c rv_I0))) rfl) (fun hb H6 e6 => ?_) (fun _ H6 e6 => ?_)
    · have wl6 : ws.length < 6 := by
        rw [Bool.and_eq_true] at hb
        have := of_decide_eq_true hb.2
        omega
      refine (el_lst (vs := []) ea_nil (by decide)) H6 (Ex.refl _) _ fun r H7 n7 e7 h7 => ?_
      have hl7 := (hl5.ex e6).ex e7
      have S7 := (S5.ex e6).ex e7
      have nrd : d ≠ r := fun z => by rw [← z, hl7.dk] at h7; cases h7
      have rn : r ∉ ps := fun hm2 => by
        obtain ⟨i, hi⟩ := List.mem_iff_getElem?.mp hm2
        obtain ⟨as, g, _⟩ := hl5.lg i r _ hi (List.getElem?_eq_getElem (show i < L.length by rw [v.len, ← hl.pl]; exact (List.getElem?_eq_some_iff.mp hi).1))
        rw [e6 _ _ g] at n7
        cases n7
      refine ⟨_, rfl, _, rfl, d, _, rfl, DPut.k (k := .inr sp) (v := .ref r) hl7.dk (by rw [dk_len hl7.pl]; exact sz_lt (by omega)), ?_⟩
      have K7 : ∀ kv, KA (s :: d :: ps) H (upd H7 d (.dK kv)) := fun kv b o nb hb2 => by
        rw [upd_ne (fun z => nb (by rw [z]; simp))]
        exact e7 _ _ (e6 _ _ (K5 b o nb hb2))
      have S8 : ∀ kv, Src (upd H7 d (.dK kv)) s (n + 20) := fun kv => (S7.upd nds.symm).le (by omega)
      by_cases hsp : sp ∈ ws
      · obtain ⟨k, hk⟩ := List.mem_iff_getElem?.mp hsp
        rw [putK_dk v.wk.2.2.1 hk hl7.pl]
        refine q ws (ps.set k r) (L.set k []) _ (K7 _) (S8 _) (hl7.put (es := []) (List.getElem?_eq_some_iff.mp hk).1 (TL.nil h7)) (nodup_set pn rn) (v.clear1 hk fun es2 he y hy => spr.no10 (so es2 he sp y hy)) (so.set fun o y h => by cases h) fun a ha => ?_
        rcases List.mem_or_eq_of_mem_set ha with ha | rfl
        · exact Or.inl ha
        · exact Or.inr (fr e6 e7 n7)
      · rw [put_new (kvs := Dk ws ps) (k := .inr sp) (v := .ref r) fun kv hkv e => hsp (by
          obtain ⟨i, x2, r2, g1, _, rfl⟩ := dk_mem0 hkv
          have := Sum.inr.inj e
          rw [← this]
          exact List.mem_of_getElem? g1), ← dk_snoc hl7.pl]
        have tk : TK H7 (upd H7 d (.dK (Dk (ws ++ [sp]) (ps ++ [r])))) := fun a xs h => by rw [upd_ne (fun z => by rw [z, hl7.dk] at h; cases h)]; exact h
        refine q (ws ++ [sp]) (ps ++ [r]) (L ++ [[]]) _ (K7 _) (S8 _) ⟨upd_same, by rw [List.length_append, List.length_append, hl7.pl]; rfl, fun i p es2 h1 h2 => ?_⟩ (List.nodup_append.mpr ⟨pn, by simp, fun a ha b hb2 e => rn (by rw [List.mem_singleton.mp hb2] at e; rw [← e]; exact ha)⟩) (v.add spr.nm hsp wl6) (fun es2 he o y hy => ?_) fun a ha => ?_
        · by_cases hi : i < ps.length
          · rw [List.getElem?_append_left hi] at h1
            rw [List.getElem?_append_left (by rw [v.len, ← hl.pl]; exact hi)] at h2
            have t := hl7.lg i p es2 h1 h2
            have t0 := t
            obtain ⟨bs, hb2, _⟩ := t0
            exact t.keep tk (upd_ne fun z => by rw [z, hl7.dk] at hb2; cases hb2)
          · have pll : ps.length = L.length := by rw [hl.pl, v.len]
            rw [List.getElem?_append_right (by omega)] at h1
            rw [List.getElem?_append_right (by omega), ← pll] at h2
            have hz0 : i - ps.length = 0 := by
              have := (List.getElem?_eq_some_iff.mp h1).1
              simp at this
              omega
            rw [hz0] at h1 h2
            cases h1
            cases h2
            exact (TL.nil (by rw [upd_ne nrd.symm]; exact h7))
        · rcases List.mem_append.mp he with he | he
          · exact so es2 he o y hy
          · rw [List.mem_singleton.mp he] at hy
            cases hy
        · rcases List.mem_append.mp ha with ha | ha
          · exact Or.inl ha
          · rw [List.mem_singleton.mp ha]
            exact Or.inr (fr e6 e7 n7)
    refine s_if (b := decide (V.int way = V.int 1) && decide ((es.length : Int) < 60)) (et_is (et_and (a := decide (V.int way = V.int 1)) (b := decide ((es.length : Int) < 60)) (et_test (ev_op (ev_var rfl) ev_c (rv_eq rfl))) (fun _ => et_test (ev_op (evl (pd6 e6) (ppm e6)) ev_c rv_I0))) rfl) (fun hb H7 e7 => ?_) (fun _ H7 e7 => ?_)
    · have el6 : es.length < 60 := by
        rw [Bool.and_eq_true] at hb
        have := of_decide_eq_true hb.2
        omega
      have E7 := e6.trans e7
      refine evx (pd6 E7) H7 (Ex.refl _) _ fun H8 e8 => ⟨Or.inl ⟨rfl, _, sq_of (ppm (E7.trans e8))⟩, ?_⟩
      have E8 := E7.trans e8
      refine (ek_pick (c := 0) (m := (es.length : Int) + 1) (hid_s s H8) rfl (ek_of (ev_op (evl ((hid_ne nds).trans (pd6 E8)) ((hid_ne nps.symm).trans (ppm E8))) ev_c rv_I0) rfl) (by omega) (by omega)) H8 (n + 2 + 2) (hid_ex _ _) (S5.ex E8) (by omega) _ fun u H9 k9 S9 p9 => ?_
      obtain ⟨r, rfl, r0, r1⟩ := p9
      refine ⟨_, rfl, (by show 2 ≤ sizeLine; decide), fun t ht => ?_⟩
      have h9m : H9 pm = some (.lst (as5.map V.ref)) := k9 _ _ nps.symm (ppm E8)
      have ntm : pm ≠ t := ne_of_none h9m ht
      have e10 : Ex H9 (upd H9 t (.tup [.str "size", .int num])) := Ex.new ht
      have h10 : (upd H9 t (.tup [.str "size", .int num])) t = some (.tup (En.size num).vs) := upd_same
      generalize upd H9 t (.tup [.str "size", .int num]) = H10 at e10 h10 ⊢
      have h10m := e10 _ _ h9m
      refine ⟨pm, as5.map V.ref, r, .ref t, rfl, rfl, h10m, sz_lt (by rw [List.length_map]; omega), r0, by omega, ?_⟩
      have us : (as5.map V.ref).take r.toNat ++ [V.ref t] ++ (as5.map V.ref).drop r.toNat = (as5.take r.toNat ++ [t] ++ as5.drop r.toNat).map V.ref := by
        rw [List.map_append, List.map_append, List.map_take, List.map_drop]
        rfl
      rw [us]
      have K10 : KA [s, pm] H5 H10 := fun b o nb hb2 => e10 _ _ (k9 b o (fun z => nb (by rw [z]; simp)) (E8 _ _ hb2))
      have pa10 : Paired (fun a t => H10 a = some (.tup t)) as5 (es.map En.vs) := paired_imp (fun a t2 z => K10 a _ (fun m2 => by
        rcases List.mem_cons.mp m2 with m2 | m2
        · obtain ⟨xs5, hs5⟩ := S5.at_
          rw [m2, hs5] at z
          cases z
        · rw [List.mem_singleton.mp m2, ha5] at z
          cases z) z) pa5
      have pins : Paired (fun a t => H10 a = some (.tup t)) (as5.take r.toNat ++ [t] ++ as5.drop r.toNat) ((es.take r.toNat ++ [En.size num] ++ es.drop r.toNat).map En.vs) := by
        rw [List.map_append, List.map_append, List.map_take, List.map_drop]
        exact paired_app (paired_drop _ pa10) (paired_app (P := fun a t => H10 a = some (.tup t)) (.cons h10 .nil) (paired_take _ pa10))
      have okn : ∀ e ∈ es.take r.toNat ++ [En.size num] ++ es.drop r.toNat, e.ok := fun e he => by
        rcases List.mem_append.mp he with he | he
        · rcases List.mem_append.mp he with he | he
          · exact en.2 e (List.mem_of_mem_take he)
          · rw [List.mem_singleton.mp he]
            exact ⟨nm0, by omega⟩
        · exact en.2 e (List.mem_of_mem_drop he)
      have lenn : (es.take r.toNat ++ [En.size num] ++ es.drop r.toNat).length ≤ 60 := by
        rw [List.length_append, List.length_append, List.length_take, List.length_drop, List.length_singleton]
        omega
      refine done (H6 := upd H10 pm _) (us := _) (fun b o nb hb2 => by rw [upd_ne (fun z => nb (by rw [z]; simp))]; exact K10 b o nb hb2) (((S9.ex e10).upd nps)) (by omega) upd_same ?_ (v.setN hes (nsz_ins es r.toNat num) lenn okn) (so.set fun o y hy => ?_)
      · refine ⟨_, upd_same, paired_imp (fun a t2 z => ?_) pins⟩
        have np2 : a ≠ pm := fun y => by rw [y, h10m] at z; cases z
        rw [upd_ne np2, upd_ne np2]
        exact z
      · rcases List.mem_append.mp hy with hy | hy
        · rcases List.mem_append.mp hy with hy | hy
          · exact stes o y (List.mem_of_mem_take hy)
          · cases List.mem_singleton.mp hy
        · exact stes o y (List.mem_of_mem_drop hy)
    have E7 := e6.trans e7
    refine s_if (b := decide (V.int way = V.int 2) && (decide ((es.length : Int) < 60) && !inV (V.str sp) (((zs.map (·.2)).flatMap pus).map V.str))) (et_is (et_and (a := decide (V.int way = V.int 2)) (et_test (ev_op (ev_var rfl) ev_c (rv_eq rfl))) (fun _ => et_and (a := decide ((es.length : Int) < 60)) (et_test (ev_op (evl (pd6 E7) (ppm E7)) ev_c rv_I0)) (fun _ => et_test (ev_op (ev_var rfl) (ev_var rfl) (rv_niL (sq_of (E7 _ _ h5)) rfl (by simp [flatV])))))) rfl) (fun hb H8 e8 => ?_) (fun _ H8 e8 => ?_)
    · rw [Bool.and_eq_true, Bool.and_eq_true] at hb
      have el6 : es.length < 60 := by
        have := of_decide_eq_true hb.2.1
        omega
      have nsp : sp ∉ L.flatMap pus := npL (by
        have h2 := hb.2.2
        rw [inV_strs] at h2
        simpa using h2)
      have E8 := E7.trans e8
      refine s_appU (ys := [.str "push", .str sp]) (ppm E8) (evx (pd6 E8)) (eu_tup (ea_cons ev_c (ea_cons (ev_var rfl) ea_nil)) (by show 2 ≤ 100000; decide)) (by rw [List.length_map]; omega) fun t H9 nt e9 ht => ?_
      have E9 := E8.trans e9
      have h9m := ppm E9
      have us : as5.map V.ref ++ [V.ref t] = (as5 ++ [t]).map V.ref := by rw [List.map_append]; rfl
      rw [us]
      refine done (H6 := upd H9 pm _) (us := _) (es' := es ++ [.push sp]) (fun b o nb hb2 => by rw [upd_ne (fun z => nb (by rw [z]; simp))]; exact E9 _ _ hb2) ((S5.ex E9).upd nps) (by omega) upd_same ?_ (v.app (e := .push sp) hes el6 (show IsNm sp from spr.nm) ?_ ?_ (fun y z => by cases z) (fun w o y _ z => by cases z)) (so.set fun o y hy => ?_)
      · refine ⟨_, upd_same, ?_⟩
        rw [show (es ++ [En.push sp]).map En.vs = es.map En.vs ++ [(En.push sp).vs] from List.map_append]
        refine paired_imp (fun a t2 z => ?_) (paired_app (P := fun a t => H9 a = some (.tup t)) (.cons (show H9 t = some (.tup (En.push sp).vs) from ht) .nil) (paired_imp (fun a t2 z => E9 _ _ z) pa5))
        have np2 : a ≠ pm := fun y => by rw [y, h9m] at z; cases z
        rw [upd_ne np2, upd_ne np2]
        exact z
      · refine List.nodup_append.mpr ⟨v.pu, by simp [En.pu], fun a ha b hb2 e => nsp ?_⟩
        have : b = sp := by simpa [En.pu] using hb2
        rw [← this, ← e]
        exact ha
      · show (L.flatMap res ++ []).Nodup
        rw [List.append_nil]
        exact v.re
      · rcases List.mem_append.mp hy with hy | hy
        · exact stes o y hy
        · cases List.mem_singleton.mp hy
    have E8 := E7.trans e8
    have emod : ∀ {H' : Hp}, Ev (tOp (rI (fun x j => 0 < j) fun i j => .int (i % j)) (tVar 5) (tC (.int 5))) [some (.ref s), some (.ref d), some (.ref pw), some (.str x), some (.int way), some (.int num), some (.str sp), some (.ref pt), b8, b9] H' (.int (num % 5)) := ev_op (ev_var rfl) ev_c (rv_I (C := fun x j => 0 < j) (by decide))
    have etup : ∀ {H' : Hp}, EvU (tTup (tCons (tC (.str "size")) (tCons (tOp (rI (fun x j => 0 < j) fun i j => .int (i % j)) (tVar 5) (tC (.int 5))) tNil))) [some (.ref s), some (.ref d), some (.ref pw), some (.str x), some (.int way), some (.int num), some (.str sp), some (.ref pt), b8, b9] H' [.str "size", .int (num % 5)] := eu_tup (ea_cons ev_c (ea_cons emod ea_nil)) (by show 2 ≤ 100000; decide)
    have nmS : IsNm "size" := (by decide +kernel : ∀ z ∈ (["size"] : List Str), 1 ≤ z.length ∧ z.length ≤ 8 ∧ ∀ c ∈ z.cps.toList, 97 ≤ c ∧ c ≤ 122) "size" (by simp)
    have laySz : (szD (num % 5)).canLay0 = true := by simp only [szD, PyData.canLay0, PyData.canLayAll0, nmS.strOk, Bool.and_self]
    have dpSz : (szD (num % 5)).depth ≤ 8 := by simp [szD, PyData.depth, PyData.depthAll]
    have lay := log_lay en.2
    have layAll := lay_ens en.2
    have shp : ∀ {x : PyData}, x.canLay0 = true → x.depth ≤ 8 → SeqAt.shaped x = true := fun h1 h2 => by
      unfold SeqAt.shaped
      rw [Bool.and_eq_true]
      exact ⟨h1, decide_eq_true (by omega)⟩
    refine s_if (b := (es.map En.data).any fun z => PyData.eqv z (szD (num % 5))) (et_test fun H9 e9 Q9 q9 => etup H9 (Ex.refl _) _ fun t H10 nt e10 ht => evx (pd6 ((E8.trans e9).trans e10)) H10 (Ex.refl _) _ fun H11 e11 => ⟨szD (num % 5), es.map En.data, .tup (st_of (e11 _ _ ht)) (.cons (.str _) (.cons (.int _) .nil)), tl_dp ((hl5.lg m pm es hpm hes).ex (((E8.trans e9).trans e10).trans e11)), shp laySz dpSz, shp lay.1 lay.2, q9 H11 (e10.trans e11)⟩) (fun hb H9 e9 => ?_) (fun _ H9 e9 => ?_)
    · have E9 := E8.trans e9
      obtain ⟨j, hj⟩ : ∃ j, SeqAt.dataPlace (es.map En.data) (szD (num % 5)) = some j := by
        have : (SeqAt.dataPlace (es.map En.data) (szD (num % 5))).isSome = true := by
          unfold SeqAt.dataPlace
          rw [List.findIdx?_isSome]
          exact hb
        exact Option.isSome_iff_exists.mp this
      obtain ⟨hjl, hj2, _⟩ := List.findIdx?_eq_some_iff_getElem.mp hj
      rw [List.getElem_map] at hj2
      obtain ⟨kk, hkk⟩ := szD_eqv hj2
      have hej : es[j]? = some (.size kk) := by
        rw [← hkk]
        exact List.getElem?_eq_getElem (by rw [List.length_map] at hjl; exact hjl)
      refine evx (pd6 E9) H9 (Ex.refl _) _ fun H10 e10 => ⟨Or.inl ⟨rfl, _, sq_of (ppm (E9.trans e10))⟩, etup H10 (Ex.refl _) _ fun t H11 nt e11 ht => ?_⟩
      have E11 := (E9.trans e10).trans e11
      have h11m := ppm E11
      have pa11 : Paired (fun a t => H11 a = some (.tup t)) as5 (es.map En.vs) := paired_imp (fun a t z => E11 _ _ z) pa5
      refine ⟨pm, .ref t, szD (num % 5), es.map En.data, as5.map V.ref, j, rfl, rfl, h11m, dp_ens pa11, .tup (st_of ht) (.cons (.str _) (.cons (.int _) .nil)), layAll, laySz, dpSz, hj, ?_⟩
      have us : (as5.map V.ref).eraseIdx j = (as5.take j ++ as5.drop (j + 1)).map V.ref := by
        rw [List.eraseIdx_eq_take_drop_succ, List.map_append, List.map_take, List.map_drop]
      rw [us]
      refine done (H6 := upd H11 pm _) (us := _) (es' := es.eraseIdx j) (fun b o nb hb2 => by rw [upd_ne (fun z => nb (by rw [z]; simp))]; exact E11 _ _ hb2) ((S5.ex E11).upd nps) (by omega) upd_same ?_ (v.setN hes (nsz_erase hej) (Nat.le_trans (List.length_eraseIdx_le es j) en.1) fun e he => en.2 e (List.mem_of_mem_eraseIdx he)) (so.set fun o y hy => stes o y (List.mem_of_mem_eraseIdx hy))
      refine ⟨_, upd_same, ?_⟩
      have ee : (es.eraseIdx j).map En.vs = (es.map En.vs).take j ++ (es.map En.vs).drop (j + 1) := by
        rw [List.eraseIdx_eq_take_drop_succ, List.map_append, List.map_take, List.map_drop]
      rw [ee]
      refine paired_imp (fun a t2 z => ?_) (paired_app (paired_drop (j + 1) pa11) (paired_take j pa11))
      have np2 : a ≠ pm := fun y => by rw [y, h11m] at z; cases z
      rw [upd_ne np2, upd_ne np2]
      exact z
    · have E9 := E8.trans e9
      have hl9 := hl5.ex E9
      exact q ws ps L H9 (fun b o nb hb2 => E9 _ _ (K5 b o nb hb2)) ((S5.ex E9).le (by omega)) hl9 pn v so fun a ha => Or.inl ha
end
end Vx

set_option Elab.async false
set_option linter.all false
set_option maxRecDepth 100000
set_option maxHeartbeats 8000000
namespace Vx
open PySem PySem.Spec PyProof.Rows L2 Evl
def spChange : Sp := fun vs H Q _ => ∃ (s : Addr) (n : Nat) (v : V) (val : Vl) (as : List Addr), vs = [.ref s, .int val.door, v] ∧ Src H s n ∧ n + 40 ≤ 1000000000 ∧ VAt H v val as ∧ OkV val ∧ s ∉ as ∧
  ∀ val' as' H', KA (s :: as) H H' → Src H' s (n + 40) → VAt H' v val' as' → OkV val' → val'.door = val.door → (∀ a ∈ as', a ∈ as ∨ H a = none) → Q (.bl true) H'
theorem PrsA.set {H : Hp} {us : List V} {fs : List Pr2} {v : V} {a : Pr2} (h : PrsA H us fs) (i : Nat) (hv : PrV H v a) : PrsA H (us.set i v) (fs.set i a) := by
  refine ⟨by rw [List.length_set, List.length_set, h.1], fun j u b h1 h2 => ?_⟩
  by_cases z : i = j
  · subst z
    have l1 := (List.getElem?_eq_some_iff.mp h1).1
    rw [List.length_set] at l1
    rw [List.getElem?_set_self l1] at h1
    rw [List.getElem?_set_self (by rw [← h.1]; exact l1)] at h2
    cases h1
    cases h2
    exact hv
  · rw [List.getElem?_set_ne z] at h1 h2
    exact h.2 j u b h1 h2
theorem PrsA.reverse {H : Hp} {us : List V} {fs : List Pr2} (h : PrsA H us fs) : PrsA H us.reverse fs.reverse := by
  refine ⟨by rw [List.length_reverse, List.length_reverse, h.1], fun j u b h1 h2 => ?_⟩
  have l1 := (List.getElem?_eq_some_iff.mp h1).1
  rw [List.length_reverse] at l1
  rw [List.getElem?_reverse l1] at h1
  rw [List.getElem?_reverse (by rw [← h.1]; exact l1), ← h.1] at h2
  exact h.2 _ u b h1 h2
theorem s_revL {K : PySem.W.Frag} {ta : TE} {D : Ends} {σ : L2.St} {H : Hp} {l : Addr} {xs : List V} (hl : H l = some (.lst xs)) (ha : Ev ta σ H (.ref l)) (k : ∀ H1, Ex H H1 → D.nx σ (upd H1 l (.lst xs.reverse))) : tDrop (tBM0 K "list" rReverse ta) D σ H := ha H (Ex.refl H) _ fun H1 e1 =>
  ⟨Or.inl ⟨rfl, _, sq_of (e1 l _ hl)⟩, l, xs, rfl, rfl, e1 l _ hl, k H1 e1⟩
/-- append, pop, set the last or reverse -/
theorem q_chain {K : PySem.W.Frag} {tz : TS} {D : Ends} {H : Hp} {a0 a4 : Option V} {x : Nat} {p : Addr} {us : List V} {way : Int} {ent : V} {lim : Nat} (hp : H p = some (.lst us)) (hl : us.length ≤ 1000) (hlim : ([V.int 0, .int 200, .int 360] : List V)[x]? = some (.int (lim : Int)))
    (hne : ∀ H1, Ex H H1 → Ev (tOp (rNeD K) (tVar 2) (tLst tNil)) [a0, some (.int (x : Int)), some (.ref p), some (.int way), a4, some ent] H1 (.bl (!us.isEmpty)))
    (k1 : us.length < lim → ∀ H2, Ex H H2 → tz D [a0, some (.int (x : Int)), some (.ref p), some (.int way), a4, some ent] (upd H2 p (.lst (us ++ [ent]))))
    (k2 : us ≠ [] → ∀ H2, Ex H H2 → tz D [a0, some (.int (x : Int)), some (.ref p), some (.int way), a4, some ent] (upd H2 p (.lst us.dropLast)))
    (k3 : us ≠ [] → ∀ H2, Ex H H2 → tz D [a0, some (.int (x : Int)), some (.ref p), some (.int way), a4, some ent] (upd H2 p (.lst (us.set (us.length - 1) ent))))
    (k4 : ∀ H2, Ex H H2 → tz D [a0, some (.int (x : Int)), some (.ref p), some (.int way), a4, some ent] (upd H2 p (.lst us.reverse))) :
    tSeq (tIfS (tAnd (tTest (tOp rEq (tVar 3) (tC (.int 0)))) (tTest (tOp (rI0 fun i j => .bl (decide (i < j))) (tCB (rLenS K) (tCons (tVar 2) tNil)) (tOp (rIxL K) (tLst (tCons (tC (.int 0)) (tCons (tC (.int 200)) (tCons (tC (.int 360)) tNil)))) (tVar 1)))))
      (tDrop (tBM K "list" rAppend (tVar 2) (tCons (tVar 5) tNil)))
      (tIfS (tAnd (tTest (tOp rEq (tVar 3) (tC (.int 1)))) (tTest (tOp (rNeD K) (tVar 2) (tLst tNil)))) (tDrop (tBM0 K "list" rPop (tVar 2)))
        (tIfS (tAnd (tTest (tOp rEq (tVar 3) (tC (.int 2)))) (tTest (tOp (rNeD K) (tVar 2) (tLst tNil)))) (tAsg (tVar 5) (gSub (tVar 2) (tUn (rU fun i => .int (-i)) (tC (.int 1))) rSetL)) (tDrop (tBM0 K "list" rReverse (tVar 2)))))) tz D [a0, some (.int (x : Int)), some (.ref p), some (.int way), a4, some ent] H := by
  refine q_if (b := decide (V.int way = V.int 0) && decide ((us.length : Int) < (lim : Int))) (et_is (et_and (a := decide (V.int way = V.int 0)) (b := decide ((us.length : Int) < (lim : Int))) (et_test (ev_op (ev_var rfl) ev_c (rv_eq rfl))) (fun _ => et_test (ev_op (ev_len (ev_var rfl) (sq_of hp)) (ev_opL1 (xs := [V.int 0, .int 200, .int 360]) (el_lst (ea_cons ev_c (ea_cons ev_c (ea_cons ev_c ea_nil))) (by show 3 ≤ 100000; decide)) (fun _ _ => ev_var rfl) fun q H1 hq _ => rv_ixL (sq_of hq) (atI_nat (j := x) hlim)) rv_I0))) rfl) (fun hb H1 e1 => ?_) (fun _ H1 e1 => ?_)
  · rw [Bool.and_eq_true] at hb
    have := of_decide_eq_true hb.2
    exact s_app (v := ent) (e1 _ _ hp) (ev_var rfl) (ev_var rfl) (by omega) fun H2 e2 => k1 (by omega) H2 (e1.trans e2)
  refine s_if (b := decide (V.int way = V.int 1) && !us.isEmpty) (et_is (et_and (a := decide (V.int way = V.int 1)) (b := !us.isEmpty) (et_test (ev_op (ev_var rfl) ev_c (rv_eq rfl))) (fun _ => et_test (hne H1 e1))) rfl) (fun hb H2 e2 => ?_) (fun _ H2 e2 => ?_)
  · rw [Bool.and_eq_true] at hb
    have hn : us ≠ [] := fun z => by
      have := hb.2
      rw [z] at this
      cases this
    exact s_popL (e2 _ _ (e1 _ _ hp)) hn (ev_var rfl) fun H3 e3 => k2 hn H3 ((e1.trans e2).trans e3)
  have E2 := e1.trans e2
  refine s_if (b := decide (V.int way = V.int 2) && !us.isEmpty) (et_is (et_and (a := decide (V.int way = V.int 2)) (b := !us.isEmpty) (et_test (ev_op (ev_var rfl) ev_c (rv_eq rfl))) (fun _ => et_test (hne H2 E2))) rfl) (fun hb H3 e3 => ?_) (fun _ H3 e3 => ?_)
  · rw [Bool.and_eq_true] at hb
    have hn : us ≠ [] := fun z => by
      have := hb.2
      rw [z] at this
      cases this
    have hpos : 1 ≤ us.length := by
      have := List.length_pos_iff.mpr hn
      omega
    refine (ev_var rfl : Ev (tVar 5) [a0, some (.int (x : Int)), some (.ref p), some (.int way), a4, some ent] H3 ent) H3 (Ex.refl _) _ fun H4 e4 => (ev_var rfl : Ev (tVar 2) [a0, some (.int (x : Int)), some (.ref p), some (.int way), a4, some ent] H4 (.ref p)) H4 (Ex.refl _) _ fun H5 e5 => (ev_un ev_c ru_neg : Ev (tUn (rU fun i => .int (-i)) (tC (.int 1))) [a0, some (.int (x : Int)), some (.ref p), some (.int way), a4, some ent] H5 (.int (-1))) H5 (Ex.refl _) _ fun H6 e6 => ⟨p, us, -1, us.length - 1, rfl, rfl, ((((E2.trans e3).trans e4).trans e5).trans e6) _ _ hp, ?_, k3 hn H6 ((((E2.trans e3).trans e4).trans e5).trans e6)⟩
    unfold ixN
    rw [if_neg (by decide), if_pos (by omega)]
    congr 1
    omega
  · exact s_revL (((E2.trans e3)) _ _ hp) (ev_var rfl) fun H4 e4 => k4 H4 ((E2.trans e3).trans e4)
section
variable {P : Program} {w : World} {K : PySem.W.Frag} {mg : Str → Option Value} {base : Heap}
theorem sc_law_change : FnScope ["source", "door", "value", "way", "new", "entry"] ["source", "door", "value"] (defScope s_law_change) := ⟨rfl, rfl, rfl, by decide +kernel, rfl, by decide +kernel, by decide +kernel⟩
theorem ok_law_change (D : Def K mg "_law_change" s_law_change ["source", "door", "value"]) (T : Bl mg) (G_law_pick : Good P w K mg base 1 "_law_pick" ["source", "count"] spPick) (G_law_change_logs : Good P w K mg base 2 "_law_change_logs" ["source", "rows"] spChLogs) : Good P w K mg base 3 "_law_change" ["source", "door", "value"] (spChange) := by
  refine D.good sc_law_change (fun vs H Q E h => ?_) (fun f cdv A outer s H vs Q E hr h => ?_)
  · obtain ⟨s, n, v, val, as, rfl, _⟩ := h
    rfl
  · obtain ⟨s, n, v, val, as, rfl, hs, hn, hv, ov, ns, q⟩ := h
    have hu := hu_of hr
    refine ⟨_, (pss_cons (ps_if (pt_cmpR op_eq (pv 1) pe_int (nomark _)) (pss_cons (ps_expr (pe_fn (G_law_change_logs.mono (by decide)) hr (pa_cons (pv 0) (pa_cons (pv 2) pa_nil))))
      (pss_one (ps_ret pe_bl))) pss_nil)
      (pss_cons (ps_par (i := 3) (j := 4) rfl sc_law_change.nd rfl rfl (by decide) rfl rfl (pa_cons (pe_fn (G_law_pick.mono (by decide)) hr (pa_cons (pv 0) (pa_cons pe_int pa_nil))) (pa_cons (pe_lst (pa_cons (pe_tup (pa_cons pe_str (pa_cons (pe_fn (G_law_pick.mono (by decide)) hr (pa_cons (pv 0) (pa_cons pe_int pa_nil))) pa_nil))) (pa_cons (pe_tup (pa_cons pe_str (pa_cons (pe_fn (G_law_pick.mono (by decide)) hr (pa_cons (pv 0) (pa_cons pe_int pa_nil))) pa_nil))) pa_nil))) pa_nil)) (by rfl))
      (pss_cons (ps_set (i := 5) sc_law_change.nd rfl (Or.inl rfl) (pe_ifExp (pt_cmpR op_eq (pv 1) pe_int (nomark _)) (pe_tup (pa_cons (x_ixl (K := K) (pv 4) pe_int) (pa_cons (x_ixl (K := K) (pv 4) pe_int) pa_nil))) (x_ixl (K := K) (pe_lst (pa_cons pe_str (pa_cons pe_str pa_nil))) (pe_fn (G_law_pick.mono (by decide)) hr (pa_cons (pv 0) (pa_cons pe_int pa_nil))))))
      (pss_cons (ps_if (pw_and (pt_cmpR op_eq (pv 3) pe_int (nomark _)) (pw_and1 (pt_cmpR op_lt (x_len (K := K) T (pv 2)) (x_ixl (K := K) (pe_lst (pa_cons pe_int (pa_cons pe_int (pa_cons pe_int pa_nil)))) (pv 1)) (nomark _)))).pt (pss_one (ps_expr (x_bm (K := K) PySem.F.plainAttrs_list PySem.F.slot_list_append PySem.F.type_list_append mt_append (pv 2) (pa_cons (pv 5) pa_nil)))) (pss_one (ps_if (pw_and (pt_cmpR op_eq (pv 3) pe_int (nomark _)) (pw_and1 (pt_cmpR (x_neD (K := K) rfl hr.units) (pv 2) (pe_lst pa_nil) (nomark _)))).pt (pss_one (ps_expr (x_bm0 (K := K) PySem.F.plainAttrs_list PySem.F.slot_list_pop PySem.F.type_list_pop mt_pop (pv 2)))) (pss_one (ps_if (pw_and (pt_cmpR op_eq (pv 3) pe_int (nomark _)) (pw_and1 (pt_cmpR (x_neD (K := K) rfl hr.units) (pv 2) (pe_lst pa_nil) (nomark _)))).pt (pss_one (ps_asg (pv 5) (pg_sub (pv 2) (pe_un un_neg pe_int) set_list))) (pss_one (ps_expr (x_bm0 (K := K) PySem.F.plainAttrs_list PySem.F.slot_list_reverse PySem.F.type_list_reverse mt_reverse (pv 2)))))))))
      (pss_one (ps_ret pe_bl)))))), ?_⟩
    cases val with
    | logs ws L =>
      obtain ⟨d, ps, rfl, rfl, hl, pn, vl⟩ := hv
      refine q_if (b := true) (et_eqI (x := 0) rfl (by decide)) (fun _ H1 e1 => ?_) (fun z => nomatch z)
      refine go_call2 rfl rfl ⟨s, n, d, ws, ps, L, rfl, hs.ex e1, by omega, hl.ex e1, pn, vl, ov, ns, fun ws' ps' L' H' ka S hl' pn' v' so' fr => ?_⟩
      refine q (.logs ws' L') (d :: ps') H' (fun b o nb hb => ka b o nb (e1 _ _ hb)) (S.le (by omega)) ⟨d, ps', rfl, rfl, hl', pn', v'⟩ so' rfl fun a ha => ?_
      rcases List.mem_cons.mp ha with rfl | ha
      · exact Or.inl (by simp)
      · rcases fr a ha with h | h
        · exact Or.inl (List.mem_cons_of_mem _ h)
        · exact Or.inr (fresh_back e1 h)
    | facts fs =>
      obtain ⟨p, us, rfl, rfl, hp, pr, ok⟩ := hv
      have nps : p ≠ s := fun z => ns (by rw [z]; simp)
      refine q_if (b := false) (et_eqI (x := 1) rfl (by decide)) (fun z => nomatch z) (fun _ H1 e1 => ?_)
      refine ek_pick (c := 0) (m := 4) (hid_s s H1) rfl (ek_of ev_c rfl) (by decide) (by decide) H1 n (hid_ex _ _) (hs.ex e1) (by omega) _ fun u H2 k2 S2 p2 => ?_
      obtain ⟨way, rfl, w0, w4⟩ := p2
      refine ek_pick (c := 0) (m := 60) (hid_s s H2) rfl (ek_of ev_c rfl) (by decide) (by decide) H2 (n + 1) (hid_ex _ _) S2 (by omega) _ fun u H3 k3 S3 p3 => ?_
      obtain ⟨n1, rfl, n10, n11⟩ := p3
      obtain ⟨m1, rfl⟩ : ∃ m : Nat, n1 = (m : Int) := ⟨n1.toNat, by omega⟩
      refine ⟨(by show 2 ≤ sizeLine; decide), fun t1 ht1 => ?_⟩
      have e4 : Ex H3 (upd H3 t1 (.tup [.str "a", .int (m1 : Int)])) := Ex.new ht1
      have g1 : (upd H3 t1 (.tup [.str "a", .int (m1 : Int)])) t1 = some (.tup [.str "a", .int (m1 : Int)]) := upd_same
      generalize upd H3 t1 (.tup [.str "a", .int (m1 : Int)]) = H4 at e4 g1 ⊢
      have S4 := S3.ex e4
      refine ek_pick (c := 0) (m := 60) (hid_s s H4) rfl (ek_of ev_c rfl) (by decide) (by decide) H4 (n + 1 + 1) (hid_ex _ _) S4 (by omega) _ fun u H5 k5 S5 p5 => ?_
      obtain ⟨n2, rfl, n20, n21⟩ := p5
      obtain ⟨m2, rfl⟩ : ∃ m : Nat, n2 = (m : Int) := ⟨n2.toNat, by omega⟩
      refine ⟨(by show 2 ≤ sizeLine; decide), fun t2 ht2 => ?_⟩
      have e6 : Ex H5 (upd H5 t2 (.tup [.str "b", .int (m2 : Int)])) := Ex.new ht2
      have g2 : (upd H5 t2 (.tup [.str "b", .int (m2 : Int)])) t2 = some (.tup [.str "b", .int (m2 : Int)]) := upd_same
      generalize upd H5 t2 (.tup [.str "b", .int (m2 : Int)]) = H6 at e6 g2 ⊢
      refine ⟨(by show 2 ≤ sizeLine; decide), fun l hl => ⟨_, _, rfl, ?_⟩⟩
      have e7 : Ex H6 (upd H6 l (.lst [.ref t1, .ref t2])) := Ex.new hl
      have g3 : (upd H6 l (.lst [.ref t1, .ref t2])) l = some (.lst [.ref t1, .ref t2]) := upd_same
      generalize upd H6 l (.lst [.ref t1, .ref t2]) = H7 at e7 g3 ⊢
      obtain ⟨ys3, hs3⟩ := S3.at_
      have nt1 : t1 ≠ s := fun z => by rw [z, hs3] at ht1; cases ht1
      have S7 := (S5.ex e6).ex e7
      have K7 : KB s H H7 := ((((((kb_ex e1).trans k2).trans k3).trans (kb_ex e4)).trans k5).trans (kb_ex e6)).trans (kb_ex e7)
      have h7 := K7 _ _ nps hp
      have g1' := e7 _ _ (e6 _ _ (k5 _ _ nt1 g1))
      have g2' := e7 _ _ g2
      obtain ⟨ys0, hs0⟩ := hs.at_
      have tk7 := tk_kb K7 hs0
      have pr7 := pr.tk tk7
      refine go_if (et_eqI (x := 1) (b := true) rfl (by decide)) (fun _ H8 e8 => ?_) (fun z => nomatch z)
      refine eu_tup (vs := [.ref t1, .ref t2]) (ea_cons (ev_op (ev_var rfl) ev_c (rv_ixL (sq_of (e8 _ _ g3)) (atI_nat (j := 0) rfl))) (ea_cons (ev_op (ev_var rfl) ev_c (rv_ixL (sq_of (e8 _ _ g3)) (atI_nat (j := 1) rfl))) ea_nil)) (by show 2 ≤ 100000; decide) H8 (Ex.refl _) _ fun en H9 nen e9 hen => ?_
      have E9 := e8.trans e9
      have K9 := K7.trans (kb_ex E9)
      have S9 := S7.ex E9
      have h9 := E9 _ _ h7
      have hpr : PrV H9 (.ref en) (("a", m1), ("b", m2)) := ⟨en, _, _, rfl, hen, ⟨t1, rfl, E9 _ _ g1'⟩, ⟨t2, rfl, E9 _ _ g2'⟩⟩
      have nm : IsNm "a" ∧ IsNm "b" := by
        have all : ∀ z ∈ (["a", "b"] : List Str), IsNm z := (by decide +kernel : ∀ z ∈ (["a", "b"] : List Str), 1 ≤ z.length ∧ z.length ≤ 8 ∧ ∀ c ∈ z.cps.toList, 97 ≤ c ∧ c ≤ 122)
        exact ⟨all "a" (by simp), all "b" (by simp)⟩
      have fok : FcOk (("a", m1), ("b", m2)) := ⟨⟨⟨nm.1, by show m1 < 10 ^ 9; omega⟩, ⟨nm.2, by show m2 < 10 ^ 9; omega⟩⟩, fun z => absurd (congrArg Prod.fst z) (show ¬ (("a" : Str) = "b") by decide +kernel)⟩
      have pr9 := pr7.tk (tk_ex E9)
      have fin : ∀ {H2 : Hp} {us' : List V} {fs' : List Pr2}, Ex H9 H2 → PrsA H2 us' fs' → FsOk fs' → Q (.bl true) (upd H2 p (.lst us')) := fun {H2 us' fs'} e2 pr' ok' => by
        have h2 := e2 _ _ h9
        refine q (.facts fs') [p] _ (fun b o nb hb => ?_) (((S9.ex e2).upd nps.symm).le (by omega)) ⟨p, us', rfl, rfl, upd_same, pr'.tk (tk_upd h2), ok'⟩ trivial rfl fun a ha => Or.inl ha
        rw [upd_ne (fun z => nb (by rw [z]; simp))]
        exact e2 _ _ (K9 b o (fun z => nb (by rw [z]; simp)) hb)
      have ul := pr9.1
      have fl := ok.1
      refine q_chain (x := 1) (lim := 200) h9 (by omega) rfl (fun H1 e => ?_) (fun hlt H2 e => ?_) (fun hne H2 e => ?_) (fun hne H2 e => ?_) (fun H2 e => ?_)
      · have := ev_neF (K := K) (σ := [some (.ref s), some (.int 1), some (.ref p), some (.int way), some (.ref l), some (.ref en)]) (te := tVar 2) (ev_var rfl) (e _ _ h9) (pr9.tk (tk_ex e)) ok
        have ee : us.isEmpty = fs.isEmpty := by
          cases us with
          | nil =>
            cases fs with
            | nil => rfl
            | cons _ _ => cases ul
          | cons _ _ =>
            cases fs with
            | nil => cases ul
            | cons _ _ => rfl
        rw [ee]
        exact this
      · refine fin e ((pr9.tk (tk_ex e)).snoc (hpr.tk (tk_ex e))) ⟨by rw [List.length_append]; show fs.length + 1 ≤ 200; omega, fun a ha => ?_⟩
        rcases List.mem_append.mp ha with ha | ha
        · exact ok.2 a ha
        · rw [List.mem_singleton.mp ha]
          exact fok
      · exact fin e (pr9.tk (tk_ex e)).dropLast ⟨by rw [List.length_dropLast]; omega, fun a ha => ok.2 a ((List.dropLast_sublist _).subset ha)⟩
      · refine fin e ((pr9.tk (tk_ex e)).set (us.length - 1) (hpr.tk (tk_ex e))) ⟨by rw [List.length_set]; exact fl, fun a ha => ?_⟩
        rcases List.mem_or_eq_of_mem_set ha with ha | rfl
        · exact ok.2 a ha
        · exact fok
      · exact fin e (pr9.tk (tk_ex e)).reverse ⟨by rw [List.length_reverse]; exact fl, fun a ha => ok.2 a (List.mem_reverse.mp ha)⟩
    | run xs =>
      obtain ⟨p, rfl, rfl, hp, ok⟩ := hv
      have nps : p ≠ s := fun z => ns (by rw [z]; simp)
      refine q_if (b := false) (et_eqI (x := 2) rfl (by decide)) (fun z => nomatch z) (fun _ H1 e1 => ?_)
      refine ek_pick (c := 0) (m := 4) (hid_s s H1) rfl (ek_of ev_c rfl) (by decide) (by decide) H1 n (hid_ex _ _) (hs.ex e1) (by omega) _ fun u H2 k2 S2 p2 => ?_
      obtain ⟨way, rfl, w0, w4⟩ := p2
      refine ek_pick (c := 0) (m := 60) (hid_s s H2) rfl (ek_of ev_c rfl) (by decide) (by decide) H2 (n + 1) (hid_ex _ _) S2 (by omega) _ fun u H3 k3 S3 p3 => ?_
      refine ⟨(by show 2 ≤ sizeLine; decide), fun t1 ht1 => ?_⟩
      have e4 : Ex H3 (upd H3 t1 (.tup [.str "a", u])) := Ex.new ht1
      generalize upd H3 t1 (.tup [.str "a", u]) = H4 at e4 ⊢
      have S4 := S3.ex e4
      refine ek_pick (c := 0) (m := 60) (hid_s s H4) rfl (ek_of ev_c rfl) (by decide) (by decide) H4 (n + 1 + 1) (hid_ex _ _) S4 (by omega) _ fun u2 H5 k5 S5 p5 => ?_
      refine ⟨(by show 2 ≤ sizeLine; decide), fun t2 ht2 => ?_⟩
      have e6 : Ex H5 (upd H5 t2 (.tup [.str "b", u2])) := Ex.new ht2
      generalize upd H5 t2 (.tup [.str "b", u2]) = H6 at e6 ⊢
      refine ⟨(by show 2 ≤ sizeLine; decide), fun l hl => ⟨_, _, rfl, ?_⟩⟩
      have e7 : Ex H6 (upd H6 l (.lst [.ref t1, .ref t2])) := Ex.new hl
      generalize upd H6 l (.lst [.ref t1, .ref t2]) = H7 at e7 ⊢
      have S7 := (S5.ex e6).ex e7
      have K7 : KB s H H7 := ((((((kb_ex e1).trans k2).trans k3).trans (kb_ex e4)).trans k5).trans (kb_ex e6)).trans (kb_ex e7)
      have h7 := K7 _ _ nps hp
      have nm : ∀ z ∈ (["a", "b"] : List Str), IsNm z := (by decide +kernel : ∀ z ∈ (["a", "b"] : List Str), 1 ≤ z.length ∧ z.length ≤ 8 ∧ ∀ c ∈ z.cps.toList, 97 ≤ c ∧ c ≤ 122)
      refine go_if (et_eqI (x := 2) (b := false) rfl (by decide)) (fun z => nomatch z) (fun _ H8 e8 => ?_)
      refine el_lst (vs := [.str "a", .str "b"]) (ea_cons ev_c (ea_cons ev_c ea_nil)) (by show 2 ≤ 100000; decide) H8 (Ex.refl _) _ fun r H9 n9 e9 h9 => ?_
      refine ek_pick (c := 0) (m := 2) (hid_s s H9) rfl (ek_of ev_c rfl) (by decide) (by decide) H9 (n + 1 + 1 + 1) (hid_ex _ _) ((S7.ex e8).ex e9) (by omega) _ fun u3 H10 k10 S10 p10 => ?_
      obtain ⟨c, rfl, c0, c1⟩ := p10
      have E89 := e8.trans e9
      obtain ⟨ys8, hs8⟩ := (S7.ex e8).at_
      have nrs : r ≠ s := fun z => by rw [z, hs8] at n9; cases n9
      obtain ⟨z, hz, hzn⟩ : ∃ z : Str, ([V.str "a", V.str "b"] : List V)[c.toNat]? = some (.str z) ∧ IsNm z := by
        obtain ⟨j, rfl⟩ : ∃ j : Nat, c = (j : Int) := ⟨c.toNat, by omega⟩
        rcases j with _ | _ | j
        · exact ⟨"a", rfl, nm "a" (by simp)⟩
        · exact ⟨"b", rfl, nm "b" (by simp)⟩
        · omega
      have hc : atI ([V.str "a", V.str "b"] : List V) c = some (.str z) := by
        obtain ⟨j, rfl⟩ : ∃ j : Nat, c = (j : Int) := ⟨c.toNat, by omega⟩
        exact atI_nat hz
      refine (rv_ixL (K := K) (H := H10) (sq_of (k10 _ _ nrs h9)) hc) H10 (Ex.refl _) _ fun H11 e11 => ?_
      have K11 : KB s H H11 := ((K7.trans (kb_ex E89)).trans k10).trans (kb_ex e11)
      have S11 := S10.ex e11
      have h11 := K11 _ _ nps hp
      have xl := ok.1
      have fin : ∀ {H2 : Hp} {xs' : List Str}, Ex H11 H2 → RnOk xs' → Q (.bl true) (upd H2 p (.lst (xs'.map V.str))) := fun {H2 xs'} e2 ok' => by
        refine q (.run xs') [p] _ (fun b o nb hb => ?_) (((S11.ex e2).upd nps.symm).le (by omega)) ⟨p, rfl, rfl, upd_same, ok'⟩ trivial rfl fun a ha => Or.inl ha
        rw [upd_ne (fun z => nb (by rw [z]; simp))]
        exact e2 _ _ (K11 b o (fun z => nb (by rw [z]; simp)) hb)
      refine q_chain (x := 2) (lim := 360) h11 (by rw [List.length_map]; omega) rfl (fun H1 e => ?_) (fun hlt H2 e => ?_) (fun hne H2 e => ?_) (fun hne H2 e => ?_) (fun H2 e => ?_)
      · have := ev_neE (K := K) (σ := [some (.ref s), some (.int 2), some (.ref p), some (.int way), some (.ref l), some (.str z)]) (te := tVar 2) (ev_var rfl) (e _ _ h11) ok.2
        have ee : (xs.map V.str).isEmpty = decide (xs = []) := by cases xs <;> simp
        rw [ee]
        exact this
      · rw [List.length_map] at hlt
        have : xs.map V.str ++ [V.str z] = (xs ++ [z]).map V.str := by rw [List.map_append]; rfl
        rw [this]
        refine fin e ⟨by rw [List.length_append]; show xs.length + 1 ≤ 360; omega, fun y hy => ?_⟩
        rcases List.mem_append.mp hy with hy | hy
        · exact ok.2 y hy
        · rw [List.mem_singleton.mp hy]
          exact hzn
      · rw [← List.map_dropLast]
        exact fin e ⟨by rw [List.length_dropLast]; omega, fun a ha => ok.2 a ((List.dropLast_sublist _).subset ha)⟩
      · rw [← List.map_set]
        refine fin e ⟨by rw [List.length_set]; exact xl, fun a ha => ?_⟩
        rcases List.mem_or_eq_of_mem_set ha with ha | rfl
        · exact ok.2 a ha
        · exact hzn
      · rw [← List.map_reverse]
        exact fin e ⟨by rw [List.length_reverse]; exact xl, fun a ha => ok.2 a (List.mem_reverse.mp ha)⟩
end
end Vx

set_option Elab.async false
set_option linter.all false
set_option maxRecDepth 100000
set_option maxHeartbeats 8000000
namespace Vx
open PySem PySem.Spec PyProof.Rows L2 Evl
/-- the same, in an order of its own -/
inductive Like : Vl → Vl → Prop
  | logs {ws ws2 : List Str} {L L2 : List (List En)} : (ws2.zip L2).Perm (ws.zip L) → Like (.logs ws L) (.logs ws2 L2)
  | facts {fs : List Pr2} : Like (.facts fs) (.facts fs)
  | run {xs : List Str} : Like (.run xs) (.run xs)
theorem Like.refl : ∀ val : Vl, Like val val
  | .logs _ _ => .logs (List.Perm.refl _)
  | .facts _ => .facts
  | .run _ => .run
theorem Canon.like {val : Vl} {c : Cn} (h : Canon val c) : Like c.vl val := by
  cases h with
  | @logs ws L zs hz =>
    refine .logs ?_
    rw [zip_self]
    exact hz.1.symm
  | facts => exact .facts
  | run => exact .run
theorem facts_lay : ∀ {fs : List Pr2}, (∀ a ∈ fs, FcOk a) → PyData.canLayAll0 (fs.map prD2) = true
  | [], _ => rfl
  | a :: fs, h => by
    have ha := h a (List.mem_cons_self ..)
    have st : ∀ {z : Pl2}, PlOk z → PyData.canLay0 (plD2 z) = true := fun hz => by simp only [plD2, PyData.canLay0, PyData.canLayAll0, hz.1.strOk, Bool.and_self]
    have sp : PyData.canLay0 (prD2 a) = true := by simp only [prD2, PyData.canLay0, PyData.canLayAll0, st ha.1.1, st ha.1.2, Bool.and_self]
    rw [List.map_cons]
    simp only [PyData.canLayAll0, sp, facts_lay fun b hb => h b (List.mem_cons_of_mem _ hb), Bool.and_self]
theorem facts_dp {K : PySem.W.Frag} {H : Hp} {p : Addr} {us : List V} {fs : List Pr2} (hp : H p = some (.lst us)) (pr : PrsA H us fs) : Dp K H (.ref p) (.list (fs.map prD2)) :=
  .lst (sq_of hp) (dpAll_of (by rw [List.length_map, pr.1]) fun i v d g1 g2 => by
    rw [List.getElem?_map] at g2
    obtain ⟨a, g3, rfl⟩ := Option.map_eq_some_iff.mp g2
    obtain ⟨p, x, y, rfl, hp, ⟨b, rfl, hb⟩, ⟨c, rfl, hc⟩⟩ := pr.2 i v a g1 g3
    exact .tup (st_of hp) (.cons (.tup (st_of hb) (.cons (.str _) (.cons (.int _) .nil))) (.cons (.tup (st_of hc) (.cons (.str _) (.cons (.int _) .nil))) .nil)))
theorem facts_shaped {fs : List Pr2} (ok : FsOk fs) : SeqAt.shaped (.list (fs.map prD2)) = true := by
  have dp : (PyData.list (fs.map prD2)).depth ≤ 64 := Nat.le_trans ((sza_all (dp := 2) (w := 430) fun y hy => by
    obtain ⟨a, ha, rfl⟩ := List.mem_map.mp hy
    exact pr_sz (ok.2 a ha)).list).dp (by decide)
  unfold SeqAt.shaped
  rw [Bool.and_eq_true]
  exact ⟨by simp only [PyData.canLay0]; exact facts_lay ok.2, decide_eq_true dp⟩
theorem ne_val {K : PySem.W.Frag} {H : Hp} {v v' : V} {val val' : Vl} {as as' : List Addr} (h : VAt H v val as) (h' : VAt H v' val' as') (l : Like val val') : RV (rNeLD K) v v' H (.bl false) := fun H1 e1 Q q => by
  have h1 := h.ex e1
  have h1' := h'.ex e1
  cases l with
  | @logs ws ws2 L L2 pm =>
    obtain ⟨d, ps, rfl, _, hl, _, vl⟩ := h1
    obtain ⟨d2, ps2, rfl, _, hl2, _, vl2⟩ := h1'
    have len := pm.length_eq
    rw [List.length_zip, List.length_zip, vl.len, vl2.len, Nat.min_self, Nat.min_self] at len
    refine Or.inr ⟨d, d2, Dk ws ps, Dk ws2 ps2, rfl, rfl, hl.dk, hl2.dk, by rw [dk_len hl.pl, dk_len hl2.pl, len], fun z hz => ?_, q H1 (Ex.refl _)⟩
    obtain ⟨i, x, r, g1, g2, rfl⟩ := dk_mem0 hz
    obtain ⟨es, g3⟩ : ∃ es, L[i]? = some es := ⟨_, List.getElem?_eq_getElem (by rw [vl.len]; exact (List.getElem?_eq_some_iff.mp g1).1)⟩
    have mem : (x, es) ∈ ws.zip L := List.mem_of_getElem? (i := i) (by rw [List.getElem?_zip_eq_some]; exact ⟨g1, g3⟩)
    obtain ⟨j, hj⟩ := List.mem_iff_getElem?.mp (pm.mem_iff.mpr mem)
    rw [List.getElem?_zip_eq_some] at hj
    obtain ⟨r2, g4⟩ : ∃ r2, ps2[j]? = some r2 := ⟨_, List.getElem?_eq_getElem (by rw [hl2.pl]; exact (List.getElem?_eq_some_iff.mp hj.1).1)⟩
    have lay := log_lay (vl.ent es (List.mem_of_getElem? g3)).2
    exact ⟨.ref r2, logD es, dk_get vl2.wk.2.2.1 hj.1 g4, tl_dp (hl.lg i r es g2 g3), tl_dp (hl2.lg j r2 es g4 hj.2), lay.1, lay.2⟩
  | @facts fs =>
    obtain ⟨p, us, rfl, _, hp, pr, ok⟩ := h1
    obtain ⟨p2, us2, rfl, _, hp2, pr2, _⟩ := h1'
    have sh := facts_shaped ok
    refine Or.inl ⟨_, _, facts_dp hp pr, facts_dp hp2 pr2, sh, sh, ?_⟩
    rw [SeqAt.eqv_refl _ (SeqAt.canLay_of_shaped sh)]
    exact q H1 (Ex.refl _)
  | @run xs =>
    obtain ⟨p, rfl, _, hp, ok⟩ := h1
    obtain ⟨p2, rfl, _, hp2, _⟩ := h1'
    have sh := shaped_strs xs ok.2
    refine Or.inl ⟨.list (xs.map PyData.str), .list (xs.map PyData.str), .lst (sq_of hp) (dp_strs xs), .lst (sq_of hp2) (dp_strs xs), sh, sh, ?_⟩
    rw [SeqAt.eqv_refl _ (SeqAt.canLay_of_shaped sh)]
    exact q H1 (Ex.refl _)
def spRightC : Sp := fun vs H Q _ => ∃ (s : Addr) (n : Nat) (k : Int), vs = [.ref s, .int k] ∧ (k = 0 ∨ k = 1 ∨ k = 2) ∧ Src H s n ∧ n + 6000 ≤ 1000000000 ∧ ∀ H', KB s H H' → Src H' s (n + 6000) → Q (.bl true) H'
/-- what is kept of a turn -/
def Past (H : Hp) (bad : List Addr) (u : V) : Prop := ∃ (t : Addr) (pg : Str) (f kc : V) (v1 v2 : Vl) (a1 a2 : List Addr), u = .ref t ∧ H t = some (.tup [.str pg, f, .str pg, kc]) ∧ VAt H f v1 a1 ∧ VAt H kc v2 a2 ∧ Like v1 v2 ∧ (∀ a ∈ a1, a ∉ bad) ∧ ∀ a ∈ a2, a ∉ bad
theorem Past.keep {H H' : Hp} {bad bad' : List Addr} {u : V} (h : Past H bad u) (k : KA bad H H') (nt : ∀ a ∈ bad, ∀ ts, H a ≠ some (.tup ts)) (nb : ∀ a ∈ bad', a ∈ bad ∨ H a = none) : Past H' bad' u := by
  obtain ⟨t, pg, f, kc, v1, v2, a1, a2, rfl, ht, h1, h2, l, d1, d2⟩ := h
  have tk : TK H H' := fun a ts g => k a _ (fun m => nt a m ts g) g
  have keep : ∀ {v : V} {val : Vl} {as : List Addr}, VAt H v val as → (∀ a ∈ as, a ∉ bad) → VAt H' v val as := fun hv hd => hv.keep tk fun a ha => by
    obtain ⟨o, ho, _⟩ := hv.has a ha
    rw [ho, k a o (hd a ha) ho]
  have dis : ∀ {v : V} {val : Vl} {as : List Addr}, VAt H v val as → (∀ a ∈ as, a ∉ bad) → ∀ a ∈ as, a ∉ bad' := fun hv hd a ha m => by
    rcases nb a m with m | m
    · exact hd a ha m
    · obtain ⟨o, ho, _⟩ := hv.has a ha
      rw [m] at ho
      cases ho
  exact ⟨t, pg, f, kc, v1, v2, a1, a2, rfl, tk t _ ht, keep h1 d1, keep h2 d2, l, dis h1 d1, dis h2 d2⟩
theorem Past.ex {H H' : Hp} {bad : List Addr} {u : V} (h : Past H bad u) (e : Ex H H') : Past H' bad u := by
  obtain ⟨t, pg, f, kc, v1, v2, a1, a2, rfl, ht, h1, h2, l, d1, d2⟩ := h
  exact ⟨t, pg, f, kc, v1, v2, a1, a2, rfl, e _ _ ht, h1.ex e, h2.ex e, l, d1, d2⟩
section
variable {P : Program} {w : World} {K : PySem.W.Frag} {mg : Str → Option Value} {base : Heap}
theorem sc_law_right : FnScope ["source", "door", "value", "past", "spin", "due", "kept", "page", "found", "text", "told", "then", "copy"] ["source", "door"] (defScope s_law_right) := ⟨rfl, rfl, rfl, by decide +kernel, rfl, by decide +kernel, by decide +kernel⟩
theorem ok_law_right (D : Def K mg "_law_right" s_law_right ["source", "door"]) (T : Bl mg) (G_law_value : Good P w K mg base 5 "_law_value" ["source", "door", "top"] spValue2) (G_law_page : Good P w K mg base 2 "_law_page" ["door", "value"] spPage) (G_law_copy : Good P w K mg base 1 "_law_copy" ["door", "value"] spCopy) (G_law_write : Good P w K mg base 4 "_law_write" ["door", "value"] spPage) (G_law_read : Good P w K mg base 7 "_law_read" ["door", "page"] spReadV) (G_law_change : Good P w K mg base 3 "_law_change" ["source", "door", "value"] spChange) : Good P w K mg base 8 "_law_right" ["source", "door"] (spRightC) := by
  refine D.good sc_law_right (fun vs H Q E h => ?_) (fun f cdv A outer s H vs Q E hr h => ?_)
  · obtain ⟨s, n, k, rfl, _⟩ := h
    rfl
  · obtain ⟨s, n, k, rfl, hk, hs, hn, q⟩ := h
    have hu := hu_of hr
    refine ⟨_, (pss_cons (ps_set (i := 2) sc_law_right.nd rfl (Or.inl rfl) (pe_fn (G_law_value.mono (by decide)) hr (pa_cons (pv 0) (pa_cons (pv 1) (pa_cons pe_int pa_nil)))))
      (pss_cons (ps_set (i := 3) sc_law_right.nd rfl (Or.inl rfl) (pe_lst pa_nil))
      (pss_cons (ps_for PassesOwn.never rfl (x_rng T (pa_cons pe_int pa_nil)) (pg_name (i := 4) sc_law_right.nd rfl (Or.inl rfl)) (pss_cons (ps_par (i := 5) (j := 6) rfl sc_law_right.nd rfl rfl (by decide) rfl rfl (pa_cons (pe_fn (G_law_page.mono (by decide)) hr (pa_cons (pv 1) (pa_cons (pv 2) pa_nil))) (pa_cons (pe_fn (G_law_copy.mono (by decide)) hr (pa_cons (pv 1) (pa_cons (pv 2) pa_nil))) pa_nil)) (by rfl))
      (pss_cons (ps_set (i := 7) sc_law_right.nd rfl (Or.inl rfl) (pe_fn (G_law_write.mono (by decide)) hr (pa_cons (pv 1) (pa_cons (pv 2) pa_nil))))
      (pss_cons (ps_set (i := 8) sc_law_right.nd rfl (Or.inl rfl) (pe_fn (G_law_read.mono (by decide)) hr (pa_cons (pv 1) (pa_cons (pv 7) pa_nil))))
      (pss_cons (ps_if (pw_or (pt_cmpR op_ne (pv 7) (pv 5) (nomark _)) (pw_or (pt_cmpR (op_neLD (K := K) rfl hr.units) (pv 8) (pv 2) (nomark _)) (pw_or1 (pt_cmpR (op_neLD (K := K) rfl hr.units) (pv 2) (pv 6) (nomark _))))).pt pss_never pss_nil)
      (pss_cons (ps_expr (x_bm (K := K) PySem.F.plainAttrs_list PySem.F.slot_list_append PySem.F.type_list_append mt_append (pv 3) (pa_cons (pe_tup (pa_cons (pv 7) (pa_cons (pv 8) (pa_cons (pv 5) (pa_cons (pv 6) pa_nil))))) pa_nil)))
      (pss_cons (ps_if (pt_cmpR (x_neD (K := K) rfl hr.units) (pe_lc (own := [("text", 9), ("told", 10), ("then", 11), ("copy", 12)]) (g := (gTup K 4 (gCons (gName 9) (gCons (gName 10) (gCons (gName 11) (gCons (gName 12) gNil))))))  rfl sc_law_right.nd (x_pil (K := K) (pv 3)) (blkOk_by (N := ["source", "door", "value", "past", "spin", "due", "kept", "page", "found", "text", "told", "then", "copy"]) (sc := (defScope s_law_right)) (by decide +kernel)) (fun _ _ _ _ _ => (x_gt (K := K) (pgs_cons (pg_name (i := 9) sc_law_right.nd rfl (Or.inl rfl)) (pgs_cons (pg_name (i := 10) sc_law_right.nd rfl (Or.inl rfl)) (pgs_cons (pg_name (i := 11) sc_law_right.nd rfl (Or.inl rfl)) (pgs_cons (pg_name (i := 12) sc_law_right.nd rfl (Or.inl rfl)) pgs_nil)))))) (fun _ _ _ _ _ => (pts_one (pw_or (pt_cmpR op_ne (pv 9) (pv 11) (nomark _)) (pw_or1 (pt_cmpR (op_neLD (K := K) rfl hr.units) (pv 10) (pv 12) (nomark _)))).pt)) (fun _ _ _ _ _ => pe_int)) (pe_lst pa_nil) (nomark _)) pss_never pss_nil)
      (pss_one (ps_if (pt_not (pt_val (pe_fn (G_law_change.mono (by decide)) hr (pa_cons (pv 0) (pa_cons (pv 1) (pa_cons (pv 2) pa_nil)))))) pss_never pss_nil)))))))))
      (pss_one (ps_ret pe_bl))))), ?_⟩
    obtain ⟨ys0, hs0⟩ := hs.at_
    refine ⟨_, rfl, _, rfl, s, n, k, 20, rfl, hk, hs, by omega, by decide, by decide, fun v0 val0 as0 H1 hd0 hv0 ov0 nf0 kb0 S1 => ?_⟩
    try dsimp only [gName]
    refine q_asgL (xs := []) (el_lst ea_nil (by decide)) fun pl H2 n2 e2 h2 => ?_
    try dsimp only [gName]
    obtain ⟨ys1, hs1⟩ := S1.at_
    have npl : pl ≠ s := fun z => by rw [z, hs1] at n2; cases n2
    have npH : H pl = none := kb0.fresh ⟨_, hs1⟩ n2
    have ns0 : s ∉ as0 := fun z => by
      rw [nf0 s z] at hs0
      cases hs0
    have np0 : pl ∉ as0 := fun z => by
      obtain ⟨o, ho, _⟩ := hv0.has pl z
      rw [n2] at ho
      cases ho
    refine q_forR1 (n := 15) (ea_cons ev_c ea_nil) (by decide) (fun i σ' H' => ∃ b4 b5 b6 b7 b8 b9 b10 b11 b12 v val as us, σ' = [some (.ref s), some (.int k), some v, some (.ref pl), b4, b5, b6, b7, b8, b9, b10, b11, b12] ∧ val.door = k ∧ KB s H H' ∧ Src H' s (n + 4000 + 40 * i) ∧ VAt H' v val as ∧ OkV val ∧ s ∉ as ∧ pl ∉ as ∧ (∀ a ∈ as, H a = none) ∧ H' pl = some (.lst us) ∧ us.length = i ∧ ∀ u ∈ us, Past H' (s :: pl :: as) u)
      (fun H3 e3 => ⟨_, _, _, _, _, _, _, _, _, v0, val0, as0, [], rfl, hd0, (kb0.trans (kb_ex e2)).trans (kb_ex e3), (S1.ex e2).ex e3, (hv0.ex e2).ex e3, ov0, ns0, np0, nf0, e3 _ _ h2, rfl, fun u hu => by cases hu⟩) (fun i σ' H3 hi p => ?_) (fun σ' H3 p => ?_)
    · obtain ⟨b4, b5, b6, b7, b8, b9, b10, b11, b12, v, val, as, us, rfl, hd, K3, S3, hv, ov, nsa, npa, nfa, h3, ul, past⟩ := p
      obtain ⟨c, hc⟩ := canon_ex hv
      obtain ⟨cok, cdoor⟩ := canon_ok hv hc
      obtain ⟨ys3, hs3⟩ := S3.at_
      refine go_call2 rfl rfl ⟨v, val, as, c, by rw [hd], hv, hc, fun H4 e4 => go_call2 rfl rfl ⟨v, val, as, by rw [hd], hv.ex e4, fun kc ac H5 hkc nkc e5 => ⟨_, _, rfl, ?_⟩⟩⟩
      try dsimp only [gName]
      have E5 := e4.trans e5
      refine q_asg (v := .str c.page) (ev_call (ea_cons (ev_var rfl) (ea_cons (ev_var rfl) ea_nil)) fun H6 e6 Q6 q6 E6 => ⟨v, val, as, c, by rw [hd]; rfl, hv.ex (E5.trans e6), hc, q6⟩) fun H6 e6 => ?_
      try dsimp only [gName]
      have E6 := E5.trans e6
      refine go_call2 rfl rfl ⟨c, by rw [cdoor, hd], cok, fun f af H7 hf nf e7 => ?_⟩
      try dsimp only [gName]
      have E7 := E6.trans e7
      have hkc7 := (hkc.ex e6).ex e7
      have hv7 := hv.ex E7
      refine q_if (b := false) (et_is (et_or (a := false) (b := false) (et_is (et_test (ev_op (ev_var rfl) (ev_var rfl) (rv_ne rfl))) (by rw [decide_eq_true rfl]; rfl)) (fun _ => et_or (a := false) (b := false) (et_test (ev_op (ev_var rfl) (ev_var rfl) (ne_val hf hv7 hc.like))) (fun _ => et_test (ev_op (ev_var rfl) (ev_var rfl) (ne_val hv7 hkc7 (Like.refl val)))))) rfl) (fun z => nomatch z) (fun _ H8 e8 => ?_)
      have E8 := E7.trans e8
      have h8 := E8 _ _ h3
      refine q_appU (ys := [.str c.page, f, .str c.page, kc]) h8 (ev_var rfl) (eu_tup (ea_cons (ev_var rfl) (ea_cons (ev_var rfl) (ea_cons (ev_var rfl) (ea_cons (ev_var rfl) ea_nil)))) (by show 4 ≤ 100000; decide)) (by omega) fun t H9 nt e9 ht => ?_
      have E9 := E8.trans e9
      have h9 := E9 _ _ h3
      have hv9 := hv.ex E9
      have hf9 := (hf.ex e8).ex e9
      have hkc9 := (hkc7.ex e8).ex e9
      have S9 := S3.ex E9
      have hs9 := E9 _ _ hs3
      have bnt : ∀ {Hx : Hp}, Hx s = some (.lst ys3) → (∃ us, Hx pl = some (.lst us)) → VAt Hx v val as → ∀ a ∈ s :: pl :: as, ∀ ts, Hx a ≠ some (.tup ts) := fun {Hx} hx1 hx2 hx3 a ha ts g => by
        rcases List.mem_cons.mp ha with rfl | ha
        · rw [hx1] at g
          cases g
        rcases List.mem_cons.mp ha with rfl | ha
        · obtain ⟨us2, hx2⟩ := hx2
          rw [hx2] at g
          cases g
        · obtain ⟨o, ho, nt⟩ := hx3.has a ha
          rw [g] at ho
          exact nt ts (Option.some.inj ho).symm
      -- after the append
      have k10 : KA (s :: pl :: as) H9 (upd H9 pl (.lst (us ++ [.ref t]))) := fun b o nb hb => by rw [upd_ne (fun z => nb (by rw [z]; simp))]; exact hb
      have tk10 : TK H9 (upd H9 pl (.lst (us ++ [.ref t]))) := tk_upd h9
      have newp : Past H9 (s :: pl :: as) (.ref t) := by
        have dis : ∀ {a : Addr}, H3 a = none → a ∉ s :: pl :: as := fun {a} h m => by
          rcases List.mem_cons.mp m with rfl | m
          · rw [hs3] at h
            cases h
          rcases List.mem_cons.mp m with rfl | m
          · rw [h3] at h
            cases h
          · obtain ⟨o, ho, _⟩ := hv.has a m
            rw [h] at ho
            cases ho
        exact ⟨t, c.page, f, kc, c.vl, val, af, ac, rfl, ht, hf9, hkc9, hc.like, fun a ha => dis (fresh_back E6 (nf a ha)), fun a ha => dis (fresh_back e4 (nkc a ha))⟩
      have past10 : ∀ u ∈ us ++ [.ref t], Past (upd H9 pl (.lst (us ++ [.ref t]))) (s :: pl :: as) u := fun u hu => by
        have : Past H9 (s :: pl :: as) u := by
          rcases List.mem_append.mp hu with hu | hu
          · exact (past u hu).ex E9
          · rw [List.mem_singleton.mp hu]
            exact newp
        exact this.keep k10 (bnt hs9 ⟨us, h9⟩ hv9) fun a ha => Or.inl ha
      have hv10 : VAt (upd H9 pl (.lst (us ++ [.ref t]))) v val as := hv9.keep tk10 fun a ha => upd_ne (fun z => npa (by rw [← z]; exact ha))
      have S10 : Src (upd H9 pl (.lst (us ++ [.ref t]))) s (n + 4000 + 40 * i) := S9.upd npl.symm
      have K10 : KB s H (upd H9 pl (.lst (us ++ [.ref t]))) := (K3.trans (kb_ex E9)).updN (Or.inl npH)
      have h10 : (upd H9 pl (.lst (us ++ [.ref t]))) pl = some (.lst (us ++ [.ref t])) := upd_same
      have hs10 : (upd H9 pl (.lst (us ++ [.ref t]))) s = some (.lst ys3) := by rw [upd_ne npl.symm]; exact hs9
      have ul2 : (us ++ [V.ref t]).length = i + 1 := by rw [List.length_append, ul]; rfl
      generalize us ++ [V.ref t] = us2 at past10 hv10 S10 K10 h10 hs10 ul2 ⊢
      generalize upd H9 pl (.lst us2) = H10 at past10 hv10 S10 K10 h10 hs10 ⊢
      refine q_if (b := false) (et_test (ev_opLL (xs := []) (ys := []) ?_ (el_lst ea_nil (by decide)) fun p1 q1 H11 hp1 hq1 _ H12 e12 Q12 q12 => ⟨.list [], .list [], .lst (sq_of (e12 _ _ hp1)) .nil, .lst (sq_of (e12 _ _ hq1)) .nil, rfl, rfl, q12 H12 (Ex.refl _)⟩)) (fun z => nomatch z) (fun _ H11 e11 => ?_)
      · have e0 : given us2.length (fun _ => false) (fun _ => V.int 1) = [] := by
          unfold given
          rw [List.filter_eq_nil_iff.mpr (fun _ _ => by decide)]
          rfl
        rw [← e0]
        refine el_lcG (a := pl) (xs := us2) (fun _ => false) (fun _ => .int 1) (fun j => match us2[j]? with | some (.ref t) => (match H10 t with | some (.tup [a, b, c2, d]) => [some (.ref s), some (.int k), some v, some (.ref pl), some (.int (i : Int)), some (.str c.page), some kc, some (.str c.page), some f, some a, some b, some c2, some d] | _ => []) | _ => []) (ev_var rfl) (sq_of h10) (by omega) (fun j u hj => ?_) (fun j u hj => ?_) (fun j u hj z => nomatch z)
        · obtain ⟨t2, pg, f2, kc2, w1, w2, a1, a2, rfl, ht2, _⟩ := past10 u (List.mem_of_getElem? hj)
          simp only [hj, ht2]
          exact ⟨rfl, fun H12 e12 Q' q' => ⟨t2, _, rfl, st_of (e12 _ _ ht2), rfl, _, _, rfl, _, _, rfl, _, _, rfl, _, _, rfl, rfl, q' H12 (Ex.refl _)⟩⟩
        · obtain ⟨t2, pg, f2, kc2, w1, w2, a1, a2, rfl, ht2, g1, g2, l, _⟩ := past10 u (List.mem_of_getElem? hj)
          simp only [hj, ht2]
          exact et_is (et_or (a := false) (b := false) (et_is (et_test (ev_op (ev_var rfl) (ev_var rfl) (rv_ne rfl))) (by rw [decide_eq_true rfl]; rfl)) (fun _ => et_test (ev_op (ev_var rfl) (ev_var rfl) (ne_val g1 g2 l)))) rfl
      have h11 := e11 _ _ h10
      have hv11 := hv10.ex e11
      have hs11 := e11 _ _ hs10
      refine ⟨_, rfl, _, rfl, _, rfl, s, n + 4000 + 40 * i, v, val, as, by rw [hd]; rfl, S10.ex e11, by omega, hv11, ov, nsa, fun val' as' H12 ka S12 hv12 ov12 hd12 fr => ⟨true, rfl, ?_⟩⟩
      have ka2 : KA (s :: pl :: as) H11 H12 := fun b o nb hb => ka b o (fun m => by
        rcases List.mem_cons.mp m with rfl | m
        · exact nb (by simp)
        · exact nb (List.mem_cons_of_mem _ (List.mem_cons_of_mem _ m))) hb
      have npa12 : pl ∉ s :: as := fun m => by
        rcases List.mem_cons.mp m with z | m
        · exact npl z
        · exact npa m
      have K11 := K10.trans (kb_ex e11)
      refine ⟨_, _, _, _, _, _, _, _, _, v, val', as', us2, rfl, hd12.trans hd, fun b o nb hb => ka b o (fun m => ?_) (K11 b o nb hb), S12.le (by omega), hv12, ov12, fun m => ?_, fun m => ?_, fun a ha => ?_, ka pl _ npa12 h11, ul2, fun u hu => ((past10 u hu).ex e11).keep ka2 (bnt hs11 ⟨us2, h11⟩ hv11) fun a ha => ?_⟩
      · rcases List.mem_cons.mp m with z | m
        · exact nb z
        · rw [nfa b m] at hb
          cases hb
      · rcases fr s m with m | m
        · exact nsa m
        · rw [hs11] at m
          cases m
      · rcases fr pl m with m | m
        · exact npa m
        · rw [h11] at m
          cases m
      · rcases fr a ha with m | m
        · exact nfa a m
        · exact K11.fresh ⟨_, hs11⟩ m
      · rcases List.mem_cons.mp ha with rfl | ha
        · exact Or.inl (by simp)
        rcases List.mem_cons.mp ha with rfl | ha
        · exact Or.inl (by simp)
        · rcases fr a ha with m | m
          · exact Or.inl (List.mem_cons_of_mem _ (List.mem_cons_of_mem _ m))
          · exact Or.inr m
    · obtain ⟨b4, b5, b6, b7, b8, b9, b10, b11, b12, v, val, as, us, rfl, hd, K3, S3, hv, ov, nsa, npa, nfa, h3, ul, past⟩ := p
      exact s_ret (v := .bl true) ev_c fun H4 e4 => q H4 (K3.trans (kb_ex e4)) ((S3.ex e4).le (by show n + 4000 + 40 * 15 ≤ _; omega))
end
end Vx

set_option Elab.async false
set_option linter.all false
set_option maxRecDepth 100000
set_option maxHeartbeats 8000000
namespace Vx
open PySem PySem.Spec PyProof.Rows L2 Evl
theorem ev_mn2 {ta tb : TE} {σ : L2.St} {H : Hp} {i j : Int} (ha : Ev ta σ H (.int i)) (hb : Ev tb σ H (.int j)) : Ev (tCB (fun xs H Q => ∃ i j, xs = [.int i, .int j] ∧ Q (.int (if j < i then j else i)) H) (tCons ta (tCons tb tNil))) σ H (.int (if j < i then j else i)) := fun H1 e Q q =>
  ha H1 e _ fun H2 e2 => hb H2 (e.trans e2) _ fun H3 e3 => ⟨i, j, rfl, q H3 (e2.trans e3)⟩
section
variable {P : Program} {w : World} {K : PySem.W.Frag} {mg : Str → Option Value} {base : Heap}
theorem sc_law : FnScope ["script", "k", "source", "turn", "door"] ["script"] (defScope s_law) := ⟨rfl, rfl, rfl, by decide +kernel, rfl, by decide +kernel, by decide +kernel⟩
theorem ok_law {f : Addr} {fd : FuncData} (F : Fun K "law" "law" s_law f fd) (T : Bl mg) (G_law_source : Good P w K mg base 1 "_law_source" ["script", "k"] (spSource K)) (G_law_right : Good P w K mg base 8 "_law_right" ["source", "door"] spRightC) : FnG P w K mg base 9 f fd ["script"] (spLaw K) := by
  refine fun_okG F sc_law (fun vs H Q E h => ?_) (fun cdv A outer s H vs Q E quiet hr h => ?_)
  · obtain ⟨a, ns, rfl, _⟩ := h
    rfl
  · obtain ⟨a, ns, rfl, hS, hlen, q⟩ := h
    have hu := hu_of hr
    refine ⟨_, (pss_cons (ps_for PassesOwn.never rfl (x_rng T (pa_cons (pe_callB (call_max2 rfl) (by rfl) T.max (by decide +kernel) (pa_cons pe_int (pa_cons (pe_callB (call_min2 rfl) (by rfl) T.min (by decide +kernel) (pa_cons pe_int (pa_cons (x_len (K := K) T (pv 0)) pa_nil))) pa_nil))) pa_nil)) (pg_name (i := 1) sc_law.nd rfl (Or.inl rfl)) (pss_cons (ps_set (i := 2) sc_law.nd rfl (Or.inr rfl) (pe_fn (G_law_source.mono (by decide)) hr (pa_cons (pv 0) (pa_cons (pv 1) pa_nil))))
      (pss_one (ps_for PassesOwn.never rfl (x_rng T (pa_cons (pe_op op_sub pe_int (pe_callTy (hc := call_int1) (hg := by rfl) (hm := T.int) (hv := by decide +kernel) (ha := pa_cons (pe_cmpR op_gt (pv 1) pe_int (nomark _)) pa_nil))) pa_nil)) (pg_name (i := 3) sc_law.nd rfl (Or.inl rfl)) (pss_one (ps_if (pt_cmpR (x_neD (K := K) rfl hr.units) (pe_lc (own := [("door", 4)]) (g := (gName 4))  rfl sc_law.nd (x_rng T (pa_cons pe_int pa_nil)) (blkOk_by (N := ["script", "k", "source", "turn", "door"]) (sc := (defScope s_law)) (by decide +kernel)) (fun _ _ _ _ _ => (pg_name (i := 4) sc_law.nd rfl (Or.inl rfl))) (fun _ _ _ _ _ => (pts_one (pt_not (pt_val (pe_fn (G_law_right.mono (by decide)) hr (pa_cons (pv 2) (pa_cons (pv 4) pa_nil))))))) (fun _ _ _ _ _ => (pv 4))) (pe_lst pa_nil) (nomark _)) pss_never pss_nil))))))
      (pss_one (ps_ret pe_bl))), ?_⟩
    refine q_forR1 (n := if (if (ns.length : Int) < 2 then (ns.length : Int) else 2) > 1 then (if (ns.length : Int) < 2 then (ns.length : Int) else 2) else 1) (ea_cons (ev_max2 ev_c (ev_mn2 ev_c (Evl.ev_is (ev_len (ev_var rfl) hS) (by rw [List.length_map])))) ea_nil) (by constructor <;> (split <;> (try split) <;> omega))
      (fun _ σ' H' => (∃ b1 b2 b3 b4, σ' = [some (.ref a), b1, b2, b3, b4]) ∧ Ex H H') (fun H1 e1 => ⟨⟨_, _, _, _, rfl⟩, e1⟩) (fun k σ' H2 hk p => ?_) (fun σ' H2 p => ?_)
    · obtain ⟨⟨b1, b2, b3, b4, rfl⟩, e2⟩ := p
      have hk3 : (k : Int) < 2 := by
        split at hk <;> (try split at hk) <;> omega
      refine ⟨_, rfl, _, rfl, a, ns, (k : Int), rfl, ex_l e2 hS, by omega, by omega, fun p x y hp x0 y0 y1 => ?_⟩
      have s0 : Src (upd H2 p (.lst [.int x, .int y, .int 0])) p 0 := ⟨x, y, 0, upd_same, x0, y0, y1, by decide, by decide⟩
      have e3 : Ex H2 (upd H2 p (.lst [.int x, .int y, .int 0])) := Ex.new hp
      generalize upd H2 p (.lst [.int x, .int y, .int 0]) = H3 at s0 e3
      dsimp only [gName]
      refine s_forR1 (n := 2 - (if decide ((0 : Int) < (k : Int)) = true then 1 else 0)) (ea_cons (ev_op (y := .int (if decide ((0 : Int) < (k : Int)) = true then 1 else 0)) ev_c (ev_intB (b := decide ((0 : Int) < (k : Int))) (ev_op (ev_var rfl) ev_c rv_I0) rfl) rv_I0) ea_nil) (by constructor <;> split <;> omega) (fun t σ' H' => (∃ b3 b4, σ' = [some (.ref a), some (.int (k : Int)), some (.ref p), b3, b4]) ∧ Ex H2 H' ∧ Src H' p (20000 * t)) (fun H4 e4 => ⟨⟨_, _, rfl⟩, e3.trans e4, s0.ex e4⟩) (fun t σ' H4 ht pp => ?_) (fun σ' H4 pp => ?_)
      · obtain ⟨⟨b3, b4, rfl⟩, e4, s4⟩ := pp
        have ht2 : t < 2 := by
          split at ht <;> omega
        refine ⟨(3 : Int), rfl, by decide, by decide, fun Dl hD => ?_⟩
        obtain ⟨ys4, hs4⟩ := s4.at_
        have nDp : Dl ≠ p := fun z => by rw [z, hs4] at hD; cases hD
        refine lc_range (lo := 0) (n := 3) (fun i H' => Src H' p (20000 * t + 6000 * i) ∧ KB p H4 H' ∧ H' Dl = some (.lst []))
          ⟨s4.upd nDp.symm, kb_ex (Ex.new hD), upd_same⟩ (fun i H6 hi pp => ?_) (fun H6 pp => ?_)
        · obtain ⟨s6, k6, h6⟩ := pp
          refine ⟨rfl, ?_⟩
          refine ⟨_, rfl, _, rfl, p, 20000 * t + 6000 * i, (0 : Int) + (i : Int), rfl, by omega, s6, by omega, fun H7 k7 s7 => ⟨true, rfl, ?_⟩⟩
          exact ⟨s7.le (by omega), k6.trans k7, k7 _ _ nDp h6⟩
        · obtain ⟨s6, k6, h6⟩ := pp
          refine ⟨(by show 0 ≤ sizeLine; decide), fun q1 hq1 => ?_⟩
          have e7 : Ex H6 (upd H6 q1 (.lst [])) := Ex.new hq1
          have h7 : (upd H6 q1 (.lst [])) q1 = some (.lst []) := upd_same
          generalize upd H6 q1 (.lst []) = H7 at e7 h7 ⊢
          refine ⟨.list [], .list [], .lst (sq_of (e7 _ _ h6)) .nil, .lst (sq_of h7) .nil, rfl, rfl, ?_⟩
          refine ⟨_, rfl, ?_⟩
          exact ⟨⟨_, _, rfl⟩, (k6.base e4 hp).trans e7, (s6.ex e7).le (by omega)⟩
      · obtain ⟨⟨b3, b4, rfl⟩, e4, s4⟩ := pp
        exact ⟨⟨_, _, _, _, rfl⟩, e2.trans e4⟩
    · obtain ⟨⟨b1, b2, b3, b4, rfl⟩, e2⟩ := p
      exact s_ret (v := .bl true) ev_c fun H6 e6 => q H6
end
end Vx

set_option Elab.async false
set_option linter.all false
set_option maxRecDepth 100000
set_option maxHeartbeats 4000000
namespace Vx
open PySem PySem.Spec PyProof.Rows L2 Evl
def nbB (K : PySem.W.Frag) : Bool := (["len", "max", "min", "abs", "all", "zip", "list", "tuple", "dict", "bool", "int", "str", "range", "isinstance", "sorted", "set", "enumerate", "repr"] : List Str).all fun n => decide (PySem.W.nsIn K mainGlobals n = some none)
theorem bl_ok {K : PySem.W.Frag} {mg : Str → Option Value} {h : Heap} (X : K.In h) (G : h.Ns mainGlobals mg) (nb : nbB K = true) : Bl mg := by
  have nn : ∀ n ∈ (["len", "max", "min", "abs", "all", "zip", "list", "tuple", "dict", "bool", "int", "str", "range", "isinstance", "sorted", "set", "enumerate", "repr"] : List Str), PySem.W.nsIn K mainGlobals n = some none := fun n hn => of_decide_eq_true (List.all_eq_true.mp nb n hn)
  have mn : ∀ n ∈ (["len", "max", "min", "abs", "all", "zip", "list", "tuple", "dict", "bool", "int", "str", "range", "isinstance", "sorted", "set", "enumerate", "repr"] : List Str), mg n = none := fun n hn => PySem.W.mg_none_of X G (nn n hn)
  exact ⟨mn _ (by simp), mn _ (by simp), mn _ (by simp), mn _ (by simp), mn _ (by simp), mn _ (by simp), mn _ (by simp), mn _ (by simp), mn _ (by simp), mn _ (by simp), mn _ (by simp), mn _ (by simp), mn _ (by simp), mn _ (by simp), mn _ (by simp), mn _ (by simp), mn _ (by simp), mn _ (by simp)⟩
theorem all_mk {l : PySem.W.OpenLaw} {w : World} {K : PySem.W.Frag} {h : Heap} {mg : Str → Option Value} {fa : Addr} (X : K.In h) (G : h.Ns mainGlobals mg) (hfa : mg "law" = some (.ref fa)) (nb : nbB K = true)
    {f1 f2 f3 f4 f5 f6 f7 f8 f9 f10 f11 f12 f13 f14 f15 f16 f17 f18 f19 f20 f21 f22 f23 f24 f25 f26 f27 f28 f29 f30 f31 f32 f33 f34 f35 f36 f37 f38 f39 f40 f41 f42 f43 f44 : Addr}
    {od1 an1 : Option Addr} {sl1 : Array (Option Value)} {oc1 kV1 dc1 pm1 cd1 ct1 : Value}
    {od2 an2 : Option Addr} {sl2 : Array (Option Value)} {oc2 kV2 dc2 pm2 cd2 ct2 : Value}
    {od3 an3 : Option Addr} {sl3 : Array (Option Value)} {oc3 kV3 dc3 pm3 cd3 ct3 : Value}
    {od4 an4 : Option Addr} {sl4 : Array (Option Value)} {oc4 kV4 dc4 pm4 cd4 ct4 : Value}
    {od5 an5 : Option Addr} {sl5 : Array (Option Value)} {oc5 kV5 dc5 pm5 cd5 ct5 : Value}
    {od6 an6 : Option Addr} {sl6 : Array (Option Value)} {oc6 kV6 dc6 pm6 cd6 ct6 : Value}
    {od7 an7 : Option Addr} {sl7 : Array (Option Value)} {oc7 kV7 dc7 pm7 cd7 ct7 : Value}
    {od8 an8 : Option Addr} {sl8 : Array (Option Value)} {oc8 kV8 dc8 pm8 cd8 ct8 : Value}
    {od9 an9 : Option Addr} {sl9 : Array (Option Value)} {oc9 kV9 dc9 pm9 cd9 ct9 : Value}
    {od10 an10 : Option Addr} {sl10 : Array (Option Value)} {oc10 kV10 dc10 pm10 cd10 ct10 : Value}
    {od11 an11 : Option Addr} {sl11 : Array (Option Value)} {oc11 kV11 dc11 pm11 cd11 ct11 : Value}
    {od12 an12 : Option Addr} {sl12 : Array (Option Value)} {oc12 kV12 dc12 pm12 cd12 ct12 : Value}
    {od13 an13 : Option Addr} {sl13 : Array (Option Value)} {oc13 kV13 dc13 pm13 cd13 ct13 : Value}
    {od14 an14 : Option Addr} {sl14 : Array (Option Value)} {oc14 kV14 dc14 pm14 cd14 ct14 : Value}
    {od15 an15 : Option Addr} {sl15 : Array (Option Value)} {oc15 kV15 dc15 pm15 cd15 ct15 : Value}
    {od16 an16 : Option Addr} {sl16 : Array (Option Value)} {oc16 kV16 dc16 pm16 cd16 ct16 : Value}
    {od17 an17 : Option Addr} {sl17 : Array (Option Value)} {oc17 kV17 dc17 pm17 cd17 ct17 : Value}
    {od18 an18 : Option Addr} {sl18 : Array (Option Value)} {oc18 kV18 dc18 pm18 cd18 ct18 : Value}
    {od19 an19 : Option Addr} {sl19 : Array (Option Value)} {oc19 kV19 dc19 pm19 cd19 ct19 : Value}
    {od20 an20 : Option Addr} {sl20 : Array (Option Value)} {oc20 kV20 dc20 pm20 cd20 ct20 : Value}
    {od21 an21 : Option Addr} {sl21 : Array (Option Value)} {oc21 kV21 dc21 pm21 cd21 ct21 : Value}
    {od22 an22 : Option Addr} {sl22 : Array (Option Value)} {oc22 kV22 dc22 pm22 cd22 ct22 : Value}
    {od23 an23 : Option Addr} {sl23 : Array (Option Value)} {oc23 kV23 dc23 pm23 cd23 ct23 : Value}
    {od24 an24 : Option Addr} {sl24 : Array (Option Value)} {oc24 kV24 dc24 pm24 cd24 ct24 : Value}
    {od25 an25 : Option Addr} {sl25 : Array (Option Value)} {oc25 kV25 dc25 pm25 cd25 ct25 : Value}
    {od26 an26 : Option Addr} {sl26 : Array (Option Value)} {oc26 kV26 dc26 pm26 cd26 ct26 : Value}
    {od27 an27 : Option Addr} {sl27 : Array (Option Value)} {oc27 kV27 dc27 pm27 cd27 ct27 : Value}
    {od28 an28 : Option Addr} {sl28 : Array (Option Value)} {oc28 kV28 dc28 pm28 cd28 ct28 : Value}
    {od29 an29 : Option Addr} {sl29 : Array (Option Value)} {oc29 kV29 dc29 pm29 cd29 ct29 : Value}
    {od30 an30 : Option Addr} {sl30 : Array (Option Value)} {oc30 kV30 dc30 pm30 cd30 ct30 : Value}
    {od31 an31 : Option Addr} {sl31 : Array (Option Value)} {oc31 kV31 dc31 pm31 cd31 ct31 : Value}
    {od32 an32 : Option Addr} {sl32 : Array (Option Value)} {oc32 kV32 dc32 pm32 cd32 ct32 : Value}
    {od33 an33 : Option Addr} {sl33 : Array (Option Value)} {oc33 kV33 dc33 pm33 cd33 ct33 : Value}
    {od34 an34 : Option Addr} {sl34 : Array (Option Value)} {oc34 kV34 dc34 pm34 cd34 ct34 : Value}
    {od35 an35 : Option Addr} {sl35 : Array (Option Value)} {oc35 kV35 dc35 pm35 cd35 ct35 : Value}
    {od36 an36 : Option Addr} {sl36 : Array (Option Value)} {oc36 kV36 dc36 pm36 cd36 ct36 : Value}
    {od37 an37 : Option Addr} {sl37 : Array (Option Value)} {oc37 kV37 dc37 pm37 cd37 ct37 : Value}
    {od38 an38 : Option Addr} {sl38 : Array (Option Value)} {oc38 kV38 dc38 pm38 cd38 ct38 : Value}
    {od39 an39 : Option Addr} {sl39 : Array (Option Value)} {oc39 kV39 dc39 pm39 cd39 ct39 : Value}
    {od40 an40 : Option Addr} {sl40 : Array (Option Value)} {oc40 kV40 dc40 pm40 cd40 ct40 : Value}
    {od41 an41 : Option Addr} {sl41 : Array (Option Value)} {oc41 kV41 dc41 pm41 cd41 ct41 : Value}
    {od42 an42 : Option Addr} {sl42 : Array (Option Value)} {oc42 kV42 dc42 pm42 cd42 ct42 : Value}
    {od43 an43 : Option Addr} {sl43 : Array (Option Value)} {oc43 kV43 dc43 pm43 cd43 ct43 : Value}
    {od44 an44 : Option Addr} {sl44 : Array (Option Value)} {oc44 kV44 dc44 pm44 cd44 ct44 : Value}
    (m0 : ∃ t, PySem.W.nsIn K mainGlobals "MOST_LETTERS" = some (some (.int 8 t)))
    (m1 : ∃ t, PySem.W.nsIn K mainGlobals "MOST_ITEMS" = some (some (.int 60 t)))
    (m2 : ∃ t, PySem.W.nsIn K mainGlobals "MOST_WORKERS" = some (some (.int 6 t)))
    (m3 : ∃ t, PySem.W.nsIn K mainGlobals "MOST_ENTRIES" = some (some (.int 60 t)))
    (m4 : ∃ t, PySem.W.nsIn K mainGlobals "MOST_FACTS" = some (some (.int 200 t)))
    (m5 : ∃ t, PySem.W.nsIn K mainGlobals "MOST_DIGITS" = some (some (.int 9 t)))
    (m6 : ∃ t, PySem.W.nsIn K mainGlobals "LONGEST_RUN" = some (some (.int 360 t)))
    (mn : ∃ t, PySem.W.nsIn K mainGlobals "NONE" = some (some (.str "-" t)))
    {sd : Addr} {ses : Array DictEntry} {sq : Nat} (sg1 : PySem.W.nsIn K mainGlobals "SIGNS" = some (some (.ref sd))) (sg2 : K.lookup sd = some ⟨.type "dict", none, .dict ses sq, #[]⟩) (sg3 : PySem.W.KeysLit w.params ses.toList)
    (sg4 : ∃ t, PySem.W.nsIn K sd "push" = some (some (.str "+" t))) (sg5 : ∃ t, PySem.W.nsIn K sd "pop" = some (some (.str "-" t))) (sg6 : ∃ t, PySem.W.nsIn K sd "size" = some (some (.str "=" t)))
    (b1 : PySem.W.nsIn K mainGlobals "is_integer" = some (some (.ref f1))) (l1 : K.lookup f1 = some ⟨oc1, od1, .func (PySem.W.fnOf "is_integer" "is_integer" (defArgs s_is_integer) (defBody s_is_integer) (defScope s_is_integer) .none kV1 dc1 pm1 an1 cd1 ct1), sl1⟩) (e1 : PySem.W.codeIn K cd1 "is_integer" = true) (k1 : PySem.W.keepIn K (.ref f1) = true)
    (b2 : PySem.W.nsIn K mainGlobals "is_name" = some (some (.ref f2))) (l2 : K.lookup f2 = some ⟨oc2, od2, .func (PySem.W.fnOf "is_name" "is_name" (defArgs s_is_name) (defBody s_is_name) (defScope s_is_name) .none kV2 dc2 pm2 an2 cd2 ct2), sl2⟩) (e2 : PySem.W.codeIn K cd2 "is_name" = true) (k2 : PySem.W.keepIn K (.ref f2) = true)
    (b3 : PySem.W.nsIn K mainGlobals "is_size" = some (some (.ref f3))) (l3 : K.lookup f3 = some ⟨oc3, od3, .func (PySem.W.fnOf "is_size" "is_size" (defArgs s_is_size) (defBody s_is_size) (defScope s_is_size) .none kV3 dc3 pm3 an3 cd3 ct3), sl3⟩) (e3 : PySem.W.codeIn K cd3 "is_size" = true) (k3 : PySem.W.keepIn K (.ref f3) = true)
    (b4 : PySem.W.nsIn K mainGlobals "is_entry" = some (some (.ref f4))) (l4 : K.lookup f4 = some ⟨oc4, od4, .func (PySem.W.fnOf "is_entry" "is_entry" (defArgs s_is_entry) (defBody s_is_entry) (defScope s_is_entry) .none kV4 dc4 pm4 an4 cd4 ct4), sl4⟩) (e4 : PySem.W.codeIn K cd4 "is_entry" = true) (k4 : PySem.W.keepIn K (.ref f4) = true)
    (b5 : PySem.W.nsIn K mainGlobals "is_logs" = some (some (.ref f5))) (l5 : K.lookup f5 = some ⟨oc5, od5, .func (PySem.W.fnOf "is_logs" "is_logs" (defArgs s_is_logs) (defBody s_is_logs) (defScope s_is_logs) .none kV5 dc5 pm5 an5 cd5 ct5), sl5⟩) (e5 : PySem.W.codeIn K cd5 "is_logs" = true) (k5 : PySem.W.keepIn K (.ref f5) = true)
    (b6 : PySem.W.nsIn K mainGlobals "is_log" = some (some (.ref f6))) (l6 : K.lookup f6 = some ⟨oc6, od6, .func (PySem.W.fnOf "is_log" "is_log" (defArgs s_is_log) (defBody s_is_log) (defScope s_is_log) .none kV6 dc6 pm6 an6 cd6 ct6), sl6⟩) (e6 : PySem.W.codeIn K cd6 "is_log" = true) (k6 : PySem.W.keepIn K (.ref f6) = true)
    (b7 : PySem.W.nsIn K mainGlobals "items_fit" = some (some (.ref f7))) (l7 : K.lookup f7 = some ⟨oc7, od7, .func (PySem.W.fnOf "items_fit" "items_fit" (defArgs s_items_fit) (defBody s_items_fit) (defScope s_items_fit) .none kV7 dc7 pm7 an7 cd7 ct7), sl7⟩) (e7 : PySem.W.codeIn K cd7 "items_fit" = true) (k7 : PySem.W.keepIn K (.ref f7) = true)
    (b8 : PySem.W.nsIn K mainGlobals "removal_fits" = some (some (.ref f8))) (l8 : K.lookup f8 = some ⟨oc8, od8, .func (PySem.W.fnOf "removal_fits" "removal_fits" (defArgs s_removal_fits) (defBody s_removal_fits) (defScope s_removal_fits) .none kV8 dc8 pm8 an8 cd8 ct8), sl8⟩) (e8 : PySem.W.codeIn K cd8 "removal_fits" = true) (k8 : PySem.W.keepIn K (.ref f8) = true)
    (b9 : PySem.W.nsIn K mainGlobals "all_entries" = some (some (.ref f9))) (l9 : K.lookup f9 = some ⟨oc9, od9, .func (PySem.W.fnOf "all_entries" "all_entries" (defArgs s_all_entries) (defBody s_all_entries) (defScope s_all_entries) .none kV9 dc9 pm9 an9 cd9 ct9), sl9⟩) (e9 : PySem.W.codeIn K cd9 "all_entries" = true) (k9 : PySem.W.keepIn K (.ref f9) = true)
    (b10 : PySem.W.nsIn K mainGlobals "push_places" = some (some (.ref f10))) (l10 : K.lookup f10 = some ⟨oc10, od10, .func (PySem.W.fnOf "push_places" "push_places" (defArgs s_push_places) (defBody s_push_places) (defScope s_push_places) .none kV10 dc10 pm10 an10 cd10 ct10), sl10⟩) (e10 : PySem.W.codeIn K cd10 "push_places" = true) (k10 : PySem.W.keepIn K (.ref f10) = true)
    (b11 : PySem.W.nsIn K mainGlobals "write_logs" = some (some (.ref f11))) (l11 : K.lookup f11 = some ⟨oc11, od11, .func (PySem.W.fnOf "write_logs" "write_logs" (defArgs s_write_logs) (defBody s_write_logs) (defScope s_write_logs) .none kV11 dc11 pm11 an11 cd11 ct11), sl11⟩) (e11 : PySem.W.codeIn K cd11 "write_logs" = true) (k11 : PySem.W.keepIn K (.ref f11) = true)
    (b12 : PySem.W.nsIn K mainGlobals "read_logs" = some (some (.ref f12))) (l12 : K.lookup f12 = some ⟨oc12, od12, .func (PySem.W.fnOf "read_logs" "read_logs" (defArgs s_read_logs) (defBody s_read_logs) (defScope s_read_logs) .none kV12 dc12 pm12 an12 cd12 ct12), sl12⟩) (e12 : PySem.W.codeIn K cd12 "read_logs" = true) (k12 : PySem.W.keepIn K (.ref f12) = true)
    (b13 : PySem.W.nsIn K mainGlobals "write_facts" = some (some (.ref f13))) (l13 : K.lookup f13 = some ⟨oc13, od13, .func (PySem.W.fnOf "write_facts" "write_facts" (defArgs s_write_facts) (defBody s_write_facts) (defScope s_write_facts) .none kV13 dc13 pm13 an13 cd13 ct13), sl13⟩) (e13 : PySem.W.codeIn K cd13 "write_facts" = true) (k13 : PySem.W.keepIn K (.ref f13) = true)
    (b14 : PySem.W.nsIn K mainGlobals "read_facts" = some (some (.ref f14))) (l14 : K.lookup f14 = some ⟨oc14, od14, .func (PySem.W.fnOf "read_facts" "read_facts" (defArgs s_read_facts) (defBody s_read_facts) (defScope s_read_facts) .none kV14 dc14 pm14 an14 cd14 ct14), sl14⟩) (e14 : PySem.W.codeIn K cd14 "read_facts" = true) (k14 : PySem.W.keepIn K (.ref f14) = true)
    (b15 : PySem.W.nsIn K mainGlobals "write_run" = some (some (.ref f15))) (l15 : K.lookup f15 = some ⟨oc15, od15, .func (PySem.W.fnOf "write_run" "write_run" (defArgs s_write_run) (defBody s_write_run) (defScope s_write_run) .none kV15 dc15 pm15 an15 cd15 ct15), sl15⟩) (e15 : PySem.W.codeIn K cd15 "write_run" = true) (k15 : PySem.W.keepIn K (.ref f15) = true)
    (b16 : PySem.W.nsIn K mainGlobals "read_run" = some (some (.ref f16))) (l16 : K.lookup f16 = some ⟨oc16, od16, .func (PySem.W.fnOf "read_run" "read_run" (defArgs s_read_run) (defBody s_read_run) (defScope s_read_run) .none kV16 dc16 pm16 an16 cd16 ct16), sl16⟩) (e16 : PySem.W.codeIn K cd16 "read_run" = true) (k16 : PySem.W.keepIn K (.ref f16) = true)
    (b17 : PySem.W.nsIn K mainGlobals "write_log" = some (some (.ref f17))) (l17 : K.lookup f17 = some ⟨oc17, od17, .func (PySem.W.fnOf "write_log" "write_log" (defArgs s_write_log) (defBody s_write_log) (defScope s_write_log) .none kV17 dc17 pm17 an17 cd17 ct17), sl17⟩) (e17 : PySem.W.codeIn K cd17 "write_log" = true) (k17 : PySem.W.keepIn K (.ref f17) = true)
    (b18 : PySem.W.nsIn K mainGlobals "write_entry" = some (some (.ref f18))) (l18 : K.lookup f18 = some ⟨oc18, od18, .func (PySem.W.fnOf "write_entry" "write_entry" (defArgs s_write_entry) (defBody s_write_entry) (defScope s_write_entry) .none kV18 dc18 pm18 an18 cd18 ct18), sl18⟩) (e18 : PySem.W.codeIn K cd18 "write_entry" = true) (k18 : PySem.W.keepIn K (.ref f18) = true)
    (b19 : PySem.W.nsIn K mainGlobals "read_entry" = some (some (.ref f19))) (l19 : K.lookup f19 = some ⟨oc19, od19, .func (PySem.W.fnOf "read_entry" "read_entry" (defArgs s_read_entry) (defBody s_read_entry) (defScope s_read_entry) .none kV19 dc19 pm19 an19 cd19 ct19), sl19⟩) (e19 : PySem.W.codeIn K cd19 "read_entry" = true) (k19 : PySem.W.keepIn K (.ref f19) = true)
    (b20 : PySem.W.nsIn K mainGlobals "write_words" = some (some (.ref f20))) (l20 : K.lookup f20 = some ⟨oc20, od20, .func (PySem.W.fnOf "write_words" "write_words" (defArgs s_write_words) (defBody s_write_words) (defScope s_write_words) .none kV20 dc20 pm20 an20 cd20 ct20), sl20⟩) (e20 : PySem.W.codeIn K cd20 "write_words" = true) (k20 : PySem.W.keepIn K (.ref f20) = true)
    (b21 : PySem.W.nsIn K mainGlobals "read_words" = some (some (.ref f21))) (l21 : K.lookup f21 = some ⟨oc21, od21, .func (PySem.W.fnOf "read_words" "read_words" (defArgs s_read_words) (defBody s_read_words) (defScope s_read_words) .none kV21 dc21 pm21 an21 cd21 ct21), sl21⟩) (e21 : PySem.W.codeIn K cd21 "read_words" = true) (k21 : PySem.W.keepIn K (.ref f21) = true)
    (b22 : PySem.W.nsIn K mainGlobals "read_name" = some (some (.ref f22))) (l22 : K.lookup f22 = some ⟨oc22, od22, .func (PySem.W.fnOf "read_name" "read_name" (defArgs s_read_name) (defBody s_read_name) (defScope s_read_name) .none kV22 dc22 pm22 an22 cd22 ct22), sl22⟩) (e22 : PySem.W.codeIn K cd22 "read_name" = true) (k22 : PySem.W.keepIn K (.ref f22) = true)
    (b23 : PySem.W.nsIn K mainGlobals "read_fact" = some (some (.ref f23))) (l23 : K.lookup f23 = some ⟨oc23, od23, .func (PySem.W.fnOf "read_fact" "read_fact" (defArgs s_read_fact) (defBody s_read_fact) (defScope s_read_fact) .none kV23 dc23 pm23 an23 cd23 ct23), sl23⟩) (e23 : PySem.W.codeIn K cd23 "read_fact" = true) (k23 : PySem.W.keepIn K (.ref f23) = true)
    (b24 : PySem.W.nsIn K mainGlobals "write_place" = some (some (.ref f24))) (l24 : K.lookup f24 = some ⟨oc24, od24, .func (PySem.W.fnOf "write_place" "write_place" (defArgs s_write_place) (defBody s_write_place) (defScope s_write_place) .none kV24 dc24 pm24 an24 cd24 ct24), sl24⟩) (e24 : PySem.W.codeIn K cd24 "write_place" = true) (k24 : PySem.W.keepIn K (.ref f24) = true)
    (b25 : PySem.W.nsIn K mainGlobals "read_place" = some (some (.ref f25))) (l25 : K.lookup f25 = some ⟨oc25, od25, .func (PySem.W.fnOf "read_place" "read_place" (defArgs s_read_place) (defBody s_read_place) (defScope s_read_place) .none kV25 dc25 pm25 an25 cd25 ct25), sl25⟩) (e25 : PySem.W.codeIn K cd25 "read_place" = true) (k25 : PySem.W.keepIn K (.ref f25) = true)
    (b26 : PySem.W.nsIn K mainGlobals "is_number" = some (some (.ref f26))) (l26 : K.lookup f26 = some ⟨oc26, od26, .func (PySem.W.fnOf "is_number" "is_number" (defArgs s_is_number) (defBody s_is_number) (defScope s_is_number) .none kV26 dc26 pm26 an26 cd26 ct26), sl26⟩) (e26 : PySem.W.codeIn K cd26 "is_number" = true) (k26 : PySem.W.keepIn K (.ref f26) = true)
    (b27 : PySem.W.nsIn K mainGlobals "_law_source" = some (some (.ref f27))) (l27 : K.lookup f27 = some ⟨oc27, od27, .func (PySem.W.fnOf "_law_source" "_law_source" (defArgs s_law_source) (defBody s_law_source) (defScope s_law_source) .none kV27 dc27 pm27 an27 cd27 ct27), sl27⟩) (e27 : PySem.W.codeIn K cd27 "_law_source" = true) (k27 : PySem.W.keepIn K (.ref f27) = true)
    (b28 : PySem.W.nsIn K mainGlobals "_law_pick" = some (some (.ref f28))) (l28 : K.lookup f28 = some ⟨oc28, od28, .func (PySem.W.fnOf "_law_pick" "_law_pick" (defArgs s_law_pick) (defBody s_law_pick) (defScope s_law_pick) .none kV28 dc28 pm28 an28 cd28 ct28), sl28⟩) (e28 : PySem.W.codeIn K cd28 "_law_pick" = true) (k28 : PySem.W.keepIn K (.ref f28) = true)
    (b29 : PySem.W.nsIn K mainGlobals "_law_shuffled" = some (some (.ref f29))) (l29 : K.lookup f29 = some ⟨oc29, od29, .func (PySem.W.fnOf "_law_shuffled" "_law_shuffled" (defArgs s_law_shuffled) (defBody s_law_shuffled) (defScope s_law_shuffled) .none kV29 dc29 pm29 an29 cd29 ct29), sl29⟩) (e29 : PySem.W.codeIn K cd29 "_law_shuffled" = true) (k29 : PySem.W.keepIn K (.ref f29) = true)
    (b30 : PySem.W.nsIn K mainGlobals "_law_words" = some (some (.ref f30))) (l30 : K.lookup f30 = some ⟨oc30, od30, .func (PySem.W.fnOf "_law_words" "_law_words" (defArgs s_law_words) (defBody s_law_words) (defScope s_law_words) .none kV30 dc30 pm30 an30 cd30 ct30), sl30⟩) (e30 : PySem.W.codeIn K cd30 "_law_words" = true) (k30 : PySem.W.keepIn K (.ref f30) = true)
    (b31 : PySem.W.nsIn K mainGlobals "_law_workers" = some (some (.ref f31))) (l31 : K.lookup f31 = some ⟨oc31, od31, .func (PySem.W.fnOf "_law_workers" "_law_workers" (defArgs s_law_workers) (defBody s_law_workers) (defScope s_law_workers) .none kV31 dc31 pm31 an31 cd31 ct31), sl31⟩) (e31 : PySem.W.codeIn K cd31 "_law_workers" = true) (k31 : PySem.W.keepIn K (.ref f31) = true)
    (b32 : PySem.W.nsIn K mainGlobals "_law_logs" = some (some (.ref f32))) (l32 : K.lookup f32 = some ⟨oc32, od32, .func (PySem.W.fnOf "_law_logs" "_law_logs" (defArgs s_law_logs) (defBody s_law_logs) (defScope s_law_logs) .none kV32 dc32 pm32 an32 cd32 ct32), sl32⟩) (e32 : PySem.W.codeIn K cd32 "_law_logs" = true) (k32 : PySem.W.keepIn K (.ref f32) = true)
    (b33 : PySem.W.nsIn K mainGlobals "_law_facts" = some (some (.ref f33))) (l33 : K.lookup f33 = some ⟨oc33, od33, .func (PySem.W.fnOf "_law_facts" "_law_facts" (defArgs s_law_facts) (defBody s_law_facts) (defScope s_law_facts) .none kV33 dc33 pm33 an33 cd33 ct33), sl33⟩) (e33 : PySem.W.codeIn K cd33 "_law_facts" = true) (k33 : PySem.W.keepIn K (.ref f33) = true)
    (b34 : PySem.W.nsIn K mainGlobals "_law_run" = some (some (.ref f34))) (l34 : K.lookup f34 = some ⟨oc34, od34, .func (PySem.W.fnOf "_law_run" "_law_run" (defArgs s_law_run) (defBody s_law_run) (defScope s_law_run) .none kV34 dc34 pm34 an34 cd34 ct34), sl34⟩) (e34 : PySem.W.codeIn K cd34 "_law_run" = true) (k34 : PySem.W.keepIn K (.ref f34) = true)
    (b35 : PySem.W.nsIn K mainGlobals "_law_value" = some (some (.ref f35))) (l35 : K.lookup f35 = some ⟨oc35, od35, .func (PySem.W.fnOf "_law_value" "_law_value" (defArgs s_law_value) (defBody s_law_value) (defScope s_law_value) .none kV35 dc35 pm35 an35 cd35 ct35), sl35⟩) (e35 : PySem.W.codeIn K cd35 "_law_value" = true) (k35 : PySem.W.keepIn K (.ref f35) = true)
    (b36 : PySem.W.nsIn K mainGlobals "_law_word" = some (some (.ref f36))) (l36 : K.lookup f36 = some ⟨oc36, od36, .func (PySem.W.fnOf "_law_word" "_law_word" (defArgs s_law_word) (defBody s_law_word) (defScope s_law_word) .none kV36 dc36 pm36 an36 cd36 ct36), sl36⟩) (e36 : PySem.W.codeIn K cd36 "_law_word" = true) (k36 : PySem.W.keepIn K (.ref f36) = true)
    (b37 : PySem.W.nsIn K mainGlobals "_law_page" = some (some (.ref f37))) (l37 : K.lookup f37 = some ⟨oc37, od37, .func (PySem.W.fnOf "_law_page" "_law_page" (defArgs s_law_page) (defBody s_law_page) (defScope s_law_page) .none kV37 dc37 pm37 an37 cd37 ct37), sl37⟩) (e37 : PySem.W.codeIn K cd37 "_law_page" = true) (k37 : PySem.W.keepIn K (.ref f37) = true)
    (b38 : PySem.W.nsIn K mainGlobals "_law_write" = some (some (.ref f38))) (l38 : K.lookup f38 = some ⟨oc38, od38, .func (PySem.W.fnOf "_law_write" "_law_write" (defArgs s_law_write) (defBody s_law_write) (defScope s_law_write) .none kV38 dc38 pm38 an38 cd38 ct38), sl38⟩) (e38 : PySem.W.codeIn K cd38 "_law_write" = true) (k38 : PySem.W.keepIn K (.ref f38) = true)
    (b39 : PySem.W.nsIn K mainGlobals "_law_read" = some (some (.ref f39))) (l39 : K.lookup f39 = some ⟨oc39, od39, .func (PySem.W.fnOf "_law_read" "_law_read" (defArgs s_law_read) (defBody s_law_read) (defScope s_law_read) .none kV39 dc39 pm39 an39 cd39 ct39), sl39⟩) (e39 : PySem.W.codeIn K cd39 "_law_read" = true) (k39 : PySem.W.keepIn K (.ref f39) = true)
    (b40 : PySem.W.nsIn K mainGlobals "_law_copy" = some (some (.ref f40))) (l40 : K.lookup f40 = some ⟨oc40, od40, .func (PySem.W.fnOf "_law_copy" "_law_copy" (defArgs s_law_copy) (defBody s_law_copy) (defScope s_law_copy) .none kV40 dc40 pm40 an40 cd40 ct40), sl40⟩) (e40 : PySem.W.codeIn K cd40 "_law_copy" = true) (k40 : PySem.W.keepIn K (.ref f40) = true)
    (b41 : PySem.W.nsIn K mainGlobals "_law_change_logs" = some (some (.ref f41))) (l41 : K.lookup f41 = some ⟨oc41, od41, .func (PySem.W.fnOf "_law_change_logs" "_law_change_logs" (defArgs s_law_change_logs) (defBody s_law_change_logs) (defScope s_law_change_logs) .none kV41 dc41 pm41 an41 cd41 ct41), sl41⟩) (e41 : PySem.W.codeIn K cd41 "_law_change_logs" = true) (k41 : PySem.W.keepIn K (.ref f41) = true)
    (b42 : PySem.W.nsIn K mainGlobals "_law_change" = some (some (.ref f42))) (l42 : K.lookup f42 = some ⟨oc42, od42, .func (PySem.W.fnOf "_law_change" "_law_change" (defArgs s_law_change) (defBody s_law_change) (defScope s_law_change) .none kV42 dc42 pm42 an42 cd42 ct42), sl42⟩) (e42 : PySem.W.codeIn K cd42 "_law_change" = true) (k42 : PySem.W.keepIn K (.ref f42) = true)
    (b43 : PySem.W.nsIn K mainGlobals "_law_right" = some (some (.ref f43))) (l43 : K.lookup f43 = some ⟨oc43, od43, .func (PySem.W.fnOf "_law_right" "_law_right" (defArgs s_law_right) (defBody s_law_right) (defScope s_law_right) .none kV43 dc43 pm43 an43 cd43 ct43), sl43⟩) (e43 : PySem.W.codeIn K cd43 "_law_right" = true) (k43 : PySem.W.keepIn K (.ref f43) = true)
    (b44 : PySem.W.nsIn K mainGlobals "law" = some (some (.ref f44))) (l44 : K.lookup f44 = some ⟨oc44, od44, .func (PySem.W.fnOf "law" "law" (defArgs s_law) (defBody s_law) (defScope s_law) .none kV44 dc44 pm44 an44 cd44 ct44), sl44⟩) (e44 : PySem.W.codeIn K cd44 "law" = true) (k44 : PySem.W.keepIn K (.ref f44) = true)
    : ∃ fd : FuncData, (∀ (s : Shared) (v : Value), BindsTo s fd ⟨[v], []⟩ [("script", v)]) ∧ ∀ base : Heap, K.In base → base.Ns mainGlobals mg → (∃ o, base.get? sysModules = some o) → FnG l.prog w K mg base 9 fa fd ["script"] (spLaw K) := by
  have e := hfa.symm.trans (PySem.W.mg_of X G b44)
  cases e
  have T := bl_ok X G nb
  have C : Cs mg := ⟨m0.imp fun _ z => PySem.W.mg_of X G z, m1.imp fun _ z => PySem.W.mg_of X G z, m2.imp fun _ z => PySem.W.mg_of X G z, m3.imp fun _ z => PySem.W.mg_of X G z⟩
  have kd : ∀ {x z : Str}, (∃ t, PySem.W.nsIn K sd x = some (some (.str z t))) → KDct K w sd x (.str z) := fun ⟨t, h⟩ => ⟨ses, sq, _, sg2, sg3, h, t, rfl⟩
  have C2 : Cs2 K w mg := ⟨m4.imp fun _ z => PySem.W.mg_of X G z, m5.imp fun _ z => PySem.W.mg_of X G z, m6.imp fun _ z => PySem.W.mg_of X G z, mn.imp fun _ z => PySem.W.mg_of X G z, sd, PySem.W.mg_of X G sg1, kd sg4, kd sg5, kd sg6⟩
  have F1 := fun_mk (st := s_is_integer) l1 e1 k1
  have D1 : Def K mg "is_integer" s_is_integer ["thing"] := ⟨_, _, F1, PySem.W.mg_of X G b1, F1.binds fun _ _ _ _ _ _ us hl => match us, hl with | [_], _ => rfl⟩
  have F2 := fun_mk (st := s_is_name) l2 e2 k2
  have D2 : Def K mg "is_name" s_is_name ["thing"] := ⟨_, _, F2, PySem.W.mg_of X G b2, F2.binds fun _ _ _ _ _ _ us hl => match us, hl with | [_], _ => rfl⟩
  have F3 := fun_mk (st := s_is_size) l3 e3 k3
  have D3 : Def K mg "is_size" s_is_size ["thing"] := ⟨_, _, F3, PySem.W.mg_of X G b3, F3.binds fun _ _ _ _ _ _ us hl => match us, hl with | [_], _ => rfl⟩
  have F4 := fun_mk (st := s_is_entry) l4 e4 k4
  have D4 : Def K mg "is_entry" s_is_entry ["thing"] := ⟨_, _, F4, PySem.W.mg_of X G b4, F4.binds fun _ _ _ _ _ _ us hl => match us, hl with | [_], _ => rfl⟩
  have F5 := fun_mk (st := s_is_logs) l5 e5 k5
  have D5 : Def K mg "is_logs" s_is_logs ["thing"] := ⟨_, _, F5, PySem.W.mg_of X G b5, F5.binds fun _ _ _ _ _ _ us hl => match us, hl with | [_], _ => rfl⟩
  have F6 := fun_mk (st := s_is_log) l6 e6 k6
  have D6 : Def K mg "is_log" s_is_log ["thing"] := ⟨_, _, F6, PySem.W.mg_of X G b6, F6.binds fun _ _ _ _ _ _ us hl => match us, hl with | [_], _ => rfl⟩
  have F7 := fun_mk (st := s_items_fit) l7 e7 k7
  have D7 : Def K mg "items_fit" s_items_fit ["logs"] := ⟨_, _, F7, PySem.W.mg_of X G b7, F7.binds fun _ _ _ _ _ _ us hl => match us, hl with | [_], _ => rfl⟩
  have F8 := fun_mk (st := s_removal_fits) l8 e8 k8
  have D8 : Def K mg "removal_fits" s_removal_fits ["places", "place", "entry"] := ⟨_, _, F8, PySem.W.mg_of X G b8, F8.binds fun _ _ _ _ _ _ us hl => match us, hl with | [_, _, _], _ => rfl⟩
  have F9 := fun_mk (st := s_all_entries) l9 e9 k9
  have D9 : Def K mg "all_entries" s_all_entries ["logs"] := ⟨_, _, F9, PySem.W.mg_of X G b9, F9.binds fun _ _ _ _ _ _ us hl => match us, hl with | [_], _ => rfl⟩
  have F10 := fun_mk (st := s_push_places) l10 e10 k10
  have D10 : Def K mg "push_places" s_push_places ["logs"] := ⟨_, _, F10, PySem.W.mg_of X G b10, F10.binds fun _ _ _ _ _ _ us hl => match us, hl with | [_], _ => rfl⟩
  have F11 := fun_mk (st := s_write_logs) l11 e11 k11
  have D11 : Def K mg "write_logs" s_write_logs ["logs"] := ⟨_, _, F11, PySem.W.mg_of X G b11, F11.binds fun _ _ _ _ _ _ us hl => match us, hl with | [_], _ => rfl⟩
  have F12 := fun_mk (st := s_read_logs) l12 e12 k12
  have D12 : Def K mg "read_logs" s_read_logs ["text"] := ⟨_, _, F12, PySem.W.mg_of X G b12, F12.binds fun _ _ _ _ _ _ us hl => match us, hl with | [_], _ => rfl⟩
  have F13 := fun_mk (st := s_write_facts) l13 e13 k13
  have D13 : Def K mg "write_facts" s_write_facts ["facts"] := ⟨_, _, F13, PySem.W.mg_of X G b13, F13.binds fun _ _ _ _ _ _ us hl => match us, hl with | [_], _ => rfl⟩
  have F14 := fun_mk (st := s_read_facts) l14 e14 k14
  have D14 : Def K mg "read_facts" s_read_facts ["text"] := ⟨_, _, F14, PySem.W.mg_of X G b14, F14.binds fun _ _ _ _ _ _ us hl => match us, hl with | [_], _ => rfl⟩
  have F15 := fun_mk (st := s_write_run) l15 e15 k15
  have D15 : Def K mg "write_run" s_write_run ["run"] := ⟨_, _, F15, PySem.W.mg_of X G b15, F15.binds fun _ _ _ _ _ _ us hl => match us, hl with | [_], _ => rfl⟩
  have F16 := fun_mk (st := s_read_run) l16 e16 k16
  have D16 : Def K mg "read_run" s_read_run ["text"] := ⟨_, _, F16, PySem.W.mg_of X G b16, F16.binds fun _ _ _ _ _ _ us hl => match us, hl with | [_], _ => rfl⟩
  have F17 := fun_mk (st := s_write_log) l17 e17 k17
  have D17 : Def K mg "write_log" s_write_log ["worker", "log"] := ⟨_, _, F17, PySem.W.mg_of X G b17, F17.binds fun _ _ _ _ _ _ us hl => match us, hl with | [_, _], _ => rfl⟩
  have F18 := fun_mk (st := s_write_entry) l18 e18 k18
  have D18 : Def K mg "write_entry" s_write_entry ["entry"] := ⟨_, _, F18, PySem.W.mg_of X G b18, F18.binds fun _ _ _ _ _ _ us hl => match us, hl with | [_], _ => rfl⟩
  have F19 := fun_mk (st := s_read_entry) l19 e19 k19
  have D19 : Def K mg "read_entry" s_read_entry ["word"] := ⟨_, _, F19, PySem.W.mg_of X G b19, F19.binds fun _ _ _ _ _ _ us hl => match us, hl with | [_], _ => rfl⟩
  have F20 := fun_mk (st := s_write_words) l20 e20 k20
  have D20 : Def K mg "write_words" s_write_words ["words"] := ⟨_, _, F20, PySem.W.mg_of X G b20, F20.binds fun _ _ _ _ _ _ us hl => match us, hl with | [_], _ => rfl⟩
  have F21 := fun_mk (st := s_read_words) l21 e21 k21
  have D21 : Def K mg "read_words" s_read_words ["text", "read_word", "most"] := ⟨_, _, F21, PySem.W.mg_of X G b21, F21.binds fun _ _ _ _ _ _ us hl => match us, hl with | [_, _, _], _ => rfl⟩
  have F22 := fun_mk (st := s_read_name) l22 e22 k22
  have D22 : Def K mg "read_name" s_read_name ["word"] := ⟨_, _, F22, PySem.W.mg_of X G b22, F22.binds fun _ _ _ _ _ _ us hl => match us, hl with | [_], _ => rfl⟩
  have F23 := fun_mk (st := s_read_fact) l23 e23 k23
  have D23 : Def K mg "read_fact" s_read_fact ["word"] := ⟨_, _, F23, PySem.W.mg_of X G b23, F23.binds fun _ _ _ _ _ _ us hl => match us, hl with | [_], _ => rfl⟩
  have F24 := fun_mk (st := s_write_place) l24 e24 k24
  have D24 : Def K mg "write_place" s_write_place ["place"] := ⟨_, _, F24, PySem.W.mg_of X G b24, F24.binds fun _ _ _ _ _ _ us hl => match us, hl with | [_], _ => rfl⟩
  have F25 := fun_mk (st := s_read_place) l25 e25 k25
  have D25 : Def K mg "read_place" s_read_place ["text"] := ⟨_, _, F25, PySem.W.mg_of X G b25, F25.binds fun _ _ _ _ _ _ us hl => match us, hl with | [_], _ => rfl⟩
  have F26 := fun_mk (st := s_is_number) l26 e26 k26
  have D26 : Def K mg "is_number" s_is_number ["word"] := ⟨_, _, F26, PySem.W.mg_of X G b26, F26.binds fun _ _ _ _ _ _ us hl => match us, hl with | [_], _ => rfl⟩
  have F27 := fun_mk (st := s_law_source) l27 e27 k27
  have D27 : Def K mg "_law_source" s_law_source ["script", "k"] := ⟨_, _, F27, PySem.W.mg_of X G b27, F27.binds fun _ _ _ _ _ _ us hl => match us, hl with | [_, _], _ => rfl⟩
  have F28 := fun_mk (st := s_law_pick) l28 e28 k28
  have D28 : Def K mg "_law_pick" s_law_pick ["source", "count"] := ⟨_, _, F28, PySem.W.mg_of X G b28, F28.binds fun _ _ _ _ _ _ us hl => match us, hl with | [_, _], _ => rfl⟩
  have F29 := fun_mk (st := s_law_shuffled) l29 e29 k29
  have D29 : Def K mg "_law_shuffled" s_law_shuffled ["source", "row"] := ⟨_, _, F29, PySem.W.mg_of X G b29, F29.binds fun _ _ _ _ _ _ us hl => match us, hl with | [_, _], _ => rfl⟩
  have F30 := fun_mk (st := s_law_words) l30 e30 k30
  have D30 : Def K mg "_law_words" s_law_words ["source", "size"] := ⟨_, _, F30, PySem.W.mg_of X G b30, F30.binds fun _ _ _ _ _ _ us hl => match us, hl with | [_, _], _ => rfl⟩
  have F31 := fun_mk (st := s_law_workers) l31 e31 k31
  have D31 : Def K mg "_law_workers" s_law_workers ["source"] := ⟨_, _, F31, PySem.W.mg_of X G b31, F31.binds fun _ _ _ _ _ _ us hl => match us, hl with | [_], _ => rfl⟩
  have F32 := fun_mk (st := s_law_logs) l32 e32 k32
  have D32 : Def K mg "_law_logs" s_law_logs ["source", "top"] := ⟨_, _, F32, PySem.W.mg_of X G b32, F32.binds fun _ _ _ _ _ _ us hl => match us, hl with | [_, _], _ => rfl⟩
  have F33 := fun_mk (st := s_law_facts) l33 e33 k33
  have D33 : Def K mg "_law_facts" s_law_facts ["source"] := ⟨_, _, F33, PySem.W.mg_of X G b33, F33.binds fun _ _ _ _ _ _ us hl => match us, hl with | [_], _ => rfl⟩
  have F34 := fun_mk (st := s_law_run) l34 e34 k34
  have D34 : Def K mg "_law_run" s_law_run ["source"] := ⟨_, _, F34, PySem.W.mg_of X G b34, F34.binds fun _ _ _ _ _ _ us hl => match us, hl with | [_], _ => rfl⟩
  have F35 := fun_mk (st := s_law_value) l35 e35 k35
  have D35 : Def K mg "_law_value" s_law_value ["source", "door", "top"] := ⟨_, _, F35, PySem.W.mg_of X G b35, F35.binds fun _ _ _ _ _ _ us hl => match us, hl with | [_, _, _], _ => rfl⟩
  have F36 := fun_mk (st := s_law_word) l36 e36 k36
  have D36 : Def K mg "_law_word" s_law_word ["entry"] := ⟨_, _, F36, PySem.W.mg_of X G b36, F36.binds fun _ _ _ _ _ _ us hl => match us, hl with | [_], _ => rfl⟩
  have F37 := fun_mk (st := s_law_page) l37 e37 k37
  have D37 : Def K mg "_law_page" s_law_page ["door", "value"] := ⟨_, _, F37, PySem.W.mg_of X G b37, F37.binds fun _ _ _ _ _ _ us hl => match us, hl with | [_, _], _ => rfl⟩
  have F38 := fun_mk (st := s_law_write) l38 e38 k38
  have D38 : Def K mg "_law_write" s_law_write ["door", "value"] := ⟨_, _, F38, PySem.W.mg_of X G b38, F38.binds fun _ _ _ _ _ _ us hl => match us, hl with | [_, _], _ => rfl⟩
  have F39 := fun_mk (st := s_law_read) l39 e39 k39
  have D39 : Def K mg "_law_read" s_law_read ["door", "page"] := ⟨_, _, F39, PySem.W.mg_of X G b39, F39.binds fun _ _ _ _ _ _ us hl => match us, hl with | [_, _], _ => rfl⟩
  have F40 := fun_mk (st := s_law_copy) l40 e40 k40
  have D40 : Def K mg "_law_copy" s_law_copy ["door", "value"] := ⟨_, _, F40, PySem.W.mg_of X G b40, F40.binds fun _ _ _ _ _ _ us hl => match us, hl with | [_, _], _ => rfl⟩
  have F41 := fun_mk (st := s_law_change_logs) l41 e41 k41
  have D41 : Def K mg "_law_change_logs" s_law_change_logs ["source", "rows"] := ⟨_, _, F41, PySem.W.mg_of X G b41, F41.binds fun _ _ _ _ _ _ us hl => match us, hl with | [_, _], _ => rfl⟩
  have F42 := fun_mk (st := s_law_change) l42 e42 k42
  have D42 : Def K mg "_law_change" s_law_change ["source", "door", "value"] := ⟨_, _, F42, PySem.W.mg_of X G b42, F42.binds fun _ _ _ _ _ _ us hl => match us, hl with | [_, _, _], _ => rfl⟩
  have F43 := fun_mk (st := s_law_right) l43 e43 k43
  have D43 : Def K mg "_law_right" s_law_right ["source", "door"] := ⟨_, _, F43, PySem.W.mg_of X G b43, F43.binds fun _ _ _ _ _ _ us hl => match us, hl with | [_, _], _ => rfl⟩
  have F44 := fun_mk (st := s_law) l44 e44 k44
  refine ⟨PySem.W.fnOf "law" "law" (defArgs s_law) (defBody s_law) (defScope s_law) .none kV44 dc44 pm44 an44 cd44 ct44, fun s v => .of_eq rfl, fun base _ _ sm => ?_⟩
  have pick := ok_law_pick (P := l.prog) (w := w) (base := base) D28
  have source := ok_law_source (P := l.prog) (w := w) (base := base) D27 T
  have shuf := ok_law_shuffled D29 T pick
  have words := ok_law_words D30 T pick
  have workers := ok_law_workers D31 T pick shuf
  have logs := ok_law_logs D32 T pick words workers
  have isi := ok_is_integer (P := l.prog) (w := w) (base := base) D1 T
  have isn := ok_is_name (P := l.prog) (w := w) (base := base) D2 T C
  have iss := ok_is_size D3 T C isi
  have ise := ok_is_entry D4 T C isn iss
  have isl := ok_is_log D6 T C ise
  have alle := ok_all_entries (P := l.prog) (w := w) (base := base) D9 T
  have pp := ok_push_places D10 T alle
  have rf := ok_removal_fits (P := l.prog) (w := w) (base := base) D8 T
  have itf := ok_items_fit D7 T alle pp rf
  have islg := ok_is_logs D5 T C isn isl itf
  have wpl := ok_write_place (P := l.prog) (w := w) (base := base) D24 T
  have wen := ok_write_entry (P := l.prog) (w := w) (base := base) D18 T C2
  have num := ok_is_number (P := l.prog) (w := w) (base := base) D26 T C2
  have rpl := ok_read_place D25 T isn num
  have rnm := ok_read_name D22 T isn
  have ren := ok_read_entry D19 T isn num
  have rfc := ok_read_fact D23 T rpl
  have wwd := ok_write_words (P := l.prog) (w := w) (base := base) D20 T C2
  have wfc := ok_write_facts D13 T wwd wpl
  have wrn := ok_write_run D15 T wwd
  have wlg := ok_write_log D17 T wen
  have wls := ok_write_logs D11 T wlg
  obtain ⟨g1, gd1, GF1, gm1, gk1, gb1⟩ := rfc.ex
  obtain ⟨g2, gd2, GF2, gm2, gk2, gb2⟩ := rnm.ex
  have rw1 := ok_read_words D21 T C2 (GF1.mono (by decide)) gk1 gb1
  have rw2 := ok_read_words D21 T C2 (GF2.mono (by decide)) gk2 gb2
  have rfs := ok_read_facts D14 T C2 gm1 rw1
  have rrn := ok_read_run D16 T C2 gm2 rw2
  have rls := ok_read_logs D12 T isn (ren.mono (by decide)) islg
  have lfc := ok_law_facts D33 T pick
  have lrn := ok_law_run D34 T pick
  have val := ok_law_value2 D35 T logs lfc lrn
  have wrd := ok_law_word (P := l.prog) (w := w) (base := base) D36 T
  have pag := ok_law_page D37 T wrd
  have lwr := ok_law_write D38 T wls wfc wrn
  have lrd := ok_law_read D39 T rls rfs rrn
  have cpy := ok_law_copy (P := l.prog) (w := w) (base := base) D40 T
  have chl := ok_law_change_logs D41 T pick
  have chg := ok_law_change D42 T pick chl
  have rgt := ok_law_right D43 T val pag cpy lwr lrd chg
  exact ok_law F44 T source rgt
end Vx

open PySem PySem.W PyProof.Rows
set_option Elab.async false
set_option maxRecDepth 100000 in
set_option maxHeartbeats 0 in
theorem PySem.Challenge.cw_dequelogs_k83_values_changed_in_place_holds : PySem.Challenge.rw_dequelogs_k83_values_changed_in_place.Holds := by
  w_on; o_law; k_head; (case hw => w_witness2)
  k_fill
  refine Vx.walkG (l := PySem.Challenge.rw_dequelogs_k83_values_changed_in_place) (n := 63) (k := 9) (x := "script") (sp := Vx.spLaw) (by decide +kernel) rfl (by decide) rfl ⟨rfl, by decide, by decide⟩ (fun w h Y => PySem.W.kIn_of Y) ?F (fun _ _ a ns hl hS => ⟨a, ns, rfl, hS, hl, fun _ => rfl⟩)
  case F =>
    intro w mg fa h KX G hmg
    refine' Vx.all_mk KX G hmg ?nb ?m0 ?m1 ?m2 ?m3 ?m4 ?m5 ?m6 ?mn ?sg1 ?sg2 ?sg3 ?sg4 ?sg5 ?sg6 ?b1 ?l1 ?e1 ?k1 ?b2 ?l2 ?e2 ?k2 ?b3 ?l3 ?e3 ?k3 ?b4 ?l4 ?e4 ?k4 ?b5 ?l5 ?e5 ?k5 ?b6 ?l6 ?e6 ?k6 ?b7 ?l7 ?e7 ?k7 ?b8 ?l8 ?e8 ?k8 ?b9 ?l9 ?e9 ?k9 ?b10 ?l10 ?e10 ?k10 ?b11 ?l11 ?e11 ?k11 ?b12 ?l12 ?e12 ?k12 ?b13 ?l13 ?e13 ?k13 ?b14 ?l14 ?e14 ?k14 ?b15 ?l15 ?e15 ?k15 ?b16 ?l16 ?e16 ?k16 ?b17 ?l17 ?e17 ?k17 ?b18 ?l18 ?e18 ?k18 ?b19 ?l19 ?e19 ?k19 ?b20 ?l20 ?e20 ?k20 ?b21 ?l21 ?e21 ?k21 ?b22 ?l22 ?e22 ?k22 ?b23 ?l23 ?e23 ?k23 ?b24 ?l24 ?e24 ?k24 ?b25 ?l25 ?e25 ?k25 ?b26 ?l26 ?e26 ?k26 ?b27 ?l27 ?e27 ?k27 ?b28 ?l28 ?e28 ?k28 ?b29 ?l29 ?e29 ?k29 ?b30 ?l30 ?e30 ?k30 ?b31 ?l31 ?e31 ?k31 ?b32 ?l32 ?e32 ?k32 ?b33 ?l33 ?e33 ?k33 ?b34 ?l34 ?e34 ?k34 ?b35 ?l35 ?e35 ?k35 ?b36 ?l36 ?e36 ?k36 ?b37 ?l37 ?e37 ?k37 ?b38 ?l38 ?e38 ?k38 ?b39 ?l39 ?e39 ?k39 ?b40 ?l40 ?e40 ?k40 ?b41 ?l41 ?e41 ?k41 ?b42 ?l42 ?e42 ?k42 ?b43 ?l43 ?e43 ?k43 ?b44 ?l44 ?e44 ?k44
    (case nb => kernel_rfl)
    (case m0 => exact ⟨_, by k_is⟩)
    (case m1 => exact ⟨_, by k_is⟩)
    (case m2 => exact ⟨_, by k_is⟩)
    (case m3 => exact ⟨_, by k_is⟩)
    (case m4 => exact ⟨_, by k_is⟩)
    (case m5 => exact ⟨_, by k_is⟩)
    (case m6 => exact ⟨_, by k_is⟩)
    (case mn => exact ⟨_, by k_is⟩)
    (case sg1 => k_is)
    (case sg2 => k_is)
    (case sg3 => exact ⟨⟨_, _, rfl, rfl⟩, ⟨_, _, rfl, rfl⟩, ⟨_, _, rfl, rfl⟩, trivial⟩)
    (case sg4 => exact ⟨_, by k_is⟩)
    (case sg5 => exact ⟨_, by k_is⟩)
    (case sg6 => exact ⟨_, by k_is⟩)
    (case b1 => k_is)
    (case l1 => k_is)
    (case e1 => k_is)
    (case k1 => k_is)
    (case b2 => k_is)
    (case l2 => k_is)
    (case e2 => k_is)
    (case k2 => k_is)
    (case b3 => k_is)
    (case l3 => k_is)
    (case e3 => k_is)
    (case k3 => k_is)
    (case b4 => k_is)
    (case l4 => k_is)
    (case e4 => k_is)
    (case k4 => k_is)
    (case b5 => k_is)
    (case l5 => k_is)
    (case e5 => k_is)
    (case k5 => k_is)
    (case b6 => k_is)
    (case l6 => k_is)
    (case e6 => k_is)
    (case k6 => k_is)
    (case b7 => k_is)
    (case l7 => k_is)
    (case e7 => k_is)
    (case k7 => k_is)
    (case b8 => k_is)
    (case l8 => k_is)
    (case e8 => k_is)
    (case k8 => k_is)
    (case b9 => k_is)
    (case l9 => k_is)
    (case e9 => k_is)
    (case k9 => k_is)
    (case b10 => k_is)
    (case l10 => k_is)
    (case e10 => k_is)
    (case k10 => k_is)
    (case b11 => k_is)
    (case l11 => k_is)
    (case e11 => k_is)
    (case k11 => k_is)
    (case b12 => k_is)
    (case l12 => k_is)
    (case e12 => k_is)
    (case k12 => k_is)
    (case b13 => k_is)
    (case l13 => k_is)
    (case e13 => k_is)
    (case k13 => k_is)
    (case b14 => k_is)
    (case l14 => k_is)
    (case e14 => k_is)
    (case k14 => k_is)
    (case b15 => k_is)
    (case l15 => k_is)
    (case e15 => k_is)
    (case k15 => k_is)
    (case b16 => k_is)
    (case l16 => k_is)
    (case e16 => k_is)
    (case k16 => k_is)
    (case b17 => k_is)
    (case l17 => k_is)
    (case e17 => k_is)
    (case k17 => k_is)
    (case b18 => k_is)
    (case l18 => k_is)
    (case e18 => k_is)
    (case k18 => k_is)
    (case b19 => k_is)
    (case l19 => k_is)
    (case e19 => k_is)
    (case k19 => k_is)
    (case b20 => k_is)
    (case l20 => k_is)
    (case e20 => k_is)
    (case k20 => k_is)
    (case b21 => k_is)
    (case l21 => k_is)
    (case e21 => k_is)
    (case k21 => k_is)
    (case b22 => k_is)
    (case l22 => k_is)
    (case e22 => k_is)
    (case k22 => k_is)
    (case b23 => k_is)
    (case l23 => k_is)
    (case e23 => k_is)
    (case k23 => k_is)
    (case b24 => k_is)
    (case l24 => k_is)
    (case e24 => k_is)
    (case k24 => k_is)
    (case b25 => k_is)
    (case l25 => k_is)
    (case e25 => k_is)
    (case k25 => k_is)
    (case b26 => k_is)
    (case l26 => k_is)
    (case e26 => k_is)
    (case k26 => k_is)
    (case b27 => k_is)
    (case l27 => k_is)
    (case e27 => k_is)
    (case k27 => k_is)
    (case b28 => k_is)
    (case l28 => k_is)
    (case e28 => k_is)
    (case k28 => k_is)
    (case b29 => k_is)
    (case l29 => k_is)
    (case e29 => k_is)
    (case k29 => k_is)
    (case b30 => k_is)
    (case l30 => k_is)
    (case e30 => k_is)
    (case k30 => k_is)
    (case b31 => k_is)
    (case l31 => k_is)
    (case e31 => k_is)
    (case k31 => k_is)
    (case b32 => k_is)
    (case l32 => k_is)
    (case e32 => k_is)
    (case k32 => k_is)
    (case b33 => k_is)
    (case l33 => k_is)
    (case e33 => k_is)
    (case k33 => k_is)
    (case b34 => k_is)
    (case l34 => k_is)
    (case e34 => k_is)
    (case k34 => k_is)
    (case b35 => k_is)
    (case l35 => k_is)
    (case e35 => k_is)
    (case k35 => k_is)
    (case b36 => k_is)
    (case l36 => k_is)
    (case e36 => k_is)
    (case k36 => k_is)
    (case b37 => k_is)
    (case l37 => k_is)
    (case e37 => k_is)
    (case k37 => k_is)
    (case b38 => k_is)
    (case l38 => k_is)
    (case e38 => k_is)
    (case k38 => k_is)
    (case b39 => k_is)
    (case l39 => k_is)
    (case e39 => k_is)
    (case k39 => k_is)
    (case b40 => k_is)
    (case l40 => k_is)
    (case e40 => k_is)
    (case k40 => k_is)
    (case b41 => k_is)
    (case l41 => k_is)
    (case e41 => k_is)
    (case k41 => k_is)
    (case b42 => k_is)
    (case l42 => k_is)
    (case e42 => k_is)
    (case k42 => k_is)
    (case b43 => k_is)
    (case l43 => k_is)
    (case e43 => k_is)
    (case k43 => k_is)
    (case b44 => k_is)
    (case l44 => k_is)
    (case e44 => k_is)
    (case k44 => k_is)
