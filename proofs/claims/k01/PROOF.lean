import PyProof.Rows.All
import Wide.All
import OpenK.AllK
import Wide.FinOn
import HandS.ForMost
import HandS.ForExc
import HandS.Wide
import HandS.Evl
import HandS.Zip
import HandS.IsInst
import HandS.Iter
import PySem.Challenge.RW_dequelogs_k01_logs_recognized
import HandS.DictComp
import HandS.Dict
import HandS.More
import HandS.Strs
import HandS.Style
import HandS.Text
import PyProof.ReprRoads
import PyProof.ReprLen
import PyProof.P3Eq
import PyProof.Rows.SortShellAny
import HandS.Conv
import HandS.ListItems
set_option Elab.async false
set_option linter.all false
set_option maxRecDepth 100000
set_option maxHeartbeats 4000000
namespace Vx
open PySem PySem.Spec PyProof.Rows L2
/-- a def of the text that keeps its promise, where the module's name holds it -/
structure Good (P : Program) (w : World) (K : PySem.W.Frag) (mg : Str → Option Value) (base : Heap) (k : Nat) (x : Str) (ps : List Str) (sp : Sp) : Prop where
  ex : ∃ f fd, FnOk P w K mg base CX0 k f fd ps sp ∧ mg x = some (.ref f) ∧ PySem.W.keepIn K (.ref f) = true ∧ Binds K fd ps []
/-- a def as it stands behind the top -/
structure Def (K : PySem.W.Frag) (mg : Str → Option Value) (x : Str) (st : Stmt) (ps : List Str) : Prop where
  ex : ∃ f fd, Fun K x x st f fd ∧ mg x = some (.ref f) ∧ Binds K fd ps []
section
variable {P : Program} {w : World} {K : PySem.W.Frag} {mg : Str → Option Value} {base : Heap}
theorem Good.mono {j k : Nat} {x : Str} {ps : List Str} {sp : Sp} (g : Good P w K mg base j x ps sp) (h : j ≤ k) : Good P w K mg base k x ps sp := by
  obtain ⟨f, fd, F, m, kp, b⟩ := g.ex
  exact ⟨f, fd, F.mono h, m, kp, b⟩
theorem Good.imp {k : Nat} {x : Str} {ps : List Str} {sp sp' : Sp} (g : Good P w K mg base k x ps sp) (h : ∀ vs H Q E, sp' vs H Q E → sp vs H Q E) : Good P w K mg base k x ps sp' := by
  obtain ⟨f, fd, F, m, kp, b⟩ := g.ex
  exact ⟨f, fd, F.imp h, m, kp, b⟩
/-- THE RULE of a def that lets nothing out -/
theorem Def.good {x : Str} {st : Stmt} {N ps : List Str} {k : Nat} {sp : Sp} (D : Def K mg x st ps) (S : FnScope N ps (defScope st)) (len : ∀ vs H Q E, sp vs H Q E → vs.length = ps.length)
    (body : ∀ (f : Addr) (cdv : Value) (A : Around) (outer : List Env) (s : Shared) (H : Hp) (vs : List V) (Q : VK) (E : XK), Room k (A.deeper (envOfC x (defScope st) s.heap.objs.size f cdv)) → sp vs H Q E →
      ∃ t, PSs (cxOf CX0 P w K mg base N x (defScope st) f cdv A outer s H E).nox (defBody st) t ∧ t { nx := fun _ H' => Q .non H', rt := Q } (start N vs) H) : Good P w K mg base (k + 1) x ps sp := by
  obtain ⟨f, fd, F, m, b⟩ := D.ex
  exact ⟨f, fd, F.ok S len (fun cdv A outer s H vs Q E hr h => body f cdv A outer s H vs Q E hr h), m, F.kp, b⟩
end
section
variable {X : Cx} {k : Nat} {x : Str} {ps : List Str} {sp : Sp} {p pos : Pos} {e : Expr} {es : List Expr} {t : TA}
theorem pe_fn (g : Good X.prog X.w X.K X.mg X.base k x ps sp) (hr : Room k X.A) (ha : PA X (e :: es) t) (hg : Gl X x := by rfl)
    (hd : (x == ("__debug__" : Str)) = false := by decide) (he : starEach (e :: es) X.env = (false, eval e X.env) :: starEach es X.env := by rfl)
    (hp : (backTo pos (starEach es X.env)).any (·.1) = false := by rfl) : PE X (.Call (.Name x p) (e :: es) [] pos) (tCall sp [] E0 t) := by
  obtain ⟨f, fd, F, m, kp, b⟩ := g.ex
  exact pe_call F hr hg m kp b .nil pass0 ha (hdb := hd) (he := he) (hpl := hp)
end
/-! powers of great ints -/
def CPw (i j : Int) : Prop := 0 ≤ j ∧ j ≤ 100 ∧ i.natAbs < 2 ^ 200
theorem op_pw {X : Cx} : OpR X (binaryOp .Pow) (rI CPw fun i j => .int (i ^ j.toNat)) := opI fun i j _ _ _ _ _ hc q => by
  refine PyProof.Rows.pow_int hc.1 ?_ q
  have h1 : Builtin.Int.intBits i ≤ 201 := by
    have b : Builtin.Int.intBits i ≤ i.natAbs.log2 + 1 := by
      unfold Builtin.Int.intBits
      split <;> omega
    have := PySem.Flt.log2_lt_of (by decide : 0 < 200) hc.2.2
    omega
  have h2 := hc.1
  have h3 := hc.2.1
  have h4 : (Builtin.Int.intBits i : Int) * j ≤ 201 * 100 := by
    refine Int.le_trans (Int.mul_le_mul_of_nonneg_right (Int.ofNat_le.mpr h1) h2) ?_
    omega
  have h5 : (201 : Int) * 100 ≤ 2 ^ 27 := by decide
  omega
end Vx

set_option Elab.async false
set_option linter.all false
set_option maxRecDepth 100000
set_option maxHeartbeats 4000000
namespace Vx
open PySem PySem.Spec PyProof.Rows L2 Evl
/-! [e for a, b in zip(xs, ys)] -/
def rmap (n : Nat) (v : Nat → V) : List V := (List.range n).map v
theorem rmap_succ (n : Nat) (v : Nat → V) : rmap (n + 1) v = rmap n v ++ [v n] := by
  unfold rmap
  rw [List.range_succ, List.map_append]
  rfl
theorem rmap_len (n : Nat) (v : Nat → V) : (rmap n v).length = n := by
  unfold rmap
  rw [List.length_map, List.length_range]
/-- what the comprehension holds behind i turns -/
def Lw (H : Hp) (v : Nat → V) (Dl : Addr) (i : Nat) (H' : Hp) : Prop := H Dl = none ∧ Ex H H' ∧ H' Dl = some (.lst (rmap i v))
theorem lc_pairs {J : It} {g : TG} {te : TE} {vs : List Nat} {σ : L2.St} {H1 : Hp} {Dl : Addr} {Qd : Hp → Prop} {n : Nat} (v : Nat → V) (hn : n < 50000) (hD : H1 Dl = none)
    (hgo : ∀ i H, i < n → Ex H1 H → J.go i H) (hst : ∀ H, Ex H1 H → J.stop n H)
    (hy : ∀ i H x H', i < n → Ex H1 H → H Dl ≠ none → J.yld i H x H' → ∃ σ2, Ex H H' ∧ wipe σ2 vs = wipe σ vs ∧ (∀ Q : L2.St → Hp → Prop, (∀ H2, Ex H' H2 → Q σ2 H2) → g x (wipe σ vs) H' Q) ∧ Ev te σ2 H' (v i))
    (hd : ∀ H, Ex H1 H → H Dl = some (.lst (rmap n v)) → Qd H) :
    ∃ W : Nat → Nat → Hp → Prop, (∃ m, W 0 m (upd H1 Dl (.lst []))) ∧ ∀ i m H, W i m H →
      (J.stop i H ∧ Qd H) ∨ (J.go i H ∧ ∃ Nx : Hp → Prop, (∀ H', Nx H' → ∃ m', m' < m ∧ W (i + 1) m' H') ∧ ∀ x H', J.yld i H x H' → g x (wipe σ vs) H' fun σ2 H2 => wipe σ2 vs = wipe σ vs ∧ tYes σ2 H2 fun b H3 =>
        if b = true then te σ2 H3 fun y H4 => ∃ acc, H4 Dl = some (.lst acc) ∧ acc.length < sizeLine ∧ Nx (upd H4 Dl (.lst (acc ++ [y]))) else Nx H3) := by
  refine ⟨fun i m H => m = n - i ∧ i ≤ n ∧ Lw H1 v Dl i H, ⟨n, by simp, Nat.zero_le _, hD, Ex.new hD, upd_same⟩, ?_⟩
  rintro i m H ⟨rfl, hi, p1, p2, p3⟩
  by_cases hlt : i < n
  · refine .inr ⟨hgo i H hlt p2, Lw H1 v Dl (i + 1), fun H' p' => ⟨n - (i + 1), by omega, rfl, hlt, p'⟩, fun x H' y => ?_⟩
    obtain ⟨σ2, e1, hw, hg, he⟩ := hy i H x H' hlt p2 (by rw [p3]; exact fun z => nomatch z) y
    refine hg _ fun H2 e2 => ⟨hw, ?_⟩
    show te σ2 H2 fun y H4 => ∃ acc, H4 Dl = some (.lst acc) ∧ acc.length < sizeLine ∧ Lw H1 v Dl (i + 1) (upd H4 Dl (.lst (acc ++ [y])))
    refine he H2 e2 _ fun H4 e4 => ⟨rmap i v, e4 _ _ (e2 _ _ (e1 _ _ p3)), sz_lt (by rw [rmap_len]; omega), p1, Ex.mut ((p2.trans e1).trans (e2.trans e4)) p1, ?_⟩
    rw [rmap_succ]
    exact upd_same
  · have e : i = n := by omega
    subst e
    exact .inl ⟨hst H p2, hd H p2 p3⟩
theorem el_lcZ {K : PySem.W.Frag} {a b : Addr} {xs ys : List V} {ta : TA} {te : TE} {j1 j2 : Nat} {vs : List Nat} {σ : L2.St} {H : Hp} (v : Nat → V) (h : EvA ta σ H [.ref a, .ref b])
    (hx : (SqL K H a xs ∧ SqL K H b ys) ∨ (SqT K H a xs ∧ SqT K H b ys)) (hl : xs.length = ys.length) (hz : xs.length < 40000)
    (hw : ∀ x y, wipe (((wipe σ vs).set j1 (some x)).set j2 (some y)) vs = wipe σ vs)
    (he : ∀ i x y H1, Ex H H1 → xs[i]? = some x → ys[i]? = some y → Ev te (((wipe σ vs).set j1 (some x)).set j2 (some y)) H1 (v i)) :
    EvL (tLc (RZ.iZipA K ta) (gTup K 2 (gCons (gName j1) (gCons (gName j2) gNil))) tYes te vs) σ H (rmap xs.length v) := fun H0 e Q q => h H0 e _ fun H1 e1 => by
  have E1 := e.trans e1
  have get : ∀ i, i < xs.length → ∃ x y, xs[i]? = some x ∧ ys[i]? = some y := fun i hi =>
    ⟨_, _, List.getElem?_eq_getElem hi, List.getElem?_eq_getElem (by omega)⟩
  have tg : ∀ (T : Addr) (x y : V) (H' : Hp), H' T = some (.tup [x, y]) → ∀ Q : L2.St → Hp → Prop, (∀ H2, Ex H' H2 → Q (((wipe σ vs).set j1 (some x)).set j2 (some y)) H2) →
      gTup K 2 (gCons (gName j1) (gCons (gName j2) gNil)) (.ref T) (wipe σ vs) H' Q := fun T x y H' ht Q q =>
    ⟨T, [x, y], rfl, SqT.of ht, rfl, x, [y], rfl, y, [], rfl, rfl, q H' (Ex.refl H')⟩
  rcases hx with ⟨hx, hy⟩ | ⟨hx, hy⟩
  · refine ⟨a, b, xs, ys, rfl, Or.inl ⟨ex_l E1 hx, ex_l E1 hy, fun Dl hD => lc_pairs v (by omega) hD (fun i H2 hi e2 => ?_) (fun H2 e2 => ⟨xs, ys, ex_l (E1.trans e2) hx, ex_l (E1.trans e2) hy, Or.inl (Nat.le_refl _)⟩) (fun i H2 z H' hi e2 hDl hyl => ?_) (fun H2 e2 h2 => q Dl H2 (fresh_back e1 hD) (e1.trans e2) h2)⟩⟩
    · obtain ⟨x, y, g1, g2⟩ := get i hi
      exact ⟨xs, ys, x, y, ex_l (E1.trans e2) hx, ex_l (E1.trans e2) hy, g1, g2⟩
    · obtain ⟨T, x, y, rfl, hT, rfl, f1, f2⟩ := hyl
      have eT : Ex H2 (upd H2 T (.tup [x, y])) := Ex.new hT
      exact ⟨_, eT, hw x y, tg T x y _ upd_same, he i x y _ ((E1.trans e2).trans eT) (f1 xs (ex_l (E1.trans e2) hx)) (f2 ys (ex_l (E1.trans e2) hy))⟩
  · refine ⟨a, b, xs, ys, rfl, Or.inr ⟨ex_t E1 hx, ex_t E1 hy, fun Dl hD => lc_pairs v (by omega) hD (fun i H2 hi e2 => ?_) (fun H2 e2 => ⟨xs, ys, ex_t (E1.trans e2) hx, ex_t (E1.trans e2) hy, Or.inl (Nat.le_refl _)⟩) (fun i H2 z H' hi e2 hDl hyl => ?_) (fun H2 e2 h2 => q Dl H2 (fresh_back e1 hD) (e1.trans e2) h2)⟩⟩
    · obtain ⟨x, y, g1, g2⟩ := get i hi
      exact ⟨xs, ys, x, y, ex_t (E1.trans e2) hx, ex_t (E1.trans e2) hy, g1, g2⟩
    · obtain ⟨T, x, y, rfl, hT, rfl, f1, f2⟩ := hyl
      have eT : Ex H2 (upd H2 T (.tup [x, y])) := Ex.new hT
      exact ⟨_, eT, hw x y, tg T x y _ upd_same, he i x y _ ((E1.trans e2).trans eT) (f1 xs (ex_t (E1.trans e2) hx)) (f2 ys (ex_t (E1.trans e2) hy))⟩
end Vx

set_option Elab.async false
set_option linter.all false
set_option maxRecDepth 100000
set_option maxHeartbeats 4000000
namespace Vx
open PySem PySem.Spec PyProof.Rows L2 Evl
/-! types of values, isinstance -/
def TyN (K : PySem.W.Frag) (H : Hp) (x : V) (n : String) : Prop := ∀ H1, Ex H H1 → TyX K H1 x (.type n)
section
variable {K : PySem.W.Frag} {σ : L2.St} {H : Hp} {x : V} {i : Nat} {n : String}
theorem TyN.ex {H' : Hp} (h : TyN K H x n) (e : Ex H H') : TyN K H' x n := fun H1 e1 => h H1 (e.trans e1)
theorem ty_non : TyN K H .non "NoneType" := fun _ _ => .base .non
theorem ty_bl {b : Bool} : TyN K H (.bl b) "bool" := fun _ _ => .base (.bl b)
theorem ty_int {j : Int} : TyN K H (.int j) "int" := fun _ _ => .base (.int j)
theorem ty_str {z : Str} : TyN K H (.str z) "str" := fun _ _ => .base (.str z)
theorem ty_lst {p : Addr} {xs : List V} (h : Rd H p (.lst xs)) : TyN K H (.ref p) "list" := fun _ e => by
  rcases ex_rd e h with h | ⟨o, h⟩
  · exact .base (.lst h)
  · exact .base (.frz h)
theorem ty_tup {p : Addr} {xs : List V} (h : Rd H p (.tup xs)) : TyN K H (.ref p) "tuple" := fun _ e => by
  rcases ex_rd e h with h | ⟨o, h⟩
  · exact .base (.tup h)
  · exact .fTuple h
theorem ty_dict {p : Addr} {kvs : List (Key × V)} (h : Rd H p (.dK kvs)) : TyN K H (.ref p) "dict" := fun _ e => by
  rcases ex_rd e h with h | ⟨o, h⟩
  · exact .base (.dK h)
  · exact .fDict h
theorem ev_isI {b : Bool} {m : String} (hi : σ[i]? = some (some x)) (t : TyN K H x n) (h : kitB n m = some b) : Ev (tCB (rIsi K) (tCons (tVar i) (tCons (tC (.ty m)) tNil))) σ H (.bl b) :=
  ev_cb (ea_cons (ev_var hi) (ea_cons ev_c ea_nil)) fun H1 e1 Q q => ⟨x, .ty m, _, _, b, rfl, .ty m, t H1 e1, kit_ty h, q H1 (Ex.refl H1)⟩
theorem ev_isI2 {b1 b2 : Bool} {m1 m2 : String} (hi : σ[i]? = some (some x)) (t : TyN K H x n) (h1 : kitB n m1 = some b1) (h2 : kitB n m2 = some b2) :
    Ev (tCB (rIsiT K) (tCons (tVar i) (tCons (tTup (tCons (tC (.ty m1)) (tCons (tC (.ty m2)) tNil))) tNil))) σ H (.bl (b1 || b2)) := fun H1 e1 Q q =>
  ⟨x, hi, (by show 2 ≤ sizeLine; decide), fun p hp => ⟨x, p, [.ty m1, .ty m2], _, [.type m1, .type m2], b1 || b2, rfl, upd_same, .cons (.ty m1) (.cons (.ty m2) .nil), t _ (e1.trans (Ex.new hp)),
    kitAny_cons (kit_ty h1) (fun hb => kitAny_cons (kit_ty h2) (fun hc => by rw [hb, hc]; exact kitAny_nil) (fun hc => by rw [hb, hc]; rfl)) (fun hb => by rw [hb]; rfl), q _ (Ex.new hp)⟩⟩
/-- all(xs), xs a new list of bools -/
theorem ev_allN {ta : TE} {bs : List Bool} (ha : EvL ta σ H (bs.map V.bl)) : Ev (tCB (rAll K) (tCons ta tNil)) σ H (.bl (bs.all id)) := fun H1 e Q q =>
  ha H1 e _ fun p H2 _ e2 h2 => ⟨p, bs, rfl, sq_of h2, q H2 e2⟩
theorem rmap_true (n : Nat) : rmap n (fun _ => V.bl true) = (List.replicate n true).map V.bl := by
  unfold rmap
  rw [List.map_replicate, List.map_const', List.length_range]
theorem all_rep (n : Nat) : (List.replicate n true).all id = true := by
  rw [List.all_eq_true]
  intro b hb
  exact (List.mem_replicate.mp hb).2
theorem ev_lenA {ta : TE} {p : Addr} {xs : List V} (ha : Ev ta σ H (.ref p)) (h : SqL K H p xs ∨ SqT K H p xs) : Ev (tCB (rLenS K) (tCons ta tNil)) σ H (.int (xs.length : Int)) := fun H1 e Q q =>
  ha H1 e _ fun H2 e2 => ⟨p, xs, rfl, h.imp (ex_l (e.trans e2)) (ex_t (e.trans e2)), q H2 e2⟩
theorem rv_isN : RV (fun x y H Q => y = .non ∧ Q (.bl (decide (x = .non))) H) x .non H (.bl (decide (x = .non))) := fun H1 _ _ q => ⟨rfl, q H1 (Ex.refl H1)⟩
end
/-! two data that are equal at every depth -/
def atom : V → Bool
  | .non => true
  | .bl _ => true
  | .int _ => true
  | .str _ => true
  | _ => false
def EqS (H : Hp) : Nat → V → V → Prop
  | 0, x, y => x = y ∧ atom x = true
  | n + 1, x, y => (x = y ∧ atom x = true) ∨ ∃ p q xs ys, x = .ref p ∧ y = .ref q ∧ ((Rd H p (.lst xs) ∧ Rd H q (.lst ys)) ∨ (Rd H p (.tup xs) ∧ Rd H q (.tup ys))) ∧ xs.length = ys.length ∧ xs.length < 40000 ∧
      ∀ (i : Nat) (x' y' : V), xs[i]? = some x' → ys[i]? = some y' → EqS H n x' y'
theorem EqS.ex {H H' : Hp} (e : Ex H H') : ∀ {n : Nat} {x y : V}, EqS H n x y → EqS H' n x y
  | 0, _, _, h => h
  | n + 1, x, y, h => by
    rcases h with h | ⟨p, q, xs, ys, h1, h2, h3, h4, h5, h6⟩
    · exact Or.inl h
    · exact Or.inr ⟨p, q, xs, ys, h1, h2, h3.imp (fun z => ⟨ex_rd e z.1, ex_rd e z.2⟩) (fun z => ⟨ex_rd e z.1, ex_rd e z.2⟩), h4, h5, fun i x' y' a b => EqS.ex e (h6 i x' y' a b)⟩
theorem EqS.up {H : Hp} : ∀ {n : Nat} {x y : V}, EqS H n x y → EqS H (n + 1) x y
  | 0, _, _, h => Or.inl h
  | n + 1, x, y, h => by
    rcases h with h | ⟨p, q, xs, ys, h1, h2, h3, h4, h5, h6⟩
    · exact Or.inl h
    · exact Or.inr ⟨p, q, xs, ys, h1, h2, h3, h4, h5, fun i x' y' a b => EqS.up (h6 i x' y' a b)⟩
def spSame (n : Nat) : Sp := fun vs H Q _ => ∃ x y, vs = [x, y] ∧ EqS H n x y ∧ ∀ H', Ex H H' → Q (.bl true) H'
end Vx

set_option Elab.async false
set_option linter.all false
set_option maxRecDepth 100000
set_option maxHeartbeats 4000000
namespace Vx
open PySem PySem.Spec PyProof.Rows L2 Evl
/-! values that are known by what is true of them: of objects of the heap H, and of new ones -/
def Kn (H H1 H2 : Hp) (φ : Hp → Prop) : Prop := ∀ H', Ex H H' → (∀ b o, H1 b = none → H2 b = some o → H' b = some o) → φ H'
theorem Kn.now {H H1 H2 : Hp} {φ : Hp → Prop} (k : Kn H H1 H2 φ) (e : Ex H H1) (e2 : Ex H1 H2) : φ H2 := k H2 (e.trans e2) fun _ _ _ h => h
theorem Kn.ex {H H1 H2 H3 : Hp} {φ : Hp → Prop} (k : Kn H H1 H2 φ) (e : Ex H2 H3) : Kn H H1 H3 φ := fun H' a b => k H' a fun c o n h => b c o n (e _ _ h)
theorem Kn.pre {H H0 H1 H2 : Hp} {φ : Hp → Prop} (k : Kn H H1 H2 φ) (e : Ex H0 H1) : Kn H H0 H2 φ := fun H' a b => k H' a fun c o n h => b c o (fresh_back e n) h
theorem Kn.base {H H0 H1 H2 : Hp} {φ : Hp → Prop} (k : Kn H0 H1 H2 φ) (e : Ex H0 H) : Kn H H1 H2 φ := fun H' a b => k H' (e.trans a) b
theorem Kn.imp {H H1 H2 : Hp} {φ ψ : Hp → Prop} (k : Kn H H1 H2 φ) (h : ∀ H', Ex H H' → φ H' → ψ H') : Kn H H1 H2 ψ := fun H' a b => h H' a (k H' a b)
theorem Kn.of {H H1 H2 : Hp} {φ : Hp → Prop} (h : ∀ H', Ex H H' → φ H') : Kn H H1 H2 φ := fun H' a _ => h H' a
/-- .. apart from what stands at p -/
def KnX (p : Addr) (H H1 H2 : Hp) (φ : Hp → Prop) : Prop := ∀ H', Ex H H' → (∀ b o, b ≠ p → H1 b = none → H2 b = some o → H' b = some o) → φ H'
theorem KnX.kn {p : Addr} {H H1 H2 : Hp} {φ : Hp → Prop} (k : KnX p H H1 H2 φ) : Kn H H1 H2 φ := fun H' a b => k H' a fun c o _ n h => b c o n h
theorem KnX.ex {p : Addr} {H H1 H2 H3 : Hp} {φ : Hp → Prop} (k : KnX p H H1 H2 φ) (e : Ex H2 H3) : KnX p H H1 H3 φ := fun H' a b => k H' a fun c o z n h => b c o z n (e _ _ h)
theorem KnX.pre {p : Addr} {H H0 H1 H2 : Hp} {φ : Hp → Prop} (k : KnX p H H1 H2 φ) (e : Ex H0 H1) : KnX p H H0 H2 φ := fun H' a b => k H' a fun c o z n h => b c o z (fresh_back e n) h
theorem KnX.base {p : Addr} {H H0 H1 H2 : Hp} {φ : Hp → Prop} (k : KnX p H0 H1 H2 φ) (e : Ex H0 H) : KnX p H H1 H2 φ := fun H' a b => k H' (e.trans a) b
theorem KnX.imp {p : Addr} {H H1 H2 : Hp} {φ ψ : Hp → Prop} (k : KnX p H H1 H2 φ) (h : ∀ H', Ex H H' → φ H' → ψ H') : KnX p H H1 H2 ψ := fun H' a b => h H' a (k H' a b)
theorem KnX.of {p : Addr} {H H1 H2 : Hp} {φ : Hp → Prop} (h : ∀ H', Ex H H' → φ H') : KnX p H H1 H2 φ := fun H' a _ => h H' a
/-- the list itself is new: what is known holds without it -/
theorem Kn.out {p : Addr} {H H1 H2 : Hp} {o : HO} {φ : Hp → Prop} (k : Kn H H1 H2 φ) (hp : H2 p = none) : KnX p H H1 (upd H2 p o) φ := fun H' a b => k H' a fun c u n h => b c u (ne_of_none h hp) n (by rw [upd_ne (ne_of_none h hp)]; exact h)
def EvP (te : TE) (σ : L2.St) (H : Hp) (φ : V → Hp → Prop) : Prop := ∀ H1, Ex H H1 → ∀ Q : VK, (∀ v H2, Ex H1 H2 → Kn H H1 H2 (φ v) → Q v H2) → te σ H1 Q
def EvAP (ta : TA) (σ : L2.St) (H : Hp) (φs : List (V → Hp → Prop)) : Prop := ∀ H1, Ex H H1 → ∀ Q : List V → Hp → Prop, (∀ vs H2, Ex H1 H2 → Kn H H1 H2 (fun H' => Paired (fun v φ => φ v H') vs φs) → Q vs H2) → ta σ H1 Q
/-- a new list -/
def EvLP (te : TE) (σ : L2.St) (H : Hp) (P : List V → Hp → Prop) : Prop := ∀ H1, Ex H H1 → ∀ Q : VK, (∀ p vs H2, H1 p = none → Ex H1 H2 → H2 p = some (.lst vs) → KnX p H H1 H2 (P vs) → Q (.ref p) H2) → te σ H1 Q
section
variable {K : PySem.W.Frag} {σ : L2.St} {H H' : Hp} {te : TE} {ta tr : TA} {φ : V → Hp → Prop} {φs : List (V → Hp → Prop)} {P P' : List V → Hp → Prop}
theorem EvP.mono (e : Ex H H') (h : EvP te σ H φ) : EvP te σ H' φ := fun H1 a Q q => h H1 (e.trans a) Q fun v H2 e2 k => q v H2 e2 (k.base e)
theorem EvLP.mono (e : Ex H H') (h : EvLP te σ H P) : EvLP te σ H' P := fun H1 a Q q => h H1 (e.trans a) Q fun p vs H2 n e2 h2 k => q p vs H2 n e2 h2 (k.base e)
theorem evp_of {v : V} (h : Ev te σ H v) (hp : ∀ H', Ex H H' → φ v H') : EvP te σ H φ := fun H1 e Q q => h H1 e Q fun H2 e2 => q v H2 e2 (.of hp)
theorem evp_L {xs : List V} (h : EvL te σ H xs) : EvP te σ H (fun v H' => ∃ p, v = .ref p ∧ H' p = some (.lst xs)) := fun H1 e Q q => h H1 e Q fun p H2 n e2 h2 => q _ H2 e2 fun H' _ b => ⟨p, rfl, b p _ n h2⟩
theorem evp_LP (h : EvLP te σ H P) : EvP te σ H (fun v H' => ∃ p vs, v = .ref p ∧ H' p = some (.lst vs) ∧ P vs H') := fun H1 e Q q => h H1 e Q fun p vs H2 n e2 h2 k => q _ H2 e2 fun H' a b => ⟨p, vs, rfl, b p _ n h2, k.kn H' a b⟩
theorem elp_of {xs : List V} (h : EvL te σ H xs) (hp : ∀ H', Ex H H' → P xs H') : EvLP te σ H P := fun H1 e Q q => h H1 e Q fun p H2 n e2 h2 => q p xs H2 n e2 h2 (.of hp)
theorem EvLP.imp (h : EvLP te σ H P) (f : ∀ vs H', Ex H H' → P vs H' → P' vs H') : EvLP te σ H P' := fun H1 e Q q => h H1 e Q fun p vs H2 n e2 h2 k => q p vs H2 n e2 h2 (k.imp (f vs))
theorem EvP.imp {ψ : V → Hp → Prop} (h : EvP te σ H φ) (f : ∀ v H', Ex H H' → φ v H' → ψ v H') : EvP te σ H ψ := fun H1 e Q q => h H1 e Q fun v H2 e2 k => q v H2 e2 (k.imp (f v))
theorem eap_nil : EvAP tNil σ H [] := fun H1 _ _ q => q [] H1 (Ex.refl H1) fun _ _ _ => .nil
theorem eap_cons (h : EvP te σ H φ) (hr : EvAP tr σ H φs) : EvAP (tCons te tr) σ H (φ :: φs) := fun H1 e Q q =>
  h H1 e _ fun v H2 e2 k2 => hr H2 (e.trans e2) _ fun vs H3 e3 k3 => q _ H3 (e2.trans e3) fun H' a b => .cons ((k2.ex e3) H' a b) ((k3.pre e2) H' a b)
theorem elp_lst (h : EvAP ta σ H φs) (hz : φs.length ≤ 100000) : EvLP (tLst ta) σ H (fun vs H' => Paired (fun v φ => φ v H') vs φs) := fun H1 e Q q =>
  h H1 e _ fun vs H2 e2 k => ⟨sz_of (by rw [Paired.length (k.now e e2)]; exact hz), fun p hp => q p vs _ (fresh_back e2 hp) (e2.trans (Ex.new hp)) upd_same (k.out hp)⟩
theorem elp_cat {ta tb : TE} {l : Addr} {xs : List V} (ha : Ev ta σ H (.ref l)) (hl : H l = some (.lst xs)) (hb : EvLP tb σ H P) (hz : ∀ ys H', P ys H' → xs.length + ys.length ≤ 100000) :
    EvLP (tOp rCat ta tb) σ H (fun vs H' => ∃ ys, vs = xs ++ ys ∧ P ys H') := fun H1 e Q q =>
  ha H1 e _ fun H2 e2 => hb H2 (e.trans e2) _ fun r ys H3 hr e3 h3 k => ⟨l, r, xs, ys, rfl, rfl, e3 _ _ (e2 _ _ (e _ _ hl)), h3, sz_of (hz ys H3 (k.kn.now (e.trans e2) e3)), fun p hp =>
    q p _ _ (fresh_back (e2.trans e3) hp) ((e2.trans e3).trans (Ex.new hp)) upd_same (((k.kn.out hp).pre e2).imp fun H' _ z => ⟨ys, rfl, z⟩)⟩
end
section
variable {D : Ends} {te : TE} {σ : L2.St} {H : Hp} {P : List V → Hp → Prop} {φ : V → Hp → Prop} {i : Nat}
theorem s_asgLP (h : EvLP te σ H P) (k : ∀ p vs H1, H p = none → Ex H H1 → H1 p = some (.lst vs) → KnX p H H H1 (P vs) → D.nx (σ.set i (some (.ref p))) H1) : tAsg te (gName i) D σ H :=
  h H (Ex.refl H) _ fun p vs H1 n e h1 kn => k p vs H1 n e h1 kn
theorem s_asgP (h : EvP te σ H φ) (k : ∀ v H1, Ex H H1 → φ v H1 → D.nx (σ.set i (some v)) H1) : tAsg te (gName i) D σ H := h H (Ex.refl H) _ fun v H1 e kn => k v H1 e (kn.now (Ex.refl H) e)
theorem s_retP (h : EvP te σ H φ) (k : ∀ v H1, Ex H H1 → φ v H1 → D.rt v H1) : tRet te D σ H := h H (Ex.refl H) _ fun v H1 e kn => k v H1 e (kn.now (Ex.refl H) e)
end
/-! comprehensions -/
/-- what is known of H, and of what came between H0 and H1 -/
def mix (H H0 H1 : Hp) : Hp := fun b => match H0 b with | none => H1 b | some _ => H b
theorem mix_ex {H H0 H1 : Hp} (e : Ex H H0) : Ex H (mix H H0 H1) := fun b o h => by
  unfold mix
  rw [e b o h]
  exact h
theorem mix_in {H H0 H1 : Hp} (e : Ex H H0) (e1 : Ex H0 H1) : Ex (mix H H0 H1) H1 := fun b o h => by
  unfold mix at h
  cases q : H0 b with
  | none => rw [q] at h; exact h
  | some u => rw [q] at h; exact e1 _ _ (e _ _ h)
theorem Kn.at_mix {H H0 H1 : Hp} {φ : Hp → Prop} (k : Kn H H0 H1 φ) (e : Ex H H0) : φ (mix H H0 H1) := k _ (mix_ex e) fun b o n h => by
  unfold mix
  rw [n]
  exact h
theorem Kn.unmix {H H0 H1 H2 : Hp} {φ : Hp → Prop} (k : Kn (mix H H0 H1) H1 H2 φ) (e1 : Ex H0 H1) (e2 : Ex H1 H2) : Kn H H0 H2 φ := fun H' a b => by
  refine k H' (fun c o h => ?_) fun c o n h => b c o (fresh_back e1 n) h
  unfold mix at h
  cases q : H0 c with
  | none => rw [q] at h; exact b c o q (e2 _ _ h)
  | some u => rw [q] at h; exact a _ _ h
theorem KnX.unmix {p : Addr} {H H0 H1 H2 : Hp} {φ : Hp → Prop} (k : KnX p (mix H H0 H1) H1 H2 φ) (hp : H1 p = none) (e1 : Ex H0 H1) (e2 : Ex H1 H2) : KnX p H H0 H2 φ := fun H' a b => by
  refine k H' (fun c o h => ?_) fun c o z n h => b c o z (fresh_back e1 n) h
  unfold mix at h
  cases q : H0 c with
  | none => rw [q] at h; exact b c o (ne_of_none h hp) q (e2 _ _ h)
  | some u => rw [q] at h; exact a _ _ h
theorem lc_P {J : It} {g : TG} {te : TE} {vs : List Nat} {σ : L2.St} {B H1 : Hp} {Dl : Addr} {Qd : Hp → Prop} {n : Nat} (Φ : Nat → V → Hp → Prop) (hn : n < 50000) (e0 : Ex B H1) (hD : H1 Dl = none)
    (hgo : ∀ i H2, i < n → Ex H1 H2 → J.go i H2) (hst : ∀ H2, Ex H1 H2 → J.stop n H2)
    (hy : ∀ i H2 x H', i < n → Ex H1 H2 → J.yld i H2 x H' → ∃ σ2, Ex H2 H' ∧ wipe σ2 vs = wipe σ vs ∧ (∀ Q : L2.St → Hp → Prop, (∀ H3, Ex H' H3 → Q σ2 H3) → g x (wipe σ vs) H' Q) ∧ EvP te σ2 B (Φ i))
    (hd : ∀ xs H2, Ex H1 H2 → H2 Dl = some (.lst xs) → KnX Dl B H1 H2 (fun H' => xs.length = n ∧ ∀ i v, xs[i]? = some v → Φ i v H') → Qd H2) :
    ∃ W : Nat → Nat → Hp → Prop, (∃ m, W 0 m (upd H1 Dl (.lst []))) ∧ ∀ i m H2, W i m H2 →
      (J.stop i H2 ∧ Qd H2) ∨ (J.go i H2 ∧ ∃ Nx : Hp → Prop, (∀ H', Nx H' → ∃ m', m' < m ∧ W (i + 1) m' H') ∧ ∀ x H', J.yld i H2 x H' → g x (wipe σ vs) H' fun σ2 H3 => wipe σ2 vs = wipe σ vs ∧ tYes σ2 H3 fun b H4 =>
        if b = true then te σ2 H4 fun y H5 => ∃ acc, H5 Dl = some (.lst acc) ∧ acc.length < sizeLine ∧ Nx (upd H5 Dl (.lst (acc ++ [y]))) else Nx H4) := by
  let Iv : Nat → Hp → Prop := fun i H2 => Ex H1 H2 ∧ ∃ acc, H2 Dl = some (.lst acc) ∧ acc.length = i ∧ ∀ H', Ex B H' → (∀ b o, b ≠ Dl → H1 b = none → H2 b = some o → H' b = some o) → ∀ j v, acc[j]? = some v → Φ j v H'
  refine ⟨fun i m H => m = n - i ∧ i ≤ n ∧ Iv i H, ⟨n, by simp, Nat.zero_le _, Ex.new hD, [], upd_same, rfl, fun _ _ _ j v z => by simp at z⟩, ?_⟩
  rintro i m H2 ⟨rfl, hi, p2, acc, p3, pl, pk⟩
  by_cases hlt : i < n
  · refine .inr ⟨hgo i H2 hlt p2, Iv (i + 1), fun H' p' => ⟨n - (i + 1), by omega, rfl, hlt, p'⟩, fun x H' y => ?_⟩
    obtain ⟨σ2, e1, hw, hg, he⟩ := hy i H2 x H' hlt p2 y
    refine hg _ fun H3 e3 => ⟨hw, ?_⟩
    show te σ2 H3 fun y H5 => ∃ acc, H5 Dl = some (.lst acc) ∧ acc.length < sizeLine ∧ Iv (i + 1) (upd H5 Dl (.lst (acc ++ [y])))
    have E3 : Ex H2 H3 := e1.trans e3
    refine he H3 ((e0.trans p2).trans E3) _ fun v H5 e5 kn => ⟨acc, e5 _ _ (E3 _ _ p3), sz_lt (by omega), Ex.mut ((p2.trans E3).trans e5) hD, _, upd_same, by rw [List.length_append, pl]; rfl, fun Hq eq fr j u hj => ?_⟩
    have fr' : ∀ b o, b ≠ Dl → H1 b = none → H5 b = some o → Hq b = some o := fun b o nb n h => fr b o nb n (by rw [upd_ne nb]; exact h)
    by_cases hji : j < i
    · rw [List.getElem?_append_left (by omega)] at hj
      exact pk Hq eq (fun b o nb n h => fr' b o nb n (e5 _ _ (E3 _ _ h))) j u hj
    · rw [List.getElem?_append_right (by omega)] at hj
      have hz : j - acc.length = 0 := by
        have := (List.getElem?_eq_some_iff.mp hj).1
        simp at this
        omega
      rw [hz] at hj
      have hu : v = u := by simpa using hj
      have hjj : j = i := by omega
      subst hu hjj
      refine kn Hq eq fun b o n h => fr' b o (fun z => ?_) (fresh_back (p2.trans E3) n) h
      rw [z, E3 _ _ p3] at n
      cases n
  · have e : i = n := by omega
    subst e
    exact .inl ⟨hst H2 p2, hd acc H2 p2 p3 fun H' a b => ⟨pl, pk H' a b⟩⟩
section
variable {K : PySem.W.Frag} {σ : L2.St} {H : Hp} {te tl : TE} {P : List V → Hp → Prop} {vs : List Nat} {j : Nat}
/-- over a list that is known -/
theorem elp_lcL {a : Addr} {xs : List V} (Φ : Nat → V → Hp → Prop) (h : Ev tl σ H (.ref a)) (hx : SqL K H a xs) (hz : xs.length < 50000) (hw : ∀ x, wipe ((wipe σ vs).set j (some x)) vs = wipe σ vs)
    (he : ∀ i x, xs[i]? = some x → EvP te ((wipe σ vs).set j (some x)) H (Φ i)) : EvLP (tLc (iList K tl) (gName j) tYes te vs) σ H (fun ys H' => ys.length = xs.length ∧ ∀ i v, ys[i]? = some v → Φ i v H') := fun H0 e Q q => h H0 e _ fun H1 e1 =>
  ⟨a, rfl, ⟨xs, ex_l (e.trans e1) hx⟩, fun Dl hD => lc_P (B := H) Φ hz (e.trans e1) hD (fun i H2 hi e2 => ⟨xs, xs[i], ex_l ((e.trans e1).trans e2) hx, List.getElem?_eq_getElem hi⟩) (fun H2 e2 => ⟨xs, ex_l ((e.trans e1).trans e2) hx, Nat.le_refl _⟩)
    (fun i H2 x H' hi e2 y => by
      obtain ⟨rfl, y⟩ := y
      have hxi := y xs (ex_l ((e.trans e1).trans e2) hx)
      exact ⟨_, Ex.refl _, hw x, fun Q2 q2 => q2 _ (Ex.refl _), he i x hxi⟩)
    (fun ys H2 e2 h2 k => q Dl ys H2 (fresh_back e1 hD) (e1.trans e2) h2 (k.pre e1))⟩
/-- over a new list -/
theorem elp_lcN (Φ : List V → Nat → V → Hp → Prop) (h : EvLP tl σ H P) (hz : ∀ xs H', P xs H' → xs.length < 50000) (hw : ∀ x, wipe ((wipe σ vs).set j (some x)) vs = wipe σ vs)
    (he : ∀ xs B, Ex H B → P xs B → ∀ i x, xs[i]? = some x → EvP te ((wipe σ vs).set j (some x)) B (Φ xs i)) : EvLP (tLc (iList K tl) (gName j) tYes te vs) σ H (fun ys H' => ∃ xs, P xs H' ∧ ys.length = xs.length ∧ ∀ i v, ys[i]? = some v → Φ xs i v H') := fun H0 e Q q => h H0 e _ fun a xs H1 ha e1 hx kn =>
  ⟨a, rfl, ⟨xs, sq_of hx⟩, fun Dl hD => lc_P (B := mix H H0 H1) (Φ xs) (hz xs _ (kn.kn.now e e1)) (mix_in e e1) hD (fun i H2 hi e2 => ⟨xs, xs[i], ex_l e2 (sq_of hx), List.getElem?_eq_getElem hi⟩) (fun H2 e2 => ⟨xs, ex_l e2 (sq_of hx), Nat.le_refl _⟩)
    (fun i H2 x H' hi e2 y => by
      obtain ⟨rfl, y⟩ := y
      have hxi := y xs (ex_l e2 (sq_of hx))
      exact ⟨_, Ex.refl _, hw x, fun Q2 q2 => q2 _ (Ex.refl _), he xs _ (mix_ex e) (kn.kn.at_mix e) i x hxi⟩)
    (fun ys H2 e2 h2 k => q Dl ys H2 (fresh_back e1 hD) (e1.trans e2) h2 fun H' c d => ⟨xs, kn.kn H' c (fun b o n h => d b o (ne_of_none h hD) n (e2 _ _ h)), (k.unmix hD e1 e2) H' c d⟩)⟩
/-- over range(n) -/
theorem elp_lcR {ta : TA} {n : Nat} (Φ : Nat → V → Hp → Prop) (h : EvA ta σ H [.int (n : Int)]) (hz : n < 40000) (hw : ∀ x, wipe ((wipe σ vs).set j (some x)) vs = wipe σ vs)
    (he : ∀ i : Nat, i < n → EvP te ((wipe σ vs).set j (some (.int (i : Int)))) H (Φ i)) : EvLP (tLc (iRng1 ta) (gName j) tYes te vs) σ H (fun ys H' => ys.length = n ∧ ∀ i v, ys[i]? = some v → Φ i v H') := fun H0 e Q q => h H0 e _ fun H1 e1 =>
  ⟨(n : Int), rfl, by omega, by omega, fun Dl hD => lc_P (J := Itr 0 ((n : Int).toNat)) (B := H) Φ (by omega) (e.trans e1) hD (fun i H2 hi e2 => by show i < (n : Int).toNat; omega) (fun H2 e2 => by show (n : Int).toNat ≤ n; omega)
    (fun i H2 x H' hi e2 y => by
      obtain ⟨rfl, rfl⟩ := y
      have e0 : (0 : Int) + (i : Int) = (i : Int) := Int.zero_add _
      rw [e0]
      exact ⟨_, Ex.refl _, hw _, fun Q2 q2 => q2 _ (Ex.refl _), he i hi⟩)
    (fun ys H2 e2 h2 k => q Dl ys H2 (fresh_back e1 hD) (e1.trans e2) h2 (k.pre e1))⟩
/-- over range(n), the items' values -/
theorem el_lcRv {ta : TA} {n : Nat} (v : Nat → V) (h : EvA ta σ H [.int (n : Int)]) (hz : n < 40000) (hw : ∀ x, wipe ((wipe σ vs).set j (some x)) vs = wipe σ vs)
    (he : ∀ i : Nat, i < n → Ev te ((wipe σ vs).set j (some (.int (i : Int)))) H (v i)) : EvL (tLc (iRng1 ta) (gName j) tYes te vs) σ H (rmap n v) := fun H0 e Q q =>
  elp_lcR (fun i u _ => u = v i) h hz hw (fun i hi => evp_of (he i hi) fun _ _ => rfl) H0 e Q fun p ys H2 n2 e2 h2 k => by
    obtain ⟨l, kk⟩ := k.kn.now e e2
    have : ys = rmap n v := by
      refine List.ext_getElem? fun i => ?_
      by_cases hi : i < n
      · have h1 : ys[i]? = some ys[i] := List.getElem?_eq_getElem (by omega)
        rw [h1, kk i _ h1]
        unfold rmap
        rw [List.getElem?_map, List.getElem?_range hi]
        rfl
      · rw [List.getElem?_eq_none (by omega), List.getElem?_eq_none (by rw [rmap_len]; omega)]
    rw [this] at h2
    exact q p H2 n2 e2 h2
end
section
variable {K : PySem.W.Frag} {σ : L2.St} {H : Hp} {te : TE} {ta tb : TA} {D : Ends} {φ ψ : V → Hp → Prop}
/-- a, b = x, y -/
theorem s_parP {i j : Nat} (h : EvAP ta σ H [φ, ψ]) (k : ∀ v u H1, Ex H H1 → Kn H H H1 (fun H' => φ v H' ∧ ψ u H') → D.nx ((σ.set i (some v)).set j (some u)) H1) : tPar i j ta D σ H := h H (Ex.refl H) _ fun vs H1 e kn => by
  have z := kn.now (Ex.refl H) e
  cases z with
  | @cons v _ us _ _ zr =>
    cases zr with
    | @cons u _ us2 _ _ zr2 =>
      cases zr2
      refine ⟨v, u, rfl, k v u H1 e (kn.imp fun H' _ z => ?_)⟩
      cases z with
      | cons a zr =>
        cases zr with
        | cons b _ => exact ⟨a, b⟩
/-- l.append(e), l new since H0, e known by what is true of it without l -/
theorem s_appP {l : Addr} {xs : List V} {H0 : Hp} {tl : TE} (e0 : Ex H0 H) (n : H0 l = none) (hl : H l = some (.lst xs)) (ha : Ev tl σ H (.ref l)) (h : EvP te σ H0 φ) (hz : xs.length < 100000)
    (k : ∀ v H1, Ex H0 H1 → (∀ b o, b ≠ l → H b = some o → H1 b = some o) → H1 l = some (.lst (xs ++ [v])) → φ v H1 → D.nx σ H1) : tDrop (tBM K "list" rAppend tl (tCons te tNil)) D σ H := ha H (Ex.refl H) _ fun H1 e1 =>
  ⟨Or.inl ⟨rfl, xs, sq_of (e1 l _ hl)⟩, h H1 (e0.trans e1) _ fun v H2 e2 kn => ⟨l, xs, v, rfl, rfl, e2 l _ (e1 l _ hl), sz_lt hz, k v _ (Ex.mut ((e0.trans e1).trans e2) n)
    (fun b o nb hb => by rw [upd_ne nb]; exact e2 _ _ (e1 _ _ hb)) upd_same (kn _ (Ex.mut ((e0.trans e1).trans e2) n) fun b o nb hb => by
      have z : b ≠ l := fun z => by
        rw [z, e1 _ _ hl] at nb
        cases nb
      rw [upd_ne z]
      exact hb)⟩⟩
/-- a call, its arguments known by what is true of them -/
theorem ev_callP {sp : Sp} {E : XK} {φs : List (V → Hp → Prop)} {z : V} (h : EvAP ta σ H φs) (hs : ∀ vs H1, Ex H H1 → Paired (fun v φ => φ v H1) vs φs → SpV sp vs H1 z) : Ev (tCall sp [] E ta) σ H z := fun H1 e Q q =>
  h H1 e _ fun vs H2 e2 kn => by
    rw [List.append_nil]
    exact hs vs H2 (e.trans e2) (kn.now e e2) H2 (Ex.refl H2) Q (fun H3 e3 => q H3 (e2.trans e3)) E
/-- x != y of equal data, x a new list -/
theorem ev_neD {r : Addr} {P : List V → Hp → Prop} {tx ty : TE} (d : PyData) (ha : EvLP tx σ H P) (hb : ∀ H', Ex H H' → Ev ty σ H' (.ref r)) (hd : ∀ p vs H', Ex H H' → H' p = some (.lst vs) → P vs H' → Dp K H' (.ref p) d ∧ Dp K H' (.ref r) d)
    (h1 : SeqAt.shaped d = true) (h2 : PyData.eqv d d = true) : Ev (tOp (rNeD K) tx ty) σ H (.bl false) := fun H1 e Q q =>
  ha H1 e _ fun p vs H2 n e2 hp k => hb H2 (e.trans e2) H2 (Ex.refl H2) _ fun H3 e3 => by
    have z := hd p vs H3 ((e.trans e2).trans e3) (e3 _ _ hp) ((k.ex e3).kn.now e (e2.trans e3))
    refine ⟨d, d, z.1, z.2, h1, h1, ?_⟩
    rw [h2]
    exact q H3 (e2.trans e3)
theorem dpAll_of : ∀ {vs : List V} {ds : List PyData}, vs.length = ds.length → (∀ (i : Nat) v d, vs[i]? = some v → ds[i]? = some d → Dp K H v d) → DpAll K H vs ds
  | [], [], _, _ => .nil
  | [], _ :: _, h, _ => by cases h
  | _ :: _, [], h, _ => by cases h
  | v :: vs, d :: ds, h, f => .cons (f 0 v d rfl rfl) (dpAll_of (by simpa using h) fun i u e a b => f (i + 1) u e (by simpa using a) (by simpa using b))
/-- [x] * n -/
theorem el_rep {tl ti : TE} {xs : List V} {n : Nat} (ha : EvL tl σ H xs) (hb : ∀ H', Ex H H' → Ev ti σ H' (.int (n : Int))) (hn : n ≤ 1000) (hz : xs.length * n ≤ 100000) : EvL (tOp rRep tl ti) σ H (List.replicate n xs).flatten := fun H1 e Q q =>
  ha H1 e _ fun l H2 hl e2 h2 => hb H2 (e.trans e2) H2 (Ex.refl H2) _ fun H3 e3 => ⟨l, (n : Int), xs, rfl, rfl, e3 _ _ h2, by omega, by omega, sz_of (by simpa using hz), fun p hp => by
    have : (n : Int).toNat = n := by omega
    rw [this]
    exact q p _ (fresh_back (e2.trans e3) hp) ((e2.trans e3).trans (Ex.new hp)) upd_same⟩
end
end Vx

set_option Elab.async false
set_option linter.all false
set_option maxRecDepth 100000
namespace Vx
open PySem PySem.Spec PyProof.Rows L2
def top (i : Nat) : Stmt := PySem.Challenge.pw_dequelogs_k01_logs_recognized.main.body.getD i (.Pass ⟨0, 0, 0, 0⟩)
abbrev s_is_integer : Stmt := top 3
abbrev s_is_name : Stmt := top 4
abbrev s_is_size : Stmt := top 5
abbrev s_is_entry : Stmt := top 6
abbrev s_is_logs : Stmt := top 10
abbrev s_is_log : Stmt := top 11
abbrev s_items_fit : Stmt := top 12
abbrev s_removal_fits : Stmt := top 13
abbrev s_all_entries : Stmt := top 14
abbrev s_push_places : Stmt := top 15
abbrev s_law_source : Stmt := top 17
abbrev s_law_pick : Stmt := top 18
abbrev s_law_shuffled : Stmt := top 19
abbrev s_law_words : Stmt := top 20
abbrev s_law_workers : Stmt := top 21
abbrev s_law_logs : Stmt := top 22
abbrev s_law_whole : Stmt := top 23
abbrev s_law_is_name : Stmt := top 24
abbrev s_law_is_entry : Stmt := top 25
abbrev s_law_is_logs : Stmt := top 26
abbrev s_law_entry : Stmt := top 27
abbrev s_law_changed : Stmt := top 28
abbrev s_law_other : Stmt := top 29
abbrev s_law_at_bounds : Stmt := top 30
abbrev s_law_right : Stmt := top 31
abbrev s_law : Stmt := top 32
end Vx

set_option Elab.async false
set_option linter.all false
set_option maxRecDepth 100000
set_option maxHeartbeats 4000000
namespace Vx
open PySem PySem.Spec PyProof.Rows L2 Evl
/-- the built-ins that the module leaves as they are -/
structure Bl (mg : Str → Option Value) : Prop where
  len : mg "len" = none
  max : mg "max" = none
  min : mg "min" = none
  abs : mg "abs" = none
  all : mg "all" = none
  zip : mg "zip" = none
  list : mg "list" = none
  tuple : mg "tuple" = none
  dict : mg "dict" = none
  bool : mg "bool" = none
  int : mg "int" = none
  str : mg "str" = none
  range : mg "range" = none
  isinstance : mg "isinstance" = none
  sorted : mg "sorted" = none
  set : mg "set" = none
  enumerate : mg "enumerate" = none
  repr : mg "repr" = none
section
variable {X : Cx} {K : PySem.W.Frag} {a b e : Expr} {ta tb te : TE} {p pos cpos apos : Pos}
theorem x_len (T : Bl X.mg) (ha : PE X a ta) (hK : X.K = K := by rfl) (hg : Gl X "len" := by rfl) (hs : starEach (a :: []) X.env = (false, eval a X.env) :: starEach [] X.env := by rfl) (hp : (backTo pos (starEach [] X.env)).any (·.1) = false := by rfl) : PE X (.Call (.Name "len" p) [a] [] pos) (tCB (rLenS K) (tCons ta tNil)) := by
  subst hK
  exact pe_callB (hc := call_len_seq) (hg := hg) (hm := T.len) (hv := PySem.boot_len) (ha := pa_cons ha pa_nil hs) (he := hs) (hpl := hp)
theorem x_ixl (ha : PE X a ta) (hb : PE X b tb) (hK : X.K = K := by rfl) (hs : PlainIx b := by exact fun _ _ => rfl) : PE X (.Subscript a b pos) (tOp (rIxL K) ta tb) := by
  subst hK
  exact pe_ix ix_list ha hb hs
theorem x_ixt (ha : PE X a ta) (hb : PE X b tb) (hK : X.K = K := by rfl) (hs : PlainIx b := by exact fun _ _ => rfl) : PE X (.Subscript a b pos) (tOp (rIxT K) ta tb) := by
  subst hK
  exact pe_ix ix_tup ha hb hs
theorem x_list (T : Bl X.mg) (ha : PE X a ta) (hK : X.K = K := by rfl) (hg : Gl X "list" := by rfl) (hs : starEach (a :: []) X.env = (false, eval a X.env) :: starEach [] X.env := by rfl) (hp : (backTo pos (starEach [] X.env)).any (·.1) = false := by rfl) : PE X (.Call (.Name "list" p) [a] [] pos) (tCB (rListS K) (tCons ta tNil)) := by
  subst hK
  exact pe_callTy (hc := call_list_of) (hg := hg) (hm := T.list) (hv := by decide +kernel) (ha := pa_cons ha pa_nil hs) (he := hs) (hpl := hp)
theorem x_all (T : Bl X.mg) (ha : PE X a ta) (hc : X.calm = true := by rfl) (hK : X.K = K := by rfl) (hg : Gl X "all" := by rfl) (hs : starEach (a :: []) X.env = (false, eval a X.env) :: starEach [] X.env := by rfl) (hp : (backTo pos (starEach [] X.env)).any (·.1) = false := by rfl) : PE X (.Call (.Name "all" p) [a] [] pos) (tCB (rAll K) (tCons ta tNil)) := by
  subst hK
  exact pe_callB (hc := cr_all hc) (hg := hg) (hm := T.all) (hv := by decide +kernel) (ha := pa_cons ha pa_nil hs) (he := hs) (hpl := hp)
/-- isinstance(e, T), T a built-in type -/
theorem x_isi (m : String) {x : Str} {p2 : Pos} (T : Bl X.mg) (ha : PE X a ta) (hm : X.mg x = none) (hv : bootBuiltins x = some (.type m) := by decide +kernel) (hK : X.K = K := by rfl) (hg : Gl X "isinstance" := by rfl) (hg2 : Gl X x := by rfl) (hx : x ≠ "__name__" := by decide) (hdx : (x == ("__debug__" : Str)) = false := by decide)
    (hs : starEach (a :: [.Name x p2]) X.env = (false, eval a X.env) :: starEach [.Name x p2] X.env := by rfl) (hs2 : starEach [.Name x p2] X.env = (false, eval (.Name x p2) X.env) :: starEach [] X.env := by rfl) (hp : (backTo pos (starEach [.Name x p2] X.env)).any (·.1) = false := by rfl) :
    PE X (.Call (.Name "isinstance" p) [a, .Name x p2] [] pos) (tCB (rIsi K) (tCons ta (tCons (tC (.ty m)) tNil))) := by
  subst hK
  exact pe_callB (hc := call_isi) (hg := hg) (hm := T.isinstance) (hv := by decide +kernel) (ha := pa_cons ha (pa_cons (pe_bltn hg2 hm hv rfl hx hdx) pa_nil hs2) hs) (he := hs) (hpl := hp)
theorem x_pil {tg : Expr} (ha : PE X a ta) (hK : X.K = K := by rfl) : PI X tg a (iList K ta) := by
  subst hK
  exact pi_list ha
theorem x_gt {es : List Expr} {k : Nat} {t : TGs} {n : Nat} {x1 : Pos} (h : PGs X es t) (hc : X.calm = true := by rfl) (hK : X.K = K := by rfl) (hn : (assignEach es X.env).length = n := by rfl) (hst : (assignEach es X.env).findIdx? (·.1) = none := by rfl) : PG X (.Tuple es k x1) (gTup K n t) := by
  subst hK
  exact pg_tup hc h hn hst
theorem x_enum {tpos : Pos} {elts : List Expr} {kk : Nat} (T : Bl X.mg) (ha : PE X a ta) (hK : X.K = K := by rfl) (hg : Gl X "enumerate" := by rfl) (hs : starEach [a] X.env = [(false, eval a X.env)] := by rfl) : PI X (.Tuple elts kk tpos) (.Call (.Name "enumerate" p) [a] [] pos) (iEnum K (tCons ta tNil)) := by
  subst hK
  exact pi_enum hg T.enumerate (pa_cons ha pa_nil hs) hs
theorem x_rng {tg : Expr} {t : TA} (T : Bl X.mg) (ha : PA X [a] t) (hg : Gl X "range" := by rfl) (hs : starEach [a] X.env = [(false, eval a X.env)] := by rfl) : PI X tg (.Call (.Name "range" p) [a] [] pos) (iRng1 t) := pi_range1 hg T.range ha hs
section
variable {o : Expr} {es : List Expr} {to : TE} {t : TA} {name : Str} {T id : String} {r : V → List V → Hp → VK → Prop}
theorem x_bm (pa : PlainAttrs T) (slot : Slot T name id) (hty : typeOf (.builtin id) = pure (.type "method_descriptor")) (hm : MtR X id r) (ho : PE X o to) (ha : PA X (e :: es) t) (hK : X.K = K := by rfl)
    (hb : attributeBase o name X.env (eval o X.env) = eval o X.env := by rfl)
    (hf : ((backTo cpos (starEach (e :: es) X.env)).all (fun x => !x.1) && (backToKw cpos (keywordEach [] X.env)).all (fun x => x.1.isSome) && decide ((e :: es).length + ([] : List Keyword).length + (if ([] : List Keyword).isEmpty then 0 else 1) < 30)) = true := by rfl)
    (hl : (apos.endLine == cpos.line) = true := by rfl) (hs : starEach (e :: es) X.env = (false, eval e X.env) :: starEach es X.env := by rfl) (hp : (backTo cpos (starEach es X.env)).any (·.1) = false := by rfl) :
    PE X (.Call (.Attribute o name apos) (e :: es) [] cpos) (tBM K T r to t) := by
  subst hK
  exact pe_bm pa slot hty hm ho ha hb hf hl hs hp
theorem x_bm0 (pa : PlainAttrs T) (slot : Slot T name id) (hty : typeOf (.builtin id) = pure (.type "method_descriptor")) (hm : MtR X id r) (ho : PE X o to) (hK : X.K = K := by rfl)
    (hb : attributeBase o name X.env (eval o X.env) = eval o X.env := by rfl) (hl : (apos.endLine == cpos.line) = true := by rfl) : PE X (.Call (.Attribute o name apos) [] [] cpos) (tBM0 K T r to) := by
  subst hK
  exact pe_bm0 pa slot hty hm ho hb hl
end
end
/-! what a call leaves that changes the list at p alone -/
def KB (p : Addr) (H H' : Hp) : Prop := ∀ b o, b ≠ p → H b = some o → H' b = some o
theorem KB.refl (p : Addr) (H : Hp) : KB p H H := fun _ _ _ h => h
theorem KB.trans {p : Addr} {H H1 H2 : Hp} (a : KB p H H1) (b : KB p H1 H2) : KB p H H2 := fun c o n h => b c o n (a c o n h)
theorem kb_ex {p : Addr} {H H' : Hp} (e : Ex H H') : KB p H H' := fun c o _ h => e c o h
theorem KB.upd {p : Addr} {H : Hp} {o : HO} : KB p H (upd H p o) := fun c u n h => by rw [upd_ne n]; exact h
theorem KB.ex {p : Addr} {H H' : Hp} (k : KB p H H') (h : H p = none) : Ex H H' := fun c o z => k c o (ne_of_none z h) z
/-- what is known without p stays known -/
theorem KB.base {p : Addr} {H0 H H' : Hp} (k : KB p H H') (e : Ex H0 H) (h : H0 p = none) : Ex H0 H' := fun c o z => k c o (ne_of_none z h) (e c o z)
end Vx

set_option Elab.async false
set_option linter.all false
set_option maxRecDepth 100000
set_option maxHeartbeats 4000000
namespace Vx
open PySem PySem.Spec PyProof.Rows L2 Evl
/-- a source of draws at p -/
def Src (H : Hp) (p : Addr) (n : Nat) : Prop := ∃ a b c : Int, H p = some (.lst [.int a, .int b, .int c]) ∧ 0 ≤ a ∧ 0 ≤ b ∧ b < 10 ^ 39 ∧ 0 ≤ c ∧ c ≤ (n : Int)
def spSource (K : PySem.W.Frag) : Sp := fun vs H Q _ => ∃ (a : Addr) (ns : List Int) (k : Int), vs = [.ref a, .int k] ∧ SqL K H a (ns.map V.int) ∧ 0 ≤ k ∧ k ≤ 1000 ∧
  ∀ p (x y : Int), H p = none → 0 ≤ x → 0 ≤ y → y < 10 ^ 39 → Q (.ref p) (upd H p (.lst [.int x, .int y, .int 0]))
def spPick : Sp := fun vs H Q _ => ∃ (p : Addr) (n : Nat) (m : Int), vs = [.ref p, .int m] ∧ Src H p n ∧ n ≤ 1000000000 ∧ 1 ≤ m ∧ m ≤ 10 ^ 60 ∧
  ∀ (r : Int) xs, 0 ≤ r → r < m → Src (upd H p (.lst xs)) p (n + 1) → Q (.int r) (upd H p (.lst xs))
theorem Src.ex {H H' : Hp} {p : Addr} {n : Nat} (h : Src H p n) (e : Ex H H') : Src H' p n := by
  obtain ⟨a, b, c, h1, h2⟩ := h
  exact ⟨a, b, c, e _ _ h1, h2⟩
theorem Src.le {H : Hp} {p : Addr} {n m : Nat} (h : Src H p n) (e : n ≤ m) : Src H p m := by
  obtain ⟨a, b, c, h1, h2, h3, h4, h5, h6⟩ := h
  exact ⟨a, b, c, h1, h2, h3, h4, h5, by omega⟩
theorem Src.at_ {H : Hp} {p : Addr} {n : Nat} (h : Src H p n) : ∃ xs, H p = some (.lst xs) := by
  obtain ⟨a, b, c, h1, h2⟩ := h
  exact ⟨_, h1⟩
theorem Src.upd {H : Hp} {p q : Addr} {o : HO} {n : Nat} (h : Src H p n) (e : p ≠ q) : Src (upd H q o) p n := by
  obtain ⟨a, b, c, h1, h2⟩ := h
  exact ⟨a, b, c, by rw [upd_ne e]; exact h1, h2⟩
theorem KB.updN {p b : Addr} {H H' : Hp} {o : HO} (k : KB p H H') (h : H b = none ∨ b = p) : KB p H (L2.upd H' b o) := fun c u n z => by
  rcases h with h | h
  · rw [upd_ne (ne_of_none z h)]
    exact k c u n z
  · rw [upd_ne (fun q => n (q.trans h))]
    exact k c u n z
theorem seqIx {r : Int} {n : Nat} (h0 : 0 ≤ r) (h : r < (n : Int)) : seqIndex? r n = some r.toNat := by
  unfold seqIndex?
  simp only [show ¬ r < 0 by omega, if_false]
  simp [h0, h]
theorem perm_erase {α : Type} {xs : List α} {i : Nat} (h : i < xs.length) : ([xs[i]] ++ xs.eraseIdx i).Perm xs := by
  have e : xs = xs.take i ++ xs[i] :: xs.drop (i + 1) := by
    rw [List.getElem_cons_drop, List.take_append_drop]
  rw [List.eraseIdx_eq_take_drop_succ]
  refine List.Perm.trans ?_ (List.Perm.of_eq e.symm)
  exact (List.perm_middle (l₁ := xs.take i) (l₂ := xs.drop (i + 1)) (a := xs[i])).symm
def spShuf (K : PySem.W.Frag) : Sp := fun vs H Q _ => ∃ (s r : Addr) (n : Nat) (row : List V), vs = [.ref s, .ref r] ∧ Src H s n ∧ n + row.length ≤ 1000000000 ∧ SqL K H r row ∧ row.length ≤ 10000 ∧
  ∀ p ys H', H p = none → KB s H H' → Src H' s (n + row.length) → H' p = some (.lst ys) → ys.Perm row → Q (.ref p) H'
section
variable {P : Program} {w : World} {K : PySem.W.Frag} {mg : Str → Option Value} {base : Heap}
theorem sc_law_source : FnScope ["script", "k", "cell"] ["script", "k"] (defScope s_law_source) := ⟨rfl, rfl, rfl, by decide +kernel, rfl, by decide +kernel, by decide +kernel⟩
theorem ok_law_source (D : Def K mg "_law_source" s_law_source ["script", "k"]) (T : Bl mg) : Good P w K mg base 1 "_law_source" ["script", "k"] (spSource K) := by
  refine D.good sc_law_source (fun vs H Q E h => ?_) (fun f cdv A outer s H vs Q E hr h => ?_)
  · obtain ⟨a, ns, k, rfl, _⟩ := h
    rfl
  · obtain ⟨a, ns, k, rfl, hS, k0, k1, q⟩ := h
    refine ⟨_, Evl.pss_cut (ps_set (i := 2) sc_law_source.nd rfl (Or.inl rfl) (pe_ifExp (pt_cmpR op_lt (pv 1) (pe_callB call_len_seq (by rfl) T.len PySem.boot_len (pa_cons (pv 0) pa_nil)) (nomark _)) (pe_ix ix_list (pv 0) (pv 1) (fun _ _ => rfl)) pe_int))
      (pss_one (ps_ret (pe_lst (pa_cons (pe_callB (call_max2 rfl) (by rfl) T.max (by decide +kernel) (pa_cons pe_int (pa_cons (pe_op op_sub (pe_callB call_abs (by rfl) T.abs (by decide +kernel) (pa_cons (pv 2) pa_nil)) (pe_op op_pw pe_int pe_int)) pa_nil)))
        (pa_cons (pe_op op_add (pe_op op_add (pe_op op_mul (pe_op op_mod (pe_callB call_abs (by rfl) T.abs (by decide +kernel) (pa_cons (pv 2) pa_nil)) (pe_op op_add (pe_op op_pw pe_int pe_int) pe_int)) pe_int) (pv 1)) pe_int)
          (pa_cons pe_int pa_nil)))))), ?_⟩
    refine ⟨fun σ' H' => ∃ c : Int, σ' = [some (.ref a), some (.int k), some (.int c)] ∧ H' = H, ?_, ?_⟩
    · refine ⟨_, rfl, _, rfl, a, _, rfl, Or.inl hS, _, _, rfl, rfl, _, rfl, ?_⟩
      rw [List.length_map]
      refine ite2 (fun hk => ?_) (fun _ => ⟨0, rfl, rfl⟩)
      have hk' : k < (ns.length : Int) := of_decide_eq_true hk
      obtain ⟨j, rfl⟩ : ∃ j : Nat, k = (j : Int) := ⟨k.toNat, by omega⟩
      have hj : j < ns.length := by omega
      refine ⟨_, rfl, _, rfl, a, _, _, V.int (ns[j]), rfl, rfl, hS, atI_nat (by rw [List.getElem?_map, List.getElem?_eq_getElem hj]; rfl), ⟨_, rfl, rfl⟩⟩
    · rintro σ' H' ⟨c, rfl, rfl⟩
      refine ⟨_, rfl, _, rfl, 10, 18, rfl, rfl, ⟨by decide, by decide, by decide⟩, _, _, rfl, rfl, _, _, rfl, ?_⟩
      refine ⟨_, rfl, _, rfl, 10, 36, rfl, rfl, ⟨by decide, by decide, by decide⟩, _, _, rfl, rfl, _, _, rfl, rfl, (show (0 : Int) < 10 ^ 36 + 67 by decide), ?_⟩
      refine ⟨_, _, rfl, rfl, Or.inr ⟨by decide, by decide⟩, _, rfl, _, _, rfl, rfl, _, _, rfl, rfl, (by show 3 ≤ sizeLine; decide), fun p hp => ?_⟩
      have e := Int.emod_lt_of_pos (if c < 0 then -c else c) (show (0 : Int) < 10 ^ 36 + 67 by decide)
      have e0 := Int.emod_nonneg (if c < 0 then -c else c) (show (10 : Int) ^ 36 + 67 ≠ 0 by decide)
      refine q p _ _ hp ?_ ?_ ?_
      · split <;> omega
      · generalize hz : (if c < 0 then -c else c) % (10 ^ 36 + 67) = z at e e0
        show (0 : Int) ≤ (if c < 0 then -c else c) % (10 ^ 36 + 67) * 128 + k + 5
        rw [hz]
        omega
      · generalize hz : (if c < 0 then -c else c) % (10 ^ 36 + 67) = z at e e0
        show (if c < 0 then -c else c) % (10 ^ 36 + 67) * 128 + k + 5 < 10 ^ 39
        rw [hz]
        omega
theorem sc_law_pick : FnScope ["source", "count", "found", "mixed"] ["source", "count"] (defScope s_law_pick) := ⟨rfl, rfl, rfl, by decide +kernel, rfl, by decide +kernel, by decide +kernel⟩
theorem ok_law_pick (D : Def K mg "_law_pick" s_law_pick ["source", "count"]) : Good P w K mg base 1 "_law_pick" ["source", "count"] spPick := by
  refine D.good sc_law_pick (fun vs H Q E h => ?_) (fun f cdv A outer s H vs Q E hr h => ?_)
  · obtain ⟨p, n, m, rfl, _⟩ := h
    rfl
  · obtain ⟨p, n, m, rfl, ⟨a, b, c, hp, a0, b0, b1, c0, c1⟩, hn, m0, m1, q⟩ := h
    refine ⟨_, pss_cons (ps_if (pt_cmpR op_gt (pe_ix ix_list (pv 0) pe_int (fun _ _ => rfl)) pe_int (nomark _))
        (pss_cons (ps_set (i := 2) sc_law_pick.nd rfl (Or.inl rfl) (pe_op op_mod (pe_ix ix_list (pv 0) pe_int (fun _ _ => rfl)) (pv 1)))
        (pss_cons (ps_asg (pe_op op_fdivW (pe_ix ix_list (pv 0) pe_int (fun _ _ => rfl)) (pv 1)) (pg_sub (pv 0) pe_int set_list))
        (pss_one (ps_ret (pv 2))))) pss_nil)
      (pss_cons (ps_asg (pe_op op_add (pe_ix ix_list (pv 0) pe_int (fun _ _ => rfl)) pe_int) (pg_sub (pv 0) pe_int set_list))
      (pss_cons (ps_set (i := 3) sc_law_pick.nd rfl (Or.inl rfl) (pe_op op_mod (pe_op op_pw (pe_op op_add (pe_ix ix_list (pv 0) pe_int (fun _ _ => rfl)) (pe_op op_mul pe_int (pe_ix ix_list (pv 0) pe_int (fun _ _ => rfl)))) pe_int) (pe_op op_add (pe_op op_pw pe_int pe_int) pe_int)))
      (pss_cons (ps_set (i := 3) sc_law_pick.nd rfl (Or.inl rfl) (pe_op op_mod (pe_op op_pw (pe_op op_add (pv 3) (pe_op op_mul pe_int (pe_ix ix_list (pv 0) pe_int (fun _ _ => rfl)))) pe_int) (pe_op op_add (pe_op op_pw pe_int pe_int) pe_int)))
      (pss_one (ps_ret (pe_op op_mod (pe_op op_fdiv (pv 3) pe_int) (pv 1))))))), ?_⟩
    refine ⟨_, rfl, p, _, _, V.int a, rfl, rfl, SqL.of hp, rfl, _, _, rfl, rfl, _, rfl, ?_⟩
    refine ite2 (fun ha => ?_) (fun _ => ?_)
    · have ha : 0 < a := of_decide_eq_true ha
      refine ⟨_, rfl, p, _, _, V.int a, rfl, rfl, SqL.of hp, rfl, _, rfl, a, m, rfl, rfl, (by omega), ?_⟩
      refine ⟨_, rfl, p, _, _, V.int a, rfl, rfl, SqL.of hp, rfl, _, rfl, a, m, rfl, rfl, wide_div (b := 200) (by omega) (by omega) (by decide) (by decide), ?_⟩
      refine ⟨_, rfl, p, _, _, 0, rfl, rfl, hp, rfl, _, rfl, ?_⟩
      refine q _ _ (Int.emod_nonneg _ (by omega)) (Int.emod_lt_of_pos _ (by omega)) ⟨_, b, c, upd_same, ?_, b0, b1, c0, by omega⟩
      exact Int.ediv_nonneg (by omega) (by omega)
    · refine ⟨_, rfl, p, _, _, V.int c, rfl, rfl, SqL.of hp, rfl, _, _, rfl, rfl, ?_⟩
      refine ⟨_, rfl, p, _, _, 2, rfl, rfl, hp, rfl, ?_⟩
      generalize hH : upd H p (.lst ([V.int a, V.int b, V.int c].set 2 (V.int (c + 1)))) = H1
      have h1 : H1 p = some (.lst [.int a, .int b, .int (c + 1)]) := by rw [← hH]; exact upd_same
      have pos1 : (0 : Int) < 10 ^ 38 + 133 := by decide
      have pos2 : (0 : Int) < 10 ^ 37 + 43 := by decide
      refine ⟨_, rfl, p, _, _, V.int b, rfl, rfl, SqL.of h1, rfl, _, rfl, p, _, _, V.int (c + 1), rfl, rfl, SqL.of h1, rfl, _, _, rfl, rfl, Or.inl ⟨by decide, by decide⟩, _, _, rfl, rfl, ?_⟩
      refine ⟨_, 3, rfl, rfl, ⟨by decide, by decide, by omega⟩, 10, 38, rfl, rfl, ⟨by decide, by decide, by decide⟩, _, _, rfl, rfl, _, _, rfl, rfl, pos1, ?_⟩
      generalize hx : ((b + 49979687 * (c + 1)) ^ Int.toNat 3 % (10 ^ Int.toNat 38 + 133)) = x
      have x0 : 0 ≤ x := by rw [← hx]; exact Int.emod_nonneg _ (by decide)
      have x1 : x < 10 ^ 38 + 133 := by rw [← hx]; exact Int.emod_lt_of_pos _ pos1
      refine ⟨_, rfl, _, rfl, p, _, _, V.int (c + 1), rfl, rfl, SqL.of h1, rfl, _, _, rfl, rfl, Or.inl ⟨by decide, by decide⟩, _, _, rfl, rfl, ?_⟩
      refine ⟨_, 3, rfl, rfl, ⟨by decide, by decide, by omega⟩, 10, 37, rfl, rfl, ⟨by decide, by decide, by decide⟩, _, _, rfl, rfl, _, _, rfl, rfl, pos2, ?_⟩
      refine ⟨_, rfl, _, _, rfl, rfl, ⟨by decide, by decide⟩, _, rfl, _, _, rfl, rfl, (show (0 : Int) < m by omega), ?_⟩
      rw [← hH]
      refine q _ _ (Int.emod_nonneg _ (by omega)) (Int.emod_lt_of_pos _ (by omega)) ⟨a, b, c + 1, upd_same, a0, b0, b1, by omega, by omega⟩
theorem sc_law_shuffled : FnScope ["source", "row", "left", "k"] ["source", "row"] (defScope s_law_shuffled) := ⟨rfl, rfl, rfl, by decide +kernel, rfl, by decide +kernel, by decide +kernel⟩
theorem ok_law_shuffled (D : Def K mg "_law_shuffled" s_law_shuffled ["source", "row"]) (T : Bl mg) (G_law_pick : Good P w K mg base 1 "_law_pick" ["source", "count"] spPick) : Good P w K mg base 2 "_law_shuffled" ["source", "row"] (spShuf K) := by
  refine D.good sc_law_shuffled (fun vs H Q E h => ?_) (fun f cdv A outer s H vs Q E hr h => ?_)
  · obtain ⟨s, r, n, row, rfl, _⟩ := h
    rfl
  · obtain ⟨s, r, n, row, rfl, hs, hn, hrow, hz, q⟩ := h
    have hu := hu_of hr
    refine ⟨_, (pss_cons (ps_set (i := 2) sc_law_shuffled.nd rfl (Or.inr rfl) (x_list (K := K) T (pv 1)))
      (pss_one (ps_ret (pe_lc (own := [("k", 3)]) (g := (gName 3)) (tt := tYes) rfl sc_law_shuffled.nd (x_rng T (pa_cons (x_len (K := K) T (pv 1)) pa_nil)) (blkOk_by (N := ["source", "row", "left", "k"]) (sc := (defScope s_law_shuffled)) (by decide +kernel)) (fun _ _ _ _ _ => (pg_name (i := 3) sc_law_shuffled.nd rfl (Or.inl rfl))) (fun _ _ _ _ _ => pts_nil) (fun _ _ _ _ _ => (x_bm (K := K) PySem.F.plainAttrs_list PySem.F.slot_list_pop PySem.F.type_list_pop mt_popAt (pv 2) (pa_cons (pe_fn G_law_pick hr (pa_cons (pv 0) (pa_cons (x_len (K := K) T (pv 2)) pa_nil))) pa_nil))))))), ?_⟩
    have rs : H r ≠ none ∨ True := Or.inr trivial
    refine s_asgL (el_list (ev_var rfl) hrow) (fun pl H1 n1 e1 w1 => ?_)
    have e2 := Ex.refl H1
    refine ⟨_, rfl, r, row, rfl, .inl (ex_l e1 hrow), (row.length : Int), rfl, by omega, by omega, fun Dl hD => ?_⟩
    have E2 := e1
    obtain ⟨xs0, hs0⟩ := hs.at_
    have nsl : s ≠ pl := ne_of_none hs0 n1
    have nDl : pl ≠ Dl := ne_of_none (e2 _ _ w1) hD
    have nDs : s ≠ Dl := ne_of_none (E2 _ _ hs0) hD
    have hDH : H Dl = none := fresh_back E2 hD
    refine lc_range (lo := 0) (n := (row.length : Int).toNat) (fun i H' => KB s H H' ∧ Src H' s (n + i) ∧ ∃ xs acc, H' pl = some (.lst xs) ∧ H' Dl = some (.lst acc) ∧ (acc ++ xs).Perm row ∧ acc.length = i)
      ⟨kb_ex (E2.trans (Ex.new hD)), (hs.ex E2).ex (Ex.new hD), row, [], by rw [upd_ne nDl]; exact e2 _ _ w1, upd_same, List.Perm.refl _, rfl⟩ (fun i H' hi p => ?_) (fun H' p => ?_)
    · obtain ⟨k1, s1, xs, acc, h1, h2, h3, h4⟩ := p
      have hlen := h3.length_eq
      rw [List.length_append] at hlen
      refine ⟨rfl, ?_⟩
      refine ⟨_, rfl, .inl ⟨rfl, _, SqL.of h1⟩, _, rfl, _, rfl, pl, xs, rfl, .inl (SqL.of h1), s, n + i, (xs.length : Int), rfl, s1, by omega, by omega, by omega, fun d ys d0 dm s2 => ?_⟩
      have hd : d.toNat < xs.length := by omega
      refine ⟨pl, xs, d, d.toNat, xs[d.toNat], rfl, rfl, by rw [upd_ne nsl.symm]; exact h1, by omega, by omega, seqIx d0 dm, List.getElem?_eq_getElem hd, acc, by rw [upd_ne nDl.symm, upd_ne nDs.symm]; exact h2, sz_lt (by omega), ?_⟩
      refine ⟨((k1.updN (Or.inr rfl)).updN (Or.inl n1)).updN (Or.inl hDH), ((s2.upd nsl).upd nDs), xs.eraseIdx d.toNat, acc ++ [xs[d.toNat]], by rw [upd_ne nDl, upd_same], upd_same, ?_, by rw [List.length_append, h4]; rfl⟩
      refine List.Perm.trans ?_ h3
      rw [List.append_assoc]
      refine List.Perm.append_left _ ?_
      exact perm_erase hd
    · obtain ⟨k1, s1, xs, acc, h1, h2, h3, h4⟩ := p
      have hlen := h3.length_eq
      rw [List.length_append] at hlen
      have hx : xs = [] := List.length_eq_zero_iff.mp (by omega)
      subst hx
      rw [List.append_nil] at h3
      refine q Dl acc H' hDH k1 (s1.le (by omega)) h2 h3
end
end Vx

set_option Elab.async false
set_option linter.all false
set_option maxRecDepth 100000
set_option maxHeartbeats 4000000
namespace Vx
open PySem PySem.Spec PyProof.Rows L2 Evl
/-! xs[a:] = ys -/
section
variable {prog : Program} {w : World} {A : Around} {E : Value → Shared → Prop} {s : Shared}
theorem bounds_tail {a n : Nat} (h : a ≤ n) : sliceBounds (some (a : Int)) none none n = ((a : Int), (n : Int), 1) := by
  obtain ⟨h1, h2, h3⟩ := slice_bounds (some (a : Int)) none n
  refine Prod.ext (h1.trans ?_) (Prod.ext (h2.trans ?_) h3)
  · simp only [HT.sIx]
    have hn : ¬ ((a : Int) < 0) := by omega
    simp only [hn, if_false]
    omega
  · rfl
theorem tail_store {p q sl : Addr} {old new : Array Value} {m m2 : Nat} {lo : Value} {a : Nat} {R : Unit → Shared → Prop}
    (hp : s.heap.get? p = some { cls := .type "list", data := .seq old m }) (hq : s.heap.get? q = some { cls := .type "list", data := .seq new m2 }) (hpq : p ≠ q)
    (hsl : s.heap.IsSliceOf sl lo .none .none) (hlo : IsPart lo (some (a : Int))) (ha : a ≤ old.size)
    (hz : old.size + new.size ≤ sizeLine) (fin : R () { s with heap := s.heap.update p (Obj.mapSeq fun vs => vs.extract 0 a ++ new ++ vs.extract old.size vs.size) }) :
    wpAny (model prog w) A (setItem (.ref p) (.ref sl) (.ref q)) R E s := by
  have lp : s.heap.IsList p old := PySem.IsL.isList hp
  have lq : s.heap.IsList q new := PySem.IsL.isList hq
  obtain ⟨os, gs, cs, ds⟩ := id hsl
  have isSl : s.TypeIs (.ref sl) "slice" := ⟨os, gs, cs⟩
  have other : Builtin.List.listSameRef (.ref p) (.ref q) = false := by unfold Builtin.List.listSameRef; exact beq_eq_false_iff_ne.mpr hpq
  have up : (max (a : Int) (old.size : Int)).toNat = old.size := by omega
  have hz2 : ((fun vs : Array Value => vs.extract 0 a ++ new ++ vs.extract old.size vs.size) old).size ≤ sizeLine + 1 := by simp only [Array.size_append, Array.size_extract]; omega
  unfold setItem; try with_reducible refine wpAny_holding ?_
  first | refine wpAny_bind (wpAny_pure ?_) | skip
  refine wpAny_bind (wpAny_sequenceKey lp.typeIs (by decide) ?_)
  refine wpAny_bind (wpAny_callSpecial?_slot (name := Str.ofString "__setitem__") lp.typeIs slot_list_setitem (wpAny_call_entry slot_list_setitem lp.typeIs entry_list_setitem ?_ (args_list_setitem _ _ _)))
  show wpAny _ _ (Builtin.List.listSubscript? (.ref sl) >>= _) _ _ s; refine wpAny_bind ?_
  unfold Builtin.List.listSubscript?; refine wpAny_bind (wpAny_specialOf isSl slice_no_index ?_)
  simp only [Option.isNone_none, if_true]; refine wpAny_pure ?_
  show wpAny _ _ (typeOf (.ref sl) >>= _) _ _ s; refine wpAny_bind (wpAny_typeOf isSl ?_)
  refine PySem.W.KFB.if_not (by decide) ?_; rw [listSliceParts_eq]
  refine wpAny_bind (wpAny_bind (wpAny_field gs ds (x := .none) rfl (wpAny_bind (wpAny_listPart .none ?_))))
  rw [if_neg (show ¬ ((rawPart none == rawInt 0) = true) from Bool.false_ne_true)]
  refine wpAny_bind (wpAny_field gs ds (x := lo) rfl (wpAny_bind (wpAny_listPart hlo ?_)))
  refine wpAny_bind (wpAny_field gs ds (x := .none) rfl (wpAny_bind (wpAny_listPart .none (wpAny_pure ?_))))
  first
    | simp only [other, Bool.false_eq_true, if_false]
    | refine PySem.W.KFB.if_not other ?_
    | (dsimp only; rw [if_neg (by rw [other]; exact Bool.false_ne_true)])
  refine wpAny_bind (m := Builtin.List.listAllItems (.ref q) "must assign iterable to extended slice") ?_
  unfold Builtin.List.listAllItems; refine wpAny_bind (wpAny_typeOf lq.typeIs ?_)
  refine PySem.W.KFB.if_so (by decide) ?_; unfold Builtin.List.listItems
  refine wpAny_bind (wpAny_seqItems hq rfl (wpAny_pure ?_)); refine wpAny_bind (wpAny_bind (wpAny_seqItems hp rfl (wpAny_pure ?_)))
  refine wpAny_bind (wpAny_of_eq ((sliceIndices_raw (some (a : Int)) none none old.size (by simp)).trans (congrArg (pure : Int × Int × Int → Sem (Int × Int × Int)) (bounds_tail ha))) ?_)
  show wpAny _ _ (if ((1 : Int) == 1) = true then _ else _) _ _ s; rw [if_pos (by decide)]
  refine wpAny_bind (wpAny_rule ?_)
  first
    | simp only [notLongL hz, Bool.false_eq_true, if_false]
    | refine PySem.W.KFB.if_not (notLongL hz) ?_
  first | refine wpAny_bind (wpAny_pure ?_) | skip
  show wpAny _ _ (updateSeq p (fun vs => vs.extract 0 ((a : Int)).toNat ++ new ++ vs.extract (max (a : Int) (old.size : Int)).toNat vs.size) >>= _) _ _ s
  rw [up, Int.toNat_natCast]
  refine wpAny_bind (wpAny_updateSeq (hz := Nat.le_trans (Nat.le_add_right _ _) hz) (_hz' := hz2) hp rfl ?_); refine wpAny_bind (wpAny_letGo ?_)
  first
    | exact wpAny_bind (wpAny_pure (wpAny_pure ⟨.none, rfl, wpAny_pure fin⟩))
    | exact wpAny_pure ⟨.none, rfl, wpAny_pure fin⟩
end
section
variable {X : Cx}
/-- o[lo:] = v, both lists -/
def gTail (to : TE) (tl : TO) : TG := fun v σ H Q => to σ H fun o H1 => tl σ H1 fun l H2 => ∃ p q xs ys a, o = .ref p ∧ v = .ref q ∧ l = some ((a : Nat) : Int) ∧ p ≠ q ∧ H2 p = some (.lst xs) ∧ H2 q = some (.lst ys) ∧ a ≤ xs.length ∧ xs.length + ys.length ≤ sizeLine ∧ Q σ (upd H2 p (.lst (xs.take a ++ ys)))
theorem pg_tail {o : Expr} {lo : Option Expr} {to : TE} {tl : TO} {pos p2 : Pos} (ho : PE X o to) (hl : PO X lo tl)
    (ha : ∀ v, assign (.Subscript o (.Slice lo none none p2) pos) X.env v = (do
      let x ← holding [v] (eval o X.env)
      let i ← holding [v, x] (eval (.Slice lo none none p2) X.env)
      standAt pos
      holding [v, x, i] (setItem x i v)
      release [i, v, x] []) := by intro _; rfl) : PG X (.Subscript o (.Slice lo none none p2) pos) (gTail to tl) := by
  refine ⟨fun pins s σ H v u Q I r h => ?_⟩
  rw [ha]
  refine wpAny_bind (wpAny_holding (thn (ho.run pins s σ H _ I h) fun ov s1 ⟨x, H1, I1, r1, q1⟩ => ?_))
  refine wpAny_bind (wpAny_holding (wpAny_Slice (thn (hl.run pins s1 σ H1 _ I1 q1) fun vl s2 ⟨l, H2, I2, pl, q2⟩ => ?_)))
  rw [evalPart_none]; refine wpAny_pure (wpAny_pure ?_)
  have I4 : Inv X pins σ H2 { s2 with heap := s2.heap.push { cls := .type "slice", data := .fields #[vl, .none, .none] } } := I2.kept (t' := s2.toks) fun b ob q => Heap.get?_push_of_some _ q
  obtain ⟨p, q, xs, ys, a, rfl, rfl, rfl, hpq, hp, hq, hle, hz, fin⟩ := q2
  cases r1
  cases r
  refine wpAny_bind (wpAny_standAt (wpAny_bind (wpAny_holding ?_)))
  obtain ⟨z, its, n, rv, hlen, e⟩ := I4.lstM hp
  obtain ⟨z2, its2, n2, rv2, hlen2, e2⟩ := I4.lstM hq
  refine tail_store (a := a) e e2 hpq (Heap.IsSliceOf.new ..) pl (by rw [List.size_toArray]; omega) (by rw [List.size_toArray, List.size_toArray]; omega) ?_
  refine wpAny_release ⟨σ, _, ?_, fin⟩
  refine I4.lset (its' := its.take a ++ its2) (t' := s2.toks) hp e ?_ (Vals.append (rv.take _) rv2) ?_
  · have h1 := splice_eq its its2 a its.toArray.size
    have h2 : its.drop its.toArray.size = [] := by rw [List.size_toArray]; exact List.drop_length
    rw [h2, List.append_nil] at h1
    exact h1
  · rw [List.length_append, List.length_take]
    omega
end
end Vx

set_option Elab.async false
set_option linter.all false
set_option maxRecDepth 100000
set_option maxHeartbeats 4000000
namespace Vx
open PySem PySem.Spec PyProof.Rows L2 Evl
/-! readings that draw from a source at s: B is what is known without it -/
theorem KB.fresh {s b : Addr} {H H' : Hp} (k : KB s H H') (h : ∃ xs, H' s = some (.lst xs)) (n : H' b = none) : H b = none := by
  obtain ⟨xs, h⟩ := h
  cases q : H b with
  | none => rfl
  | some o =>
    have nb : b ≠ s := fun z => by rw [z, h] at n; cases n
    rw [k b o nb q] at n
    cases n
def hid (s : Addr) (H : Hp) : Hp := fun b => if b = s then none else H b
theorem hid_s (s : Addr) (H : Hp) : hid s H s = none := if_pos rfl
theorem hid_ne {s b : Addr} {H : Hp} (h : b ≠ s) : hid s H b = H b := if_neg h
theorem hid_ex (s : Addr) (H : Hp) : Ex (hid s H) H := fun b o h => by
  unfold hid at h
  split at h
  · cases h
  · exact h
theorem KB.hid {s : Addr} {H H' : Hp} (k : KB s H H') : Ex (hid s H) H' := fun b o h => by
  unfold Vx.hid at h
  split at h
  · cases h
  · exact k b o (by assumption) h
theorem kb_of_hid {s : Addr} {H H' : Hp} (k : Ex (hid s H) H') : KB s H H' := fun b o n h => k b o (by rw [hid_ne n]; exact h)
def EvK (s : Addr) (c : Nat) (te : TE) (σ : L2.St) (B : Hp) (P : V → Prop) : Prop := ∀ (H1 : Hp) (n : Nat), Ex B H1 → Src H1 s n → n + c ≤ 1000000000 → ∀ Q : VK, (∀ v H2, KB s H1 H2 → Src H2 s (n + c) → P v → Q v H2) → te σ H1 Q
def EvKA (s : Addr) (c : Nat) (ta : TA) (σ : L2.St) (B : Hp) (Ps : List (V → Prop)) : Prop := ∀ (H1 : Hp) (n : Nat), Ex B H1 → Src H1 s n → n + c ≤ 1000000000 → ∀ Q : List V → Hp → Prop, (∀ vs H2, KB s H1 H2 → Src H2 s (n + c) → Paired (fun v P => P v) vs Ps → Q vs H2) → ta σ H1 Q
def EvKL (s : Addr) (c : Nat) (te : TE) (σ : L2.St) (B : Hp) (P : List V → Prop) : Prop := ∀ (H1 : Hp) (n : Nat), Ex B H1 → Src H1 s n → n + c ≤ 1000000000 → ∀ Q : VK, (∀ p vs H2, H1 p = none → KB s H1 H2 → Src H2 s (n + c) → H2 p = some (.lst vs) → P vs → Q (.ref p) H2) → te σ H1 Q
section
variable {K : PySem.W.Frag} {σ : L2.St} {B : Hp} {s : Addr} {c d : Nat} {te tf : TE} {ta : TA} {P P' : V → Prop} {Ps : List (V → Prop)}
theorem ek_of {v : V} (h : Ev te σ B v) (hp : P v) : EvK s 0 te σ B P := fun H1 n e S _ Q q => h H1 e _ fun H2 e2 => q v H2 (kb_ex e2) (S.ex e2) hp
theorem EvK.imp (h : EvK s c te σ B P) (f : ∀ v, P v → P' v) : EvK s c te σ B P' := fun H1 n e S b Q q => h H1 n e S b Q fun v H2 k S2 p => q v H2 k S2 (f v p)
theorem ek_pick {j : Nat} {m : Int} (hs : B s = none) (hj : σ[j]? = some (some (.ref s))) (he : EvK s c te σ B (fun v => v = .int m)) (h1 : 1 ≤ m) (h2 : m ≤ 10 ^ 60) :
    EvK s (c + 1) (tCall spPick [] E0 (tCons (tVar j) (tCons te tNil))) σ B (fun v => ∃ r : Int, v = .int r ∧ 0 ≤ r ∧ r < m) := fun H1 n e S b Q q =>
  ⟨.ref s, hj, he H1 n e S (by omega) _ fun v H2 k S2 p => by
    subst p
    refine ⟨s, n + c, m, rfl, S2, by omega, h1, h2, fun r xs r0 r1 S3 => q _ _ (k.trans KB.upd) S3 ⟨r, rfl, r0, r1⟩⟩⟩
theorem ek_op {r : R2} (hs : B s = none) (ha : EvK s c te σ B P) (hb : EvK s d tf σ B P') {P2 : V → Prop} (hr : ∀ x y, P x → P' y → ∃ z, P2 z ∧ RV r x y B z) : EvK s (c + d) (tOp r te tf) σ B P2 := fun H1 n e S b Q q =>
  ha H1 n e S (by omega) _ fun x H2 k S2 p => hb H2 (n + c) (k.base e hs) S2 (by omega) _ fun y H3 k3 S3 p' => by
    obtain ⟨z, pz, hz⟩ := hr x y p p'
    exact hz H3 (k3.base (k.base e hs) hs) _ fun H4 e4 => q z H4 ((k.trans k3).trans (kb_ex e4)) ((S3.ex e4).le (by omega)) pz
theorem eka_nil : EvKA s 0 tNil σ B [] := fun H1 n e S b Q q => q [] H1 (KB.refl _ _) S .nil
theorem eka_cons (hs : B s = none) (h : EvK s c te σ B P) (hr : EvKA s d ta σ B Ps) : EvKA s (c + d) (tCons te ta) σ B (P :: Ps) := fun H1 n e S b Q q =>
  h H1 n e S (by omega) _ fun x H2 k S2 p => hr H2 (n + c) (k.base e hs) S2 (by omega) _ fun vs H3 k3 S3 ps => q _ H3 (k.trans k3) (S3.le (by omega)) (.cons p ps)
theorem ekl_lst (hs : B s = none) (h : EvKA s c ta σ B Ps) (hz : Ps.length ≤ 100000) : EvKL s c (tLst ta) σ B (fun vs => Paired (fun v P => P v) vs Ps) := fun H1 n e S b Q q =>
  h H1 n e S b _ fun vs H2 k S2 ps => ⟨sz_of (by rw [Paired.length ps]; exact hz), fun p hp => by
    obtain ⟨xs, h2⟩ := S2.at_
    have np : p ≠ s := fun z => by rw [z, h2] at hp; cases hp
    exact q p vs _ (k.fresh ⟨xs, h2⟩ hp) (k.trans (kb_ex (Ex.new hp))) (S2.upd np.symm) upd_same ps⟩
/-- a new list at an int -/
theorem ek_ixL {PL : List V → Prop} (hs : B s = none) (ha : EvKL s c te σ B PL) (hb : EvK s d tf σ B P') {P2 : V → Prop} (hr : ∀ xs y, PL xs → P' y → ∃ i z, y = .int i ∧ atI xs i = some z ∧ P2 z) : EvK s (c + d) (tOp (rIxL K) te tf) σ B P2 := fun H1 n e S b Q q =>
  ha H1 n e S (by omega) _ fun p xs H2 np k S2 h2 pl => hb H2 (n + c) (k.base e hs) S2 (by omega) _ fun y H3 k3 S3 p' => by
    obtain ⟨i, z, rfl, hz, pz⟩ := hr xs y pl p'
    obtain ⟨ys, h1⟩ := S.at_
    have ne : p ≠ s := fun z => by rw [z, h1] at np; cases np
    exact ⟨p, xs, i, z, rfl, rfl, sq_of (k3 _ _ ne h2), hz, q z H3 (k.trans k3) (S3.le (by omega)) pz⟩
end
section
variable {D : Ends} {te : TE} {σ : L2.St} {H : Hp} {s : Addr} {c n : Nat} {P : V → Prop} {PL : List V → Prop} {i j : Nat} {ta : TA} {tz : TS}
/-- i = e -/
theorem sk_asg (hs : Src H s n) (h : EvK s c te σ (hid s H) P) (hn : n + c ≤ 1000000000) (k : ∀ v H1, KB s H H1 → Src H1 s (n + c) → P v → D.nx (σ.set i (some v)) H1) : tAsg te (gName i) D σ H :=
  h H n (hid_ex s H) hs hn _ fun v H1 kb S p => k v H1 kb S p
theorem sk_asgL (hs : Src H s n) (h : EvKL s c te σ (hid s H) PL) (hn : n + c ≤ 1000000000) (k : ∀ p vs H1, H p = none → KB s H H1 → Src H1 s (n + c) → H1 p = some (.lst vs) → PL vs → D.nx (σ.set i (some (.ref p))) H1) : tAsg te (gName i) D σ H :=
  h H n (hid_ex s H) hs hn _ fun p vs H1 np kb S h1 pl => k p vs H1 np kb S h1 pl
/-- i, j = e, f -/
theorem sk_par {P1 P2 : V → Prop} (hs : Src H s n) (h : EvKA s c ta σ (hid s H) [P1, P2]) (hn : n + c ≤ 1000000000) (k : ∀ v u H1, KB s H H1 → Src H1 s (n + c) → P1 v → P2 u → D.nx ((σ.set i (some v)).set j (some u)) H1) : tPar i j ta D σ H :=
  h H n (hid_ex s H) hs hn _ fun vs H1 kb S ps => by
    cases ps with
    | @cons v _ us _ p1 zr =>
      cases zr with
      | @cons u _ us2 _ p2 zr2 =>
        cases zr2
        exact ⟨v, u, rfl, k v u H1 kb S p1 p2⟩
end
/-! words -/
def IsNm (z : Str) : Prop := 1 ≤ z.length ∧ z.length ≤ 8 ∧ ∀ c ∈ z.cps.toList, 97 ≤ c ∧ c ≤ 122
def wd (st k : Nat) : List Nat := match st with
  | 0 => [97 + k / 26, 97 + k % 26]
  | 1 => [97, 98, 99, 100, 101, 102, 97 + k / 26, 97 + k % 26]
  | _ => if k ≤ 25 then [97 + k % 26] else [97 + (k / 26 - 1), 97 + k % 26]
def wdS (st k : Nat) : Str := ⟨(wd st k).toArray⟩
theorem wdS_cps (st k : Nat) : (wdS st k).cps.toList = wd st k := rfl
theorem wd_inj {st a b : Nat} (h : wd st a = wd st b) : a = b := by
  unfold wd at h
  split at h
  · simp only [List.cons.injEq, and_true] at h
    omega
  · simp only [List.cons.injEq, and_true, true_and] at h
    omega
  · split at h <;> split at h <;> simp only [List.cons.injEq, and_true, reduceCtorEq, and_false] at h <;> omega
theorem wdS_inj {st a b : Nat} (h : wdS st a = wdS st b) : a = b := wd_inj (by rw [← wdS_cps, ← wdS_cps, h])
theorem wdS_len (st k : Nat) : (wdS st k).length = 1 ∨ (wdS st k).length = 2 ∨ (wdS st k).length = 8 := by
  show (wd st k).toArray.size = 1 ∨ (wd st k).toArray.size = 2 ∨ (wd st k).toArray.size = 8
  rw [List.size_toArray]
  unfold wd
  split
  · exact Or.inr (Or.inl rfl)
  · exact Or.inr (Or.inr rfl)
  · split
    · exact Or.inl rfl
    · exact Or.inr (Or.inl rfl)
theorem wdS_nm {st k : Nat} (hk : k < 676) : IsNm (wdS st k) := by
  refine ⟨by rcases wdS_len st k with h | h | h <;> omega, by rcases wdS_len st k with h | h | h <;> omega, ?_⟩
  intro c hc
  rw [wdS_cps] at hc
  unfold wd at hc
  split at hc
  · simp only [List.mem_cons, List.mem_nil_iff, or_false] at hc
    omega
  · simp only [List.mem_cons, List.mem_nil_iff, or_false] at hc
    omega
  · split at hc <;> simp only [List.mem_cons, List.mem_nil_iff, or_false] at hc <;> omega
def wds (st m : Nat) : List Str := (List.range m).map (wdS st)
theorem wds_len (st m : Nat) : (wds st m).length = m := by
  unfold wds
  rw [List.length_map, List.length_range]
theorem wds_succ (st m : Nat) : wds st (m + 1) = wds st m ++ [wdS st m] := by
  unfold wds
  rw [List.range_succ, List.map_append]
  rfl
theorem wds_nd (st m : Nat) : (wds st m).Nodup := by
  unfold wds List.Nodup
  rw [List.pairwise_map]
  refine List.Pairwise.imp ?_ (List.pairwise_lt_range (n := m))
  intro a b h e
  have := wdS_inj e
  omega
theorem wds_nm {st m : Nat} (hm : m ≤ 676) : ∀ z ∈ wds st m, IsNm z := by
  intro z hz
  unfold wds at hz
  obtain ⟨k, hk, rfl⟩ := List.mem_map.mp hz
  exact wdS_nm (by have := List.mem_range.mp hk; omega)
/-- a word of eight letters that begins with a, or a short one -/
def Wf (z : Str) : Prop := (z.cps.toList.length = 8 ∧ z.cps.toList.head? = some 97) ∨ z.cps.toList.length ≤ 5
instance (z : Str) : Decidable (Wf z) := by unfold Wf; infer_instance
theorem wdS_nq {st k : Nat} : Wf (wdS st k) := by
  unfold Wf
  rw [wdS_cps]
  unfold wd
  split
  · right
    simp
  · left
    simp
  · right
    split <;> simp
theorem wds_nq {st m : Nat} : ∀ z ∈ wds st m, Wf z := by
  intro z hz
  unfold wds at hz
  obtain ⟨k, hk, rfl⟩ := List.mem_map.mp hz
  exact wdS_nq
def kw4 : List Str := ["steal", "push", "size", "pop"]
theorem wds_kw (st m a : Nat) : ((wds st m).take a ++ kw4).Nodup := by
  refine List.nodup_append.mpr ⟨(List.take_sublist _ _).nodup (wds_nd st m), by decide +kernel, ?_⟩
  intro x hx y hy e
  subst e
  have h1 := List.mem_of_mem_take hx
  unfold wds at h1
  obtain ⟨k, _, rfl⟩ := List.mem_map.mp h1
  have h2 : ∀ z ∈ kw4, z.length = 3 ∨ z.length = 4 ∨ z.length = 5 := by decide +kernel
  have := h2 _ hy
  rcases wdS_len st k with h | h | h <;> omega
theorem kw_nq : ∀ z ∈ kw4, Wf z := by decide +kernel
theorem kw_nm : ∀ z ∈ kw4, IsNm z := by
  have h2 : ∀ z ∈ kw4, 1 ≤ z.length ∧ z.length ≤ 8 ∧ ∀ c ∈ z.cps.toList, 97 ≤ c ∧ c ≤ 122 := by decide +kernel
  exact h2
end Vx
namespace Vx
open PySem PySem.Spec PyProof.Rows L2 Evl
/-! tests that draw -/
def EvKT (s : Addr) (c : Nat) (t : TT) (σ : L2.St) (B : Hp) (P : Bool → Prop) : Prop := ∀ (H1 : Hp) (n : Nat), Ex B H1 → Src H1 s n → n + c ≤ 1000000000 → ∀ Q : Bool → Hp → Prop, (∀ b H2, KB s H1 H2 → Src H2 s (n + c) → P b → Q b H2) → t σ H1 Q
section
variable {σ : L2.St} {B : Hp} {s : Addr} {c d : Nat} {te : TE} {t u : TT} {P : V → Prop} {P1 P2 : Bool → Prop}
theorem ekt_test (h : EvK s c te σ B P) (hp : ∀ v, P v → ∃ b, v = .bl b ∧ P1 b) : EvKT s c (tTest te) σ B P1 := fun H1 n e S b Q q => h H1 n e S b _ fun v H2 k S2 p => by
  obtain ⟨b, rfl, pb⟩ := hp v p
  exact ⟨b, rfl, q b H2 k S2 pb⟩
theorem ekt_and {a : Bool} (h1 : EvT t σ B a) (h2 : a = true → EvKT s c u σ B P1) : EvKT s c (tAnd t u) σ B (fun b => b = true → a = true ∧ P1 true) := fun H1 n e S b Q q => h1 H1 e _ fun H2 e2 => by
  cases a with
  | true =>
    show u σ H2 Q
    exact h2 rfl H2 n (e.trans e2) (S.ex e2) b Q fun b H3 k3 S3 p => q b H3 ((kb_ex e2).trans k3) S3 fun z => ⟨rfl, by rw [← z]; exact p⟩
  | false =>
    show Q false H2
    exact q false H2 (kb_ex e2) ((S.ex e2).le (by omega)) (fun z => nomatch z)
theorem sk_if {D : Ends} {H : Hp} {n : Nat} {tu tw : TS} (hs : Src H s n) (h : EvKT s c t σ (hid s H) P1) (hn : n + c ≤ 1000000000) (h1 : ∀ H1, KB s H H1 → Src H1 s (n + c) → P1 true → tu D σ H1) (h2 : ∀ H1, KB s H H1 → Src H1 s (n + c) → P1 false → tw D σ H1) : tIfS t tu tw D σ H :=
  h H n (hid_ex s H) hs hn _ fun b H1 k S p => by
    cases b with
    | true =>
      show tu D σ H1
      exact h1 H1 k S p
    | false =>
      show tw D σ H1
      exact h2 H1 k S p
theorem rv_addS {H : Hp} {i j : Str} (h : i.length + j.length ≤ 100000) : RV (fun x y H Q => ∃ i j, x = V.str i ∧ y = V.str j ∧ i.length + j.length ≤ sizeLine ∧ Q (.str (i ++ j)) H) (.str i) (.str j) H (.str (i ++ j)) := fun H1 _ _ q => ⟨i, j, rfl, rfl, sz_of h, q H1 (Ex.refl H1)⟩
end
theorem strcat (a b : List Nat) : (⟨a.toArray⟩ : Str) ++ ⟨b.toArray⟩ = ⟨(a ++ b).toArray⟩ := by
  show Str.mk (a.toArray ++ b.toArray) = _
  simp
def abc : Str := "abcdefghijklmnopqrstuvwxyz"
theorem abc_cps : abc.cps.toList = (List.range 26).map (97 + ·) := by decide +kernel
theorem abc_at {i : Int} {j : Nat} (hj : j < 26) (e : i = (j : Int)) : atI abc.cps.toList i = some (97 + j) := by
  rw [e]
  refine atI_nat ?_
  rw [abc_cps, List.getElem?_map, List.getElem?_range hj]
  rfl
end Vx
namespace Vx
open PySem PySem.Spec PyProof.Rows L2 Evl
theorem Src.kb {H H' : Hp} {s p : Addr} {n : Nat} (h : Src H s n) (k : KB p H H') (e : s ≠ p) : Src H' s n := by
  obtain ⟨a, b, c, h1, h2⟩ := h
  exact ⟨a, b, c, k s _ e h1, h2⟩
end Vx

set_option Elab.async false
set_option linter.all false
set_option maxRecDepth 100000
set_option maxHeartbeats 4000000
namespace Vx
open PySem PySem.Spec PyProof.Rows L2 Evl
def spWords (K : PySem.W.Frag) : Sp := fun vs H Q _ => ∃ (s : Addr) (n m : Nat), vs = [.ref s, .int (m : Int)] ∧ Src H s n ∧ n + 2 ≤ 1000000000 ∧ m ≤ 676 ∧
  ∀ p (ws : List Str) H', H p = none → KB s H H' → Src H' s (n + 2) → H' p = some (.lst (ws.map V.str)) → ws.length = m → ws.Nodup → (∀ z ∈ ws, IsNm z ∧ Wf z) → Q (.ref p) H'
section
variable {P : Program} {w : World} {K : PySem.W.Frag} {mg : Str → Option Value} {base : Heap}
theorem sc_law_words : FnScope ["source", "size", "letters", "style", "found", "k", "short"] ["source", "size"] (defScope s_law_words) := ⟨rfl, rfl, rfl, by decide +kernel, rfl, by decide +kernel, by decide +kernel⟩
theorem ok_law_words (D : Def K mg "_law_words" s_law_words ["source", "size"]) (T : Bl mg) (G_law_pick : Good P w K mg base 1 "_law_pick" ["source", "count"] spPick) : Good P w K mg base 2 "_law_words" ["source", "size"] (spWords K) := by
  refine D.good sc_law_words (fun vs H Q E h => ?_) (fun f cdv A outer s H vs Q E hr h => ?_)
  · obtain ⟨s, n, m, rfl, _⟩ := h
    rfl
  · obtain ⟨s, n, m, rfl, hs, hn, hm, q⟩ := h
    have hu := hu_of hr
    refine ⟨_, (pss_cons (ps_set (i := 2) sc_law_words.nd rfl (Or.inl rfl) pe_str)
      (pss_cons (ps_set (i := 3) sc_law_words.nd rfl (Or.inl rfl) (pe_fn G_law_pick hr (pa_cons (pv 0) (pa_cons pe_int pa_nil))))
      (pss_cons (ps_set (i := 4) sc_law_words.nd rfl (Or.inl rfl) (pe_lst pa_nil))
      (pss_cons (ps_for PassesOwn.never rfl (x_rng T (pa_cons (pv 1) pa_nil)) (pg_name (i := 5) sc_law_words.nd rfl (Or.inl rfl)) (pss_cons (ps_set (i := 6) sc_law_words.nd rfl (Or.inl rfl) (pe_ix ix_str (pv 2) (pe_op op_mod (pv 5) pe_int) (fun _ _ => rfl)))
      (pss_cons (ps_if (pt_cmpR op_gt (pv 5) pe_int (nomark _)) (pss_one (ps_set (i := 6) sc_law_words.nd rfl (Or.inl rfl) (pe_op op_add_str (pe_ix ix_str (pv 2) (pe_op op_sub (pe_op op_fdiv (pv 5) pe_int) pe_int) (fun _ _ => rfl)) (pv 6)))) pss_nil)
      (pss_one (ps_expr (x_bm (K := K) PySem.F.plainAttrs_list PySem.F.slot_list_append PySem.F.type_list_append mt_append (pv 4) (pa_cons (x_ixl (K := K) (pe_lst (pa_cons (pe_op op_add_str (pe_ix ix_str (pv 2) (pe_op op_fdiv (pv 5) pe_int) (fun _ _ => rfl)) (pe_ix ix_str (pv 2) (pe_op op_mod (pv 5) pe_int) (fun _ _ => rfl))) (pa_cons (pe_op op_add_str (pe_op op_add_str pe_str (pe_ix ix_str (pv 2) (pe_op op_fdiv (pv 5) pe_int) (fun _ _ => rfl))) (pe_ix ix_str (pv 2) (pe_op op_mod (pv 5) pe_int) (fun _ _ => rfl))) (pa_cons (pv 6) pa_nil)))) (pv 3)) pa_nil)))))))
      (pss_cons (ps_if (pw_and (pt_cmpR op_gt (pv 1) pe_int (nomark _)) (pw_and1 (pt_cmpR op_eq (pe_fn G_law_pick hr (pa_cons (pv 0) (pa_cons pe_int pa_nil))) pe_int (nomark _)))).pt (pss_one (ps_asg (pe_lst (pa_cons pe_str (pa_cons pe_str (pa_cons pe_str (pa_cons pe_str pa_nil))))) (pg_tail (pv 4) (po_some (pe_op op_sub (pv 1) pe_int))))) pss_nil)
      (pss_one (ps_ret (pv 4)))))))), ?_⟩
    have ab : abc.length ≤ 100000 := by decide +kernel
    have le1 : ∀ a : Nat, (⟨#[a]⟩ : Str).length = 1 := fun _ => rfl
    refine q_asg (v := .str abc) ev_c fun H1 e1 => ?_
    refine sk_asg (c := 1) (hs.ex e1) (ek_pick (m := 3) (hid_s _ _) rfl (ek_of ev_c rfl) (by decide) (by decide)) (by omega) fun v H2 k2 S2 p2 => ?_
    obtain ⟨r, rfl, r0, r1⟩ := p2
    obtain ⟨st, rfl⟩ : ∃ st : Nat, r = (st : Int) := ⟨r.toNat, by omega⟩
    refine q_asgL (el_lst ea_nil (by decide)) fun pf H3 n3 e3 h3 => ?_
    have K3 : KB s H H3 := (kb_ex e1).trans (k2.trans (kb_ex e3))
    have S3 := S2.ex e3
    obtain ⟨xs2, hs2⟩ := S2.at_
    have nsf : s ≠ pf := ne_of_none hs2 n3
    have nH : H pf = none := fresh_back e1 (k2.fresh ⟨_, hs2⟩ n3)
    refine q_forR1 (ea_cons (ev_var rfl) ea_nil) ⟨by omega, by omega⟩ (fun i σ' H' => (∃ a b, σ' = [some (.ref s), some (.int m), some (.str abc), some (.int st), some (.ref pf), a, b]) ∧ KB pf H3 H' ∧ H' pf = some (.lst ((wds st i).map V.str)))
      (fun H4 e4 => ⟨⟨_, _, rfl⟩, kb_ex e4, e4 _ _ h3⟩) (fun i σ' H' hi p => ?_) (fun σ' H' p => ?_)
    · obtain ⟨⟨a, b, rfl⟩, kb, hf⟩ := p
      have hi : i < m := by omega
      have hdiv : i / 26 < 26 := by omega
      refine q_asg (v := .str ⟨#[97 + i % 26]⟩) (ev_op (ev_var rfl) (ev_op (ev_var rfl) ev_c (rv_I (by decide))) (rv_ixS ab (abc_at (by omega) (by omega)))) fun H4 e4 => ?_
      refine q_ifAsg (b := decide (25 < (i : Int))) (v := .str (wdS 2 i)) (et_test (ev_op (ev_var rfl) ev_c rv_I0)) (fun hb => ?_) (fun hb => ?_) fun H5 e5 => ?_
      · have hb : 25 < (i : Int) := of_decide_eq_true hb
        refine ev_is (ev_op (ev_op (ev_var rfl) (ev_op (ev_op (ev_var rfl) ev_c (rv_I ⟨by decide, by decide⟩)) ev_c rv_I0) (rv_ixS ab (abc_at (j := i / 26 - 1) (by omega) (by omega)))) (ev_var rfl) (rv_addS (by rw [le1, le1]; decide))) ?_
        rw [strcat [_] [_]]
        unfold wdS wd
        rw [if_neg (by omega)]
        rfl
      · have hb : ¬ 25 < (i : Int) := of_decide_eq_false hb
        have e : wdS 2 i = ⟨#[97 + i % 26]⟩ := by
          unfold wdS wd
          rw [if_pos (by omega)]
          rfl
        rw [e]
        rfl
      · have E5 := e4.trans e5
        have l26 : ∀ {σ : L2.St} {H : Hp}, σ[2]? = some (some (.str abc)) → σ[5]? = some (some (.int (i : Int))) → Ev (tOp rIxS (tVar 2) (tOp (rI CDiv fun i j => .int (i / j)) (tVar 5) (tC (.int 26)))) σ H (.str ⟨#[97 + i / 26]⟩) :=
          fun h1 h2 => ev_op (ev_var h1) (ev_op (ev_var h2) ev_c (rv_I ⟨by decide, by decide⟩)) (rv_ixS ab (abc_at hdiv (by omega)))
        have m26 : ∀ {σ : L2.St} {H : Hp}, σ[2]? = some (some (.str abc)) → σ[5]? = some (some (.int (i : Int))) → Ev (tOp rIxS (tVar 2) (tOp (rI (fun _ j => 0 < j) fun i j => .int (i % j)) (tVar 5) (tC (.int 26)))) σ H (.str ⟨#[97 + i % 26]⟩) :=
          fun h1 h2 => ev_op (ev_var h1) (ev_op (ev_var h2) ev_c (rv_I (by decide))) (rv_ixS ab (abc_at (by omega) (by omega)))
        have hz : ((wds st i).map V.str).length < 100000 := by rw [List.length_map, wds_len]; omega
        refine s_app (v := .str (wdS st i)) (E5 _ _ hf) (ev_var rfl) ?_ hz fun H6 e6 => ⟨⟨_, _, rfl⟩, (kb.trans (kb_ex (E5.trans e6))).trans KB.upd, ?_⟩
        · refine ev_opL1 (xs := [.str (wdS 0 i), .str (wdS 1 i), .str (wdS 2 i)]) (el_lst (ea_cons (ev_is (ev_op (l26 rfl rfl) (m26 rfl rfl) (rv_addS (by rw [le1, le1]; decide))) ?_) (ea_cons (ev_is (ev_op (ev_op ev_c (l26 rfl rfl) (rv_addS (by rw [le1]; decide +kernel))) (m26 rfl rfl) (rv_addS ?_)) ?_) (ea_cons (ev_var rfl) ea_nil))) (by show 3 ≤ 100000; decide)) (fun _ _ => ev_var rfl) fun p H7 h7 _ => rv_ixL (sq_of h7) ?_
          · rw [strcat [_] [_]]
            rfl
          · have : (("abcdef" : Str) ++ (⟨#[97 + i / 26]⟩ : Str)).length = 7 := by
              rw [PySem.Str.length_append, le1]
              decide +kernel
            rw [this, le1]
            decide
          · have e6 : ("abcdef" : Str) = ⟨[97, 98, 99, 100, 101, 102].toArray⟩ := by decide +kernel
            rw [e6, strcat _ [_], strcat _ [_]]
            rfl
          · refine atI_nat ?_
            rcases st with _ | _ | _ | st
            · rfl
            · rfl
            · rfl
            · omega
        · rw [wds_succ, List.map_append]
          exact upd_same
    · obtain ⟨⟨a, b, rfl⟩, kb, hf⟩ := p
      rw [Int.toNat_natCast] at hf
      have S4 : Src H' s (n + 1) := S3.kb kb nsf
      have K4 : KB s H H' := fun c o nc z => kb c o (ne_of_none z nH) (K3 c o nc z)
      refine sk_if (c := 1) (P1 := fun b => b = true → 7 < m) S4 ?_ (by omega) (fun H5 k5 S5 h7 => ?_) (fun H5 k5 S5 _ => ?_)
      · intro H1 n1 e1 S1 b1 Q q1
        exact ekt_and (P1 := fun _ => True) (et_test (ev_op (ev_var rfl) ev_c rv_I0)) (fun _ => ekt_test (ek_op (c := 1) (d := 0) (hid_s _ _) (ek_pick (m := 2) (hid_s _ _) rfl (ek_of ev_c rfl) (by decide) (by decide)) (ek_of (P := fun v => v = .int 0) ev_c rfl) (P2 := fun v => ∃ b, v = .bl b) (fun x y hx hy => by
          obtain ⟨r, rfl, _⟩ := hx
          subst hy
          exact ⟨_, ⟨_, rfl⟩, rv_eq rfl⟩)) (fun v hv => by
          obtain ⟨b, rfl⟩ := hv
          exact ⟨b, rfl, trivial⟩)) H1 n1 e1 S1 b1 Q fun b H2 k2 S2 p => q1 b H2 k2 S2 fun z => by
            have := of_decide_eq_true (p z).1
            omega
      · have h7 := h7 rfl
        have hf5 := k5 _ _ nsf.symm hf
        refine el_lst (ea_cons ev_c (ea_cons ev_c (ea_cons ev_c (ea_cons ev_c ea_nil)))) (by show 4 ≤ 100000; decide) H5 (Ex.refl _) _ fun p4 H6 n6 e6 h6 => ?_
        have np : pf ≠ p4 := ne_of_none hf5 n6
        refine ⟨_, rfl, _, rfl, _, _, rfl, rfl, (m : Int) - 4, rfl, pf, p4, _, _, m - 4, rfl, rfl, ?_, np, e6 _ _ hf5, h6, ?_, ?_, ?_⟩
        · congr 1
          omega
        · rw [List.length_map, wds_len]
          omega
        · rw [List.length_map, wds_len]
          exact sz_of (by show m + 4 ≤ 100000; omega)
        · refine ⟨.ref pf, rfl, ?_⟩
          refine q pf ((wds st m).take (m - 4) ++ kw4) _ nH ((K4.trans (k5.trans (kb_ex e6))).updN (Or.inl nH)) ((S5.ex e6).upd nsf) ?_ ?_ (wds_kw _ _ _) ?_
          · rw [upd_same, List.map_append, List.map_take]
            rfl
          · rw [List.length_append, List.length_take, wds_len]
            show min (m - 4) m + 4 = m
            omega
          · intro z hz
            rcases List.mem_append.mp hz with hz | hz
            · exact ⟨wds_nm hm z (List.mem_of_mem_take hz), wds_nq z (List.mem_of_mem_take hz)⟩
            · exact ⟨kw_nm z hz, kw_nq z hz⟩
      · refine ⟨.ref pf, rfl, ?_⟩
        exact q pf (wds st m) _ nH (K4.trans k5) S5 (k5 _ _ nsf.symm hf) (wds_len _ _) (wds_nd _ _) (fun z hz => ⟨wds_nm hm z hz, wds_nq z hz⟩)
end
end Vx

set_option Elab.async false
set_option linter.all false
set_option maxRecDepth 100000
set_option maxHeartbeats 4000000
namespace Vx
open PySem PySem.Spec PyProof.Rows L2 Evl
def unS : V → Str
  | .str z => z
  | _ => ⟨#[]⟩
theorem perm_strs {ys : List V} {ws : List Str} (h : ys.Perm (ws.map V.str)) : ∃ zs : List Str, ys = zs.map V.str ∧ zs.Perm ws := by
  refine ⟨ys.map unS, ?_, ?_⟩
  · rw [List.map_map]
    refine (List.map_id ys).symm.trans (List.map_congr_left fun y hy => ?_)
    obtain ⟨z, _, rfl⟩ := List.mem_map.mp (h.mem_iff.mp hy)
    rfl
  · have := h.map unS
    rw [List.map_map] at this
    have e : (unS ∘ V.str) = id := rfl
    rw [e, List.map_id] at this
    exact this
def wk10 : List Str := ["a", "b", "zz", "worker", "abcdefgh", "x", "push", "pop", "size", "steal"]
def WkOk (ws : List Str) : Prop := 1 ≤ ws.length ∧ ws.length ≤ 6 ∧ ws.Nodup ∧ ∀ z ∈ ws, IsNm z
def spWorkers (K : PySem.W.Frag) : Sp := fun vs H Q _ => ∃ (s : Addr) (n : Nat), vs = [.ref s] ∧ Src H s n ∧ n + 11 ≤ 1000000000 ∧
  ∀ p (ws : List Str) H', H p = none → KB s H H' → Src H' s (n + 11) → H' p = some (.lst (ws.map V.str)) → WkOk ws → (∀ z ∈ ws, z ∈ wk10) → Q (.ref p) H'
section
variable {P : Program} {w : World} {K : PySem.W.Frag} {mg : Str → Option Value} {base : Heap}
theorem sc_law_workers : FnScope ["source", "names"] ["source"] (defScope s_law_workers) := ⟨rfl, rfl, rfl, by decide +kernel, rfl, by decide +kernel, by decide +kernel⟩
theorem ok_law_workers (D : Def K mg "_law_workers" s_law_workers ["source"]) (T : Bl mg) (G_law_pick : Good P w K mg base 1 "_law_pick" ["source", "count"] spPick) (G_law_shuffled : Good P w K mg base 2 "_law_shuffled" ["source", "row"] (spShuf K)) : Good P w K mg base 3 "_law_workers" ["source"] (spWorkers K) := by
  refine D.good sc_law_workers (fun vs H Q E h => ?_) (fun f cdv A outer s H vs Q E hr h => ?_)
  · obtain ⟨s, n, rfl, _⟩ := h
    rfl
  · obtain ⟨s, n, rfl, hs, hn, q⟩ := h
    have hu := hu_of hr
    refine ⟨_, (pss_cons (ps_set (i := 1) sc_law_workers.nd rfl (Or.inl rfl) (pe_lst (pa_cons pe_str (pa_cons pe_str (pa_cons pe_str (pa_cons pe_str (pa_cons pe_str (pa_cons pe_str (pa_cons pe_str (pa_cons pe_str (pa_cons pe_str (pa_cons pe_str pa_nil))))))))))))
      (pss_cons (ps_set (i := 1) sc_law_workers.nd rfl (Or.inl rfl) (pe_fn (G_law_shuffled.mono (by decide)) hr (pa_cons (pv 0) (pa_cons (pv 1) pa_nil))))
      (pss_one (ps_ret (pe_slice sl_list (pv 1) po_none (po_some (pe_op op_add pe_int (pe_fn (G_law_pick.mono (by decide)) hr (pa_cons (pv 0) (pa_cons pe_int pa_nil)))))))))), ?_⟩
    refine q_asgL (el_lst (ea_cons ev_c (ea_cons ev_c (ea_cons ev_c (ea_cons ev_c (ea_cons ev_c (ea_cons ev_c (ea_cons ev_c (ea_cons ev_c (ea_cons ev_c (ea_cons ev_c ea_nil)))))))))) (by show 10 ≤ 100000; decide)) fun p1 H1 n1 e1 h1 => ?_
    refine ⟨_, rfl, _, rfl, s, p1, n, wk10.map V.str, rfl, hs.ex e1, by show n + 10 ≤ 1000000000; omega, sq_of h1, by show 10 ≤ 10000; decide, fun p2 ys H2 n2 k2 S2 h2 pm => ?_⟩
    obtain ⟨zs, rfl, pz⟩ := perm_strs pm
    have zl : zs.length = 10 := pz.length_eq
    have S2 : Src H2 s (n + 10) := S2
    have K2 : KB s H H2 := (kb_ex e1).trans k2
    obtain ⟨xs0, hs2⟩ := S2.at_
    have ns2 : p2 ≠ s := fun z => by rw [z] at n2; obtain ⟨u, hu⟩ := (hs.ex e1).at_; rw [hu] at n2; cases n2
    refine ⟨.ref p2, rfl, eo_none _ (Ex.refl _) _ fun H3 e3 => ?_⟩
    have S3 := S2.ex e3
    refine ek_pick (c := 0) (m := 6) (hid_s s H3) rfl (ek_of ev_c rfl) (by decide) (by decide) H3 (n + 10) (hid_ex _ _) S3 (by omega) _ fun v H4 k4 S4 p4 => ?_
    obtain ⟨r, rfl, r0, r1⟩ := p4
    refine ⟨_, _, rfl, rfl, _, rfl, p2, zs.map V.str, rfl, sq_of (k4 _ _ ns2 (e3 _ _ h2)), fun p hp => ?_⟩
    obtain ⟨k, rfl⟩ : ∃ k : Nat, r = (k : Int) := ⟨r.toNat, by omega⟩
    have KA : KB s H H4 := K2.trans ((kb_ex e3).trans k4)
    obtain ⟨xs4, hs4⟩ := S4.at_
    have np : p ≠ s := fun z => by rw [z, hs4] at hp; cases hp
    refine q p (zs.take (1 + k)) _ (KA.fresh ⟨_, hs4⟩ hp) (KA.trans (kb_ex (Ex.new hp))) (S4.upd np.symm) ?_ ⟨?_, ?_, ?_, ?_⟩ (fun z hz => pz.mem_iff.mp (List.mem_of_mem_take hz))
    · rw [upd_same]
      have : (1 : Int) + (k : Int) = ((1 + k : Nat) : Int) := by omega
      rw [this]
      unfold cutV
      rw [HT.sIx_none, HT.sIx_nat, List.length_map, zl, List.drop_zero, List.map_take, Nat.sub_zero, Nat.min_eq_left (by omega)]
    · rw [List.length_take]
      omega
    · rw [List.length_take]
      omega
    · exact (List.take_sublist _ _).nodup (pz.nodup_iff.mpr (by decide +kernel))
    · intro z hz
      have h10 : ∀ z ∈ wk10, 1 ≤ z.length ∧ z.length ≤ 8 ∧ ∀ c ∈ z.cps.toList, 97 ≤ c ∧ c ≤ 122 := by decide +kernel
      exact h10 z (pz.mem_iff.mp (List.mem_of_mem_take hz))
end
end Vx

set_option Elab.async false
set_option linter.all false
set_option maxRecDepth 100000
set_option maxHeartbeats 4000000
namespace Vx
open PySem PySem.Spec PyProof.Rows L2
/-! logs as data -/
inductive En where
  | push (x : Str)
  | pop (x : Str)
  | size (k : Int)
  | steal (o x : Str)
def En.vs : En → List V
  | .push x => [.str "push", .str x]
  | .pop x => [.str "pop", .str x]
  | .size k => [.str "size", .int k]
  | .steal o x => [.str "steal", .str o, .str x]
def En.ok : En → Prop
  | .push x => IsNm x
  | .pop x => IsNm x
  | .size k => 0 ≤ k ∧ k ≤ 60
  | .steal o x => IsNm o ∧ IsNm x
def En.pu : En → List Str
  | .push x => [x]
  | _ => []
def En.re : En → List Str
  | .pop x => [x]
  | .steal _ x => [x]
  | _ => []
def pus (es : List En) : List Str := es.flatMap En.pu
def res (es : List En) : List Str := es.flatMap En.re
theorem pus_snoc (es : List En) (e : En) : pus (es ++ [e]) = pus es ++ e.pu := by simp [pus, List.flatMap_append]
theorem res_snoc (es : List En) (e : En) : res (es ++ [e]) = res es ++ e.re := by simp [res, List.flatMap_append]
theorem mem_pus {x : Str} {es : List En} : x ∈ pus es ↔ En.push x ∈ es := by
  unfold pus
  rw [List.mem_flatMap]
  constructor
  · rintro ⟨e, he, hx⟩
    cases e with
    | push y =>
      have : x = y := by simpa [En.pu] using hx
      rw [this]
      exact he
    | _ => simp [En.pu] at hx
  · exact fun h => ⟨_, h, by simp [En.pu]⟩
theorem pus_len (es : List En) : (pus es).length ≤ es.length := by
  induction es with
  | nil => exact Nat.le_refl _
  | cons e es ih =>
    have h1 : (pus (e :: es)).length = e.pu.length + (pus es).length := by
      unfold pus
      rw [List.flatMap_cons, List.length_append]
    have h2 : e.pu.length ≤ 1 := by cases e <;> simp [En.pu]
    rw [h1, List.length_cons]
    omega
/-- the flat sequence, one log longer -/
theorem flat_set {f : List En → List Str} {g : List Str} {es es' : List En} (hf : f es' = f es ++ g) : ∀ {L : List (List En)} {k : Nat}, L[k]? = some es → ((L.set k es').flatMap f).Perm (L.flatMap f ++ g)
  | [], k, h => by simp at h
  | a :: L, 0, h => by
    have : a = es := by simpa using h
    subst this
    rw [List.set_cons_zero, List.flatMap_cons, List.flatMap_cons, hf, List.append_assoc, List.append_assoc]
    exact List.Perm.append_left _ List.perm_append_comm
  | a :: L, k + 1, h => by
    rw [List.set_cons_succ, List.flatMap_cons, List.flatMap_cons, List.append_assoc]
    exact List.Perm.append_left _ (flat_set hf (by simpa using h))
theorem set_get {L : List (List En)} {k i : Nat} {es' es2 : List En} (h : (L.set k es')[i]? = some es2) : (i = k ∧ es2 = es') ∨ (i ≠ k ∧ L[i]? = some es2) := by
  by_cases e : k = i
  · subst e
    left
    refine ⟨rfl, ?_⟩
    have hl : k < (L.set k es').length := (List.getElem?_eq_some_iff.mp h).1
    rw [List.length_set] at hl
    rw [List.getElem?_set_self hl] at h
    exact (Option.some.inj h).symm
  · rw [List.getElem?_set_ne e] at h
    exact Or.inr ⟨fun z => e z.symm, h⟩
/-- o pushes x -/
def Has (ws : List Str) (L : List (List En)) (o x : Str) : Prop := ∃ (i : Nat) (es : List En), ws[i]? = some o ∧ L[i]? = some es ∧ En.push x ∈ es
theorem Has.set {ws : List Str} {L : List (List En)} {o x : Str} {k : Nat} {es : List En} {e : En} (h : Has ws L o x) (hk : L[k]? = some es) : Has ws (L.set k (es ++ [e])) o x := by
  obtain ⟨i, es2, h1, h2, h3⟩ := h
  by_cases z : k = i
  · subst z
    rw [hk] at h2
    have := Option.some.inj h2
    subst this
    exact ⟨k, es ++ [e], h1, List.getElem?_set_self (List.getElem?_eq_some_iff.mp hk).1, List.mem_append_left _ h3⟩
  · exact ⟨i, es2, h1, by rw [List.getElem?_set_ne z]; exact h2, h3⟩
/-- logs that are valid -/
structure Vlog (top : Nat) (ws : List Str) (L : List (List En)) : Prop where
  wk : WkOk ws
  len : L.length = ws.length
  ent : ∀ es ∈ L, es.length ≤ top ∧ ∀ e ∈ es, e.ok
  pu : (L.flatMap pus).Nodup
  re : (L.flatMap res).Nodup
  own : ∀ (i : Nat) (es : List En) (j : Nat) (x : Str), L[i]? = some es → es[j]? = some (.pop x) → ∃ j' : Nat, j' < j ∧ es[j']? = some (.push x)
  st : ∀ (i : Nat) (es : List En) (w o x : Str), L[i]? = some es → ws[i]? = some w → En.steal o x ∈ es → o ≠ w ∧ Has ws L o x
/-- .. while they are drawn -/
structure Dlog (top : Nat) (ws : List Str) (L : List (List En)) (fr : List Str) (pr : List (Str × Str)) : Prop where
  v : Vlog top ws L
  pf : (L.flatMap pus ++ fr).Nodup
  cnt : (L.flatMap pus).length + fr.length = 6 * top
  frn : ∀ z ∈ fr, IsNm z
  rp : (L.flatMap res ++ pr.map (·.1)).Nodup
  has : ∀ x o, (x, o) ∈ pr → Has ws L o x ∧ IsNm x
  nq : ∀ z ∈ L.flatMap pus ++ fr, Wf z
theorem flat_len {L : List (List En)} {top : Nat} (h : ∀ es ∈ L, es.length ≤ top) : (L.flatMap pus).length ≤ L.length * top := by
  induction L with
  | nil => simp
  | cons a L ih =>
    rw [List.flatMap_cons, List.length_append, List.length_cons, Nat.succ_mul]
    have h1 := pus_len a
    have h2 := h a (List.mem_cons_self ..)
    have h3 := ih fun es he => h es (List.mem_cons_of_mem _ he)
    omega
theorem flat_lt {L : List (List En)} {top k : Nat} {es : List En} (h : ∀ es ∈ L, es.length ≤ top) (hk : L[k]? = some es) (hl : es.length < top) : (L.flatMap pus).length < L.length * top := by
  have hp := flat_set (f := pus) (es' := es ++ [.push ""]) (g := [""]) (by rw [pus_snoc]; rfl) hk
  have h1 := hp.length_eq
  rw [List.length_append] at h1
  have h2 := flat_len (L := L.set k (es ++ [.push ""])) (top := top) fun es2 he => by
    obtain ⟨i, hi⟩ := List.mem_iff_getElem?.mp he
    rcases set_get hi with ⟨_, rfl⟩ | ⟨_, h3⟩
    · rw [List.length_append]
      exact hl
    · exact h es2 (List.mem_of_getElem? h3)
  rw [List.length_set] at h2
  have h3 : [("" : Str)].length = 1 := rfl
  omega
section
variable {top : Nat} {ws : List Str} {L : List (List En)} {fr : List Str} {pr : List (Str × Str)} {k : Nat} {es : List En} {e : En}
theorem Vlog.app (v : Vlog top ws L) (hk : L[k]? = some es) (hl : es.length < top) (he : e.ok) (hp : (L.flatMap pus ++ e.pu).Nodup) (hr : (L.flatMap res ++ e.re).Nodup)
    (ho : ∀ x, e = .pop x → En.push x ∈ es) (hs : ∀ w o x, ws[k]? = some w → e = .steal o x → o ≠ w ∧ Has ws L o x) : Vlog top ws (L.set k (es ++ [e])) := by
  refine ⟨v.wk, by rw [List.length_set]; exact v.len, ?_, ?_, ?_, ?_, ?_⟩
  · intro es2 h2
    obtain ⟨i, hi⟩ := List.mem_iff_getElem?.mp h2
    rcases set_get hi with ⟨_, rfl⟩ | ⟨_, h3⟩
    · refine ⟨by rw [List.length_append]; exact hl, fun e2 h4 => ?_⟩
      rcases List.mem_append.mp h4 with h5 | h5
      · exact (v.ent es (List.mem_of_getElem? hk)).2 e2 h5
      · rw [List.mem_singleton.mp h5]
        exact he
    · exact v.ent es2 (List.mem_of_getElem? h3)
  · exact (flat_set (pus_snoc es e) hk).nodup_iff.mpr hp
  · exact (flat_set (res_snoc es e) hk).nodup_iff.mpr hr
  · intro i es2 j x h2 h3
    rcases set_get h2 with ⟨_, rfl⟩ | ⟨_, h4⟩
    · by_cases hj : j < es.length
      · rw [List.getElem?_append_left hj] at h3
        obtain ⟨j', h5, h6⟩ := v.own k es j x hk h3
        exact ⟨j', h5, by rw [List.getElem?_append_left (by omega)]; exact h6⟩
      · rw [List.getElem?_append_right (by omega)] at h3
        have hz : j - es.length = 0 := by
          have := (List.getElem?_eq_some_iff.mp h3).1
          simp at this
          omega
        rw [hz] at h3
        have h7 : e = .pop x := by simpa using h3
        obtain ⟨j', h8⟩ := List.mem_iff_getElem?.mp (ho x h7)
        have h9 := (List.getElem?_eq_some_iff.mp h8).1
        exact ⟨j', by omega, by rw [List.getElem?_append_left h9]; exact h8⟩
    · exact v.own i es2 j x h4 h3
  · intro i es2 w o x h2 h3 h4
    rcases set_get h2 with ⟨rfl, rfl⟩ | ⟨_, h5⟩
    · rcases List.mem_append.mp h4 with h6 | h6
      · have := v.st i es w o x hk h3 h6
        exact ⟨this.1, this.2.set hk⟩
      · have := hs w o x h3 (List.mem_singleton.mp h6).symm
        exact ⟨this.1, this.2.set hk⟩
    · have := v.st i es2 w o x h5 h3 h4
      exact ⟨this.1, this.2.set hk⟩
theorem Dlog.size (d : Dlog top ws L fr pr) (hk : L[k]? = some es) (hl : es.length < top) {n : Int} (h0 : 0 ≤ n) (h1 : n ≤ 60) : Dlog top ws (L.set k (es ++ [.size n])) fr pr := by
  have p1 := flat_set (f := pus) (es' := es ++ [.size n]) (g := []) (by rw [pus_snoc]; rfl) hk
  have p2 := flat_set (f := res) (es' := es ++ [.size n]) (g := []) (by rw [res_snoc]; rfl) hk
  rw [List.append_nil] at p1 p2
  refine ⟨d.v.app hk hl ⟨h0, h1⟩ (by rw [show (En.size n).pu = [] from rfl, List.append_nil]; exact d.v.pu) (by rw [show (En.size n).re = [] from rfl, List.append_nil]; exact d.v.re) (fun _ z => nomatch z) (fun _ _ _ _ z => nomatch z), ?_, ?_, d.frn, ?_, ?_, fun z hz => d.nq z ((p1.append_right fr).mem_iff.mp hz)⟩
  · exact (p1.append_right fr).nodup_iff.mpr d.pf
  · rw [p1.length_eq]
    exact d.cnt
  · exact (p2.append_right _).nodup_iff.mpr d.rp
  · exact fun x o h => ⟨(d.has x o h).1.set hk, (d.has x o h).2⟩
theorem Dlog.push {x w : Str} (d : Dlog top ws L (fr ++ [x]) pr) (hk : L[k]? = some es) (hw : ws[k]? = some w) (hl : es.length < top) : Dlog top ws (L.set k (es ++ [.push x])) fr (pr ++ [(x, w)]) := by
  have p1 := flat_set (f := pus) (es' := es ++ [.push x]) (g := [x]) (by rw [pus_snoc]; rfl) hk
  have p2 := flat_set (f := res) (es' := es ++ [.push x]) (g := []) (by rw [res_snoc]; rfl) hk
  rw [List.append_nil] at p2
  have nm : IsNm x := d.frn x (List.mem_append_right _ (List.mem_singleton.mpr rfl))
  have q1 : (L.flatMap pus ++ [x] ++ fr).Nodup := by
    refine (List.Perm.nodup_iff ?_).mpr d.pf
    rw [List.append_assoc]
    exact List.Perm.append_left _ List.perm_append_comm
  have nx : ¬ x ∈ L.flatMap pus := fun z => by
    have := (List.nodup_append.mp (List.nodup_append.mp q1).1).2.2 x z x (List.mem_singleton.mpr rfl)
    exact this rfl
  refine ⟨d.v.app hk hl nm (List.nodup_append.mp q1).1 (by rw [show (En.push x).re = [] from rfl, List.append_nil]; exact d.v.re) (fun _ z => nomatch z) (fun _ _ _ _ z => nomatch z), ?_, ?_, ?_, ?_, ?_, fun z hz => d.nq z (by have h := (p1.append_right fr).mem_iff.mp hz; simp only [List.mem_append] at h ⊢; rcases h with (h | h) | h <;> simp [h])⟩
  · exact (p1.append_right fr).nodup_iff.mpr q1
  · rw [p1.length_eq]
    have := d.cnt
    rw [List.length_append] at this ⊢
    simp only [List.length_cons, List.length_nil] at this ⊢
    omega
  · exact fun z hz => d.frn z (List.mem_append_left _ hz)
  · refine (p2.append_right _).nodup_iff.mpr ?_
    rw [List.map_append, ← List.append_assoc]
    refine List.nodup_append.mpr ⟨d.rp, by simp, fun a ha b hb e => ?_⟩
    have hb : b = x := by simpa using hb
    subst hb e
    rcases List.mem_append.mp ha with h | h
    · obtain ⟨es2, h2, h3⟩ := List.mem_flatMap.mp h
      obtain ⟨i, hi⟩ := List.mem_iff_getElem?.mp h2
      unfold res at h3
      obtain ⟨e2, h4, h5⟩ := List.mem_flatMap.mp h3
      refine nx ?_
      cases e2 with
      | push _ => simp [En.re] at h5
      | size _ => simp [En.re] at h5
      | pop y =>
        have : a = y := by simpa [En.re] using h5
        subst this
        obtain ⟨j, hj⟩ := List.mem_iff_getElem?.mp h4
        obtain ⟨j', _, h6⟩ := d.v.own i es2 j a hi hj
        exact List.mem_flatMap.mpr ⟨es2, h2, mem_pus.mpr (List.mem_of_getElem? h6)⟩
      | steal o y =>
        have : a = y := by simpa [En.re] using h5
        subst this
        have hlt : i < ws.length := by rw [← d.v.len]; exact (List.getElem?_eq_some_iff.mp hi).1
        obtain ⟨_, i', es', _, h7, h8⟩ := d.v.st i es2 _ o a hi (List.getElem?_eq_getElem hlt) h4
        exact List.mem_flatMap.mpr ⟨es', List.mem_of_getElem? h7, mem_pus.mpr h8⟩
    · obtain ⟨⟨y, o⟩, h2, h3⟩ := List.mem_map.mp h
      subst h3
      obtain ⟨⟨i, es', _, h7, h8⟩, _⟩ := d.has y o h2
      exact nx (List.mem_flatMap.mpr ⟨es', List.mem_of_getElem? h7, mem_pus.mpr h8⟩)
  · intro y o h
    rcases List.mem_append.mp h with h | h
    · exact ⟨(d.has y o h).1.set hk, (d.has y o h).2⟩
    · have : y = x ∧ o = w := by simpa using h
      obtain ⟨rfl, rfl⟩ := this
      exact ⟨⟨k, _, hw, List.getElem?_set_self (List.getElem?_eq_some_iff.mp hk).1, by simp⟩, nm⟩
theorem Dlog.take {x o w : Str} {t : Nat} (d : Dlog top ws L fr pr) (hk : L[k]? = some es) (hw : ws[k]? = some w) (hl : es.length < top) (ht : pr[t]? = some (x, o))
    (he : (o = w ∧ e = .pop x) ∨ (o ≠ w ∧ e = .steal o x)) : Dlog top ws (L.set k (es ++ [e])) fr (pr.eraseIdx t) := by
  have hin := List.mem_of_getElem? ht
  obtain ⟨hx, nm⟩ := d.has x o hin
  have er : e.re = [x] := by rcases he with ⟨_, rfl⟩ | ⟨_, rfl⟩ <;> rfl
  have ep : e.pu = [] := by rcases he with ⟨_, rfl⟩ | ⟨_, rfl⟩ <;> rfl
  have p1 := flat_set (f := pus) (es' := es ++ [e]) (g := []) (by rw [pus_snoc, ep]) hk
  have p2 := flat_set (f := res) (es' := es ++ [e]) (g := [x]) (by rw [res_snoc, er]) hk
  rw [List.append_nil] at p1
  have pp : ([(x, o)] ++ pr.eraseIdx t).Perm pr := by
    have hlt := (List.getElem?_eq_some_iff.mp ht).1
    have := perm_erase hlt
    rw [(List.getElem?_eq_some_iff.mp ht).2] at this
    exact this
  have q : (L.flatMap res ++ [x] ++ (pr.eraseIdx t).map (·.1)).Nodup := by
    refine (List.Perm.nodup_iff ?_).mpr d.rp
    rw [List.append_assoc]
    exact List.Perm.append_left _ (pp.map Prod.fst)
  refine ⟨d.v.app hk hl ?_ (by rw [ep, List.append_nil]; exact d.v.pu) (by rw [er]; exact (List.nodup_append.mp q).1) ?_ ?_, ?_, ?_, d.frn, ?_, ?_, fun z hz => d.nq z ((p1.append_right fr).mem_iff.mp hz)⟩
  · rcases he with ⟨_, rfl⟩ | ⟨_, rfl⟩
    · exact nm
    · obtain ⟨i, es2, h1, _, _⟩ := hx
      exact ⟨d.v.wk.2.2.2 o (List.mem_of_getElem? h1), nm⟩
  · intro y hy
    rcases he with ⟨rfl, rfl⟩ | ⟨_, rfl⟩
    · cases hy
      obtain ⟨i, es2, h1, h2, h3⟩ := hx
      have hi : i = k :=
         (List.getElem?_inj (List.getElem?_eq_some_iff.mp h1).1 d.v.wk.2.2.1).mp (h1.trans hw.symm)
      subst hi
      rw [hk] at h2
      cases h2
      exact h3
    · cases hy
  · intro w2 o2 x2 h1 h2
    rcases he with ⟨_, rfl⟩ | ⟨hne, rfl⟩
    · cases h2
    · cases h2
      rw [hw] at h1
      cases h1
      exact ⟨hne, hx⟩
  · exact (p1.append_right fr).nodup_iff.mpr d.pf
  · rw [p1.length_eq]
    exact d.cnt
  · exact (p2.append_right _).nodup_iff.mpr q
  · intro y o2 h
    have h2 : (y, o2) ∈ pr := List.mem_of_mem_eraseIdx h
    exact ⟨(d.has y o2 h2).1.set hk, (d.has y o2 h2).2⟩
end
theorem flatMap_nil_rep {f : List En → List Str} (hf : f [] = []) : ∀ n : Nat, (List.replicate n ([] : List En)).flatMap f = []
  | 0 => rfl
  | n + 1 => by rw [List.replicate_succ, List.flatMap_cons, hf, flatMap_nil_rep hf n]; rfl
theorem Vlog.nil {top : Nat} {ws : List Str} (h : WkOk ws) : Vlog top ws (List.replicate ws.length []) := by
  refine ⟨h, by rw [List.length_replicate], ?_, by rw [flatMap_nil_rep rfl]; exact List.nodup_nil, by rw [flatMap_nil_rep rfl]; exact List.nodup_nil, ?_, ?_⟩
  · intro es he
    rw [(List.mem_replicate.mp he).2]
    exact ⟨Nat.zero_le _, fun e h => by cases h⟩
  · intro i es j x h1 h2
    rw [(List.mem_replicate.mp (List.mem_of_getElem? h1)).2] at h2
    simp at h2
  · intro i es w o x h1 _ h2
    rw [(List.mem_replicate.mp (List.mem_of_getElem? h1)).2] at h2
    cases h2
theorem Dlog.nil {top : Nat} {ws fr : List Str} (h : WkOk ws) (hl : fr.length = 6 * top) (hd : fr.Nodup) (hn : ∀ z ∈ fr, IsNm z ∧ Wf z) : Dlog top ws (List.replicate ws.length []) fr [] := by
  refine ⟨Vlog.nil h, by rw [flatMap_nil_rep rfl]; exact hd, by rw [flatMap_nil_rep rfl]; simpa using hl, fun z hz => (hn z hz).1, by rw [flatMap_nil_rep rfl]; exact List.nodup_nil, (fun x o h => by cases h), by rw [flatMap_nil_rep rfl]; exact fun z hz => (hn z hz).2⟩
end Vx

set_option Elab.async false
set_option linter.all false
set_option maxRecDepth 100000
set_option maxHeartbeats 4000000
namespace Vx
open PySem PySem.Spec PyProof.Rows L2 Evl
/-! tuples stay -/
def TK (H H' : Hp) : Prop := ∀ a xs, H a = some (.tup xs) → H' a = some (.tup xs)
theorem TK.refl (H : Hp) : TK H H := fun _ _ h => h
theorem TK.trans {H H1 H2 : Hp} (a : TK H H1) (b : TK H1 H2) : TK H H2 := fun c x h => b c x (a c x h)
theorem tk_ex {H H' : Hp} (e : Ex H H') : TK H H' := fun a x h => e a _ h
theorem tk_kb {s : Addr} {H H' : Hp} {ys : List V} (k : KB s H H') (h : H s = some (.lst ys)) : TK H H' := fun a x z => k a _ (fun e => by rw [e, h] at z; cases z) z
theorem tk_upd {p : Addr} {H : Hp} {ys : List V} {o : HO} (h : H p = some (.lst ys)) : TK H (upd H p o) := fun a x z => by rw [upd_ne (fun e => by rw [e, h] at z; cases z)]; exact z
theorem tk_new {p : Addr} {H : Hp} {o : HO} (h : H p = none) : TK H (upd H p o) := tk_ex (Ex.new h)
/-- a list of tuples -/
def TL (H : Hp) (p : Addr) (ts : List (List V)) : Prop := ∃ as : List Addr, H p = some (.lst (as.map V.ref)) ∧ Paired (fun a t => H a = some (.tup t)) as ts
theorem paired_imp {α β : Type} {F G : α → β → Prop} (h : ∀ a b, F a b → G a b) : ∀ {xs : List α} {ys : List β}, Paired F xs ys → Paired G xs ys
  | _, _, .nil => .nil
  | _, _, .cons a t => .cons (h _ _ a) (paired_imp h t)
theorem paired_get {α β : Type} {F : α → β → Prop} : ∀ {xs : List α} {ys : List β}, Paired F xs ys → ∀ {i : Nat} {y : β}, ys[i]? = some y → ∃ x, xs[i]? = some x ∧ F x y
  | _, _, .nil, i, y, h => by simp at h
  | _, _, @Paired.cons _ _ _ x0 y0 _ _ a t, 0, y, h => by
    have e : y0 = y := by simpa using h
    subst e
    exact ⟨x0, rfl, a⟩
  | _, _, .cons a t, i + 1, y, h => by
    obtain ⟨x, h1, h2⟩ := paired_get t (i := i) (y := y) (by simpa using h)
    exact ⟨x, by simpa using h1, h2⟩
theorem paired_erase {α β : Type} {F : α → β → Prop} : ∀ {xs : List α} {ys : List β}, Paired F xs ys → ∀ i : Nat, Paired F (xs.eraseIdx i) (ys.eraseIdx i)
  | _, _, .nil, i => by simpa using Paired.nil
  | _, _, .cons a t, 0 => by simpa using t
  | _, _, .cons a t, i + 1 => by simpa using Paired.cons a (paired_erase t i)
theorem erase_map {α β : Type} (f : α → β) : ∀ (xs : List α) (i : Nat), (xs.map f).eraseIdx i = (xs.eraseIdx i).map f
  | [], i => by simp
  | _ :: _, 0 => by simp
  | x :: xs, i + 1 => by simp [erase_map f xs i]
theorem TL.keep {H H' : Hp} {p : Addr} {ts : List (List V)} (h : TL H p ts) (k : TK H H') (e : H' p = H p) : TL H' p ts := by
  obtain ⟨as, h1, h2⟩ := h
  exact ⟨as, e.trans h1, paired_imp (fun a t z => k a t z) h2⟩
theorem TL.kb {s : Addr} {H H' : Hp} {p : Addr} {ts : List (List V)} {ys : List V} (h : TL H p ts) (k : KB s H H') (hs : H s = some (.lst ys)) (n : p ≠ s) : TL H' p ts := by
  obtain ⟨as, h1, h2⟩ := id h
  exact h.keep (tk_kb k hs) (by rw [h1]; exact k _ _ n h1)
theorem TL.ex {H H' : Hp} {p : Addr} {ts : List (List V)} (h : TL H p ts) (e : Ex H H') : TL H' p ts := by
  obtain ⟨as, h1, h2⟩ := id h
  exact h.keep (tk_ex e) (by rw [h1]; exact e _ _ h1)
theorem TL.nil {H : Hp} {p : Addr} (h : H p = some (.lst [])) : TL H p [] := ⟨[], h, .nil⟩
theorem TL.at_ {H : Hp} {p : Addr} {ts : List (List V)} (h : TL H p ts) : ∃ vs, H p = some (.lst vs) ∧ vs.length = ts.length := by
  obtain ⟨as, h1, h2⟩ := h
  exact ⟨_, h1, by rw [List.length_map]; exact h2.length⟩
/-- a new tuple behind -/
theorem TL.app {H H' : Hp} {p a : Addr} {ts : List (List V)} {t : List V} {vs : List V} (h : TL H p ts) (k : TK H H') (hv : H p = some (.lst vs)) (h' : H' p = some (.lst (vs ++ [.ref a]))) (ha : H' a = some (.tup t)) : TL H' p (ts ++ [t]) := by
  obtain ⟨as, h1, h2⟩ := h
  rw [hv] at h1
  cases h1
  exact ⟨as ++ [a], by rw [h', List.map_append]; rfl, Paired.snoc (paired_imp (fun a t z => k a t z) h2) ha⟩
theorem TL.erase {H H' : Hp} {p : Addr} {ts : List (List V)} {vs : List V} {i : Nat} (h : TL H p ts) (k : TK H H') (hv : H p = some (.lst vs)) (h' : H' p = some (.lst (vs.eraseIdx i))) : TL H' p (ts.eraseIdx i) := by
  obtain ⟨as, h1, h2⟩ := h
  rw [hv] at h1
  cases h1
  refine ⟨as.eraseIdx i, by rw [h', erase_map], paired_erase (paired_imp (fun a t z => k a t z) h2) i⟩
theorem TL.get {H : Hp} {p : Addr} {ts : List (List V)} {vs : List V} (h : TL H p ts) (hv : H p = some (.lst vs)) {i : Nat} {t : List V} (ht : ts[i]? = some t) : ∃ a, vs[i]? = some (.ref a) ∧ H a = some (.tup t) := by
  obtain ⟨as, h1, h2⟩ := h
  rw [hv] at h1
  cases h1
  obtain ⟨a, ha, hb⟩ := paired_get h2 ht
  exact ⟨a, by rw [List.getElem?_map, ha]; rfl, hb⟩
/-! a dict of names to lists -/
def Dk (ws : List Str) (ps : List Addr) : List (Key × V) := (ws.zip ps).map fun x => (.inr x.1, .ref x.2)
theorem dk_len {ws : List Str} {ps : List Addr} (h : ps.length = ws.length) : (Dk ws ps).length = ws.length := by
  unfold Dk
  rw [List.length_map, List.length_zip]
  omega
theorem dk_keys : ∀ {ws : List Str} {ps : List Addr}, ps.length = ws.length → (Dk ws ps).map (·.1) = ws.map Sum.inr
  | [], _, _ => by simp [Dk]
  | _ :: _, [], h => by cases h
  | w :: ws, p :: ps, h => by
    have := dk_keys (ws := ws) (ps := ps) (by simpa using h)
    unfold Dk at this ⊢
    rw [List.zip_cons_cons, List.map_cons, List.map_cons, this]
    rfl
theorem dk_get : ∀ {ws : List Str} {ps : List Addr} {k : Nat} {x : Str} {p : Addr}, ws.Nodup → ws[k]? = some x → ps[k]? = some p → valV (Dk ws ps) (.inr x) = some (.ref p)
  | [], _, k, x, p, _, h, _ => by simp at h
  | _ :: _, [], k, x, p, _, _, h => by simp at h
  | w :: ws, q :: ps, 0, x, p, nd, h1, h2 => by
    have e1 : w = x := by simpa using h1
    have e2 : q = p := by simpa using h2
    subst e1 e2
    exact valV_pos (p := ((Sum.inr w : Key), V.ref q)) rfl
  | w :: ws, q :: ps, k + 1, x, p, nd, h1, h2 => by
    have h1' : ws[k]? = some x := by simpa using h1
    have h2' : ps[k]? = some p := by simpa using h2
    have n : ¬ w = x := fun e => (List.nodup_cons.mp nd).1 (by rw [e]; exact List.mem_of_getElem? h1')
    have : valV (Dk (w :: ws) (q :: ps)) (.inr x) = valV (Dk ws ps) (.inr x) := valV_neg (p := ((Sum.inr w : Key), V.ref q)) (fun e => n (Sum.inr.inj e))
    rw [this]
    exact dk_get (List.nodup_cons.mp nd).2 h1' h2'
theorem merge_new : ∀ (more acc : List (Key × V)), ((acc ++ more).map (·.1)).Nodup → mergeK acc more = acc ++ more
  | [], acc, _ => by rw [List.append_nil]; rfl
  | kv :: more, acc, nd => by
    have h1 : putK acc kv.1 kv.2 = acc ++ [kv] := by
      unfold putK
      rw [if_neg]
      intro z
      obtain ⟨x, hx, e⟩ := List.any_eq_true.mp z
      have e := of_decide_eq_true e
      rw [List.map_append, List.map_cons] at nd
      exact (List.nodup_append.mp nd).2.2 x.1 (List.mem_map.mpr ⟨x, hx, rfl⟩) kv.1 (List.mem_cons_self ..) e
    have h2 := merge_new more (acc ++ [kv]) (by rw [List.append_assoc]; exact nd)
    show mergeK (putK acc kv.1 kv.2) more = _
    rw [h1, h2, List.append_assoc]
    rfl
theorem merge_dk {ws : List Str} {ps : List Addr} (h : ps.length = ws.length) (nd : ws.Nodup) : mergeK [] (Dk ws ps) = Dk ws ps := by
  refine (merge_new _ _ ?_).trans (List.nil_append _)
  rw [List.nil_append, dk_keys h]
  unfold List.Nodup at nd ⊢
  rw [List.pairwise_map]
  exact nd.imp fun h e => h (Sum.inr.inj e)
abbrev rDictP (K : PySem.W.Frag) : List V → Hp → VK → Prop := fun xs H Q => ∃ (a : Addr) (ps : List Addr) (kvs : List (Key × V)), xs = [.ref a] ∧ SqL K H a (ps.map V.ref) ∧ Paired (fun p kv => SqT K H p [kV kv.1, kv.2]) ps kvs ∧ ∀ p, H p = none → Q (.ref p) (upd H p (.dK (mergeK [] kvs)))
/-- dict([(name, []) for name in names]) -/
def New (H H2 : Hp) (n : Nat) (ps : List Addr) : Prop := ps.length = n ∧ ps.Nodup ∧ ∀ p ∈ ps, H p = none ∧ H2 p = some (.lst [])
theorem ev_rows {K : PySem.W.Frag} {σ : L2.St} {H : Hp} {tl : TE} {j : Nat} {vs : List Nat} {pw : Addr} {ws : List Str} (h : Ev tl σ H (.ref pw)) (hw : H pw = some (.lst (ws.map V.str))) (hl : ws.length ≤ 1000) (nd : ws.Nodup)
    (hj : ∀ x, ((wipe σ vs).set j (some x))[j]? = some (some x)) (hwp : ∀ x, wipe ((wipe σ vs).set j (some x)) vs = wipe σ vs) :
    ∀ H1, Ex H H1 → ∀ Q : VK, (∀ d ps H2, H1 d = none → Ex H1 H2 → H2 d = some (.dK (Dk ws ps)) → New H1 H2 ws.length ps → Q (.ref d) H2) →
      tCB (rDictP K) (tCons (tLc (iList K tl) (gName j) tYes (tTup (tCons (tVar j) (tCons (tLst tNil) tNil))) vs) tNil) σ H1 Q := fun H0 e0 Q q => by
  refine h H0 e0 _ fun H1 e1 => ⟨pw, rfl, ⟨_, sq_of (e1 _ _ (e0 _ _ hw))⟩, fun Dl hD => ?_⟩
  have hw1 : H1 pw = some (.lst (ws.map V.str)) := e1 _ _ (e0 _ _ hw)
  have nwD : pw ≠ Dl := ne_of_none hw1 hD
  refine lc_list (xs := ws.map V.str) (fun i H' => Ex H1 H' ∧ ∃ as ps, H' Dl = some (.lst (as.map V.ref)) ∧ as.length = i ∧ New H1 H' i ps ∧ Paired (fun a (x : Key × V) => H' a = some (.tup [kV x.1, x.2])) as (Dk (ws.take i) ps))
    ⟨Ex.new hD, [], [], upd_same, rfl, ⟨rfl, List.nodup_nil, fun _ z => by cases z⟩, by simpa [Dk] using Paired.nil⟩ (fun i H' _ p => sq_of (p.1 _ _ hw1)) (fun i x H' hx p => ?_) (fun H' p => ?_)
  · obtain ⟨e2, as, ps, ha, hlen, ⟨n1, n2, n3⟩, hp⟩ := p
    rw [List.getElem?_map] at hx
    obtain ⟨z, hz, rfl⟩ := Option.map_eq_some_iff.mp hx
    have hi : i < ws.length := (List.getElem?_eq_some_iff.mp hz).1
    refine ⟨hwp _, ?_⟩
    refine ⟨_, hj _, (by show 0 ≤ sizeLine; decide), fun p0 hp0 => ⟨(by show 2 ≤ sizeLine; decide), fun t ht => ⟨as.map V.ref, ?_, ?_, ?_⟩⟩⟩
    all_goals have n0 : Dl ≠ p0 := ne_of_none ha hp0
    all_goals have n4 : Dl ≠ t := ne_of_none (by rw [upd_ne n0]; exact ha) ht
    · rw [upd_ne n4, upd_ne n0]
      exact ha
    · rw [List.length_map]
      exact sz_lt (by omega)
    · have n5 : p0 ≠ t := ne_of_none upd_same ht
      have tk : TK H' (upd (upd (upd H' p0 (.lst [])) t (.tup [.str z, .ref p0])) Dl (.lst (as.map V.ref ++ [.ref t]))) := ((tk_new hp0).trans (tk_new ht)).trans (tk_upd (by rw [upd_ne n4, upd_ne n0]; exact ha))
      have hD0 : H1 Dl = none := hD
      refine ⟨?_, as ++ [t], ps ++ [p0], by rw [upd_same, List.map_append]; rfl, by rw [List.length_append, hlen]; rfl, ⟨by rw [List.length_append, n1]; rfl, ?_, ?_⟩, ?_⟩
      · exact Ex.mut ((e2.trans (Ex.new hp0)).trans (Ex.new ht)) hD
      · refine List.nodup_append.mpr ⟨n2, by simp, fun a h1 b h2 e => ?_⟩
        have : b = p0 := by simpa using h2
        subst this e
        have := (n3 _ h1).2
        rw [hp0] at this
        cases this
      · intro p hpm
        rcases List.mem_append.mp hpm with h1 | h1
        · have h2 := n3 p h1
          refine ⟨h2.1, ?_⟩
          have na : p ≠ p0 := ne_of_none h2.2 hp0
          have nb : p ≠ t := ne_of_none (by rw [upd_ne na]; exact h2.2) ht
          have nc : p ≠ Dl := fun e => by
            rw [e, ha] at h2
            have h3 : as.map V.ref = [] := by injection (Option.some.inj h2.2)
            have h4 : as = [] := List.map_eq_nil_iff.mp h3
            have h5 : ps = [] := List.length_eq_zero_iff.mp (by rw [n1, ← hlen, h4]; rfl)
            rw [h5] at h1
            cases h1
          rw [upd_ne nc, upd_ne nb, upd_ne na]
          exact h2.2
        · have : p = p0 := by simpa using h1
          subst this
          refine ⟨fresh_back e2 hp0, ?_⟩
          rw [upd_ne n0.symm, upd_ne n5, upd_same]
      · have e5 : Dk (ws.take (i + 1)) (ps ++ [p0]) = Dk (ws.take i) ps ++ [(.inr z, .ref p0)] := by
          unfold Dk
          have : ws.take (i + 1) = ws.take i ++ [z] := by
            rw [List.take_add_one, hz]
            rfl
          rw [this, List.zip_append (by rw [List.length_take, n1]; omega), List.map_append]
          rfl
        rw [e5]
        refine Paired.snoc (paired_imp (fun a x z => tk _ _ z) hp) ?_
        rw [upd_ne n4.symm, upd_same]
        rfl
  · obtain ⟨e2, as, ps, ha, hlen, ⟨n1, n2, n3⟩, hp⟩ := p
    rw [List.length_map] at n1
    rw [List.length_map, List.take_length] at hp
    refine ⟨Dl, as, Dk ws ps, rfl, sq_of ha, paired_imp (fun a x z => st_of z) hp, fun d hd => ?_⟩
    rw [merge_dk n1 nd]
    refine q d ps _ (fresh_back (e1.trans e2) hd) ((e1.trans e2).trans (Ex.new hd)) upd_same ⟨n1, n2, fun p h1 => ?_⟩
    have h2 := n3 p h1
    have na : p ≠ d := ne_of_none h2.2 hd
    exact ⟨fresh_back e1 h2.1, by rw [upd_ne na]; exact h2.2⟩
end Vx
namespace Vx
open PySem PySem.Spec PyProof.Rows L2 Evl
/-- the logs L of the names ws, at ps, in the dict at d -/
structure HL (H : Hp) (d : Addr) (ws : List Str) (ps : List Addr) (L : List (List En)) : Prop where
  dk : H d = some (.dK (Dk ws ps))
  pl : ps.length = ws.length
  lg : ∀ (i : Nat) (p : Addr) (es : List En), ps[i]? = some p → L[i]? = some es → TL H p (es.map En.vs)
theorem HL.kb {s d : Addr} {H H' : Hp} {ws : List Str} {ps : List Addr} {L : List (List En)} {ys : List V} (h : HL H d ws ps L) (k : KB s H H') (hs : H s = some (.lst ys)) (n : ∀ p ∈ ps, p ≠ s) : HL H' d ws ps L :=
  ⟨k d _ (fun e => by have := h.dk; rw [e, hs] at this; cases this) h.dk, h.pl, fun i p es h1 h2 => (h.lg i p es h1 h2).kb k hs (n p (List.mem_of_getElem? h1))⟩
theorem HL.ex {d : Addr} {H H' : Hp} {ws : List Str} {ps : List Addr} {L : List (List En)} (h : HL H d ws ps L) (e : Ex H H') : HL H' d ws ps L :=
  ⟨e _ _ h.dk, h.pl, fun i p es h1 h2 => (h.lg i p es h1 h2).ex e⟩
theorem HL.set {d : Addr} {H H' : Hp} {ws : List Str} {ps : List Addr} {L : List (List En)} {k : Nat} {pk : Addr} {es : List En} {e : En} (h : HL H d ws ps L) (nd : ps.Nodup) (tk : TK H H') (hd : H' d = H d) (hk : ps[k]? = some pk)
    (hr : ∀ p ∈ ps, p ≠ pk → H' p = H p) (hn : TL H' pk ((es ++ [e]).map En.vs)) : HL H' d ws ps (L.set k (es ++ [e])) :=
  ⟨hd.trans h.dk, h.pl, fun i p es2 h1 h2 => by
    rcases set_get h2 with ⟨rfl, rfl⟩ | ⟨ne, h3⟩
    · rw [hk] at h1
      cases h1
      exact hn
    · refine (h.lg i p es2 h1 h3).keep tk (hr p (List.mem_of_getElem? h1) fun z => ne ?_)
      subst z
      exact (List.getElem?_inj (List.getElem?_eq_some_iff.mp h1).1 nd).mp (h1.trans hk.symm)⟩
theorem ev_dget {σ : L2.St} {H : Hp} {td ty : TE} {d : Addr} {kvs : List (Key × V)} {x : Str} {v : V} (h1 : Ev td σ H (.ref d)) (h2 : Ev ty σ H (.str x)) (hd : H d = some (.dK kvs)) (hv : valV kvs (.inr x) = some v) : Ev (tDGet td ty) σ H v := fun H1 e Q q =>
  h1 H1 e _ fun H2 e2 => h2 H2 (e.trans e2) _ fun H3 e3 => ⟨d, v, rfl, by
    have := DGet.k (k := .inr x) (e3 _ _ (e2 _ _ (e _ _ hd)))
    rw [hv] at this
    exact this, q H3 (e2.trans e3)⟩
theorem eu_if {σ : L2.St} {H : Hp} {t : TT} {ta tb : TE} {b : Bool} {xs : List V} (h : EvT t σ H b) (h1 : b = true → EvU ta σ H xs) (h2 : b = false → EvU tb σ H xs) : EvU (tIf t ta tb) σ H xs := fun H1 e Q q => h H1 e _ fun H2 e2 => by
  cases b with
  | true =>
    show ta σ H2 Q
    exact h1 rfl H2 (e.trans e2) Q fun p H3 n e3 h3 => q p H3 (fresh_back e2 n) (e2.trans e3) h3
  | false =>
    show tb σ H2 Q
    exact h2 rfl H2 (e.trans e2) Q fun p H3 n e3 h3 => q p H3 (fresh_back e2 n) (e2.trans e3) h3
def prv (x : Str × Str) : List V := [.str x.1, .str x.2]
end Vx
namespace Vx
open PySem PySem.Spec PyProof.Rows L2 Evl
theorem s_rows {K : PySem.W.Frag} {D : Ends} {σ : L2.St} {H : Hp} {tl : TE} {i j : Nat} {vs : List Nat} {pw : Addr} {ws : List Str} (h : Ev tl σ H (.ref pw)) (hw : H pw = some (.lst (ws.map V.str))) (hl : ws.length ≤ 1000) (nd : ws.Nodup)
    (hj : ∀ x, ((wipe σ vs).set j (some x))[j]? = some (some x)) (hwp : ∀ x, wipe ((wipe σ vs).set j (some x)) vs = wipe σ vs)
    (k : ∀ d ps H2, H d = none → Ex H H2 → H2 d = some (.dK (Dk ws ps)) → New H H2 ws.length ps → D.nx (σ.set i (some (.ref d))) H2) :
      tAsg (tCB (rDictP K) (tCons (tLc (iList K tl) (gName j) tYes (tTup (tCons (tVar j) (tCons (tLst tNil) tNil))) vs) tNil)) (gName i) D σ H :=
  ev_rows h hw hl nd hj hwp H (Ex.refl H) _ k
end Vx
namespace Vx
open PySem PySem.Spec PyProof.Rows L2 Evl
/-- l.append(e), e changes the heap -/
theorem s_appD {K : PySem.W.Frag} {D : Ends} {σ : L2.St} {H : Hp} {tl te : TE} {l : Addr} {xs : List V} (ha : Ev tl σ H (.ref l)) (hl : H l = some (.lst xs))
    (k : ∀ H1, Ex H H1 → te σ H1 fun v H2 => rAppend (.ref l) [v] H2 fun _ H3 => D.nx σ H3) : tDrop (tBM K "list" rAppend tl (tCons te tNil)) D σ H :=
  ha H (Ex.refl H) _ fun H1 e1 => ⟨Or.inl ⟨rfl, _, sq_of (e1 _ _ hl)⟩, k H1 e1⟩
end Vx
namespace Vx
theorem at_last {α : Type} {xs : List α} {n : Nat} {v : α} (hl : xs.length = n + 1) (h : xs[n]? = some v) : L2.atI xs (-1) = some v := by
  have e : L2.ixN xs.length (-1) = some n := by
    unfold L2.ixN
    rw [hl, if_neg (by decide), if_pos (by omega)]
    congr 1
    omega
  unfold L2.atI
  rw [e]
  exact h
end Vx
namespace Vx
open PySem PySem.Spec PyProof.Rows L2 Evl
theorem Evl_go {te : TE} {σ : L2.St} {H : Hp} {v : V} {Q : VK} (h : Ev te σ H v) (k : ∀ H1, Ex H H1 → Q v H1) : te σ H Q := h H (Ex.refl H) Q k
end Vx

set_option Elab.async false
set_option linter.all false
set_option maxRecDepth 100000
set_option maxHeartbeats 8000000
namespace Vx
open PySem PySem.Spec PyProof.Rows L2 Evl
def spLogs (K : PySem.W.Frag) : Sp := fun vs H Q _ => ∃ (s : Addr) (n m : Nat), vs = [.ref s, .int (m : Int)] ∧ Src H s n ∧ n + 4000 ≤ 1000000000 ∧ 1 ≤ m ∧ m ≤ 60 ∧
  ∀ (d : Addr) (ws : List Str) (ps : List Addr) (L : List (List En)) (H' : Hp), H d = none → KB s H H' → Src H' s (n + 4000) → HL H' d ws ps L → (∀ p ∈ ps, H p = none) → ps.Nodup → Vlog m ws L → (∀ z ∈ L.flatMap pus, Wf z) → (∀ z ∈ ws, z ∈ wk10) → Q (.ref d) H'
/-- the heap between two entries -/
structure LapH (s d pw pf pp : Addr) (ws : List Str) (ps : List Addr) (H H' : Hp) (n : Nat) (L : List (List En)) (fr : List Str) (pr : List (Str × Str)) : Prop where
  kb : KB s H H'
  src : Src H' s n
  hw : H' pw = some (.lst (ws.map V.str))
  hl : HL H' d ws ps L
  hf : H' pf = some (.lst (fr.map V.str))
  hp : TL H' pp (pr.map prv)
structure Apart (s d pw pf pp : Addr) (ps : List Addr) (H : Hp) : Prop where
  wf : pw ≠ pf
  wp : pw ≠ pp
  fp : pf ≠ pp
  nw : pw ≠ s
  nf : pf ≠ s
  np : pp ≠ s
  nd : ps.Nodup
  ps : ∀ p ∈ ps, p ≠ pw ∧ p ≠ pf ∧ p ≠ pp ∧ p ≠ s ∧ H p = none
  d0 : H d = none
  w0 : H pw = none
  f0 : H pf = none
  p0 : H pp = none
section
variable {s d pw pf pp : Addr} {ws : List Str} {ps : List Addr} {H H' H2 : Hp} {n n2 : Nat} {L : List (List En)} {fr : List Str} {pr : List (Str × Str)}
theorem LapH.turn (l : LapH s d pw pf pp ws ps H H' n L fr pr) (a : Apart s d pw pf pp ps H) (k : KB s H' H2) (S : Src H2 s n2) : LapH s d pw pf pp ws ps H H2 n2 L fr pr := by
  obtain ⟨ys, hs⟩ := l.src.at_
  exact ⟨l.kb.trans k, S, k _ _ a.nw l.hw, l.hl.kb k hs fun p hp => (a.ps p hp).2.2.2.1, k _ _ a.nf l.hf, l.hp.kb k hs a.np⟩
theorem LapH.ex (l : LapH s d pw pf pp ws ps H H' n L fr pr) (a : Apart s d pw pf pp ps H) (e : Ex H' H2) : LapH s d pw pf pp ws ps H H2 n L fr pr := l.turn a (kb_ex e) (l.src.ex e)
theorem LapH.le (l : LapH s d pw pf pp ws ps H H' n L fr pr) (h : n ≤ n2) : LapH s d pw pf pp ws ps H H' n2 L fr pr := ⟨l.kb, l.src.le h, l.hw, l.hl, l.hf, l.hp⟩
theorem LapH.nd (l : LapH s d pw pf pp ws ps H H' n L fr pr) {p : Addr} {vs : List V} (h : H' p = some (.lst vs)) : d ≠ p := fun z => by
  have := l.hl.dk
  rw [z, h] at this
  cases this
theorem LapH.app {k : Nat} {pk a : Addr} {es : List En} {e : En} {lv : List V} (l : LapH s d pw pf pp ws ps H H' n L fr pr) (ap : Apart s d pw pf pp ps H) (hpk : ps[k]? = some pk) (hes : L[k]? = some es) (hlv : H' pk = some (.lst lv))
    (ha : H' a = some (.tup e.vs)) : LapH s d pw pf pp ws ps H (upd H' pk (.lst (lv ++ [.ref a]))) n (L.set k (es ++ [e])) fr pr := by
  obtain ⟨a1, a2, a3, a4, a5⟩ := ap.ps pk (List.mem_of_getElem? hpk)
  have tk : TK H' (upd H' pk (.lst (lv ++ [.ref a]))) := tk_upd hlv
  refine ⟨l.kb.updN (Or.inl a5), l.src.upd a4.symm, by rw [upd_ne a1.symm]; exact l.hw, ?_, by rw [upd_ne a2.symm]; exact l.hf, l.hp.keep tk (upd_ne a3.symm)⟩
  refine l.hl.set ap.nd tk (upd_ne (l.nd hlv)) hpk (fun p _ h => upd_ne h) ?_
  rw [List.map_append]
  exact (l.hl.lg k pk es hpk hes).app tk hlv upd_same (tk _ _ ha)
theorem LapH.popF {x : Str} (l : LapH s d pw pf pp ws ps H H' n L (fr ++ [x]) pr) (ap : Apart s d pw pf pp ps H) : LapH s d pw pf pp ws ps H (upd H' pf (.lst ((fr ++ [x]).map V.str).dropLast)) n L fr pr := by
  have tk : TK H' (upd H' pf (.lst ((fr ++ [x]).map V.str).dropLast)) := tk_upd l.hf
  have nf : pf ≠ s := ap.nf
  refine ⟨l.kb.updN (Or.inl ap.f0), l.src.upd nf.symm, by rw [upd_ne ap.wf]; exact l.hw, ⟨by rw [upd_ne (l.nd l.hf)]; exact l.hl.dk, l.hl.pl, fun i p es h1 h2 => (l.hl.lg i p es h1 h2).keep tk (upd_ne (ap.ps p (List.mem_of_getElem? h1)).2.1)⟩, ?_, l.hp.keep tk (upd_ne ap.fp.symm)⟩
  rw [upd_same, List.map_append]
  have : (fr.map V.str ++ [x].map V.str).dropLast = fr.map V.str := List.dropLast_concat
  rw [this]
theorem LapH.putP {vs ws2 : List V} {pr2 : List (Str × Str)} (l : LapH s d pw pf pp ws ps H H' n L fr pr) (ap : Apart s d pw pf pp ps H) (hvs : H' pp = some (.lst vs)) (hn : TL (upd H' pp (.lst ws2)) pp (pr2.map prv)) :
    LapH s d pw pf pp ws ps H (upd H' pp (.lst ws2)) n L fr pr2 := by
  have tk : TK H' (upd H' pp (.lst ws2)) := tk_upd hvs
  have np : pp ≠ s := ap.np
  exact ⟨l.kb.updN (Or.inl ap.p0), l.src.upd np.symm, by rw [upd_ne ap.wp]; exact l.hw, ⟨by rw [upd_ne (l.nd hvs)]; exact l.hl.dk, l.hl.pl, fun i p es h1 h2 => (l.hl.lg i p es h1 h2).keep tk (upd_ne (ap.ps p (List.mem_of_getElem? h1)).2.2.1)⟩, by rw [upd_ne ap.fp]; exact l.hf, hn⟩
theorem LapH.appP {a : Addr} {vs : List V} {x : Str × Str} (l : LapH s d pw pf pp ws ps H H' n L fr pr) (ap : Apart s d pw pf pp ps H) (hvs : H' pp = some (.lst vs)) (ha : H' a = some (.tup (prv x))) :
    LapH s d pw pf pp ws ps H (upd H' pp (.lst (vs ++ [.ref a]))) n L fr (pr ++ [x]) := by
  refine l.putP ap hvs ?_
  rw [List.map_append]
  exact l.hp.app (tk_upd hvs) hvs upd_same (tk_upd hvs _ _ ha)
theorem LapH.popP {vs : List V} {i : Nat} (l : LapH s d pw pf pp ws ps H H' n L fr pr) (ap : Apart s d pw pf pp ps H) (hvs : H' pp = some (.lst vs)) : LapH s d pw pf pp ws ps H (upd H' pp (.lst (vs.eraseIdx i))) n L fr (pr.eraseIdx i) := by
  refine l.putP ap hvs ?_
  rw [← erase_map]
  exact l.hp.erase (tk_upd hvs) hvs upd_same
/-- x, o = (present + [('', '')])[spot] -/
theorem s_spot {K : PySem.W.Frag} {D : Ends} {σ : L2.St} {sp i5 i11 j1 j2 : Nat} (h5 : σ[i5]? = some (some (.ref pp))) (h11 : σ[i11]? = some (some (.int (sp : Int)))) (hv : TL H pp (pr.map prv)) (hsp : sp ≤ pr.length) (hz : pr.length ≤ 1000)
    (k : ∀ (x o : Str) H4, Ex H H4 → (o = "" ∨ pr[sp]? = some (x, o)) → D.nx ((σ.set j1 (some (.str x))).set j2 (some (.str o))) H4) :
    tAsg (tOp (rIxL K) (tOp rCat (tVar i5) (tLst (tCons (tTup (tCons (tC (.str "")) (tCons (tC (.str "")) tNil))) tNil))) (tVar i11)) (gTup K 2 (gCons (gName j1) (gCons (gName j2) gNil))) D σ H := by
  obtain ⟨vs, hvs, hvl⟩ := hv.at_
  rw [List.length_map] at hvl
  refine ⟨.ref pp, h5, (by show 2 ≤ sizeLine; decide), fun a ha => ⟨(by show 1 ≤ sizeLine; decide), fun b hb => ⟨pp, b, vs, [.ref a], rfl, rfl, ?_, upd_same, sz_of (by show vs.length + 1 ≤ 100000; omega), fun c hc => ?_⟩⟩⟩
  all_goals have na : pp ≠ a := ne_of_none hvs ha
  all_goals have nb : pp ≠ b := ne_of_none (by rw [upd_ne na]; exact hvs) hb
  · rw [upd_ne nb, upd_ne na]
    exact hvs
  · have E : Ex H (upd (upd (upd H a (.tup [.str "", .str ""])) b (.lst [.ref a])) c (.lst (vs ++ [.ref a]))) := ((Ex.new ha).trans (Ex.new hb)).trans (Ex.new hc)
    by_cases hlt : sp < pr.length
    · obtain ⟨x, o⟩ : ∃ z, pr[sp]? = some z := ⟨_, List.getElem?_eq_getElem hlt⟩
      obtain ⟨t, g1, g2⟩ := hv.get hvs (i := sp) (t := prv x) (by rw [List.getElem?_map, o]; rfl)
      refine ⟨_, h11, c, vs ++ [.ref a], (sp : Int), .ref t, rfl, rfl, sq_of upd_same, atI_nat (by rw [List.getElem?_append_left (by omega)]; exact g1), t, prv x, rfl, st_of (E _ _ g2), rfl, _, _, rfl, _, _, rfl, rfl, ?_⟩
      exact k x.1 x.2 _ E (Or.inr o)
    · have : sp = vs.length := by omega
      refine ⟨_, h11, c, vs ++ [.ref a], (sp : Int), .ref a, rfl, rfl, sq_of upd_same, atI_nat (by rw [this, List.getElem?_append_right (Nat.le_refl _), Nat.sub_self]; rfl), a, [.str "", .str ""], rfl, st_of ?_, rfl, _, _, rfl, _, _, rfl, rfl, ?_⟩
      · have n1 : a ≠ b := ne_of_none (H := upd H a (.tup [.str "", .str ""])) upd_same hb
        have n2 : a ≠ c := ne_of_none (by rw [upd_ne n1, upd_same]) hc
        rw [upd_ne n2, upd_ne n1, upd_same]
      · exact k "" "" _ E (Or.inl rfl)
end
section
variable {P : Program} {w : World} {K : PySem.W.Frag} {mg : Str → Option Value} {base : Heap}
theorem sc_law_logs : FnScope ["source", "top", "workers", "rows", "fresh", "present", "counts", "steps", "liking", "lap", "name", "spot", "way", "item", "owner", "number"] ["source", "top"] (defScope s_law_logs) := ⟨rfl, rfl, rfl, by decide +kernel, rfl, by decide +kernel, by decide +kernel⟩
theorem ok_law_logs (D : Def K mg "_law_logs" s_law_logs ["source", "top"]) (T : Bl mg) (G_law_pick : Good P w K mg base 1 "_law_pick" ["source", "count"] spPick) (G_law_words : Good P w K mg base 2 "_law_words" ["source", "size"] (spWords K)) (G_law_workers : Good P w K mg base 3 "_law_workers" ["source"] (spWorkers K)) : Good P w K mg base 4 "_law_logs" ["source", "top"] (spLogs K) := by
  refine D.good sc_law_logs (fun vs H Q E h => ?_) (fun f cdv A outer s H vs Q E hr h => ?_)
  · obtain ⟨s, n, m, rfl, _⟩ := h
    rfl
  · obtain ⟨s, n, m, rfl, hs, hn, hm0, hm, q⟩ := h
    have hu := hu_of hr
    refine ⟨_, (pss_cons (ps_set (i := 2) sc_law_logs.nd rfl (Or.inl rfl) (pe_fn (G_law_workers.mono (by decide)) hr (pa_cons (pv 0) pa_nil)))
      (pss_cons (ps_set (i := 3) sc_law_logs.nd rfl (Or.inl rfl) (pe_callTy (hc := call_dictP rfl) (hg := rfl) (hm := T.dict) (hv := by decide +kernel) (ha := pa_cons (pe_lc (own := [("name", 10)]) (g := (gName 10)) (tt := tYes) rfl sc_law_logs.nd (x_pil (K := K) (pv 2)) (blkOk_by (N := ["source", "top", "workers", "rows", "fresh", "present", "counts", "steps", "liking", "lap", "name", "spot", "way", "item", "owner", "number"]) (sc := (defScope s_law_logs)) (by decide +kernel)) (fun _ _ _ _ _ => (pg_name (i := 10) sc_law_logs.nd rfl (Or.inl rfl))) (fun _ _ _ _ _ => pts_nil) (fun _ _ _ _ _ => (pe_tup (pa_cons (pv 10) (pa_cons (pe_lst pa_nil) pa_nil))))) pa_nil)))
      (pss_cons (ps_par (i := 4) (j := 5) rfl sc_law_logs.nd rfl rfl (by decide) rfl rfl (pa_cons (pe_fn (G_law_words.mono (by decide)) hr (pa_cons (pv 0) (pa_cons (pe_op op_mul pe_int (pv 1)) pa_nil))) (pa_cons (pe_lst pa_nil) pa_nil)) (by rfl))
      (pss_cons (ps_set (i := 6) sc_law_logs.nd rfl (Or.inl rfl) (pe_lst (pa_cons (pe_fn (G_law_pick.mono (by decide)) hr (pa_cons (pv 0) (pa_cons pe_int pa_nil))) (pa_cons (pe_fn (G_law_pick.mono (by decide)) hr (pa_cons (pv 0) (pa_cons pe_int pa_nil))) (pa_cons (pe_fn (G_law_pick.mono (by decide)) hr (pa_cons (pv 0) (pa_cons (pe_op op_add (pe_op op_mul pe_int (pv 1)) pe_int) pa_nil))) (pa_cons (pe_op op_mul pe_int (pv 1)) pa_nil))))))
      (pss_cons (ps_par (i := 7) (j := 8) rfl sc_law_logs.nd rfl rfl (by decide) rfl rfl (pa_cons (x_ixl (K := K) (pv 6) (pe_fn (G_law_pick.mono (by decide)) hr (pa_cons (pv 0) (pa_cons pe_int pa_nil)))) (pa_cons (pe_op op_add pe_int (pe_fn (G_law_pick.mono (by decide)) hr (pa_cons (pv 0) (pa_cons pe_int pa_nil)))) pa_nil)) (by rfl))
      (pss_cons (ps_for PassesOwn.never rfl (x_rng T (pa_cons (pv 7) pa_nil)) (pg_name (i := 9) sc_law_logs.nd rfl (Or.inl rfl)) (pss_cons (ps_set (i := 10) sc_law_logs.nd rfl (Or.inl rfl) (x_ixl (K := K) (pv 2) (pe_fn (G_law_pick.mono (by decide)) hr (pa_cons (pv 0) (pa_cons (x_len (K := K) T (pv 2)) pa_nil)))))
      (pss_cons (ps_par (i := 11) (j := 12) rfl sc_law_logs.nd rfl rfl (by decide) rfl rfl (pa_cons (pe_fn (G_law_pick.mono (by decide)) hr (pa_cons (pv 0) (pa_cons (pe_op op_add (x_len (K := K) T (pv 5)) pe_int) pa_nil))) (pa_cons (pe_fn (G_law_pick.mono (by decide)) hr (pa_cons (pv 0) (pa_cons pe_int pa_nil))) pa_nil)) (by rfl))
      (pss_cons (ps_asg (x_ixl (K := K) (pe_op op_cat (pv 5) (pe_lst (pa_cons (pe_tup (pa_cons pe_str (pa_cons pe_str pa_nil))) pa_nil))) (pv 11)) (x_gt (K := K) (pgs_cons (pg_name (i := 13) sc_law_logs.nd rfl (Or.inl rfl)) (pgs_cons (pg_name (i := 14) sc_law_logs.nd rfl (Or.inl rfl)) pgs_nil))))
      (pss_cons (ps_set (i := 15) sc_law_logs.nd rfl (Or.inl rfl) (x_ixl (K := K) (pe_lst (pa_cons (pv 12) (pa_cons (pe_fn (G_law_pick.mono (by decide)) hr (pa_cons (pv 0) (pa_cons pe_int pa_nil))) pa_nil))) (pe_fn (G_law_pick.mono (by decide)) hr (pa_cons (pv 0) (pa_cons pe_int pa_nil)))))
      (pss_cons (ps_if (pt_cmpR op_eq (x_len (K := K) T (pe_dget hu (pv 3) (pv 10) (fun _ _ => rfl))) (pv 1) (nomark _)) (pss_one (ps_set (i := 12) sc_law_logs.nd rfl (Or.inl rfl) pe_int)) pss_nil)
      (pss_one (ps_if (pt_cmpR op_eq (pv 12) pe_int (nomark _)) (pss_one (ps_expr (x_bm (K := K) PySem.F.plainAttrs_list PySem.F.slot_list_append PySem.F.type_list_append mt_append (pe_dget hu (pv 3) (pv 10) (fun _ _ => rfl)) (pa_cons (pe_tup (pa_cons pe_str (pa_cons (pv 15) pa_nil))) pa_nil)))) (pss_one (ps_if (pw_and (pt_cmpR op_lt (pv 12) (pv 8) (nomark _)) (pw_and1 (pt_cmpR op_ne (pv 14) pe_str (nomark _)))).pt (pss_cons (ps_expr (x_bm (K := K) PySem.F.plainAttrs_list PySem.F.slot_list_append PySem.F.type_list_append mt_append (pe_dget hu (pv 3) (pv 10) (fun _ _ => rfl)) (pa_cons (pe_ifExp (pt_cmpR op_eq (pv 14) (pv 10) (nomark _)) (pe_tup (pa_cons pe_str (pa_cons (pv 13) pa_nil))) (pe_tup (pa_cons pe_str (pa_cons (pv 14) (pa_cons (pv 13) pa_nil))))) pa_nil)))
      (pss_one (ps_expr (x_bm (K := K) PySem.F.plainAttrs_list PySem.F.slot_list_pop PySem.F.type_list_pop mt_popAt (pv 5) (pa_cons (pv 11) pa_nil))))) (pss_one (ps_if (pt_cmpR op_lt (pv 12) pe_int (nomark _)) (pss_cons (ps_expr (x_bm (K := K) PySem.F.plainAttrs_list PySem.F.slot_list_append PySem.F.type_list_append mt_append (pe_dget hu (pv 3) (pv 10) (fun _ _ => rfl)) (pa_cons (pe_tup (pa_cons pe_str (pa_cons (x_bm0 (K := K) PySem.F.plainAttrs_list PySem.F.slot_list_pop PySem.F.type_list_pop mt_pop (pv 4)) pa_nil))) pa_nil)))
      (pss_one (ps_expr (x_bm (K := K) PySem.F.plainAttrs_list PySem.F.slot_list_append PySem.F.type_list_append mt_append (pv 5) (pa_cons (pe_tup (pa_cons (x_ixt (K := K) (x_ixl (K := K) (pe_dget hu (pv 3) (pv 10) (fun _ _ => rfl)) (pe_un un_neg pe_int)) pe_int) (pa_cons (pv 10) pa_nil))) pa_nil))))) pss_nil))))))))))))
      (pss_one (ps_ret (pv 3))))))))), ?_⟩
    refine ⟨_, rfl, s, n, rfl, hs, by omega, fun pw ws H1 n1 k1 S1 h1 wk wg => ?_⟩
    obtain ⟨ys0, hs0⟩ := hs.at_
    refine s_rows (ev_var rfl) h1 (by have := wk.2.1; omega) wk.2.2.1 (fun _ => rfl) (fun _ => rfl) fun d ps H2 n2 e2 hd new => ?_
    have S2 := S1.ex e2
    refine ⟨_, rfl, _, rfl, _, _, rfl, rfl, Or.inl ⟨by decide, by decide⟩, s, n + 11, 6 * m, by rw [Int.natCast_mul]; rfl, S2, by omega, by omega, fun pf fr H3 n3 k3 S3 h3 hfl hfd hfn => ?_⟩
    refine ⟨(by show 0 ≤ sizeLine; decide), fun pp hpp => ⟨_, _, rfl, ?_⟩⟩
    obtain ⟨ys1, hs1⟩ := S1.at_
    obtain ⟨ys2, hs2⟩ := S2.at_
    obtain ⟨ys3, hs3⟩ := S3.at_
    have nsw : pw ≠ s := fun z => by rw [z, hs0] at n1; cases n1
    have nsf : pf ≠ s := fun z => by rw [z, hs2] at n3; cases n3
    have nsp : pp ≠ s := fun z => by rw [z, hs3] at hpp; cases hpp
    have h12 := e2 _ _ h1
    have nwf : pw ≠ pf := ne_of_none h12 n3
    have h13 := k3 _ _ nsw h12
    have nwp : pw ≠ pp := ne_of_none h13 hpp
    have nfp : pf ≠ pp := ne_of_none h3 hpp
    have d1 : H1 d = none := n2
    have ap : Apart s d pw pf pp ps H := by
      refine ⟨nwf, nwp, nfp, nsw, nsf, nsp, new.2.1, fun p h => ?_, k1.fresh ⟨_, hs1⟩ n2, n1, k1.fresh ⟨_, hs1⟩ (fresh_back e2 n3), ?_⟩
      · obtain ⟨g1, g2⟩ := new.2.2 p h
        have ns : p ≠ s := fun z => by rw [z, hs1] at g1; cases g1
        exact ⟨fun z => (by rw [z, h1] at g1; cases g1), ne_of_none g2 n3, ne_of_none (k3 _ _ ns g2) hpp, ns, k1.fresh ⟨_, hs1⟩ g1⟩
      · exact k1.fresh ⟨_, hs1⟩ (fresh_back e2 (k3.fresh ⟨_, hs3⟩ hpp))
    have hl3 : HL (upd H3 pp (.lst [])) d ws ps (List.replicate ws.length []) := by
      refine ⟨Ex.new hpp _ _ (k3 _ _ (fun z => by rw [z, hs1] at n2; cases n2) hd), new.1, fun i p es g1 g2 => ?_⟩
      have g3 : es = [] := (List.mem_replicate.mp (List.mem_of_getElem? g2)).2
      subst g3
      have gm := List.mem_of_getElem? g1
      exact TL.nil (Ex.new hpp _ _ (k3 _ _ (ap.ps p gm).2.2.2.1 (new.2.2 p gm).2))
    have S4 : Src (upd H3 pp (.lst [])) s (n + 13) := S3.ex (Ex.new hpp)
    have lap0 : LapH s d pw pf pp ws ps H (upd H3 pp (.lst [])) (n + 13) (List.replicate ws.length []) fr [] :=
      ⟨((k1.trans (kb_ex e2)).trans k3).trans (kb_ex (Ex.new hpp)), S4, Ex.new hpp _ _ h13, hl3, Ex.new hpp _ _ h3, TL.nil upd_same⟩
    have dl0 := Dlog.nil (top := m) wk hfl hfd hfn
    generalize upd H3 pp (.lst []) = H4 at lap0 S4
    clear S3 S2
    -- counts
    have bnd : ∀ {a : Int}, a ≤ 721 → ∀ v : V, (∃ r : Int, v = .int r ∧ 0 ≤ r ∧ r < a) → ∃ r : Int, v = .int r ∧ 0 ≤ r ∧ r ≤ 720 := fun ha v h => by
      obtain ⟨r, h1, h2, h3⟩ := h
      exact ⟨r, h1, h2, by omega⟩
    refine sk_asgL (c := 3) S4 (ekl_lst (c := 3) (Ps := [_, _, _, _]) (hid_s _ _) (eka_cons (c := 1) (d := 2) (hid_s _ _) ((ek_pick (c := 0) (m := 4) (hid_s _ _) rfl (ek_of ev_c rfl) (by decide) (by decide)).imp (bnd (by decide)))
      (eka_cons (c := 1) (d := 1) (hid_s _ _) ((ek_pick (c := 0) (m := 40) (hid_s _ _) rfl (ek_of ev_c rfl) (by decide) (by decide)).imp (bnd (by decide)))
      (eka_cons (c := 1) (d := 0) (hid_s _ _) ((ek_pick (c := 0) (m := 6 * (m : Int) + 1) (hid_s _ _) rfl (ek_of (ev_op (ev_op ev_c (ev_var rfl) (rv_I (Or.inl ⟨by decide, by decide⟩))) ev_c rv_I0) rfl) (by omega) (by omega)).imp (bnd (by omega)))
      (eka_cons (c := 0) (d := 0) (hid_s _ _) (ek_of (P := fun v => ∃ r : Int, v = .int r ∧ 0 ≤ r ∧ r ≤ 720) (ev_op ev_c (ev_var rfl) (rv_I (Or.inl ⟨by decide, by decide⟩))) ⟨_, rfl, by omega, by omega⟩) eka_nil)))) (by show 4 ≤ 100000; decide)) (by omega) fun pc cs H5 n5 k5 S5 h5 hcs => ?_
    have hat : ∀ r : Int, 0 ≤ r → r < 4 → ∃ t : Int, atI cs r = some (.int t) ∧ 0 ≤ t ∧ t ≤ 720 := fun r r0 r1 => by
      obtain ⟨k, rfl⟩ : ∃ k : Nat, r = (k : Int) := ⟨r.toNat, by omega⟩
      have : ∃ v, cs[k]? = some v ∧ ∃ r : Int, v = .int r ∧ 0 ≤ r ∧ r ≤ 720 := by
        rcases k with _ | _ | _ | _ | k
        · exact paired_get hcs (i := 0) rfl
        · exact paired_get hcs (i := 1) rfl
        · exact paired_get hcs (i := 2) rfl
        · exact paired_get hcs (i := 3) rfl
        · omega
      obtain ⟨v, g1, t, rfl, g2, g3⟩ := this
      exact ⟨t, atI_nat g1, g2, g3⟩
    obtain ⟨ys4, hs4⟩ := S4.at_
    have npc : pc ≠ s := fun z => by rw [z, hs4] at n5; cases n5
    refine sk_par (c := 2) (P1 := fun v => ∃ t : Int, v = .int t ∧ 0 ≤ t ∧ t ≤ 720) (P2 := fun v => ∃ t : Int, v = .int t ∧ t ≤ 6) S5 (eka_cons (c := 1) (d := 1) (hid_s _ _) (ek_op (c := 0) (d := 1) (P := fun v => v = .ref pc) (hid_s _ _) (ek_of (ev_var rfl) rfl) (ek_pick (c := 0) (m := 4) (hid_s _ _) rfl (ek_of ev_c rfl) (by decide) (by decide)) (fun x y hx hy => by
        obtain ⟨r, rfl, r0, r1⟩ := hy
        subst hx
        obtain ⟨t, g1, g2, g3⟩ := hat r r0 r1
        exact ⟨_, ⟨t, rfl, g2, g3⟩, rv_ixL (sq_of ((hid_ne npc).trans h5)) g1⟩))
      (eka_cons (c := 1) (d := 0) (hid_s _ _) (ek_op (c := 0) (d := 1) (P := fun v => v = .int 2) (hid_s _ _) (ek_of ev_c rfl) (ek_pick (c := 0) (m := 5) (hid_s _ _) rfl (ek_of ev_c rfl) (by decide) (by decide)) (fun x y hx hy => by
        obtain ⟨r, rfl, r0, r1⟩ := hy
        subst hx
        exact ⟨_, ⟨_, rfl, by omega⟩, rv_I0⟩)) eka_nil)) (by omega) fun v1 v2 H6 k6 S6 p1 p2 => ?_
    obtain ⟨t, rfl, t0, t1⟩ := p1
    obtain ⟨lk, rfl, hlk⟩ := p2
    have lap6 := (lap0.turn ap k5 S5).turn ap k6 S6
    clear lap0 S4 S5 hat hcs bnd
    refine q_forR1 (ea_cons (ev_var rfl) ea_nil) ⟨t0, by omega⟩ (fun i σ' H' => ∃ L fr pr a9 a10 a11 a12 a13 a14 a15, σ' = [some (.ref s), some (.int m), some (.ref pw), some (.ref d), some (.ref pf), some (.ref pp), some (.ref pc), some (.int t), some (.int lk), a9, a10, a11, a12, a13, a14, a15] ∧ LapH s d pw pf pp ws ps H H' (n + 18 + 5 * i) L fr pr ∧ Dlog m ws L fr pr ∧ pr.length ≤ i)
      (fun H7 e7 => ⟨_, _, _, _, _, _, _, _, _, _, rfl, lap6.ex ap e7, dl0, Nat.le_refl _⟩) (fun i σ' H' hi p => ?_) (fun σ' H' p => ?_)
    · obtain ⟨L, fr, pr, a9, a10, a11, a12, a13, a14, a15, rfl, lap, dl, hpl⟩ := p
      have hi : i < 720 := by omega
      have wlen := dl.v.wk.2.1
      have w1 := dl.v.wk.1
      refine sk_asg (c := 1) (P := fun v => ∃ (k : Nat) (x : Str), v = .str x ∧ ws[k]? = some x) lap.src (ek_op (c := 0) (d := 1) (P := fun v => v = .ref pw) (hid_s _ _) (ek_of (ev_var rfl) rfl)
        (ek_pick (c := 0) (m := (ws.length : Int)) (hid_s _ _) rfl (ek_of (ev_is (ev_len (ev_var rfl) (sq_of ((hid_ne ap.nw).trans lap.hw))) (by rw [List.length_map])) rfl) (by omega) (by omega)) (fun x y hx hy => by
        obtain ⟨r, rfl, r0, r1⟩ := hy
        subst hx
        obtain ⟨k, rfl⟩ : ∃ k : Nat, r = (k : Int) := ⟨r.toNat, by omega⟩
        have hk : k < ws.length := by omega
        exact ⟨_, ⟨k, ws[k], rfl, List.getElem?_eq_getElem hk⟩, rv_ixL (sq_of ((hid_ne ap.nw).trans lap.hw)) (atI_nat (by rw [List.getElem?_map, List.getElem?_eq_getElem hk]; rfl))⟩)) (by omega) fun v HB kB SB p => ?_
      obtain ⟨k, x, rfl, hk⟩ := p
      have lapB := lap.turn ap kB SB
      obtain ⟨vs, hvs, hvl⟩ := lapB.hp.at_
      rw [List.length_map] at hvl
      refine sk_par (c := 2) (P1 := fun v => ∃ sp : Nat, v = .int (sp : Int) ∧ sp ≤ pr.length) (P2 := fun v => ∃ wy : Int, v = .int wy ∧ 0 ≤ wy ∧ wy < 7) SB (eka_cons (c := 1) (d := 1) (hid_s _ _) ((ek_pick (c := 0) (m := (vs.length : Int) + 1) (hid_s _ _) rfl (ek_of (ev_op (ev_len (ev_var rfl) (sq_of ((hid_ne ap.np).trans hvs))) ev_c rv_I0) rfl) (by omega) (by omega)).imp (fun v h => by
          obtain ⟨r, rfl, r0, r1⟩ := h
          exact ⟨r.toNat, by rw [Int.toNat_of_nonneg r0], by omega⟩))
        (eka_cons (c := 1) (d := 0) (hid_s _ _) (ek_pick (c := 0) (m := 7) (hid_s _ _) rfl (ek_of ev_c rfl) (by decide) (by decide)) eka_nil)) (by omega) fun v1 v2 HC kC SC p1 p2 => ?_
      obtain ⟨sp, rfl, hsp⟩ := p1
      obtain ⟨wy, rfl, wy0, wy1⟩ := p2
      have lapC := lapB.turn ap kC SC
      refine s_spot (D := { nx := _, rt := _, ct := _, bk := _ }) rfl rfl lapC.hp hsp (by omega) fun y o HD eD hyo => ?_
      have lapD := lapC.ex ap eD
      have SD := lapD.src
      refine sk_asg (c := 2) (P := fun v => ∃ nb : Int, v = .int nb ∧ 0 ≤ nb ∧ nb ≤ 60) SD (ek_ixL (c := 1) (d := 1) (hid_s _ _) (ekl_lst (c := 1) (Ps := [fun v => ∃ nb : Int, v = .int nb ∧ 0 ≤ nb ∧ nb ≤ 60, fun v => ∃ nb : Int, v = .int nb ∧ 0 ≤ nb ∧ nb ≤ 60]) (hid_s _ _) (eka_cons (c := 0) (d := 1) (hid_s _ _) (ek_of (ev_var rfl) ⟨wy, rfl, wy0, by omega⟩)
          (eka_cons (c := 1) (d := 0) (hid_s _ _) ((ek_pick (c := 0) (m := 61) (hid_s _ _) rfl (ek_of ev_c rfl) (by decide) (by decide)).imp (fun v h => by
            obtain ⟨r, rfl, r0, r1⟩ := h
            exact ⟨r, rfl, r0, by omega⟩)) eka_nil)) (by show 2 ≤ 100000; decide)) (ek_pick (c := 0) (m := 2) (hid_s _ _) rfl (ek_of ev_c rfl) (by decide) (by decide)) (fun xs u hxs hu => by
          obtain ⟨r, rfl, r0, r1⟩ := hu
          obtain ⟨j, rfl⟩ : ∃ j : Nat, r = (j : Int) := ⟨r.toNat, by omega⟩
          rcases j with _ | _ | j
          · obtain ⟨z, g1, g2⟩ := paired_get hxs (i := 0) rfl
            exact ⟨_, z, rfl, atI_nat g1, g2⟩
          · obtain ⟨z, g1, g2⟩ := paired_get hxs (i := 1) rfl
            exact ⟨_, z, rfl, atI_nat g1, g2⟩
          · omega)) (by omega) fun v HE kE SE p => ?_
      obtain ⟨nb, rfl, nb0, nb1⟩ := p
      have lapE := lapD.turn ap kE SE
      have hkL : k < L.length := by rw [dl.v.len]; exact (List.getElem?_eq_some_iff.mp hk).1
      have hkP : k < ps.length := by rw [lap.hl.pl]; exact (List.getElem?_eq_some_iff.mp hk).1
      obtain ⟨es, hes⟩ : ∃ es, L[k]? = some es := ⟨_, List.getElem?_eq_getElem hkL⟩
      obtain ⟨pk, hpk⟩ : ∃ pk, ps[k]? = some pk := ⟨_, List.getElem?_eq_getElem hkP⟩
      have hesm := (dl.v.ent es (List.mem_of_getElem? hes)).1
      obtain ⟨lv, hlv, hll⟩ := (lapE.hl.lg k pk es hpk hes).at_
      rw [List.length_map] at hll
      have dg : ∀ {σ : L2.St} {HX : Hp}, HX d = some (.dK (Dk ws ps)) → σ[3]? = some (some (.ref d)) → σ[10]? = some (some (.str x)) → Ev (tDGet (tVar 3) (tVar 10)) σ HX (.ref pk) := fun h1 h2 h3 => ev_dget (ev_var h2) (ev_var h3) h1 (dk_get dl.v.wk.2.2.1 hk hpk)
      refine q_ifAsg (v := .int (if lv.length = m then 9 else wy)) (et_test (ev_op (ev_lenA (dg lapE.hl.dk rfl rfl) (Or.inl (sq_of hlv))) (ev_var rfl) (rv_eq rfl))) (fun hb => ?_) (fun hb => ?_) fun HF eF => ?_
      · have hb : lv.length = m := by
          have := of_decide_eq_true hb
          injection this with h
          omega
        rw [if_pos hb]
        exact ev_c
      · have hb : ¬ lv.length = m := fun z => of_decide_eq_false hb (by rw [z])
        rw [if_neg hb]
        rfl
      have lapF := lapE.ex ap eF
      have hlvF := eF _ _ hlv
      generalize hwz : (if lv.length = m then (9 : Int) else wy) = wz
      have short : wz < 9 → es.length < m := fun h => by
        rw [← hll]
        rw [hll] at hwz
        by_cases e : es.length = m
        · rw [if_pos e] at hwz
          omega
        · omega
      have step : ∀ {H2 : Hp} {L2 : List (List En)} {fr2 : List Str} {pr2 : List (Str × Str)} {n2 : Nat}, LapH s d pw pf pp ws ps H H2 n2 L2 fr2 pr2 → n2 ≤ n + 18 + 5 * (i + 1) → LapH s d pw pf pp ws ps H H2 (n + 18 + 5 * (i + 1)) L2 fr2 pr2 := fun l h => l.le h
      refine s_if (b := decide (wz = 0)) (et_is (et_test (ev_op (ev_var rfl) ev_c (rv_eq rfl))) ?_) (fun hb HG eG => ?_) (fun hb HG eG => ?_)
      · by_cases e : wz = 0 <;> simp [e]
      · have hb := of_decide_eq_true hb
        have lapG := lapF.ex ap eG
        refine s_appU (xs := lv) (ys := (En.size nb).vs) (eG _ _ hlvF) (dg lapG.hl.dk rfl rfl) (eu_tup (ea_cons ev_c (ea_cons (ev_var rfl) ea_nil)) (by show 2 ≤ 100000; decide)) (by omega) fun a HI na eI hI => ?_
        have lapI := lapG.ex ap eI
        exact ⟨_, _, _, _, _, _, _, _, _, _, rfl, step (lapI.app ap hpk hes (eI _ _ (eG _ _ hlvF)) hI) (by omega), dl.size hes (short (by omega)) nb0 nb1, by omega⟩
      · have lapG := lapF.ex ap eG
        have hlvG := eG _ _ hlvF
        have hbn : ¬ wz = 0 := of_decide_eq_false hb
        refine s_if (b := decide (wz < lk) && decide (o ≠ "")) (et_is (et_and (et_test (ev_op (ev_var rfl) (ev_var rfl) rv_I0)) (fun _ => et_test (ev_op (ev_var rfl) ev_c (rv_ne rfl)))) ?_) (fun hc HI eI => ?_) (fun hc HI eI => ?_)
        · congr 1
          by_cases e : o = "" <;> simp [e]
        · rw [Bool.and_eq_true] at hc
          have c1 : wz < lk := of_decide_eq_true hc.1
          have c2 : o ≠ "" := of_decide_eq_true hc.2
          have hq : pr[sp]? = some (y, o) := by
            rcases hyo with h | h
            · exact absurd h c2
            · exact h
          have hlt := (List.getElem?_eq_some_iff.mp hq).1
          have lapI := lapG.ex ap eI
          have hlvI := eI _ _ hlvG
          refine q_appU (xs := lv) (ys := (if o = x then En.pop y else En.steal o y).vs) hlvI (dg lapI.hl.dk rfl rfl) (eu_if (b := decide (o = x)) (et_is (et_test (ev_op (ev_var rfl) (ev_var rfl) (rv_eq rfl))) ?_) (fun h => ?_) (fun h => ?_)) (by omega) fun a HJ na eJ hJ => ?_
          · by_cases e : o = x <;> simp [e]
          · rw [if_pos (of_decide_eq_true h)]
            exact eu_tup (ea_cons ev_c (ea_cons (ev_var rfl) ea_nil)) (by show 2 ≤ 100000; decide)
          · rw [if_neg (of_decide_eq_false h)]
            exact eu_tup (ea_cons ev_c (ea_cons (ev_var rfl) (ea_cons (ev_var rfl) ea_nil))) (by show 3 ≤ 100000; decide)
          have lapJ := (lapI.ex ap eJ).app ap hpk hes (eJ _ _ hlvI) hJ
          obtain ⟨us, hus, hul⟩ := lapJ.hp.at_
          rw [List.length_map] at hul
          refine ⟨_, rfl, .inl ⟨rfl, _, sq_of hus⟩, _, rfl, pp, us, (sp : Int), sp, us[sp], rfl, rfl, hus, by omega, by omega, seqIx (by omega) (by omega), List.getElem?_eq_getElem (by omega), ?_⟩
          refine ⟨_, _, _, _, _, _, _, _, _, _, rfl, step (lapJ.popP ap hus) (by omega), dl.take hes hk (short (by omega)) hq ?_, ?_⟩
          · by_cases e : o = x
            · left
              exact ⟨e, if_pos e⟩
            · right
              exact ⟨e, if_neg e⟩
          · have := List.length_eraseIdx_le pr sp
            omega
        · refine s_if (b := decide (wz < 9)) (et_test (ev_op (ev_var rfl) ev_c rv_I0)) (fun hd HJ eJ => ?_) (fun hd HJ eJ => ?_)
          · have hd := of_decide_eq_true hd
            have hsh := short hd
            have lapJ := (lapG.ex ap eI).ex ap eJ
            have hlvJ := eJ _ _ (eI _ _ hlvG)
            have hne : fr ≠ [] := fun z => by
              have h1 := dl.cnt
              have h2 := flat_lt (fun es he => (dl.v.ent es he).1) hes hsh
              rw [z] at h1
              simp only [List.length_nil, Nat.add_zero] at h1
              have h3 : L.length * m ≤ 6 * m := Nat.mul_le_mul_right _ (by rw [dl.v.len]; exact wlen)
              omega
            obtain ⟨fr', z, rfl⟩ : ∃ fr' z, fr = fr' ++ [z] := ⟨fr.dropLast, fr.getLast hne, (List.dropLast_concat_getLast hne).symm⟩
            refine s_appD (D := { nx := _, rt := _, ct := _, bk := _ }) (dg lapJ.hl.dk rfl rfl) hlvJ fun HK eK => ?_
            have lapK := lapJ.ex ap eK
            have lapM := lapK.popF ap
            have npf := (ap.ps pk (List.mem_of_getElem? hpk)).2.1
            have hlvM : (upd HK pf (.lst ((fr' ++ [z]).map V.str).dropLast)) pk = some (.lst lv) := by
              rw [upd_ne npf]
              exact eK _ _ hlvJ
            refine ⟨.ref pf, rfl, .inl ⟨rfl, _, sq_of lapK.hf⟩, pf, (fr' ++ [z]).map V.str, .str z, rfl, rfl, lapK.hf, ?_, (by show 2 ≤ sizeLine; decide), fun a ha => ⟨pk, lv, .ref a, rfl, rfl, Ex.new ha _ _ hlvM, sz_lt (by omega), ?_⟩⟩
            · rw [List.map_append, List.length_append]
              show (fr'.map V.str ++ [V.str z])[(fr'.map V.str).length + 1 - 1]? = _
              rw [Nat.add_sub_cancel, List.getElem?_append_right (Nat.le_refl _), Nat.sub_self]
              rfl
            · have lapN := (lapM.ex ap (Ex.new ha)).app (e := .push z) ap hpk hes (Ex.new ha _ _ hlvM) upd_same
              have eN : upd (upd (upd HK pf (.lst ((fr' ++ [z]).map V.str).dropLast)) a (.tup (En.push z).vs)) pk (.lst (lv ++ [.ref a])) = upd (upd (upd HK pf (.lst ((fr' ++ [z]).map V.str).dropLast)) a (.tup [.str "push", .str z])) pk (.lst (lv ++ [.ref a])) := rfl
              rw [eN] at lapN
              clear eN
              dsimp only
              generalize upd (upd (upd HK pf (.lst ((fr' ++ [z]).map V.str).dropLast)) a (.tup [.str "push", .str z])) pk (.lst (lv ++ [.ref a])) = HN at lapN ⊢
              obtain ⟨us, hus, hul⟩ := lapN.hp.at_
              rw [List.length_map] at hul
              have tl := lapN.hl.lg k pk (es ++ [.push z]) hpk (List.getElem?_set_self hkL)
              obtain ⟨lw, hlw, hlwl⟩ := tl.at_
              obtain ⟨a2, g1, g2⟩ := tl.get hlw (i := es.length) (t := [.str "push", .str z]) (by
                rw [List.map_append, List.getElem?_append_right (by rw [List.length_map]; exact Nat.le_refl _), List.length_map, Nat.sub_self]
                rfl)
              refine s_appU (xs := us) (ys := [.str z, .str x]) hus (ev_var rfl) ?_ (by omega) fun b HO nbO eO hO => ?_
              · refine eu_tup (ea_cons ?_ (ea_cons (ev_var rfl) ea_nil)) (by show 2 ≤ 100000; decide)
                exact ev_op (ev_op (dg lapN.hl.dk rfl rfl) (ev_un ev_c ru_neg) (rv_ixL (sq_of hlw) (at_last (n := es.length) (by rw [hlwl, List.length_map, List.length_append]; rfl) g1))) ev_c (rv_ixT (st_of g2) rfl)
              have lapO := lapN.ex ap eO
              exact ⟨_, _, _, _, _, _, _, _, _, _, rfl, step (lapO.appP (x := (z, x)) ap (eO _ _ hus) hO) (by omega), dl.push hes hk hsh, by rw [List.length_append]; show pr.length + 1 ≤ i + 1; omega⟩
          · have lapJ := (lapG.ex ap eI).ex ap eJ
            exact ⟨_, _, _, _, _, _, _, _, _, _, rfl, step lapJ (by omega), dl, by omega⟩
    · obtain ⟨L, fr, pr, a9, a10, a11, a12, a13, a14, a15, rfl, lap, dl, hpl⟩ := p
      refine ⟨.ref d, rfl, ?_⟩
      exact q d ws ps L H' ap.d0 lap.kb (lap.src.le (by omega)) lap.hl (fun p hp => (ap.ps p hp).2.2.2.2) ap.nd dl.v (fun z hz => dl.nq z (List.mem_append_left _ hz)) wg
end
end Vx

set_option Elab.async false
set_option linter.all false
set_option maxRecDepth 100000
set_option maxHeartbeats 4000000
namespace Vx
open PySem PySem.Spec PyProof.Rows L2 Evl
/-! the program: what it says of valid logs -/
structure Cs (mg : Str → Option Value) : Prop where
  MOST_LETTERS : ∃ t, mg "MOST_LETTERS" = some (.int 8 t)
  MOST_ITEMS : ∃ t, mg "MOST_ITEMS" = some (.int 60 t)
  MOST_WORKERS : ∃ t, mg "MOST_WORKERS" = some (.int 6 t)
  MOST_ENTRIES : ∃ t, mg "MOST_ENTRIES" = some (.int 60 t)
theorem x_gint {X : Cx} {x : Str} {i : Int} {pos : Pos} (h : ∃ t, X.mg x = some (.int i t)) (hg : Gl X x := by rfl) (hd : (x == ("__debug__" : Str)) = false := by decide) : PE X (.Name x pos) (tC (.int i)) := by
  obtain ⟨t, h⟩ := h
  exact pe_glob hg h ⟨t, rfl⟩ hd
theorem x_in {X : Cx} {K : PySem.W.Frag} (hK : X.K = K) : OpR X (compareOp .In) (rIn K false) := by
  subst hK
  exact op_in_seq
def Yes (H : Hp) (Q : VK) : Prop := ∀ H', Ex H H' → Q (.bl true) H'
def spInt : Sp := fun vs H Q _ => ∃ k : Int, vs = [.int k] ∧ Yes H Q
def spName : Sp := fun vs H Q _ => ∃ z : Str, vs = [.str z] ∧ IsNm z ∧ Yes H Q
def spSize : Sp := fun vs H Q _ => ∃ k : Int, vs = [.int k] ∧ (0 ≤ k ∧ k ≤ 60) ∧ Yes H Q
def spEntry : Sp := fun vs H Q _ => ∃ (a : Addr) (e : En), vs = [.ref a] ∧ H a = some (.tup e.vs) ∧ e.ok ∧ Yes H Q
def spIsLog : Sp := fun vs H Q _ => ∃ (p : Addr) (es : List En), vs = [.ref p] ∧ TL H p (es.map En.vs) ∧ (es.length ≤ 60 ∧ ∀ e ∈ es, e.ok) ∧ Yes H Q
theorem Yes.spv {sp : Sp} {vs : List V} {H : Hp} (h : ∀ H1, Ex H H1 → ∀ Q, Yes H1 Q → ∀ E, sp vs H1 Q E) : SpV sp vs H (.bl true) := fun H1 e Q q E => h H1 e Q q E
theorem ev_allT {K : PySem.W.Frag} {σ : L2.St} {H : Hp} {te : TE} (h : EvLP te σ H (fun vs _ => ∀ (i : Nat) v, vs[i]? = some v → v = .bl true)) : Ev (tCB (rAll K) (tCons te tNil)) σ H (.bl true) := fun H1 e Q q =>
  h H1 e _ fun p vs H2 n e2 h2 k => by
    have hv := k.kn.now e e2
    have : vs = (List.replicate vs.length true).map V.bl := by
      refine List.ext_getElem? fun i => ?_
      by_cases hi : i < vs.length
      · rw [List.getElem?_map, List.getElem?_replicate, if_pos hi, List.getElem?_eq_getElem hi, hv i _ (List.getElem?_eq_getElem hi)]
        rfl
      · rw [List.getElem?_eq_none (by omega), List.getElem?_eq_none (by rw [List.length_map, List.length_replicate]; omega)]
    refine ⟨p, List.replicate vs.length true, rfl, sq_of (by rw [← this]; exact h2), ?_⟩
    rw [all_rep]
    exact q H2 e2
/-- over the signs of a text -/
theorem elp_lcS {σ : L2.St} {H : Hp} {te tl : TE} {vs : List Nat} {j : Nat} {z : Str} (Φ : Nat → V → Hp → Prop) (h : Ev tl σ H (.str z)) (hz : z.length < 40000) (hw : ∀ x, wipe ((wipe σ vs).set j (some x)) vs = wipe σ vs)
    (he : ∀ (i c : Nat), z.cps.toList[i]? = some c → EvP te ((wipe σ vs).set j (some (.str ⟨#[c]⟩))) H (Φ i)) : EvLP (tLc (iStr tl) (gName j) tYes te vs) σ H (fun ys H' => ys.length = z.length ∧ ∀ i v, ys[i]? = some v → Φ i v H') := fun H0 e Q q => h H0 e _ fun H1 e1 =>
  ⟨z, rfl, fun Dl hD => lc_P (J := Its z) (B := H) (n := z.length) Φ (by omega) (e.trans e1) hD (fun i H2 hi e2 => hi) (fun H2 e2 => Nat.le_refl _)
    (fun i H2 x H' hi e2 y => by
      obtain ⟨rfl, c, hc, rfl⟩ := y
      exact ⟨_, Ex.refl _, hw _, fun Q2 q2 => q2 _ (Ex.refl _), he i c (by rw [Array.getElem?_toList]; exact hc)⟩)
    (fun ys H2 e2 h2 k => q Dl ys H2 (fresh_back e1 hD) (e1.trans e2) h2 (k.pre e1))⟩
theorem rv_leS {H : Hp} {i j : Str} : RV (fun x y H Q => ∃ i j, x = V.str i ∧ y = V.str j ∧ Q (.bl (!decide (j.cps.toList < i.cps.toList))) H) (.str i) (.str j) H (.bl (!decide (j.cps.toList < i.cps.toList))) := fun H1 _ _ q => ⟨i, j, rfl, rfl, q H1 (Ex.refl H1)⟩
theorem ev_chain {σ : L2.St} {H : Hp} {r r' : R2} {ta tb tc : TE} {x y z : V} {b : Bool} (ha : Ev ta σ H x) (hb : Ev tb σ H y) (hc : Ev tc σ H z) (h1 : RV r x y H (.bl true)) (h2 : RV r' y z H (.bl b)) : Ev (tChain r r' ta tb tc) σ H (.bl b) := fun H1 e Q q =>
  ha H1 e _ fun H2 e2 => hb H2 (e.trans e2) _ fun H3 e3 => h1 H3 ((e.trans e2).trans e3) _ fun H4 e4 => ⟨true, rfl, by
    rw [if_pos rfl]
    exact hc H4 (((e.trans e2).trans e3).trans e4) _ fun H5 e5 => h2 H5 ((((e.trans e2).trans e3).trans e4).trans e5) _ fun H6 e6 => q H6 ((((e2.trans e3).trans e4).trans e5).trans e6)⟩
theorem ev_lenS {σ : L2.St} {H : Hp} {te : TE} {r : List V → Hp → VK → Prop} {z : Str} (hr : ∀ H Q, Q (.int (z.length : Int)) H → r [.str z] H Q) (h : Ev te σ H (.str z)) : Ev (tCB r (tCons te tNil)) σ H (.int (z.length : Int)) := fun H1 e Q q => h H1 e _ fun H2 e2 => hr H2 Q (q H2 e2)
theorem lt1 {a b : Nat} : [a] < [b] ↔ a < b := by
  rw [List.cons_lt_cons_iff]
  simp
theorem rv_b {r : R2} {x y : V} {H : Hp} {b : Bool} (h : RV r x y H (.bl b)) (e : b = true) : RV r x y H (.bl true) := by
  rw [← e]
  exact h
theorem le_one {a b : Nat} {x y : Str} (hx : x.cps.toList = [a]) (hy : y.cps.toList = [b]) (h : a ≤ b) : (!decide (y.cps.toList < x.cps.toList)) = true := by
  rw [hx, hy]
  have : ¬ [b] < [a] := fun z => by
    have := lt1.mp z
    omega
  simp only [this, decide_false, Bool.not_false]
section
variable {P : Program} {w : World} {K : PySem.W.Frag} {mg : Str → Option Value} {base : Heap}
theorem sc_is_integer : FnScope ["thing"] ["thing"] (defScope s_is_integer) := ⟨rfl, rfl, rfl, by decide +kernel, rfl, by decide +kernel, by decide +kernel⟩
theorem ok_is_integer (D : Def K mg "is_integer" s_is_integer ["thing"]) (T : Bl mg) : Good P w K mg base 1 "is_integer" ["thing"] (spInt) := by
  refine D.good sc_is_integer (fun vs H Q E h => ?_) (fun f cdv A outer s H vs Q E hr h => ?_)
  · obtain ⟨k, rfl, _⟩ := h
    rfl
  · obtain ⟨k, rfl, q⟩ := h
    have hu := hu_of hr
    refine ⟨_, (pss_one (ps_ret (pe_and (x_isi (K := K) "int" T (pv 0) T.int) (pe_one (pe_not (x_isi (K := K) "bool" T (pv 0) T.bool)))))), ?_⟩
    exact s_ret (ev_andV (a := true) (b := true) (ev_isI rfl ty_int rfl) (fun _ => ev_notV (a := false) (ev_isI rfl ty_int rfl))) fun H1 e1 => q H1 e1
theorem sc_is_name : FnScope ["thing", "letter"] ["thing"] (defScope s_is_name) := ⟨rfl, rfl, rfl, by decide +kernel, rfl, by decide +kernel, by decide +kernel⟩
theorem ok_is_name (D : Def K mg "is_name" s_is_name ["thing"]) (T : Bl mg) (C : Cs mg) : Good P w K mg base 1 "is_name" ["thing"] (spName) := by
  refine D.good sc_is_name (fun vs H Q E h => ?_) (fun f cdv A outer s H vs Q E hr h => ?_)
  · obtain ⟨z, rfl, _⟩ := h
    rfl
  · obtain ⟨z, rfl, hz, q⟩ := h
    have hu := hu_of hr
    refine ⟨_, (pss_cons (ps_if (pw_or (pt_not (pt_val (x_isi (K := K) "str" T (pv 0) T.str))) (pw_or1 (pt_not (pt_chain op_le op_le pe_int (pe_callB call_len_str (by rfl) T.len PySem.boot_len (pa_cons (pv 0) pa_nil)) (x_gint C.MOST_LETTERS))))).pt (pss_one (ps_ret pe_bl)) pss_nil)
      (pss_one (ps_ret (x_all (K := K) T (pe_lc (own := [("letter", 1)]) (g := (gName 1)) (tt := tYes) rfl sc_is_name.nd (pi_str (pv 0)) (blkOk_by (N := ["thing", "letter"]) (sc := (defScope s_is_name)) (by decide +kernel)) (fun _ _ _ _ _ => (pg_name (i := 1) sc_is_name.nd rfl (Or.inl rfl))) (fun _ _ _ _ _ => pts_nil) (fun _ _ _ _ _ => (pe_chain op_le_str op_le_str pe_str (pv 1) pe_str))))))), ?_⟩
    refine s_if (b := false) (et_is (et_or (a := false) (et_not (a := true) (et_B (ev_isI rfl ty_str rfl))) (fun _ => et_not (a := true) (et_test (ev_chain ev_c (ev_lenS (fun H Q q => ?_) (ev_var rfl)) ev_c ?_ ?_)))) rfl) (fun z => nomatch z) (fun _ H1 e1 => ?_)
    · exact ⟨z, rfl, sz_of (by have := hz.2.1; omega), q⟩
    · exact rv_b rv_I0 (by have := hz.1; simp; omega)
    · exact rv_b rv_I0 (by have := hz.2.1; simp; omega)
    · refine s_ret (ev_allT ((elp_lcS (fun _ v _ => v = .bl true) (ev_var rfl) (by have := hz.2.1; omega) (fun _ => rfl) (fun i c hc => evp_of (ev_chain ev_c (ev_var rfl) ev_c ?_ ?_) fun _ _ => rfl)).imp fun _ _ _ h => h.2)) fun H2 e2 => q H2 (e1.trans e2)
      · exact rv_b rv_leS (le_one (a := 97) (b := c) (by decide +kernel) rfl (hz.2.2 c (List.mem_of_getElem? hc)).1)
      · exact rv_b rv_leS (le_one (a := c) (b := 122) rfl (by decide +kernel) (hz.2.2 c (List.mem_of_getElem? hc)).2)
theorem sc_is_size : FnScope ["thing"] ["thing"] (defScope s_is_size) := ⟨rfl, rfl, rfl, by decide +kernel, rfl, by decide +kernel, by decide +kernel⟩
theorem ok_is_size (D : Def K mg "is_size" s_is_size ["thing"]) (T : Bl mg) (C : Cs mg) (G_is_integer : Good P w K mg base 1 "is_integer" ["thing"] spInt) : Good P w K mg base 2 "is_size" ["thing"] (spSize) := by
  refine D.good sc_is_size (fun vs H Q E h => ?_) (fun f cdv A outer s H vs Q E hr h => ?_)
  · obtain ⟨z, rfl, _⟩ := h
    rfl
  · obtain ⟨k, rfl, hk, q⟩ := h
    have hu := hu_of hr
    refine ⟨_, (pss_one (ps_ret (pe_and (pe_fn (G_is_integer.mono (by decide)) hr (pa_cons (pv 0) pa_nil)) (pe_one (pe_chain op_le op_le pe_int (pv 0) (x_gint C.MOST_ITEMS)))))), ?_⟩
    have G := G_is_integer
    refine s_ret (ev_andV (a := true) (b := true) (ev_call (ea_cons (ev_var rfl) ea_nil) (Yes.spv fun H1 _ Q y E => ⟨k, rfl, y⟩)) (fun _ => ev_chain ev_c (ev_var rfl) ev_c (rv_b rv_I0 ?_) (rv_b rv_I0 ?_))) fun H1 e1 => q H1 e1
    · simp
      omega
    · simp
      omega
theorem sc_is_entry : FnScope ["thing"] ["thing"] (defScope s_is_entry) := ⟨rfl, rfl, rfl, by decide +kernel, rfl, by decide +kernel, by decide +kernel⟩
theorem ok_is_entry (D : Def K mg "is_entry" s_is_entry ["thing"]) (T : Bl mg) (C : Cs mg) (G_is_name : Good P w K mg base 1 "is_name" ["thing"] spName) (G_is_size : Good P w K mg base 2 "is_size" ["thing"] spSize) : Good P w K mg base 3 "is_entry" ["thing"] (spEntry) := by
  refine D.good sc_is_entry (fun vs H Q E h => ?_) (fun f cdv A outer s H vs Q E hr h => ?_)
  · obtain ⟨a, e, rfl, _⟩ := h
    rfl
  · obtain ⟨a, e, rfl, ha, ok, q⟩ := h
    have hu := hu_of hr
    refine ⟨_, (pss_cons (ps_if (pt_not (pt_val (x_isi (K := K) "tuple" T (pv 0) T.tuple))) pss_never pss_nil)
      (pss_cons (ps_if (pw_and (pt_cmpR op_eq (x_len (K := K) T (pv 0)) pe_int (nomark _)) (pw_and1 (pt_cmpR (x_in (K := K) rfl) (x_ixt (K := K) (pv 0) pe_int) (pe_tup (pa_cons pe_str (pa_cons pe_str pa_nil))) (by rfl)))).pt (pss_one (ps_ret (pe_fn (G_is_name.mono (by decide)) hr (pa_cons (x_ixt (K := K) (pv 0) pe_int) pa_nil)))) pss_nil)
      (pss_cons (ps_if (pw_and (pt_cmpR op_eq (x_len (K := K) T (pv 0)) pe_int (nomark _)) (pw_and1 (pt_cmpR op_eq (x_ixt (K := K) (pv 0) pe_int) pe_str (nomark _)))).pt (pss_one (ps_ret (pe_fn (G_is_size.mono (by decide)) hr (pa_cons (x_ixt (K := K) (pv 0) pe_int) pa_nil)))) pss_nil)
      (pss_cons (ps_if (pw_and (pt_cmpR op_eq (x_len (K := K) T (pv 0)) pe_int (nomark _)) (pw_and1 (pt_cmpR op_eq (x_ixt (K := K) (pv 0) pe_int) pe_str (nomark _)))).pt (pss_one (ps_ret (pe_and (pe_fn (G_is_name.mono (by decide)) hr (pa_cons (x_ixt (K := K) (pv 0) pe_int) pa_nil)) (pe_one (pe_fn (G_is_name.mono (by decide)) hr (pa_cons (x_ixt (K := K) (pv 0) pe_int) pa_nil)))))) pss_nil)
      (pss_one (ps_ret pe_bl)))))), ?_⟩
    have st : ∀ H1, Ex H H1 → SqT K H1 a e.vs := fun H1 e1 => st_of (e1 _ _ ha)
    have hty : ∀ H1, Ex H H1 → TyN K H1 (.ref a) "tuple" := fun H1 e1 => ty_tup (Or.inl (e1 _ _ ha))
    refine s_if (b := false) (et_not (a := true) (et_B (ev_isI rfl (hty H (Ex.refl H)) rfl))) (fun z => nomatch z) (fun _ H1 e1 => ?_)
    have nm : ∀ {σ : L2.St} {H2 : Hp} {i : Int} {z : Str}, Ex H H2 → σ[0]? = some (some (.ref a)) → atI e.vs i = some (.str z) → IsNm z → Ev (tCall spName [] E0 (tCons (tOp (rIxT K) (tVar 0) (tC (.int i))) tNil)) σ H2 (.bl true) :=
      fun e2 h0 hi hz => ev_call (ea_cons (ev_op (ev_var h0) ev_c (rv_ixT (st _ e2) hi)) ea_nil) (Yes.spv fun H3 _ Q y E => ⟨_, rfl, hz, y⟩)
    have tl : ∀ {σ : L2.St} {H2 : Hp} {n : Int} {b : Bool}, Ex H H2 → σ[0]? = some (some (.ref a)) → decide (V.int (e.vs.length : Int) = V.int n) = b → EvT (tTest (tOp rEq (tCB (rLenS K) (tCons (tVar 0) tNil)) (tC (.int n)))) σ H2 b :=
      fun e2 h0 hb => et_test (ev_is (ev_op (ev_lenA (ev_var h0) (Or.inr (st _ e2))) ev_c (rv_eq rfl)) (by rw [hb]))
    have tin : ∀ {σ : L2.St} {H2 : Hp} {hd : Str} {b : Bool}, Ex H H2 → σ[0]? = some (some (.ref a)) → atI e.vs 0 = some (.str hd) → inV (.str hd) [.str "push", .str "pop"] = b → EvT (tTest (tOp (rIn K false) (tOp (rIxT K) (tVar 0) (tC (.int 0))) (tTup (tCons (tC (.str "push")) (tCons (tC (.str "pop")) tNil))))) σ H2 b :=
      fun e2 h0 hi hb => et_test (ev_is (ev_inU (ev_op (ev_var h0) ev_c (rv_ixT (st _ e2) hi)) (eu_tup (ea_cons ev_c (ea_cons ev_c ea_nil)) (by show 2 ≤ 100000; decide)) rfl rfl) (by rw [hb]))
    have teq : ∀ {σ : L2.St} {H2 : Hp} {hd y : Str} {b : Bool}, Ex H H2 → σ[0]? = some (some (.ref a)) → atI e.vs 0 = some (.str hd) → decide (V.str hd = V.str y) = b → EvT (tTest (tOp rEq (tOp (rIxT K) (tVar 0) (tC (.int 0))) (tC (.str y)))) σ H2 b :=
      fun e2 h0 hi hb => et_test (ev_is (ev_op (ev_op (ev_var h0) ev_c (rv_ixT (st _ e2) hi)) ev_c (rv_eq rfl)) (by rw [hb]))
    cases e with
    | push x =>
      refine s_if (b := true) (et_is (et_and (tl (b := true) e1 rfl rfl) (fun _ => tin (b := true) (hd := "push") e1 rfl rfl (by decide +kernel))) rfl) (fun _ H2 e2 => ?_) (fun z => nomatch z)
      exact s_ret (nm (e1.trans e2) rfl rfl ok) fun H3 e3 => q H3 ((e1.trans e2).trans e3)
    | pop x =>
      refine s_if (b := true) (et_is (et_and (tl (b := true) e1 rfl rfl) (fun _ => tin (b := true) (hd := "pop") e1 rfl rfl (by decide +kernel))) rfl) (fun _ H2 e2 => ?_) (fun z => nomatch z)
      exact s_ret (nm (e1.trans e2) rfl rfl ok) fun H3 e3 => q H3 ((e1.trans e2).trans e3)
    | size k =>
      refine s_if (b := false) (et_is (et_and (tl (b := true) e1 rfl rfl) (fun _ => tin (b := false) (hd := "size") e1 rfl rfl (by decide +kernel))) rfl) (fun z => nomatch z) (fun _ H2 e2 => ?_)
      refine s_if (b := true) (et_is (et_and (tl (b := true) (e1.trans e2) rfl rfl) (fun _ => teq (b := true) (hd := "size") (e1.trans e2) rfl rfl (by decide +kernel))) rfl) (fun _ H3 e3 => ?_) (fun z => nomatch z)
      have E3 := (e1.trans e2).trans e3
      exact s_ret (ev_call (ea_cons (ev_op (ev_var rfl) ev_c (rv_ixT (st _ E3) rfl)) ea_nil) (Yes.spv fun H4 _ Q y E => ⟨_, rfl, ok, y⟩)) fun H4 e4 => q H4 (E3.trans e4)
    | steal o x =>
      refine s_if (b := false) (et_is (et_and (b := false) (tl (b := false) e1 rfl rfl) (fun z => nomatch z)) rfl) (fun z => nomatch z) (fun _ H2 e2 => ?_)
      refine s_if (b := false) (et_is (et_and (b := false) (tl (b := false) (e1.trans e2) rfl rfl) (fun z => nomatch z)) rfl) (fun z => nomatch z) (fun _ H3 e3 => ?_)
      have E3 := (e1.trans e2).trans e3
      refine s_if (b := true) (et_is (et_and (tl (b := true) E3 rfl rfl) (fun _ => teq (b := true) (hd := "steal") E3 rfl rfl (by decide +kernel))) rfl) (fun _ H4 e4 => ?_) (fun z => nomatch z)
      have E4 := E3.trans e4
      exact s_ret (ev_andV (a := true) (b := true) (nm E4 rfl rfl ok.1) (fun _ => nm E4 rfl rfl ok.2)) fun H5 e5 => q H5 (E4.trans e5)
theorem sc_is_log : FnScope ["thing", "entry"] ["thing"] (defScope s_is_log) := ⟨rfl, rfl, rfl, by decide +kernel, rfl, by decide +kernel, by decide +kernel⟩
theorem ok_is_log (D : Def K mg "is_log" s_is_log ["thing"]) (T : Bl mg) (C : Cs mg) (G_is_entry : Good P w K mg base 3 "is_entry" ["thing"] spEntry) : Good P w K mg base 4 "is_log" ["thing"] (spIsLog) := by
  refine D.good sc_is_log (fun vs H Q E h => ?_) (fun f cdv A outer s H vs Q E hr h => ?_)
  · obtain ⟨p, es, rfl, _⟩ := h
    rfl
  · obtain ⟨p, es, rfl, hp, hes, q⟩ := h
    have hu := hu_of hr
    refine ⟨_, (pss_cons (ps_if (pw_or (pt_not (pt_val (x_isi (K := K) "list" T (pv 0) T.list))) (pw_or1 (pt_cmpR op_gt (x_len (K := K) T (pv 0)) (x_gint C.MOST_ENTRIES) (nomark _)))).pt pss_never pss_nil)
      (pss_one (ps_ret (x_all (K := K) T (pe_lc (own := [("entry", 1)]) (g := (gName 1)) (tt := tYes) rfl sc_is_log.nd (x_pil (K := K) (pv 0)) (blkOk_by (N := ["thing", "entry"]) (sc := (defScope s_is_log)) (by decide +kernel)) (fun _ _ _ _ _ => (pg_name (i := 1) sc_is_log.nd rfl (Or.inl rfl))) (fun _ _ _ _ _ => pts_nil) (fun _ _ _ _ _ => (pe_fn (G_is_entry.mono (by decide)) hr (pa_cons (pv 1) pa_nil)))))))), ?_⟩
    obtain ⟨as, hp1, hp2⟩ := hp
    have asl : as.length = es.length := by rw [hp2.length, List.length_map]
    refine s_if (b := false) (et_is (et_or (a := false) (et_not (a := true) (et_B (ev_isI rfl (ty_lst (Or.inl hp1)) rfl))) (fun _ => et_test (ev_op (ev_lenA (ev_var rfl) (Or.inl (sq_of hp1))) ev_c rv_I0))) ?_) (fun z => nomatch z) (fun _ H1 e1 => ?_)
    · rw [List.length_map, asl]
      have := hes.1
      simp
      omega
    · refine s_ret (ev_allT ((elp_lcL (fun _ v _ => v = .bl true) (ev_var rfl) (ex_l e1 (sq_of hp1)) (by rw [List.length_map]; have := hes.1; omega) (fun _ => rfl) (fun i x hx => evp_of (ev_call (ea_cons (ev_var rfl) ea_nil) (Yes.spv fun H3 e3 Q y E => ?_)) fun _ _ => rfl)).imp fun _ _ _ h => h.2)) fun H2 e2 => q H2 (e1.trans e2)
      rw [List.getElem?_map] at hx
      obtain ⟨b, hb, rfl⟩ := Option.map_eq_some_iff.mp hx
      have hi : i < es.length := by rw [← asl]; exact (List.getElem?_eq_some_iff.mp hb).1
      obtain ⟨c, hc, hd⟩ := paired_get hp2 (i := i) (y := (es[i]).vs) (by rw [List.getElem?_map, List.getElem?_eq_getElem hi]; rfl)
      rw [hb] at hc
      cases hc
      exact ⟨b, es[i], rfl, e3 _ _ (e1 _ _ hd), hes.2 _ (List.getElem_mem hi), y⟩
end
end Vx

set_option Elab.async false
set_option linter.all false
set_option maxRecDepth 100000
set_option maxHeartbeats 4000000
namespace Vx
open PySem PySem.Spec PyProof.Rows L2 Evl
/-! what the program says of things that may be no names, no numbers -/
def nameS (z : Str) : Bool := (decide (1 ≤ z.length) && decide (z.length ≤ 8)) && z.cps.toList.all fun c => decide (97 ≤ c) && decide (c ≤ 122)
theorem nameS_iff {z : Str} : nameS z = true ↔ IsNm z := by
  unfold nameS IsNm
  rw [Bool.and_eq_true, Bool.and_eq_true, List.all_eq_true]
  constructor
  · rintro ⟨⟨h1, h2⟩, h3⟩
    refine ⟨of_decide_eq_true h1, of_decide_eq_true h2, fun c hc => ?_⟩
    have := h3 c hc
    rw [Bool.and_eq_true] at this
    exact ⟨of_decide_eq_true this.1, of_decide_eq_true this.2⟩
  · rintro ⟨h1, h2, h3⟩
    refine ⟨⟨decide_eq_true h1, decide_eq_true h2⟩, fun c hc => ?_⟩
    rw [Bool.and_eq_true]
    exact ⟨decide_eq_true (h3 c hc).1, decide_eq_true (h3 c hc).2⟩
def nmB : V → Bool
  | .str z => nameS z
  | _ => false
def inB : V → Bool
  | .int _ => true
  | _ => false
def szB : V → Bool
  | .int k => decide (0 ≤ k) && decide (k ≤ 60)
  | _ => false
inductive Thing (K : PySem.W.Frag) (H : Hp) : V → String → Prop
  | non : Thing K H .non "NoneType"
  | bl (b : Bool) : Thing K H (.bl b) "bool"
  | int (k : Int) : Thing K H (.int k) "int"
  | str (z : Str) : z.length < 40000 → Thing K H (.str z) "str"
  | lst (a : Addr) (xs : List V) : H a = some (.lst xs) → Thing K H (.ref a) "list"
  | tup (a : Addr) (xs : List V) : H a = some (.tup xs) → Thing K H (.ref a) "tuple"
  | dict (a : Addr) (kvs : List (Key × V)) : H a = some (.dK kvs) → Thing K H (.ref a) "dict"
theorem Thing.ty {K : PySem.W.Frag} {H : Hp} {v : V} {n : String} (h : Thing K H v n) : TyN K H v n := by
  cases h with
  | non => exact ty_non
  | bl => exact ty_bl
  | int => exact ty_int
  | str => exact ty_str
  | lst a xs h => exact ty_lst (Or.inl h)
  | tup a xs h => exact ty_tup (Or.inl h)
  | dict a xs h => exact ty_dict (Or.inl h)
theorem Thing.to {K : PySem.W.Frag} {H H' : Hp} {v : V} {n : String} (h : Thing K H v n) (e : ∀ a o, v = .ref a → H a = some o → H' a = some o) : Thing K H' v n := by
  cases h with
  | non => exact .non
  | bl => exact .bl _
  | int => exact .int _
  | str _ h => exact .str _ h
  | lst a xs h => exact .lst _ _ (e _ _ rfl h)
  | tup a xs h => exact .tup _ _ (e _ _ rfl h)
  | dict a xs h => exact .dict _ _ (e _ _ rfl h)
theorem Thing.ex {K : PySem.W.Frag} {H H' : Hp} {v : V} {n : String} (h : Thing K H v n) (e : Ex H H') : Thing K H' v n := h.to fun a o _ z => e a o z
def spB (K : PySem.W.Frag) (f : V → Bool) : Sp := fun vs H Q _ => ∃ (v : V) (n : String), vs = [v] ∧ Thing K H v n ∧ ∀ H', Ex H H' → Q (.bl (f v)) H'
theorem spv_b {K : PySem.W.Frag} {f : V → Bool} {H : Hp} {v : V} {n : String} (h : Thing K H v n) : SpV (spB K f) [v] H (.bl (f v)) := fun H1 e Q q E => ⟨v, n, rfl, h.ex e, q⟩
theorem ev_chainB {σ : L2.St} {H : Hp} {r r' : R2} {ta tb tc : TE} {x y z : V} {b1 b2 : Bool} (ha : Ev ta σ H x) (hb : Ev tb σ H y) (hc : Ev tc σ H z) (h1 : RV r x y H (.bl b1)) (h2 : b1 = true → RV r' y z H (.bl b2)) : Ev (tChain r r' ta tb tc) σ H (.bl (b1 && b2)) := by
  cases b1 with
  | true => exact ev_chain ha hb hc h1 (h2 rfl)
  | false =>
    exact fun H1 e Q q => ha H1 e _ fun H2 e2 => hb H2 (e.trans e2) _ fun H3 e3 => h1 H3 ((e.trans e2).trans e3) _ fun H4 e4 => ⟨false, rfl, by
      rw [if_neg (by decide)]
      exact q H4 ((e2.trans e3).trans e4)⟩
theorem le_oneB {a b : Nat} {x y : Str} (hx : x.cps.toList = [a]) (hy : y.cps.toList = [b]) : (!decide (y.cps.toList < x.cps.toList)) = decide (a ≤ b) := by
  rw [hx, hy]
  by_cases h : a ≤ b
  · have : ¬ [b] < [a] := fun z => by
      have := lt1.mp z
      omega
    simp only [this, h, decide_false, Bool.not_false, decide_true]
  · have : [b] < [a] := lt1.mpr (by omega)
    simp only [this, h, decide_false, Bool.not_true, decide_true]
theorem ev_allB {K : PySem.W.Frag} {σ : L2.St} {H : Hp} {te : TE} {bs : List Bool} (h : EvLP te σ H (fun vs _ => vs = bs.map V.bl)) : Ev (tCB (rAll K) (tCons te tNil)) σ H (.bl (bs.all id)) := fun H1 e Q q =>
  h H1 e _ fun p vs H2 n e2 h2 k => by
    have hv := k.kn.now e e2
    exact ⟨p, bs, rfl, sq_of (by rw [← hv]; exact h2), q H2 e2⟩
theorem rv_w {r : R2} {x y v w : V} {H : Hp} (h : RV r x y H v) (e : v = w) : RV r x y H w := by
  rw [← e]
  exact h
theorem list_bl {vs : List V} {bs : List Bool} (hl : vs.length = bs.length) (h : ∀ (i : Nat) v, vs[i]? = some v → ∃ b, bs[i]? = some b ∧ v = .bl b) : vs = bs.map V.bl := by
  refine List.ext_getElem? fun i => ?_
  by_cases hi : i < vs.length
  · obtain ⟨b, hb, hv⟩ := h i _ (List.getElem?_eq_getElem hi)
    rw [List.getElem?_map, hb, List.getElem?_eq_getElem hi, hv]
    rfl
  · rw [List.getElem?_eq_none (by omega), List.getElem?_eq_none (by rw [List.length_map]; omega)]
section
variable {P : Program} {w : World} {K : PySem.W.Frag} {mg : Str → Option Value} {base : Heap}
theorem okB_is_integer (D : Def K mg "is_integer" s_is_integer ["thing"]) (T : Bl mg) : Good P w K mg base 1 "is_integer" ["thing"] (spB K inB) := by
  refine D.good sc_is_integer (fun vs H Q E h => ?_) (fun f cdv A outer s H vs Q E hr h => ?_)
  · obtain ⟨k, n, rfl, _⟩ := h
    rfl
  · obtain ⟨v, n, rfl, hv, q⟩ := h
    have hu := hu_of hr
    refine ⟨_, (pss_one (ps_ret (pe_and (x_isi (K := K) "int" T (pv 0) T.int) (pe_one (pe_not (x_isi (K := K) "bool" T (pv 0) T.bool)))))), ?_⟩
    have go : ∀ {b1 b2 : Bool}, kitB n "int" = some b1 → kitB n "bool" = some b2 → (b1 && !b2) = inB v → Ev (tAndV (tCB (rIsi K) (tCons (tVar 0) (tCons (tC (.ty "int")) tNil))) (tNotV (tCB (rIsi K) (tCons (tVar 0) (tCons (tC (.ty "bool")) tNil))))) [some v] H (.bl (inB v)) := fun h1 h2 h3 => by
      rw [← h3]
      exact ev_andV (ev_isI rfl hv.ty h1) fun _ => ev_notV (ev_isI rfl hv.ty h2)
    refine s_ret (v := .bl (inB v)) ?_ fun H1 e1 => q H1 e1
    cases hv with
    | non => exact go rfl rfl rfl
    | bl => exact go rfl rfl rfl
    | int => exact go rfl rfl rfl
    | str => exact go rfl rfl rfl
    | lst => exact go rfl rfl rfl
    | tup => exact go rfl rfl rfl
    | dict => exact go rfl rfl rfl
theorem okB_is_name (D : Def K mg "is_name" s_is_name ["thing"]) (T : Bl mg) (C : Cs mg) : Good P w K mg base 1 "is_name" ["thing"] (spB K nmB) := by
  refine D.good sc_is_name (fun vs H Q E h => ?_) (fun f cdv A outer s H vs Q E hr h => ?_)
  · obtain ⟨k, n, rfl, _⟩ := h
    rfl
  · obtain ⟨v, n, rfl, hv, q⟩ := h
    have hu := hu_of hr
    refine ⟨_, (pss_cons (ps_if (pw_or (pt_not (pt_val (x_isi (K := K) "str" T (pv 0) T.str))) (pw_or1 (pt_not (pt_chain op_le op_le pe_int (pe_callB call_len_str (by rfl) T.len PySem.boot_len (pa_cons (pv 0) pa_nil)) (x_gint C.MOST_LETTERS))))).pt (pss_one (ps_ret pe_bl)) pss_nil)
      (pss_one (ps_ret (x_all (K := K) T (pe_lc (own := [("letter", 1)]) (g := (gName 1)) (tt := tYes) rfl sc_is_name.nd (pi_str (pv 0)) (blkOk_by (N := ["thing", "letter"]) (sc := (defScope s_is_name)) (by decide +kernel)) (fun _ _ _ _ _ => (pg_name (i := 1) sc_is_name.nd rfl (Or.inl rfl))) (fun _ _ _ _ _ => pts_nil) (fun _ _ _ _ _ => (pe_chain op_le_str op_le_str pe_str (pv 1) pe_str))))))), ?_⟩
    have cs : (kitB n "str" = some false ∧ nmB v = false) ∨ ∃ z, v = .str z ∧ z.length < 40000 := by
      cases hv with
      | non => exact Or.inl ⟨rfl, rfl⟩
      | bl => exact Or.inl ⟨rfl, rfl⟩
      | int => exact Or.inl ⟨rfl, rfl⟩
      | lst => exact Or.inl ⟨rfl, rfl⟩
      | tup => exact Or.inl ⟨rfl, rfl⟩
      | dict => exact Or.inl ⟨rfl, rfl⟩
      | str z hz => exact Or.inr ⟨z, rfl, hz⟩
    rcases cs with ⟨h1, h2⟩ | ⟨z, rfl, hz⟩
    · refine s_if (b := true) (et_is (et_or (a := true) (b := true) (et_not (a := false) (et_B (ev_isI rfl hv.ty h1))) (fun z => nomatch z)) rfl) (fun _ H1 e1 => s_ret (v := .bl false) ev_c fun H2 e2 => ?_) (fun z => nomatch z)
      have := q H2 (e1.trans e2)
      rw [h2] at this
      exact this
    · have _ := 0
      refine s_if (b := !(decide (1 ≤ z.length) && decide (z.length ≤ 8))) (et_is (et_or (a := false) (et_not (a := true) (et_B (ev_isI rfl ty_str rfl))) (fun _ => et_not (et_test (ev_chainB (b1 := decide (1 ≤ z.length)) (b2 := decide (z.length ≤ 8)) ev_c (ev_lenS (fun H Q q => ?_) (ev_var rfl)) ev_c ?_ fun _ => ?_)))) rfl) (fun hb H1 e1 => ?_) (fun hb H1 e1 => ?_)
      · exact ⟨z, rfl, sz_of (by omega), q⟩
      · refine rv_w rv_I0 ?_
        congr 1
        exact decide_eq_decide.mpr (by omega)
      · refine rv_w rv_I0 ?_
        congr 1
        exact decide_eq_decide.mpr (by omega)
      · refine s_ret (v := .bl false) ev_c fun H2 e2 => ?_
        have := q H2 (e1.trans e2)
        have z2 : nmB (.str z) = false := by
          show nameS z = false
          unfold nameS
          have hb2 : (decide (1 ≤ z.length) && decide (z.length ≤ 8)) = false := (Bool.not_eq_true' _).mp hb
          rw [hb2]
          rfl
        rw [z2] at this
        exact this
      · have hb2 : (decide (1 ≤ z.length) && decide (z.length ≤ 8)) = true := by
          rw [Bool.not_eq_false'] at hb
          exact hb
        have z2 : nmB (.str z) = (z.cps.toList.map fun c => decide (97 ≤ c) && decide (c ≤ 122)).all id := by
          show nameS z = _
          unfold nameS
          rw [hb2, Bool.true_and, List.all_map]
          rfl
        rw [z2] at q
        refine s_ret (ev_allB ((elp_lcS (fun i v _ => ∃ b, (z.cps.toList.map fun c => decide (97 ≤ c) && decide (c ≤ 122))[i]? = some b ∧ v = .bl b) (ev_var rfl) hz (fun _ => rfl) (fun i c hc => evp_of (ev_chainB (b1 := decide (97 ≤ c)) (b2 := decide (c ≤ 122)) ev_c (ev_var rfl) ev_c ?_ fun _ => ?_) fun _ _ => ⟨_, by rw [List.getElem?_map, hc]; rfl, rfl⟩)).imp fun _ _ _ h => list_bl (by rw [h.1, List.length_map, Array.length_toList]; rfl) h.2)) fun H2 e2 => q H2 (e1.trans e2)
        · exact rv_w rv_leS (by rw [le_oneB (a := 97) (b := c) (by decide +kernel) rfl])
        · exact rv_w rv_leS (by rw [le_oneB (a := c) (b := 122) rfl (by decide +kernel)])
theorem okB_is_size (D : Def K mg "is_size" s_is_size ["thing"]) (T : Bl mg) (C : Cs mg) (G_is_integer : Good P w K mg base 1 "is_integer" ["thing"] (spB K inB)) : Good P w K mg base 2 "is_size" ["thing"] (spB K szB) := by
  refine D.good sc_is_size (fun vs H Q E h => ?_) (fun f cdv A outer s H vs Q E hr h => ?_)
  · obtain ⟨k, n, rfl, _⟩ := h
    rfl
  · obtain ⟨v, n, rfl, hv, q⟩ := h
    have hu := hu_of hr
    refine ⟨_, (pss_one (ps_ret (pe_and (pe_fn (G_is_integer.mono (by decide)) hr (pa_cons (pv 0) pa_nil)) (pe_one (pe_chain op_le op_le pe_int (pv 0) (x_gint C.MOST_ITEMS)))))), ?_⟩
    have hi : ∀ {σ : L2.St}, σ[0]? = some (some v) → Ev (tCall (spB K inB) [] E0 (tCons (tVar 0) tNil)) σ H (.bl (inB v)) := fun h0 => ev_call (ea_cons (ev_var h0) ea_nil) (spv_b hv)
    refine s_ret (v := .bl (szB v)) ?_ fun H1 e1 => q H1 e1
    by_cases hk : ∃ k, v = .int k
    · obtain ⟨k, rfl⟩ := hk
      exact ev_is (ev_andV (a := true) (b := decide (0 ≤ k) && decide (k ≤ 60)) (hi rfl) fun _ => ev_chainB (x := .int 0) (y := .int k) (z := .int 60) (b1 := decide (0 ≤ k)) (b2 := decide (k ≤ 60)) ev_c (ev_var rfl) ev_c rv_I0 fun _ => rv_I0) rfl
    · have h0 : inB v = false := by
        cases v with
        | int k => exact absurd ⟨k, rfl⟩ hk
        | _ => rfl
      have h1 : szB v = false := by
        cases v with
        | int k => exact absurd ⟨k, rfl⟩ hk
        | _ => rfl
      rw [h1]
      exact ev_is (ev_andV (a := false) (b := false) (ev_is (hi rfl) (by rw [h0])) (fun z => nomatch z)) rfl
end
end Vx

set_option Elab.async false
set_option linter.all false
set_option maxRecDepth 100000
set_option maxHeartbeats 4000000
namespace Vx
open PySem PySem.Spec PyProof.Rows L2 Evl
/-! the program: what it says of things that may be no entries -/
def entB : List V → Bool
  | [h, x] => if inV h [.str "push", .str "pop"] = true then nmB x else decide (h = .str "size") && szB x
  | [h, o, x] => decide (h = .str "steal") && (nmB o && nmB x)
  | _ => false
inductive EntT0 (K : PySem.W.Frag) (H : Hp) : V → Bool → Prop
  | no {v : V} {n : String} : Thing K H v n → kitB n "tuple" = some false → n ≠ "dict" → EntT0 K H v false
  | tup {a : Addr} {xs : List V} : H a = some (.tup xs) → xs.length ≤ 40000 → (∀ x ∈ xs, ∃ n, Thing K H x n ∧ n ≠ "dict") → (∀ h t, xs = h :: t → flatV h = true) → EntT0 K H (.ref a) (entB xs)
theorem EntT0.ex {K : PySem.W.Frag} {H H' : Hp} {v : V} {b : Bool} (h : EntT0 K H v b) (e : Ex H H') : EntT0 K H' v b := by
  cases h with
  | no t k nd => exact .no (t.ex e) k nd
  | tup a l x f => exact .tup (e _ _ a) l (fun y hy => by
      obtain ⟨n, hn, nd⟩ := x y hy
      exact ⟨n, hn.ex e, nd⟩) f
/-- all but dicts stays -/
def NDk (H H' : Hp) : Prop := ∀ a o, H a = some o → (∀ kvs, o ≠ .dK kvs) → H' a = some o
theorem Thing.nk {K : PySem.W.Frag} {H H' : Hp} {v : V} {n : String} (h : Thing K H v n) (nd : n ≠ "dict") (e : NDk H H') : Thing K H' v n := by
  cases h with
  | non => exact .non
  | bl => exact .bl _
  | int => exact .int _
  | str _ h => exact .str _ h
  | lst a xs h => exact .lst _ _ (e _ _ h fun _ z => by cases z)
  | tup a xs h => exact .tup _ _ (e _ _ h fun _ z => by cases z)
  | dict a xs h => exact absurd rfl nd
theorem EntT0.nk {K : PySem.W.Frag} {H H' : Hp} {v : V} {b : Bool} (h : EntT0 K H v b) (e : NDk H H') : EntT0 K H' v b := by
  cases h with
  | no t k nd => exact .no (t.nk nd e) k nd
  | tup a l x f => exact .tup (e _ _ a fun _ z => by cases z) l (fun y hy => by
      obtain ⟨n, hn, nd⟩ := x y hy
      exact ⟨n, hn.nk nd e, nd⟩) f
/-- .. or a pair that begins with a tuple of a text -/
def EntT (K : PySem.W.Frag) (H : Hp) (v : V) (b : Bool) : Prop := EntT0 K H v b ∨ (b = false ∧ ∃ (a c : Addr) (x : V), v = .ref a ∧ H a = some (.tup [.ref c, x]) ∧ H c = some (.tup [.str "push"]))
theorem EntT.no {K : PySem.W.Frag} {H : Hp} {v : V} {n : String} (t : Thing K H v n) (k : kitB n "tuple" = some false) (nd : n ≠ "dict") : EntT K H v false := Or.inl (.no t k nd)
theorem EntT.tup {K : PySem.W.Frag} {H : Hp} {a : Addr} {xs : List V} (h : H a = some (.tup xs)) (l : xs.length ≤ 40000) (x : ∀ x ∈ xs, ∃ n, Thing K H x n ∧ n ≠ "dict") (f : ∀ h t, xs = h :: t → flatV h = true) : EntT K H (.ref a) (entB xs) := Or.inl (.tup h l x f)
theorem EntT.hd {K : PySem.W.Frag} {H : Hp} {a c : Addr} {x : V} (h : H a = some (.tup [.ref c, x])) (hc : H c = some (.tup [.str "push"])) : EntT K H (.ref a) false := Or.inr ⟨rfl, a, c, x, rfl, h, hc⟩
theorem EntT.ex {K : PySem.W.Frag} {H H' : Hp} {v : V} {b : Bool} (h : EntT K H v b) (e : Ex H H') : EntT K H' v b := h.imp (fun h => h.ex e) fun ⟨hb, a, c, x, hv, h1, h2⟩ => ⟨hb, a, c, x, hv, e _ _ h1, e _ _ h2⟩
theorem EntT.nk {K : PySem.W.Frag} {H H' : Hp} {v : V} {b : Bool} (h : EntT K H v b) (e : NDk H H') : EntT K H' v b := h.imp (fun h => h.nk e) fun ⟨hb, a, c, x, hv, h1, h2⟩ => ⟨hb, a, c, x, hv, e _ _ h1 (fun _ z => by cases z), e _ _ h2 (fun _ z => by cases z)⟩
theorem room65 {k : Nat} {A : Around} (r : Room k A) : A.units + 65 < cLine := by have := r.un; omega
/-- x in (..), data -/
def rInDT (K : PySem.W.Frag) : R2 := fun x y H Q => ∃ d ds, Dp K H x d ∧ Dp K H y (.tuple ds) ∧ SeqAt.shaped d = true ∧ SeqAt.shaped (.tuple ds) = true ∧ Q (.bl (ds.any fun z => PyData.eqv z d)) H
theorem canLayT {ds : List PyData} (h : SeqAt.shaped (.tuple ds) = true) : PyData.canLayAll0 ds = true := by
  have := SeqAt.canLay_of_shaped h
  simpa only [PyData.canLay0] using this
theorem op_inDT {X : Cx} {K : PySem.W.Frag} (hK : X.K = K) (hu : X.A.units + 65 < cLine) : OpR X (compareOp .In) (rInDT K) := by
  subst hK
  intro pins s σ H x y v u Q I rx ry h
  obtain ⟨d, ds, hd, he, sd, se, q⟩ := h
  obtain ⟨as, r1⟩ := Dp.reads I d x v hd rx
  obtain ⟨bs, r2⟩ := Dp.reads I (.tuple ds) y u he ry
  exact SeqAt.in_tuple_reads r2 r1 (canLayT se) (SeqAt.canLay_of_shaped sd) (room_in_shaped sd hu) ⟨.bl _, H, I, rfl, q⟩
theorem op_eqDK {X : Cx} {K : PySem.W.Frag} (hK : X.K = K) (hu : X.A.units + 64 < cLine) : OpR X (compareOp .Eq) (rEqD K) := by
  subst hK
  exact op_eqD hu
def spE (K : PySem.W.Frag) : Sp := fun vs H Q _ => ∃ (v : V) (b : Bool), vs = [v] ∧ EntT K H v b ∧ ∀ H', Ex H H' → Q (.bl b) H'
theorem spv_e {K : PySem.W.Frag} {H : Hp} {v : V} {b : Bool} (h : EntT K H v b) : SpV (spE K) [v] H (.bl b) := fun H1 e Q q E => ⟨v, b, rfl, h.ex e, q⟩
theorem scal_flat {h : V} {y : Str} (hb : flatV h = true) : scal h (.str y) = true := by
  cases h <;> first | rfl | cases hb
section
variable {P : Program} {w : World} {K : PySem.W.Frag} {mg : Str → Option Value} {base : Heap}
theorem okB_is_entry (D : Def K mg "is_entry" s_is_entry ["thing"]) (T : Bl mg) (C : Cs mg) (G_is_name : Good P w K mg base 1 "is_name" ["thing"] (spB K nmB)) (G_is_size : Good P w K mg base 2 "is_size" ["thing"] (spB K szB)) : Good P w K mg base 3 "is_entry" ["thing"] (spE K) := by
  refine D.good sc_is_entry (fun vs H Q E h => ?_) (fun f cdv A outer s H vs Q E hr h => ?_)
  · obtain ⟨k, n, rfl, _⟩ := h
    rfl
  · obtain ⟨v, b, rfl, hv, q⟩ := h
    have hu := hu_of hr
    rcases hv with hv | ⟨rfl, a, c, x, rfl, ha, hc⟩
    · refine ⟨_, (pss_cons (ps_if (pt_not (pt_val (x_isi (K := K) "tuple" T (pv 0) T.tuple))) (pss_one (ps_ret pe_bl)) pss_nil)
      (pss_cons (ps_if (pw_and (pt_cmpR op_eq (x_len (K := K) T (pv 0)) pe_int (nomark _)) (pw_and1 (pt_cmpR (x_in (K := K) rfl) (x_ixt (K := K) (pv 0) pe_int) (pe_tup (pa_cons pe_str (pa_cons pe_str pa_nil))) (by rfl)))).pt (pss_one (ps_ret (pe_fn (G_is_name.mono (by decide)) hr (pa_cons (x_ixt (K := K) (pv 0) pe_int) pa_nil)))) pss_nil)
      (pss_cons (ps_if (pw_and (pt_cmpR op_eq (x_len (K := K) T (pv 0)) pe_int (nomark _)) (pw_and1 (pt_cmpR op_eq (x_ixt (K := K) (pv 0) pe_int) pe_str (nomark _)))).pt (pss_one (ps_ret (pe_fn (G_is_size.mono (by decide)) hr (pa_cons (x_ixt (K := K) (pv 0) pe_int) pa_nil)))) pss_nil)
      (pss_cons (ps_if (pw_and (pt_cmpR op_eq (x_len (K := K) T (pv 0)) pe_int (nomark _)) (pw_and1 (pt_cmpR op_eq (x_ixt (K := K) (pv 0) pe_int) pe_str (nomark _)))).pt (pss_one (ps_ret (pe_and (pe_fn (G_is_name.mono (by decide)) hr (pa_cons (x_ixt (K := K) (pv 0) pe_int) pa_nil)) (pe_one (pe_fn (G_is_name.mono (by decide)) hr (pa_cons (x_ixt (K := K) (pv 0) pe_int) pa_nil)))))) pss_nil)
      (pss_one (ps_ret pe_bl)))))), ?_⟩
      cases hv with
      | no t k nd =>
        exact s_if (b := true) (et_not (a := false) (et_B (ev_isI rfl t.ty k))) (fun _ H1 e1 => s_ret (v := .bl false) ev_c fun H2 e2 => q H2 (e1.trans e2)) (fun z => nomatch z)
      | @tup a xs ha ln hx hf =>
        have st : ∀ H1, Ex H H1 → SqT K H1 a xs := fun H1 e1 => st_of (e1 _ _ ha)
        have hty : ∀ H1, Ex H H1 → TyN K H1 (.ref a) "tuple" := fun H1 e1 => ty_tup (Or.inl (e1 _ _ ha))
        refine s_if (b := false) (et_not (a := true) (et_B (ev_isI rfl (hty H (Ex.refl H)) rfl))) (fun z => nomatch z) (fun _ H1 e1 => ?_)
        have nm : ∀ {σ : L2.St} {H2 : Hp} {i : Int} {z : V}, Ex H H2 → σ[0]? = some (some (.ref a)) → atI xs i = some z → z ∈ xs → Ev (tCall (spB K nmB) [] E0 (tCons (tOp (rIxT K) (tVar 0) (tC (.int i))) tNil)) σ H2 (.bl (nmB z)) := by
          intro σ H2 i z e2 h0 hi hz
          obtain ⟨n, hn, _⟩ := hx z hz
          exact ev_call (ea_cons (ev_op (ev_var h0) ev_c (rv_ixT (st _ e2) hi)) ea_nil) (spv_b (hn.ex e2))
        have sz : ∀ {σ : L2.St} {H2 : Hp} {i : Int} {z : V}, Ex H H2 → σ[0]? = some (some (.ref a)) → atI xs i = some z → z ∈ xs → Ev (tCall (spB K szB) [] E0 (tCons (tOp (rIxT K) (tVar 0) (tC (.int i))) tNil)) σ H2 (.bl (szB z)) := by
          intro σ H2 i z e2 h0 hi hz
          obtain ⟨n, hn, _⟩ := hx z hz
          exact ev_call (ea_cons (ev_op (ev_var h0) ev_c (rv_ixT (st _ e2) hi)) ea_nil) (spv_b (hn.ex e2))
        have tl : ∀ {σ : L2.St} {H2 : Hp} {n : Int} {b : Bool}, Ex H H2 → σ[0]? = some (some (.ref a)) → decide (V.int (xs.length : Int) = V.int n) = b → EvT (tTest (tOp rEq (tCB (rLenS K) (tCons (tVar 0) tNil)) (tC (.int n)))) σ H2 b :=
          fun e2 h0 hb => et_test (ev_is (ev_op (ev_lenA (ev_var h0) (Or.inr (st _ e2))) ev_c (rv_eq rfl)) (by rw [hb]))
        have tin : ∀ {σ : L2.St} {H2 : Hp} {hd : V}, Ex H H2 → σ[0]? = some (some (.ref a)) → atI xs 0 = some hd → flatV hd = true → EvT (tTest (tOp (rIn K false) (tOp (rIxT K) (tVar 0) (tC (.int 0))) (tTup (tCons (tC (.str "push")) (tCons (tC (.str "pop")) tNil))))) σ H2 (inV hd [.str "push", .str "pop"]) :=
          fun e2 h0 hi hb => et_test (ev_inU (ev_op (ev_var h0) ev_c (rv_ixT (st _ e2) hi)) (eu_tup (ea_cons ev_c (ea_cons ev_c ea_nil)) (by show 2 ≤ 100000; decide)) hb rfl)
        have teq : ∀ {σ : L2.St} {H2 : Hp} {hd : V} {y : Str}, Ex H H2 → σ[0]? = some (some (.ref a)) → atI xs 0 = some hd → flatV hd = true → EvT (tTest (tOp rEq (tOp (rIxT K) (tVar 0) (tC (.int 0))) (tC (.str y)))) σ H2 (decide (hd = .str y)) :=
          fun e2 h0 hi hb => et_test (ev_op (ev_op (ev_var h0) ev_c (rv_ixT (st _ e2) hi)) ev_c (rv_eq (scal_flat hb)))
        by_cases l2 : xs.length = 2
        · obtain ⟨hd, x, rfl⟩ : ∃ hd x, xs = [hd, x] := by
            rcases xs with _ | ⟨hd, _ | ⟨x, _ | ⟨y, t⟩⟩⟩
            · cases l2
            · cases l2
            · exact ⟨hd, x, rfl⟩
            · simp at l2
          have fl := hf hd [x] rfl
          have hq : ∀ H', Ex H H' → Q (.bl (if inV hd [.str "push", .str "pop"] = true then nmB x else decide (hd = .str "size") && szB x)) H' := q
          refine s_if (b := inV hd [.str "push", .str "pop"]) (et_is (et_and (a := true) (tl e1 rfl rfl) (fun _ => tin e1 rfl rfl fl)) rfl) (fun hb H2 e2 => ?_) (fun hb H2 e2 => ?_)
          · rw [if_pos hb] at hq
            exact s_ret (nm (e1.trans e2) rfl rfl (by simp)) fun H3 e3 => hq H3 ((e1.trans e2).trans e3)
          · rw [if_neg (by rw [hb]; decide)] at hq
            refine s_if (b := decide (hd = .str "size")) (et_is (et_and (a := true) (tl (e1.trans e2) rfl rfl) (fun _ => teq (e1.trans e2) rfl rfl fl)) rfl) (fun hc H3 e3 => ?_) (fun hc H3 e3 => ?_)
            · rw [hc, Bool.true_and] at hq
              exact s_ret (sz ((e1.trans e2).trans e3) rfl rfl (by simp)) fun H4 e4 => hq H4 (((e1.trans e2).trans e3).trans e4)
            · rw [hc, Bool.false_and] at hq
              refine s_if (b := false) (et_is (et_and (a := false) (b := false) (tl ((e1.trans e2).trans e3) rfl rfl) (fun z => nomatch z)) rfl) (fun z => nomatch z) (fun _ H4 e4 => ?_)
              unfold tNext
              dsimp only
              refine s_ret (v := .bl false) ev_c fun H5 e5 => ?_
              exact hq H5 ((((e1.trans e2).trans e3).trans e4).trans e5)
        · have n2 : decide (V.int (xs.length : Int) = V.int 2) = false := decide_eq_false fun z => l2 (by have := V.int.inj z; omega)
          refine s_if (b := false) (et_is (et_and (a := false) (b := false) (tl e1 rfl n2) (fun z => nomatch z)) rfl) (fun z => nomatch z) (fun _ H2 e2 => ?_)
          refine s_if (b := false) (et_is (et_and (a := false) (b := false) (tl (e1.trans e2) rfl n2) (fun z => nomatch z)) rfl) (fun z => nomatch z) (fun _ H3 e3 => ?_)
          have E3 := (e1.trans e2).trans e3
          by_cases l3 : xs.length = 3
          · obtain ⟨hd, o, x, rfl⟩ : ∃ hd o x, xs = [hd, o, x] := by
              rcases xs with _ | ⟨hd, _ | ⟨x, _ | ⟨y, _ | ⟨z, t⟩⟩⟩⟩
              · cases l3
              · cases l3
              · cases l3
              · exact ⟨hd, x, y, rfl⟩
              · simp at l3
            have fl := hf hd [o, x] rfl
            have hq : ∀ H', Ex H H' → Q (.bl (decide (hd = .str "steal") && (nmB o && nmB x))) H' := q
            refine s_if (b := decide (hd = .str "steal")) (et_is (et_and (a := true) (tl E3 rfl rfl) (fun _ => teq E3 rfl rfl fl)) rfl) (fun hc H4 e4 => ?_) (fun hc H4 e4 => ?_)
            · rw [hc, Bool.true_and] at hq
              exact s_ret (ev_andV (nm (E3.trans e4) rfl rfl (by simp)) (fun _ => nm (E3.trans e4) rfl rfl (by simp))) fun H5 e5 => hq H5 ((E3.trans e4).trans e5)
            · rw [hc, Bool.false_and] at hq
              unfold tNext
              dsimp only
              refine s_ret (v := .bl false) ev_c fun H5 e5 => ?_
              exact hq H5 ((E3.trans e4).trans e5)
          · have n3 : decide (V.int (xs.length : Int) = V.int 3) = false := decide_eq_false fun z => l3 (by have := V.int.inj z; omega)
            refine s_if (b := false) (et_is (et_and (a := false) (b := false) (tl E3 rfl n3) (fun z => nomatch z)) rfl) (fun z => nomatch z) (fun _ H4 e4 => ?_)
            have z2 : entB xs = false := by
              rcases xs with _ | ⟨hd, _ | ⟨x, _ | ⟨y, _ | ⟨z, t⟩⟩⟩⟩
              · rfl
              · rfl
              · exact absurd rfl l2
              · exact absurd rfl l3
              · rfl
            rw [z2] at q
            unfold tNext
            dsimp only
            refine s_ret (v := .bl false) ev_c fun H5 e5 => ?_
            exact q H5 ((E3.trans e4).trans e5)
    · refine ⟨_, (pss_cons (ps_if (pt_not (pt_val (x_isi (K := K) "tuple" T (pv 0) T.tuple))) pss_never pss_nil)
        (pss_cons (ps_if (pw_and (pt_cmpR op_eq (x_len (K := K) T (pv 0)) pe_int (nomark _)) (pw_and1 (pt_cmpR (op_inDT (K := K) rfl (room65 hr)) (x_ixt (K := K) (pv 0) pe_int) (pe_tup (pa_cons pe_str (pa_cons pe_str pa_nil))) (by rfl)))).pt pss_never pss_nil)
        (pss_cons (ps_if (pw_and (pt_cmpR op_eq (x_len (K := K) T (pv 0)) pe_int (nomark _)) (pw_and1 (pt_cmpR (op_eqDK (K := K) rfl hr.units) (x_ixt (K := K) (pv 0) pe_int) pe_str (nomark _)))).pt pss_never pss_nil)
        (pss_cons (ps_if (pw_and (pt_cmpR op_eq (x_len (K := K) T (pv 0)) pe_int (nomark _)) (pw_and1 (pt_cmpR (op_eqDK (K := K) rfl hr.units) (x_ixt (K := K) (pv 0) pe_int) pe_str (nomark _)))).pt pss_never pss_nil)
        (pss_one (ps_ret pe_bl)))))), ?_⟩
      have tl : ∀ {σ : L2.St} {H2 : Hp} {n : Int} {b : Bool}, Ex H H2 → σ[0]? = some (some (.ref a)) → decide (V.int 2 = V.int n) = b → EvT (tTest (tOp rEq (tCB (rLenS K) (tCons (tVar 0) tNil)) (tC (.int n)))) σ H2 b :=
        fun e2 h0 hb => et_test (ev_is (ev_op (ev_lenA (ev_var h0) (Or.inr (st_of (e2 _ _ ha)))) ev_c (rv_eq rfl)) (congrArg V.bl hb))
      have hd : ∀ {σ : L2.St} {H2 : Hp}, Ex H H2 → σ[0]? = some (some (.ref a)) → Ev (tOp (rIxT K) (tVar 0) (tC (.int 0))) σ H2 (.ref c) := fun e2 h0 => ev_op (ev_var h0) ev_c (rv_ixT (st_of (e2 _ _ ha)) rfl)
      have dc : ∀ {H2 : Hp}, Ex H H2 → Dp K H2 (.ref c) (.tuple [.str "push"]) := fun e2 => .tup (st_of (e2 _ _ hc)) (.cons (.str _) .nil)
      have sh2 : SeqAt.shaped (.tuple [.str "push"]) = true := by decide +kernel
      have sh3 : SeqAt.shaped (.tuple [.str "push", .str "pop"]) = true := by decide +kernel
      have ne : ∀ y : Str, PyData.eqv (.tuple [.str "push"]) (.str y) = false := fun y => by simp only [PyData.eqv]
      have ne2 : ∀ y : Str, PyData.eqv (.str y) (.tuple [.str "push"]) = false := fun y => by simp only [PyData.eqv]
      have tin : ∀ {σ : L2.St} {H2 : Hp}, Ex H H2 → σ[0]? = some (some (.ref a)) → EvT (tTest (tOp (rInDT K) (tOp (rIxT K) (tVar 0) (tC (.int 0))) (tTup (tCons (tC (.str "push")) (tCons (tC (.str "pop")) tNil))))) σ H2 false := fun {σ H2} e2 h0 => et_test (fun H3 e3 Q2 q2 => hd e2 h0 H3 e3 _ fun H4 e4 => ⟨(by show 2 ≤ sizeLine; decide), fun p hp => by
        have e5 : Ex H4 (upd H4 p (.tup [.str "push", .str "pop"])) := Ex.new hp
        refine ⟨.tuple [.str "push"], [.str "push", .str "pop"], dc (((e2.trans e3).trans e4).trans e5), .tup (st_of upd_same) (.cons (.str _) (.cons (.str _) .nil)), sh2, sh3, ?_⟩
        rw [show ([PyData.str "push", PyData.str "pop"] : List PyData).any (fun y => PyData.eqv y (.tuple [.str "push"])) = false by rw [List.any_cons, List.any_cons, List.any_nil, ne2, ne2]; rfl]
        exact q2 _ (e4.trans e5)⟩)
      have teq : ∀ {σ : L2.St} {H2 : Hp} {y : Str}, SeqAt.shaped (.str y) = true → Ex H H2 → σ[0]? = some (some (.ref a)) → EvT (tTest (tOp (rEqD K) (tOp (rIxT K) (tVar 0) (tC (.int 0))) (tC (.str y)))) σ H2 false := fun {σ H2 y} hy e2 h0 => et_test (ev_op (hd e2 h0) ev_c (fun H3 e3 Q3 q3 => ⟨.tuple [.str "push"], .str y, dc (e2.trans e3), .str _, sh2, hy, by rw [ne]; exact q3 H3 (Ex.refl _)⟩))
      refine s_if (b := false) (et_not (a := true) (et_B (ev_isI rfl (ty_tup (Or.inl ha)) rfl))) (fun z => nomatch z) (fun _ H1 e1 => ?_)
      refine s_if (b := false) (et_is (et_and (a := true) (b := false) (tl e1 rfl rfl) (fun _ => tin e1 rfl)) rfl) (fun z => nomatch z) (fun _ H2 e2 => ?_)
      have E2 := e1.trans e2
      refine s_if (b := false) (et_is (et_and (a := true) (b := false) (tl E2 rfl rfl) (fun _ => teq (by decide +kernel) E2 rfl)) rfl) (fun z => nomatch z) (fun _ H3 e3 => ?_)
      have E3 := E2.trans e3
      refine s_if (b := false) (et_is (et_and (a := false) (b := false) (tl E3 rfl rfl) (fun z => nomatch z)) rfl) (fun z => nomatch z) (fun _ H4 e4 => ?_)
      unfold tNext
      dsimp only
      exact s_ret (v := .bl false) ev_c fun H5 e5 => q H5 ((E3.trans e4).trans e5)
end
end Vx

set_option Elab.async false
set_option linter.all false
set_option maxRecDepth 100000
set_option maxHeartbeats 4000000
namespace Vx
open PySem PySem.Spec PyProof.Rows L2 Evl
/-! the program: what it says of things that may be no log -/
inductive LogT (K : PySem.W.Frag) (H : Hp) : V → Bool → Prop
  | no {v : V} {n : String} : Thing K H v n → kitB n "list" = some false → LogT K H v false
  | big {p : Addr} {xs : List V} : H p = some (.lst xs) → 60 < xs.length → LogT K H (.ref p) false
  | lst {p : Addr} {xs : List V} {bs : List Bool} : H p = some (.lst xs) → xs.length ≤ 60 → xs.length = bs.length → (∀ (i : Nat) v, xs[i]? = some v → ∃ b, bs[i]? = some b ∧ EntT K H v b) → LogT K H (.ref p) (bs.all id)
theorem LogT.ex {K : PySem.W.Frag} {H H' : Hp} {v : V} {b : Bool} (h : LogT K H v b) (e : Ex H H') : LogT K H' v b := by
  cases h with
  | no t k => exact .no (t.ex e) k
  | big a l => exact .big (e _ _ a) l
  | lst a l m x =>
    refine .lst (e _ _ a) l m fun i v hv => ?_
    obtain ⟨b, hb, ht⟩ := x i v hv
    exact ⟨b, hb, ht.ex e⟩
theorem LogT.nk {K : PySem.W.Frag} {H H' : Hp} {v : V} {b : Bool} (h : LogT K H v b) (e : NDk H H') (ev : ∀ a o, v = .ref a → H a = some o → H' a = some o) : LogT K H' v b := by
  cases h with
  | no t k => exact .no (t.to ev) k
  | big a l => exact .big (ev _ _ rfl a) l
  | lst a l m x =>
    refine .lst (ev _ _ rfl a) l m fun i v hv => ?_
    obtain ⟨b, hb, ht⟩ := x i v hv
    exact ⟨b, hb, ht.nk e⟩
def spG (K : PySem.W.Frag) : Sp := fun vs H Q _ => ∃ (v : V) (b : Bool), vs = [v] ∧ LogT K H v b ∧ ∀ H', Ex H H' → Q (.bl b) H'
theorem spv_g {K : PySem.W.Frag} {H : Hp} {v : V} {b : Bool} (h : LogT K H v b) : SpV (spG K) [v] H (.bl b) := fun H1 e Q q E => ⟨v, b, rfl, h.ex e, q⟩
section
variable {P : Program} {w : World} {K : PySem.W.Frag} {mg : Str → Option Value} {base : Heap}
theorem okB_is_log (D : Def K mg "is_log" s_is_log ["thing"]) (T : Bl mg) (C : Cs mg) (G_is_entry : Good P w K mg base 3 "is_entry" ["thing"] (spE K)) : Good P w K mg base 4 "is_log" ["thing"] (spG K) := by
  refine D.good sc_is_log (fun vs H Q E h => ?_) (fun f cdv A outer s H vs Q E hr h => ?_)
  · obtain ⟨k, n, rfl, _⟩ := h
    rfl
  · obtain ⟨v, b, rfl, hv, q⟩ := h
    have hu := hu_of hr
    refine ⟨_, (pss_cons (ps_if (pw_or (pt_not (pt_val (x_isi (K := K) "list" T (pv 0) T.list))) (pw_or1 (pt_cmpR op_gt (x_len (K := K) T (pv 0)) (x_gint C.MOST_ENTRIES) (nomark _)))).pt (pss_one (ps_ret pe_bl)) pss_nil)
      (pss_one (ps_ret (x_all (K := K) T (pe_lc (own := [("entry", 1)]) (g := (gName 1)) (tt := tYes) rfl sc_is_log.nd (x_pil (K := K) (pv 0)) (blkOk_by (N := ["thing", "entry"]) (sc := (defScope s_is_log)) (by decide +kernel)) (fun _ _ _ _ _ => (pg_name (i := 1) sc_is_log.nd rfl (Or.inl rfl))) (fun _ _ _ _ _ => pts_nil) (fun _ _ _ _ _ => (pe_fn (G_is_entry.mono (by decide)) hr (pa_cons (pv 1) pa_nil)))))))), ?_⟩
    cases hv with
    | no t k =>
      refine s_if (b := true) (et_is (et_or (a := true) (b := true) (et_not (a := false) (et_B (ev_isI rfl t.ty k))) (fun z => nomatch z)) rfl) (fun _ H1 e1 => s_ret (v := .bl false) ev_c fun H2 e2 => ?_) (fun z => nomatch z)
      exact q H2 (e1.trans e2)
    | big hp l =>
      refine s_if (b := true) (et_is (et_or (a := false) (b := true) (et_not (a := true) (et_B (ev_isI rfl (ty_lst (Or.inl hp)) rfl))) (fun _ => et_is (et_test (ev_op (ev_lenA (ev_var rfl) (Or.inl (sq_of hp))) ev_c rv_I0)) (decide_eq_true (by omega)))) rfl) (fun _ H1 e1 => s_ret (v := .bl false) ev_c fun H2 e2 => ?_) (fun z => nomatch z)
      exact q H2 (e1.trans e2)
    | @lst p xs bs hp l m x =>
      refine s_if (b := false) (et_is (et_or (a := false) (b := false) (et_not (a := true) (et_B (ev_isI rfl (ty_lst (Or.inl hp)) rfl))) (fun _ => et_is (et_test (ev_op (ev_lenA (ev_var rfl) (Or.inl (sq_of hp))) ev_c rv_I0)) (decide_eq_false (by omega)))) rfl) (fun z => nomatch z) (fun _ H1 e1 => ?_)
      refine s_ret (ev_allB ((elp_lcL (fun i v _ => ∃ b, bs[i]? = some b ∧ v = .bl b) (ev_var rfl) (ex_l e1 (sq_of hp)) (by omega) (fun _ => rfl) (fun i y hy => ?_)).imp fun _ _ _ h => list_bl (by rw [h.1, m]) h.2)) fun H2 e2 => q H2 (e1.trans e2)
      obtain ⟨b, hb, ht⟩ := x i y hy
      exact evp_of (ev_call (ea_cons (ev_var rfl) ea_nil) (spv_e (ht.ex e1))) fun _ _ => ⟨b, hb, rfl⟩
end
end Vx

set_option Elab.async false
set_option linter.all false
set_option maxRecDepth 100000
set_option maxHeartbeats 4000000
namespace Vx
open PySem PySem.Spec PyProof.Rows L2 Evl
/-! comprehensions over lists that are known -/
theorem given_list {α : Type} (R : List α) (d : α) (p : α → Bool) (g : α → V) : given R.length (fun i => p (R.getD i d)) (fun i => g (R.getD i d)) = (R.filter p).map g := by
  have e : R = (List.range R.length).map (fun i => R.getD i d) := by
    refine List.ext_getElem? fun i => ?_
    rw [List.getElem?_map]
    by_cases h : i < R.length
    · rw [List.getElem?_range h, List.getElem?_eq_getElem h]
      simp [List.getD, List.getElem?_eq_getElem h]
    · rw [List.getElem?_eq_none (by omega), List.getElem?_eq_none (by rw [List.length_range]; omega)]
      rfl
  have e2 : (R.filter p).map g = (((List.range R.length).map (fun i => R.getD i d)).filter p).map g := by rw [← e]
  rw [e2, List.filter_map, List.map_map]
  rfl
theorem getD_at {α : Type} {R : List α} {d x : α} {i : Nat} (h : R[i]? = some x) : R.getD i d = x := by
  simp [List.getD, h]
section
variable {K : PySem.W.Frag} {a : Addr} {xs : List V} {g : TG} {te tk tv : TE} {t : TT} {vs : List Nat} {σ : L2.St} {H1 : Hp} {Q : VK}
theorem lc_given (f : Nat → Bool) (v : Nat → V) (s2 : Nat → L2.St) (hx : SqL K H1 a xs) (hz : xs.length ≤ 40000)
    (hg : ∀ (i : Nat) x, xs[i]? = some x → wipe (s2 i) vs = wipe σ vs ∧ ∀ H2, Ex H1 H2 → ∀ Q' : L2.St → Hp → Prop, (∀ H3, Ex H2 H3 → Q' (s2 i) H3) → g x (wipe σ vs) H2 Q')
    (ht : ∀ (i : Nat) x, xs[i]? = some x → EvT t (s2 i) H1 (f i)) (he : ∀ (i : Nat) x, xs[i]? = some x → f i = true → Ev te (s2 i) H1 (v i))
    (q : ∀ Dl H2, H1 Dl = none → Ex H1 H2 → H2 Dl = some (.lst (given xs.length f v)) → Q (.ref Dl) H2) :
    ∀ Dl, H1 Dl = none → ∃ W : Nat → Nat → Hp → Prop, (∃ m, W 0 m (upd H1 Dl (.lst []))) ∧ ∀ i m H, W i m H →
      ((Itl K a).stop i H ∧ Q (.ref Dl) H) ∨ ((Itl K a).go i H ∧ ∃ Nx : Hp → Prop, (∀ H', Nx H' → ∃ m', m' < m ∧ W (i + 1) m' H') ∧ ∀ x H', (Itl K a).yld i H x H' → g x (wipe σ vs) H' fun σ2 H2 => wipe σ2 vs = wipe σ vs ∧ t σ2 H2 fun b H3 =>
        if b = true then te σ2 H3 fun y H4 => ∃ acc, H4 Dl = some (.lst acc) ∧ acc.length < sizeLine ∧ Nx (upd H4 Dl (.lst (acc ++ [y]))) else Nx H3) := fun Dl hD =>
  lc_list (xs := xs) (Cw H1 f v Dl) ⟨hD, Ex.new hD, upd_same⟩ (fun i H' _ p => ex_l p.2.1 hx)
    (fun i x H' hi p => (hg i x hi).2 H' p.2.1 _ fun H3 e3 => ⟨(hg i x hi).1, cw_turn ⟨p.1, p.2.1.trans e3, e3 _ _ p.2.2⟩ (by have := (List.getElem?_eq_some_iff.mp hi).1; omega) (ht i x hi) (he i x hi)⟩)
    (fun H' p => q Dl H' p.1 p.2.1 p.2.2)
/-- .. of pairs: what a dict gets -/
def dgiven (n : Nat) (f : Nat → Bool) (k : Nat → Key) (v : Nat → V) : List (Key × V) := ((List.range n).filter f).map fun i => (k i, v i)
theorem dgiven_yes {n : Nat} {f : Nat → Bool} {k : Nat → Key} {v : Nat → V} (h : f n = true) : dgiven (n + 1) f k v = dgiven n f k v ++ [(k n, v n)] := by
  unfold dgiven
  rw [List.range_succ, List.filter_append, List.map_append, List.filter_cons, if_pos h]
  rfl
theorem dgiven_no {n : Nat} {f : Nat → Bool} {k : Nat → Key} {v : Nat → V} (h : f n = false) : dgiven (n + 1) f k v = dgiven n f k v := by
  unfold dgiven
  rw [List.range_succ, List.filter_append, List.map_append, List.filter_cons, if_neg (by rw [h]; decide)]
  exact List.append_nil _
theorem dgiven_len (n : Nat) (f : Nat → Bool) (k : Nat → Key) (v : Nat → V) : (dgiven n f k v).length ≤ n := by
  unfold dgiven
  rw [List.length_map]
  have h := List.length_filter_le f (List.range n)
  rw [List.length_range] at h
  exact h
theorem put_new {kvs : List (Key × V)} {k : Key} {v : V} (h : ∀ p ∈ kvs, p.1 ≠ k) : putK kvs k v = kvs ++ [(k, v)] := by
  unfold putK
  rw [if_neg]
  intro z
  obtain ⟨x, hx, e⟩ := List.any_eq_true.mp z
  exact h x hx (of_decide_eq_true e)
theorem dc_given (f : Nat → Bool) (k : Nat → Key) (v : Nat → V) (s2 : Nat → L2.St) (hx : SqL K H1 a xs) (hz : xs.length ≤ 40000)
    (hg : ∀ (i : Nat) x, xs[i]? = some x → wipe (s2 i) vs = wipe σ vs ∧ ∀ H2, Ex H1 H2 → ∀ Q' : L2.St → Hp → Prop, (∀ H3, Ex H2 H3 → Q' (s2 i) H3) → g x (wipe σ vs) H2 Q')
    (ht : ∀ (i : Nat) x, xs[i]? = some x → EvT t (s2 i) H1 (f i)) (hk : ∀ (i : Nat) x, xs[i]? = some x → f i = true → Ev tk (s2 i) H1 (kV (k i))) (hv : ∀ (i : Nat) x, xs[i]? = some x → f i = true → Ev tv (s2 i) H1 (v i))
    (hd : ∀ i j, j < i → i < xs.length → f i = true → f j = true → k j ≠ k i)
    (q : ∀ Dl H2, H1 Dl = none → Ex H1 H2 → H2 Dl = some (.dK (dgiven xs.length f k v)) → Q (.ref Dl) H2) :
    ∀ Dl, H1 Dl = none → ∃ W : Nat → Nat → Hp → Prop, (∃ m, W 0 m (upd H1 Dl (.dK []))) ∧ ∀ i m H, W i m H →
      ((Itl K a).stop i H ∧ Q (.ref Dl) H) ∨ ((Itl K a).go i H ∧ ∃ Nx : Hp → Prop, (∀ H', Nx H' → ∃ m', m' < m ∧ W (i + 1) m' H') ∧ ∀ x H', (Itl K a).yld i H x H' → g x (wipe σ vs) H' fun σ2 H2 => wipe σ2 vs = wipe σ vs ∧ t σ2 H2 fun b H3 =>
        if b = true then tk σ2 H3 fun y H4 => tv σ2 H4 fun z H5 => ∃ kvs k, y = kV k ∧ H5 Dl = some (.dK kvs) ∧ kvs.length < sizeLine ∧ Nx (upd H5 Dl (.dK (putK kvs k z))) else Nx H3) := fun Dl hD => by
  let I : Nat → Hp → Prop := fun i H => Ex H1 H ∧ H Dl = some (.dK (dgiven i f k v))
  refine ⟨fun i m H => m = xs.length - i ∧ i ≤ xs.length ∧ I i H, ⟨xs.length, rfl, Nat.zero_le _, Ex.new hD, upd_same⟩, ?_⟩
  rintro i m H ⟨rfl, hi, p⟩
  have sq := ex_l p.1 hx
  rcases Nat.lt_or_ge i xs.length with hlt | hge
  · have hxi : xs[i]? = some xs[i] := List.getElem?_eq_getElem hlt
    refine .inr ⟨⟨xs, xs[i], sq, hxi⟩, I (i + 1), fun H' p' => ⟨xs.length - (i + 1), by omega, rfl, hlt, p'⟩, fun x H' y => ?_⟩
    obtain ⟨rfl, y⟩ := y
    have hxx := y xs sq
    refine (hg i x hxx).2 H' p.1 _ fun H3 e3 => ⟨(hg i x hxx).1, ?_⟩
    refine ht i x hxx H3 (p.1.trans e3) _ fun H4 e4 => ?_
    cases hf : f i with
    | true =>
      show tk (s2 i) H4 fun y H4 => tv (s2 i) H4 fun z H5 => ∃ kvs k, y = kV k ∧ H5 Dl = some (.dK kvs) ∧ kvs.length < sizeLine ∧ I (i + 1) (upd H5 Dl (.dK (putK kvs k z)))
      have E4 := (p.1.trans e3).trans e4
      refine hk i x hxx hf H4 E4 _ fun H5 e5 => hv i x hxx hf H5 (E4.trans e5) _ fun H6 e6 => ⟨dgiven i f k v, k i, rfl, e6 _ _ (e5 _ _ (e4 _ _ (e3 _ _ p.2))), sz_lt (by have := dgiven_len i f k v; omega), Ex.mut ((E4.trans e5).trans e6) hD, ?_⟩
      rw [upd_same, dgiven_yes hf, put_new]
      intro z hzm
      unfold dgiven at hzm
      obtain ⟨j, hj, rfl⟩ := List.mem_map.mp hzm
      have hj2 := List.mem_filter.mp hj
      exact hd i j (List.mem_range.mp hj2.1) hlt hf hj2.2
    | false =>
      show I (i + 1) H4
      refine ⟨(p.1.trans e3).trans e4, ?_⟩
      rw [dgiven_no hf]
      exact e4 _ _ (e3 _ _ p.2)
  · have e : i = xs.length := by omega
    subst e
    exact .inl ⟨⟨xs, sq, Nat.le_refl _⟩, q Dl H hD p.1 p.2⟩
theorem el_lcG {tl : TE} {H : Hp} (f : Nat → Bool) (v : Nat → V) (s2 : Nat → L2.St) (h : Ev tl σ H (.ref a)) (hx : SqL K H a xs) (hz : xs.length ≤ 40000)
    (hg : ∀ (i : Nat) x, xs[i]? = some x → wipe (s2 i) vs = wipe σ vs ∧ ∀ H2, Ex H H2 → ∀ Q' : L2.St → Hp → Prop, (∀ H3, Ex H2 H3 → Q' (s2 i) H3) → g x (wipe σ vs) H2 Q')
    (ht : ∀ (i : Nat) x, xs[i]? = some x → EvT t (s2 i) H (f i)) (he : ∀ (i : Nat) x, xs[i]? = some x → f i = true → Ev te (s2 i) H (v i)) : EvL (tLc (iList K tl) g t te vs) σ H (given xs.length f v) := fun H0 e Q q => h H0 e _ fun H1 e1 =>
  ⟨a, rfl, ⟨xs, ex_l (e.trans e1) hx⟩, lc_given f v s2 (ex_l (e.trans e1) hx) hz (fun i x hi => ⟨(hg i x hi).1, fun H2 e2 => (hg i x hi).2 H2 ((e.trans e1).trans e2)⟩) (fun i x hi => (ht i x hi).mono (e.trans e1)) (fun i x hi hf => (he i x hi hf).mono (e.trans e1))
    fun Dl H2 n e2 h2 => q Dl H2 (fresh_back e1 n) (e1.trans e2) h2⟩
end
end Vx
namespace Vx
open PySem PySem.Spec PyProof.Rows L2 Evl
section
variable {K : PySem.W.Frag} {xs : List V} {g : TG} {te tl : TE} {t : TT} {vs : List Nat} {σ : L2.St} {H : Hp}
/-- over a new list, any target -/
theorem el_lcNG (f : Nat → Bool) (v : Nat → V) (s2 : Nat → L2.St) (h : EvL tl σ H xs) (hz : xs.length ≤ 40000)
    (hg : ∀ (i : Nat) x, xs[i]? = some x → wipe (s2 i) vs = wipe σ vs ∧ ∀ H2, Ex H H2 → ∀ Q' : L2.St → Hp → Prop, (∀ H3, Ex H2 H3 → Q' (s2 i) H3) → g x (wipe σ vs) H2 Q')
    (ht : ∀ (i : Nat) x, xs[i]? = some x → EvT t (s2 i) H (f i)) (he : ∀ (i : Nat) x, xs[i]? = some x → f i = true → Ev te (s2 i) H (v i)) : EvL (tLc (iList K tl) g t te vs) σ H (given xs.length f v) := fun H0 e Q q => h H0 e _ fun a H1 na e1 h1 =>
  ⟨a, rfl, ⟨xs, sq_of h1⟩, lc_given f v s2 (sq_of h1) hz (fun i x hi => ⟨(hg i x hi).1, fun H2 e2 => (hg i x hi).2 H2 ((e.trans e1).trans e2)⟩) (fun i x hi => (ht i x hi).mono (e.trans e1)) (fun i x hi hf => (he i x hi hf).mono (e.trans e1))
    fun Dl H2 n e2 h2 => q Dl H2 (fresh_back e1 n) (e1.trans e2) h2⟩
end
end Vx

set_option Elab.async false
set_option linter.all false
set_option maxRecDepth 100000
set_option maxHeartbeats 4000000
namespace Vx
open PySem PySem.Spec PyProof.Rows L2 Evl
def En.hd : En → Str
  | .push _ => "push"
  | .pop _ => "pop"
  | .size _ => "size"
  | .steal _ _ => "steal"
def En.isPu : En → Bool
  | .push _ => true
  | _ => false
def En.isRe : En → Bool
  | .pop _ => true
  | .steal _ _ => true
  | _ => false
/-- the item -/
def En.it : En → Str
  | .push x => x
  | .pop x => x
  | .size _ => ""
  | .steal _ x => x
theorem En.at0 (e : En) : atI e.vs 0 = some (.str e.hd) := by cases e <;> rfl
theorem hdT : ∀ a ∈ ([("push", "push", true), ("pop", "push", false), ("size", "push", false), ("steal", "push", false), ("push", "pop", false), ("pop", "pop", true), ("size", "pop", false), ("steal", "pop", false)] : List (Str × Str × Bool)), decide (V.str a.1 = V.str a.2.1) = a.2.2 := by decide +kernel
theorem hdR : ∀ a ∈ ([("push", false), ("pop", true), ("size", false), ("steal", true)] : List (Str × Bool)), inV (V.str a.1) [.str "pop", .str "steal"] = a.2 := by decide +kernel
theorem En.isPu_eq (e : En) : decide (V.str e.hd = V.str "push") = e.isPu := by
  cases e
  · exact hdT ("push", "push", true) (by simp)
  · exact hdT ("pop", "push", false) (by simp)
  · exact hdT ("size", "push", false) (by simp)
  · exact hdT ("steal", "push", false) (by simp)
def En.isPo : En → Bool
  | .pop _ => true
  | _ => false
theorem En.isPo_eq (e : En) : decide (V.str e.hd = V.str "pop") = e.isPo := by
  cases e
  · exact hdT ("push", "pop", false) (by simp)
  · exact hdT ("pop", "pop", true) (by simp)
  · exact hdT ("size", "pop", false) (by simp)
  · exact hdT ("steal", "pop", false) (by simp)
theorem En.isRe_eq (e : En) : inV (V.str e.hd) [.str "pop", .str "steal"] = e.isRe := by
  cases e
  · exact hdR ("push", false) (by simp)
  · exact hdR ("pop", true) (by simp)
  · exact hdR ("size", false) (by simp)
  · exact hdR ("steal", true) (by simp)
theorem En.at1 {e : En} (h : e.isPu = true) : atI e.vs 1 = some (.str e.it) := by cases e <;> first | rfl | cases h
theorem En.atL {e : En} (h : e.isRe = true) : atI e.vs (-1) = some (.str e.it) := by cases e <;> first | rfl | cases h
theorem pus_eq (es : List En) : pus es = (es.filter En.isPu).map En.it := by
  induction es with
  | nil => rfl
  | cons e es ih =>
    have : pus (e :: es) = e.pu ++ pus es := by unfold pus; rw [List.flatMap_cons]
    rw [this, ih]
    cases e <;> rfl
theorem res_eq (es : List En) : res es = (es.filter En.isRe).map En.it := by
  induction es with
  | nil => rfl
  | cons e es ih =>
    have : res (e :: es) = e.re ++ res es := by unfold res; rw [List.flatMap_cons]
    rw [this, ih]
    cases e <;> rfl
def spPushed : Sp := fun vs H Q _ => ∃ (p : Addr) (es : List En), vs = [.ref p] ∧ TL H p (es.map En.vs) ∧ es.length ≤ 60 ∧ ∀ r H', H r = none → Ex H H' → H' r = some (.lst ((pus es).map V.str)) → Q (.ref r) H'
section
variable {P : Program} {w : World} {K : PySem.W.Frag} {mg : Str → Option Value} {base : Heap}
end
end Vx

set_option Elab.async false
set_option linter.all false
set_option maxRecDepth 100000
set_option maxHeartbeats 4000000
namespace Vx
open PySem PySem.Spec PyProof.Rows L2 Evl
/-- logs that are read: the dict may be locked, while something else that changes is at hand -/
structure HLr (H : Hp) (d : Addr) (ws : List Str) (ps : List Addr) (L : List (List En)) : Prop where
  dk : H d = some (.dK (Dk ws ps)) ∨ (∃ od, H d = some (.frz od (.dK (Dk ws ps)))) ∧ ∃ (z : Addr) (xs : List V), H z = some (.lst xs) ∧ z ∉ ps
  pl : ps.length = ws.length
  lg : ∀ (i : Nat) (p : Addr) (es : List En), ps[i]? = some p → L[i]? = some es → TL H p (es.map En.vs)
theorem HL.r {H : Hp} {d : Addr} {ws : List Str} {ps : List Addr} {L : List (List En)} (h : HL H d ws ps L) : HLr H d ws ps L := ⟨Or.inl h.dk, h.pl, h.lg⟩
theorem HLr.rd {H : Hp} {d : Addr} {ws : List Str} {ps : List Addr} {L : List (List En)} (h : HLr H d ws ps L) : Rd H d (.dK (Dk ws ps)) := h.dk.imp id fun z => z.1
theorem HLr.ex {H H' : Hp} {d : Addr} {ws : List Str} {ps : List Addr} {L : List (List En)} (h : HLr H d ws ps L) (e : Ex H H') : HLr H' d ws ps L := by
  refine ⟨h.dk.imp (fun z => e _ _ z) (fun ⟨⟨od, a⟩, z, xs, b, c⟩ => ⟨⟨od, e _ _ a⟩, z, xs, e _ _ b, c⟩), h.pl, fun i p es h1 h2 => (h.lg i p es h1 h2).ex e⟩
theorem dget_r {H : Hp} {a : Addr} {kvs : List (Key × V)} {k : Key} (e : Rd H a (.dK kvs)) : DGet H a (kV k) (valV kvs k) := .inl ⟨kvs, k, e, rfl, rfl⟩
theorem ev_dgetQ {σ : L2.St} {H : Hp} {td ty : TE} {d : Addr} {kvs : List (Key × V)} {x : Str} {v : V} (h1 : Evl.Ev td σ H (.ref d)) (h2 : Evl.Ev ty σ H (.str x)) (hd : Rd H d (.dK kvs)) (hv : valV kvs (.inr x) = some v) : Evl.Ev (tDGet td ty) σ H v := fun H1 e Q q =>
  h1 H1 e _ fun H2 e2 => h2 H2 (e.trans e2) _ fun H3 e3 => ⟨d, v, rfl, .inl ⟨kvs, .inr x, ex_rd (e.trans (e2.trans e3)) hd, rfl, hv.symm⟩, q H3 (e2.trans e3)⟩
theorem call_lenR {X : Cx} : CallR X (.builtin "len") (fun xs H Q => ∃ (a : Addr) (kvs : List (Key × V)), xs = [.ref a] ∧ Rd H a (.dK kvs) ∧ Q (.int kvs.length) H) := fun pins s σ H xs us Q I r ⟨a, kvs, e, ha, q⟩ => by
  subst e
  obtain ⟨u, rfl, ru⟩ := vals1 r
  cases ru
  exact d_len I ha fun t s' I' => ⟨.int kvs.length, H, I', ⟨t, rfl⟩, q⟩
theorem TL.frzL {z p : Addr} {H : Hp} {xs : List V} {o : HO} {ts : List (List V)} (t : TL H p ts) (h : H z = some (.lst xs)) (n : p ≠ z) : TL (upd H z o) p ts := t.keep (fun a x w => by rw [upd_ne (fun e => by rw [e, h] at w; cases w)]; exact w) (upd_ne n)
end Vx

set_option Elab.async false
set_option linter.all false
set_option maxRecDepth 100000
set_option maxHeartbeats 4000000
namespace Vx
open PySem PySem.Spec PyProof.Rows L2 Evl
/-! all entries, in the order of the workers -/
structure RowA where
  w : Str
  i : Nat
  e : En
  b : Addr
  c : Addr
def RowAt (H : Hp) (a : Addr) (r : RowA) : Prop := H a = some (.tup [.ref r.b, .ref r.c]) ∧ H r.b = some (.tup [.str r.w, .int (r.i : Int)]) ∧ H r.c = some (.tup r.e.vs)
theorem RowAt.tk {H H' : Hp} {a : Addr} {r : RowA} (h : RowAt H a r) (k : TK H H') : RowAt H' a r := ⟨k _ _ h.1, k _ _ h.2.1, k _ _ h.2.2⟩
abbrev Tri := Str × Nat × En
def RowA.tri (r : RowA) : Tri := (r.w, r.i, r.e)
abbrev Lg := Str × Addr × List En
def rw1 (z : Lg) : List Tri := z.2.2.zipIdx.map fun x => (z.1, x.2, x.1)
def Rw (zs : List Lg) : List Tri := zs.flatMap rw1
theorem rw1_at {z : Lg} {j : Nat} {e : En} (h : z.2.2[j]? = some e) : (rw1 z)[j]? = some (z.1, j, e) := by
  unfold rw1
  rw [List.getElem?_map, List.getElem?_zipIdx, h]
  simp
theorem rw1_len (z : Lg) : (rw1 z).length = z.2.2.length := by
  unfold rw1
  rw [List.length_map, List.length_zipIdx]
theorem perm_lift {α β : Type} (f : α → β) : ∀ {ys l : List β}, ys.Perm l → ∀ {T : List α}, T.map f = l → ∃ zs : List α, zs.Perm T ∧ zs.map f = ys := by
  intro ys l h
  induction h with
  | nil => exact fun {T} e => ⟨T, List.Perm.refl _, e⟩
  | cons x h ih =>
    intro T e
    cases T with
    | nil => cases e
    | cons t T =>
      rw [List.map_cons] at e
      injection e with e1 e2
      obtain ⟨zs, p1, p2⟩ := ih e2
      exact ⟨t :: zs, List.Perm.cons _ p1, by rw [List.map_cons, p2, e1]⟩
  | swap x y l =>
    intro T e
    match T, e with
    | t1 :: t2 :: T, e =>
      rw [List.map_cons, List.map_cons] at e
      injection e with e1 e2
      injection e2 with e2 e3
      exact ⟨t2 :: t1 :: T, List.Perm.swap _ _ _, by rw [List.map_cons, List.map_cons, e1, e2, e3]⟩
  | trans h1 h2 ih1 ih2 =>
    intro T e
    obtain ⟨zs, p1, p2⟩ := ih2 e
    obtain ⟨us, p3, p4⟩ := ih1 p2
    exact ⟨us, p3.trans p1, p4⟩
/-- the logs, each with its name and its place -/
def lgs (ws : List Str) (ps : List Addr) (L : List (List En)) : List Lg := ws.zip (ps.zip L)
theorem lgs_names {ws : List Str} {ps : List Addr} {L : List (List En)} (h1 : ps.length = ws.length) (h2 : L.length = ws.length) : (lgs ws ps L).map (·.1) = ws := by
  unfold lgs
  exact List.map_fst_zip (by rw [List.length_zip]; omega)
theorem lgs_at {ws : List Str} {ps : List Addr} {L : List (List En)} {z : Lg} (h : z ∈ lgs ws ps L) : ∃ k : Nat, ws[k]? = some z.1 ∧ ps[k]? = some z.2.1 ∧ L[k]? = some z.2.2 := by
  obtain ⟨k, hk⟩ := List.mem_iff_getElem?.mp h
  unfold lgs at hk
  rw [List.getElem?_zip_eq_some] at hk
  obtain ⟨h1, h2⟩ := hk
  rw [List.getElem?_zip_eq_some] at h2
  exact ⟨k, h1, h2.1, h2.2⟩
def spRows (K : PySem.W.Frag) : Sp := fun vs H Q _ => ∃ (d : Addr) (ws : List Str) (ps : List Addr) (L : List (List En)), vs = [.ref d] ∧ HLr H d ws ps L ∧ ws.Nodup ∧ ws.length ≤ 6 ∧ L.length = ws.length ∧ (∀ es ∈ L, es.length ≤ 60) ∧
  ∀ p (as : List Addr) (R : List RowA) (zs : List Lg) H', H p = none → Ex H H' → H' p = some (.lst (as.map V.ref)) → Paired (RowAt H') as R → zs.Perm (lgs ws ps L) → sortedS (zs.map (·.1)) = true → R.map RowA.tri = Rw zs → as.length ≤ 360 → Q (.ref p) H'
section
variable {P : Program} {w : World} {K : PySem.W.Frag} {mg : Str → Option Value} {base : Heap}
theorem sc_all_entries : FnScope ["logs", "worker", "index", "entry"] ["logs"] (defScope s_all_entries) := ⟨rfl, rfl, rfl, by decide +kernel, rfl, by decide +kernel, by decide +kernel⟩
theorem ok_all_entries (D : Def K mg "all_entries" s_all_entries ["logs"]) (T : Bl mg) : Good P w K mg base 1 "all_entries" ["logs"] (spRows K) := by
  refine D.good sc_all_entries (fun vs H Q E h => ?_) (fun f cdv A outer s H vs Q E hr h => ?_)
  · obtain ⟨d, ws, ps, L, rfl, _⟩ := h
    rfl
  · obtain ⟨d, ws, ps, L, rfl, hl, nd, wl, ll, el, q⟩ := h
    have hu := hu_of hr
    refine ⟨_, (pss_one (ps_ret (pe_lc2 (own := [("worker", 1), ("index", 2), ("entry", 3)]) (vs1 := [2, 3]) (g := (gName 1)) (g1 := (gTup K 2 (gCons (gName 2) (gCons (gName 3) gNil)))) (tt := tYes) (tt1 := tYes) rfl sc_all_entries.nd (x_pil (K := K) (pe_callB (call_sortedD rfl) (by rfl) T.sorted (by decide +kernel) (pa_cons (pv 0) pa_nil))) (blkOk_by (N := ["logs", "worker", "index", "entry"]) (sc := (defScope s_all_entries)) (by decide +kernel)) (by decide) (fun _ _ _ _ _ => (pg_name (i := 1) sc_all_entries.nd rfl (Or.inl rfl))) (fun _ _ _ _ _ => pts_nil) (fun _ _ _ _ _ => (x_enum (K := K) T (pe_dget hu (pv 0) (pv 1) (fun _ _ => rfl)))) (fun _ _ _ _ _ => (x_gt (K := K) (pgs_cons (pg_name (i := 2) sc_all_entries.nd rfl (Or.inl rfl)) (pgs_cons (pg_name (i := 3) sc_all_entries.nd rfl (Or.inl rfl)) pgs_nil)))) (fun _ _ _ _ _ => pts_nil) (fun _ _ _ _ _ => (pe_tup (pa_cons (pe_tup (pa_cons (pv 1) (pa_cons (pv 2) pa_nil))) (pa_cons (pv 3) pa_nil))))))), ?_⟩
    have hkeys := dk_keys (ws := ws) hl.pl
    refine ⟨.ref d, rfl, d, Dk ws ps, ws, rfl, hl.rd, hkeys, by omega, fun ys p0 hpm hso n0 => ?_⟩
    obtain ⟨zs, hz1, hz2⟩ := perm_lift (fun z : Lg => z.1) hpm (lgs_names hl.pl ll)
    subst hz2
    have zl : zs.length ≤ 6 := by
      have := hpm.length_eq
      rw [List.length_map] at this
      omega
    have e0 : Ex H (upd H p0 (.lst ((zs.map (·.1)).map V.str))) := Ex.new n0
    generalize hH0 : upd H p0 (.lst ((zs.map (·.1)).map V.str)) = H0 at e0
    have h0 : H0 p0 = some (.lst ((zs.map (·.1)).map V.str)) := by rw [← hH0]; exact upd_same
    clear hH0
    refine ⟨p0, rfl, ⟨_, sq_of h0⟩, fun Dl hD => ?_⟩
    have nD : p0 ≠ Dl := ne_of_none h0 hD
    let Iv : Nat → Nat → List Tri → Hp → Prop := fun i j done H' => Ex H0 H' ∧ ∃ (as : List Addr) (R : List RowA), H' Dl = some (.lst (as.map V.ref)) ∧ as.length ≤ 60 * i + j ∧ Paired (RowAt H') as R ∧ R.map RowA.tri = done
    refine ⟨fun i m H' => m = zs.length - i ∧ i ≤ zs.length ∧ Iv i 0 (Rw (zs.take i)) H', ⟨zs.length, rfl, Nat.zero_le _, Ex.new hD, [], [], upd_same, Nat.zero_le _, .nil, rfl⟩, ?_⟩
    rintro i m H1 ⟨rfl, hi, e1, as, R, ha, hal, hR, hRt⟩
    rcases Nat.lt_or_ge i zs.length with hlt | hge
    · have hzi : zs[i]? = some zs[i] := List.getElem?_eq_getElem hlt
      generalize zs[i] = z at hzi
      have hxi : ((zs.map (·.1)).map V.str)[i]? = some (.str z.1) := by rw [List.getElem?_map, List.getElem?_map, hzi]; rfl
      obtain ⟨k, k1, k2, k3⟩ := lgs_at (hz1.mem_iff.mp (List.mem_of_getElem? hzi))
      have tl := (hl.ex e0).lg k _ _ k2 k3
      have es60 := el _ (List.mem_of_getElem? k3)
      refine .inr ⟨⟨_, _, sq_of (e1 _ _ h0), hxi⟩, fun H' => Iv (i + 1) 0 (Rw (zs.take (i + 1))) H', fun H' p' => ⟨zs.length - (i + 1), by omega, rfl, hlt, p'⟩, fun x H1 y => ?_⟩
      obtain ⟨rfl, y⟩ := y
      have hx := y _ (sq_of (e1 _ _ h0))
      rw [hxi] at hx
      cases hx
      have hT : Rw (zs.take (i + 1)) = Rw (zs.take i) ++ rw1 z := by
        have : zs.take (i + 1) = zs.take i ++ [z] := by
          rw [List.take_add_one, hzi]
          rfl
        rw [this]
        unfold Rw
        rw [List.flatMap_append, List.flatMap_cons, List.flatMap_nil, List.append_nil]
      refine ⟨rfl, ?_⟩
      have hl1 := hl.ex (e0.trans e1)
      have dg := dget_r (k := .inr z.1) hl1.rd
      rw [dk_get nd k1 k2] at dg
      obtain ⟨cs, hcs, hcp⟩ := tl
      have csl : cs.length = z.2.2.length := by rw [hcp.length, List.length_map]
      refine ⟨.ref d, rfl, _, rfl, d, .ref z.2.1, rfl, dg, z.2.1, cs.map V.ref, rfl, sq_of (e1 _ _ hcs), ?_⟩
      refine ⟨fun j m H' => m = cs.length - j ∧ j ≤ cs.length ∧ Iv i j (Rw (zs.take i) ++ (rw1 z).take j) H', ⟨cs.length, rfl, Nat.zero_le _, e1, as, R, ha, hal, hR, by rw [hRt]; simp⟩, ?_⟩
      rintro j m H2 ⟨rfl, hj, e12, as2, R2, ha2, hal2, hR2, hRt2⟩
      rcases Nat.lt_or_ge j cs.length with jlt | jge
      · have hcj : (cs.map V.ref)[j]? = some (.ref cs[j]) := by rw [List.getElem?_map, List.getElem?_eq_getElem jlt]; rfl
        obtain ⟨e, he⟩ : ∃ e, z.2.2[j]? = some e := ⟨_, List.getElem?_eq_getElem (by omega)⟩
        obtain ⟨c, hc1, hc2⟩ := paired_get hcp (i := j) (y := e.vs) (by rw [List.getElem?_map, he]; rfl)
        rw [List.getElem?_eq_getElem jlt] at hc1
        have hc1 := Option.some.inj hc1
        refine .inr ⟨⟨_, _, sq_of (e12 _ _ hcs), hcj⟩, fun H' => Iv i (j + 1) (Rw (zs.take i) ++ (rw1 z).take (j + 1)) H', fun H' p' => ⟨cs.length - (j + 1), by omega, rfl, jlt, p'⟩, fun x H' y => ?_⟩
        obtain ⟨T, x, rfl, hT0, rfl, y⟩ := y
        have hx := y _ (sq_of (e12 _ _ hcs))
        rw [hcj] at hx
        cases hx
        refine ⟨T, _, rfl, st_of upd_same, rfl, _, _, rfl, _, _, rfl, rfl, rfl, ?_⟩
        have e3 : Ex H2 (upd H2 T (.tup [.int (j : Nat), .ref cs[j]])) := Ex.new hT0
        have ha3 := e3 _ _ ha2
        generalize hH3 : upd H2 T (.tup [.int (j : Nat), .ref cs[j]]) = H3 at e3 ha3
        clear hH3
        refine ⟨_, rfl, _, rfl, (by show 2 ≤ sizeLine; decide), fun b hb => ⟨_, rfl, (by show 2 ≤ sizeLine; decide), fun t ht => ?_⟩⟩
        have n1 : Dl ≠ b := ne_of_none ha3 hb
        have e4 : Ex H3 (upd H3 b (.tup [.str z.1, .int (j : Nat)])) := Ex.new hb
        have n2 : Dl ≠ t := ne_of_none (e4 _ _ ha3) ht
        have nbt : b ≠ t := ne_of_none (H := upd H3 b (.tup [.str z.1, .int (j : Nat)])) upd_same ht
        have hD4 : (upd (upd H3 b (.tup [.str z.1, .int (j : Nat)])) t (.tup [.ref b, .ref cs[j]])) Dl = some (.lst (as2.map V.ref)) := by
          rw [upd_ne n2, upd_ne n1]
          exact ha3
        refine ⟨as2.map V.ref, hD4, by rw [List.length_map]; exact sz_lt (by omega), ?_⟩
        have e5 : Ex H2 (upd (upd H3 b (.tup [.str z.1, .int (j : Nat)])) t (.tup [.ref b, .ref cs[j]])) := e3.trans (e4.trans (Ex.new ht))
        have tk := (tk_ex e5).trans (tk_upd (o := .lst (as2.map V.ref ++ [.ref t])) hD4)
        refine ⟨?_, as2 ++ [t], R2 ++ [⟨z.1, j, e, b, cs[j]⟩], by rw [upd_same, List.map_append]; rfl, by rw [List.length_append]; show as2.length + 1 ≤ _; omega, Paired.snoc (paired_imp (fun a r h => RowAt.tk h tk) hR2) ⟨?_, ?_, ?_⟩, ?_⟩
        · exact Ex.mut (e12.trans e5) hD
        · rw [upd_ne n2.symm, upd_same]
        · rw [upd_ne n1.symm, upd_ne nbt, upd_same]
        · refine tk _ _ (e12 _ _ ?_)
          rw [hc1]
          exact hc2
        · rw [List.map_append, hRt2, List.append_assoc]
          congr 1
          rw [List.take_add_one, rw1_at he]
          rfl
      · have : j = cs.length := by omega
        subst this
        refine .inl ⟨⟨_, sq_of (e12 _ _ hcs), by rw [List.length_map]; exact Nat.le_refl _⟩, e12, as2, R2, ha2, by omega, hR2, ?_⟩
        rw [hRt2, hT, csl, ← rw1_len, List.take_length]
    · have : i = zs.length := by omega
      subst this
      refine .inl ⟨⟨_, sq_of (e1 _ _ h0), by rw [List.length_map, List.length_map]; exact Nat.le_refl _⟩, ?_⟩
      rw [List.take_length] at hRt
      exact q Dl as R zs H1 (fresh_back e0 hD) (e0.trans e1) ha hR hz1 hso hRt (by omega)
end
end Vx

set_option Elab.async false
set_option linter.all false
set_option maxRecDepth 100000
set_option maxHeartbeats 4000000
namespace Vx
open PySem PySem.Spec PyProof.Rows L2 Evl
theorem perm_flat {α β : Type} {f : α → List β} {xs ys : List α} (h : xs.Perm ys) : (xs.flatMap f).Perm (ys.flatMap f) := by
  induction h with
  | nil => exact List.Perm.refl _
  | cons x h ih =>
    rw [List.flatMap_cons, List.flatMap_cons]
    exact List.Perm.append_left _ ih
  | swap x y l =>
    rw [List.flatMap_cons, List.flatMap_cons, List.flatMap_cons, List.flatMap_cons, ← List.append_assoc, ← List.append_assoc]
    exact List.Perm.append_right _ List.perm_append_comm
  | trans h1 h2 i1 i2 => exact i1.trans i2
theorem lgs_logs {ws : List Str} {ps : List Addr} {L : List (List En)} (h1 : ps.length = ws.length) (h2 : L.length = ws.length) : (lgs ws ps L).map (·.2.2) = L := by
  unfold lgs
  have e1 : ((ws.zip (ps.zip L)).map (·.2)) = ps.zip L := List.map_snd_zip (by rw [List.length_zip]; omega)
  have e2 : ((ps.zip L).map (·.2)) = L := List.map_snd_zip (by omega)
  have : (ws.zip (ps.zip L)).map (fun z => z.2.2) = ((ws.zip (ps.zip L)).map (·.2)).map (·.2) := by
    rw [List.map_map]
    rfl
  rw [this, e1, e2]
theorem rw1_es (z : Lg) : (rw1 z).map (·.2.2) = z.2.2 := by
  unfold rw1
  rw [List.map_map]
  have : ((fun x : Tri => x.2.2) ∘ fun x : En × Nat => (z.1, x.2, x.1)) = Prod.fst := rfl
  rw [this, List.zipIdx_map_fst]
theorem rows_es {R : List RowA} {zs : List Lg} (h : R.map RowA.tri = Rw zs) : R.map (·.e) = zs.flatMap (·.2.2) := by
  have e1 : R.map (·.e) = (R.map RowA.tri).map (·.2.2) := by
    rw [List.map_map]
    rfl
  rw [e1, h]
  unfold Rw
  rw [List.map_flatMap]
  congr 1
  funext z
  exact rw1_es z
theorem rows_pus {R : List RowA} {zs : List Lg} (h : R.map RowA.tri = Rw zs) : (R.filter (·.e.isPu)).map (·.e.it) = zs.flatMap (fun z => pus z.2.2) := by
  have e1 : (R.filter (·.e.isPu)).map (·.e.it) = pus (R.map (·.e)) := by
    rw [pus_eq, List.filter_map, List.map_map]
    rfl
  rw [e1, rows_es h]
  unfold pus
  rw [List.flatMap_assoc]
theorem rows_res {R : List RowA} {zs : List Lg} (h : R.map RowA.tri = Rw zs) : (R.filter (·.e.isRe)).map (·.e.it) = zs.flatMap (fun z => res z.2.2) := by
  have e1 : (R.filter (·.e.isRe)).map (·.e.it) = res (R.map (·.e)) := by
    rw [res_eq, List.filter_map, List.map_map]
    rfl
  rw [e1, rows_es h]
  unfold res
  rw [List.flatMap_assoc]
theorem flat_lgs {f : List En → List Str} {ws : List Str} {ps : List Addr} {L : List (List En)} {zs : List Lg} (h1 : ps.length = ws.length) (h2 : L.length = ws.length) (h : zs.Perm (lgs ws ps L)) : (zs.flatMap (fun z => f z.2.2)).Perm (L.flatMap f) := by
  refine (perm_flat h).trans (List.Perm.of_eq ?_)
  have : (lgs ws ps L).flatMap (fun z => f z.2.2) = ((lgs ws ps L).map (·.2.2)).flatMap f := by rw [List.flatMap_map]
  rw [this, lgs_logs h1 h2]
theorem nd_apart {α β : Type} {R : List α} {p : α → Bool} {g : α → β} (h : ((R.filter p).map g).Nodup) {i j : Nat} {a b : α} (hij : j < i) (hi : R[i]? = some a) (hj : R[j]? = some b) (pa : p a = true) (pb : p b = true) : g b ≠ g a := by
  unfold List.Nodup at h
  rw [List.pairwise_map, List.pairwise_filter, List.pairwise_iff_getElem] at h
  obtain ⟨h1, h2⟩ := List.getElem?_eq_some_iff.mp hi
  obtain ⟨h3, h4⟩ := List.getElem?_eq_some_iff.mp hj
  have := h j i h3 h1 hij
  rw [h2, h4] at this
  exact this pb pa
theorem dgiven_list {α : Type} (R : List α) (d : α) (p : α → Bool) (k : α → Key) (g : α → V) : dgiven R.length (fun i => p (R.getD i d)) (fun i => k (R.getD i d)) (fun i => g (R.getD i d)) = (R.filter p).map fun r => (k r, g r) := by
  have e : R = (List.range R.length).map (fun i => R.getD i d) := by
    refine List.ext_getElem? fun i => ?_
    rw [List.getElem?_map]
    by_cases h : i < R.length
    · rw [List.getElem?_range h, List.getElem?_eq_getElem h]
      simp [List.getD, List.getElem?_eq_getElem h]
    · rw [List.getElem?_eq_none (by omega), List.getElem?_eq_none (by rw [List.length_range]; omega)]
      rfl
  have e2 : (R.filter p).map (fun r => (k r, g r)) = (((List.range R.length).map (fun i => R.getD i d)).filter p).map (fun r => (k r, g r)) := by rw [← e]
  rw [e2, List.filter_map, List.map_map]
  rfl
def row0 : RowA := ⟨"", 0, .size 0, 0, 0⟩
theorem row_at {H : Hp} {as : List Addr} {R : List RowA} (hR : Paired (RowAt H) as R) {i : Nat} {x : V} (hx : (as.map V.ref)[i]? = some x) : ∃ (a : Addr) (r : RowA), x = .ref a ∧ R[i]? = some r ∧ RowAt H a r := by
  rw [List.getElem?_map] at hx
  obtain ⟨a, ha, rfl⟩ := Option.map_eq_some_iff.mp hx
  have hi : i < R.length := by rw [← hR.length]; exact (List.getElem?_eq_some_iff.mp ha).1
  obtain ⟨c, hc, hd⟩ := paired_get hR (i := i) (y := R[i]) (List.getElem?_eq_getElem hi)
  rw [ha] at hc
  cases hc
  exact ⟨a, R[i], rfl, List.getElem?_eq_getElem hi, hd⟩
structure LgOk (ws : List Str) (L : List (List En)) : Prop where
  nd : ws.Nodup
  wl : ws.length ≤ 6
  ll : L.length = ws.length
  el : ∀ es ∈ L, es.length ≤ 60
theorem Vlog.ok {top : Nat} {ws : List Str} {L : List (List En)} (v : Vlog top ws L) (h : top ≤ 60) : LgOk ws L := ⟨v.wk.2.2.1, v.wk.2.1, v.len, fun es he => Nat.le_trans (v.ent es he).1 h⟩
/-- the places of the items that p holds -/
def Plc (p : En → Bool) (R : List RowA) : List (Key × V) := (R.filter fun r => p r.e).map fun r => (.inr r.e.it, .ref r.b)
def spPlc (p : En → Bool) (fl : List En → List Str) : Sp := fun vs H Q _ => ∃ (d : Addr) (ws : List Str) (ps : List Addr) (L : List (List En)), vs = [.ref d] ∧ HLr H d ws ps L ∧ LgOk ws L ∧ (L.flatMap fl).Nodup ∧
  ∀ q (as : List Addr) (R : List RowA) (zs : List Lg) H', H q = none → Ex H H' → H' q = some (.dK (Plc p R)) → Paired (RowAt H') as R → zs.Perm (lgs ws ps L) → sortedS (zs.map (·.1)) = true → R.map RowA.tri = Rw zs → Q (.ref q) H'
section
variable {P : Program} {w : World} {K : PySem.W.Frag} {mg : Str → Option Value} {base : Heap}
theorem sc_push_places : FnScope ["logs", "place", "entry"] ["logs"] (defScope s_push_places) := ⟨rfl, rfl, rfl, by decide +kernel, rfl, by decide +kernel, by decide +kernel⟩
theorem ok_push_places (D : Def K mg "push_places" s_push_places ["logs"]) (T : Bl mg) (G_all_entries : Good P w K mg base 1 "all_entries" ["logs"] (spRows K)) : Good P w K mg base 2 "push_places" ["logs"] (spPlc En.isPu pus) := by
  refine D.good sc_push_places (fun vs H Q E h => ?_) (fun f cdv A outer s H vs Q E hr h => ?_)
  · obtain ⟨d, ws, ps, L, rfl, _⟩ := h
    rfl
  · obtain ⟨d, ws, ps, L, rfl, hl, ok, hn, q⟩ := h
    have hu := hu_of hr
    refine ⟨_, (pss_one (ps_ret (pe_dc (own := [("place", 1), ("entry", 2)]) (g := (gTup K 2 (gCons (gName 1) (gCons (gName 2) gNil)))) rfl sc_push_places.nd (x_pil (K := K) (pe_fn (G_all_entries.mono (by decide)) hr (pa_cons (pv 0) pa_nil))) (blkOk_by (N := ["logs", "place", "entry"]) (sc := (defScope s_push_places)) (by decide +kernel)) (fun _ _ _ _ _ => (x_gt (K := K) (pgs_cons (pg_name (i := 1) sc_push_places.nd rfl (Or.inl rfl)) (pgs_cons (pg_name (i := 2) sc_push_places.nd rfl (Or.inl rfl)) pgs_nil)))) (fun _ _ _ _ _ => (pts_one (pt_cmpR op_eq (x_ixt (K := K) (pv 2) pe_int) pe_str (nomark _)))) (fun _ _ _ _ _ => (x_ixt (K := K) (pv 2) pe_int)) (fun _ _ _ _ _ => (pv 1))))), ?_⟩
    refine ⟨_, rfl, d, ws, ps, L, rfl, hl, ok.nd, ok.wl, ok.ll, ok.el, fun p as R zs H1 n1 e1 h1 hR hz hso hRt hal => ⟨p, rfl, ⟨_, sq_of h1⟩, ?_⟩⟩
    have ndp : ((R.filter (·.e.isPu)).map (·.e.it)).Nodup := by
      rw [rows_pus hRt]
      exact (flat_lgs (f := pus) hl.pl ok.ll hz).nodup_iff.mpr hn
    refine dc_given (fun i => (R.getD i row0).e.isPu) (fun i => .inr (R.getD i row0).e.it) (fun i => .ref (R.getD i row0).b) (fun i => [some (.ref d), some (.ref (R.getD i row0).b), some (.ref (R.getD i row0).c)]) (sq_of h1) (by rw [List.length_map]; omega) (fun i x hx => ?_) (fun i x hx => ?_) (fun i x hx hf => ?_) (fun i x hx hf => ?_) (fun i j hji hi hfi hfj => ?_) (fun Dl H2 n2 e2 h2 => ?_)
    · obtain ⟨a, r, rfl, hr, ha, hb, hc⟩ := row_at hR hx
      rw [getD_at hr]
      exact ⟨rfl, fun H2 e2 Q' q' => ⟨a, _, rfl, st_of (e2 _ _ ha), rfl, _, _, rfl, _, _, rfl, rfl, q' H2 (Ex.refl H2)⟩⟩
    · obtain ⟨a, r, rfl, hr, ha, hb, hc⟩ := row_at hR hx
      rw [getD_at hr]
      exact et_is (et_test (ev_op (ev_op (ev_var rfl) ev_c (rv_ixT (st_of hc) r.e.at0)) ev_c (rv_eq rfl))) r.e.isPu_eq
    · obtain ⟨a, r, rfl, hr, ha, hb, hc⟩ := row_at hR hx
      rw [getD_at hr] at hf ⊢
      exact ev_op (ev_var rfl) ev_c (rv_ixT (st_of hc) (r.e.at1 hf))
    · obtain ⟨a, r, rfl, hr, ha, hb, hc⟩ := row_at hR hx
      rw [getD_at hr]
      exact ev_var rfl
    · rw [List.length_map, hR.length] at hi
      have g1 := List.getElem?_eq_getElem hi
      have g2 := List.getElem?_eq_getElem (show j < R.length by omega)
      rw [getD_at g1] at hfi ⊢
      rw [getD_at g2] at hfj ⊢
      exact fun e => nd_apart (g := fun r : RowA => r.e.it) ndp hji g1 g2 hfi hfj (Sum.inr.inj e)
    · rw [List.length_map, hR.length] at h2
      have := dgiven_list R row0 (fun r => r.e.isPu) (fun r => .inr r.e.it) (fun r => .ref r.b)
      rw [this] at h2
      exact q Dl as R zs H2 (fresh_back e1 n2) (e1.trans e2) h2 (paired_imp (fun a r h => RowAt.tk h (tk_ex e2)) hR) hz hso hRt
end
end Vx

set_option Elab.async false
set_option linter.all false
set_option maxRecDepth 100000
set_option maxHeartbeats 4000000
namespace Vx
open PySem PySem.Spec PyProof.Rows L2 Evl
theorem x_ni {X : Cx} {K : PySem.W.Frag} (hK : X.K = K) : OpR X (compareOp .NotIn) (rIn K true) := by
  subst hK
  exact op_notIn_seq
theorem ev_dni {σ : L2.St} {H : Hp} {td ty : TE} {d : Addr} {kvs : List (Key × V)} {x : Str} {r : Option V} (h1 : Ev ty σ H (.str x)) (h2 : Ev td σ H (.ref d)) (hd : H d = some (.dK kvs)) (hv : valV kvs (.inr x) = r) : Ev (tDNotIn ty td) σ H (.bl (!r.isSome)) := fun H1 e Q q =>
  h1 H1 e _ fun H2 e2 => h2 H2 (e.trans e2) _ fun H3 e3 => ⟨d, r, rfl, by
    have := DGet.k (k := .inr x) (e3 _ _ (e2 _ _ (e _ _ hd)))
    rw [hv] at this
    exact this, q H3 (e2.trans e3)⟩
theorem s_unpack {K : PySem.W.Frag} {D : Ends} {σ : L2.St} {H : Hp} {te : TE} {a : Addr} {x y : V} {i j : Nat} (h : Ev te σ H (.ref a)) (ha : H a = some (.tup [x, y])) (k : ∀ H1, Ex H H1 → D.nx ((σ.set i (some x)).set j (some y)) H1) :
    tAsg te (gTup K 2 (gCons (gName i) (gCons (gName j) gNil))) D σ H := h H (Ex.refl H) _ fun H1 e1 => ⟨a, _, rfl, st_of (e1 _ _ ha), rfl, _, _, rfl, _, _, rfl, rfl, k H1 e1⟩
theorem En.isRe_not (e : En) : (!inV (V.str e.hd) [.str "pop", .str "steal"]) = !e.isRe := by rw [e.isRe_eq]
/-- what the removal e of the log w at i asks of the place of its item -/
def Fits (e : En) (w : Str) (i : Nat) (w' : Str) (i' : Nat) : Prop := match e with
  | .pop _ => w' = w ∧ i' < i
  | .steal o _ => w' = o ∧ o ≠ w
  | _ => True
def spFits : Sp := fun vs H Q _ => ∃ (pd b c : Addr) (kvs : List (Key × V)) (x : Str) (i : Nat) (e : En), vs = [.ref pd, .ref b, .ref c] ∧ H pd = some (.dK kvs) ∧ H b = some (.tup [.str x, .int (i : Int)]) ∧ H c = some (.tup e.vs) ∧
  (e.isRe = true → ∃ (b' : Addr) (x' : Str) (i' : Nat), valV kvs (.inr e.it) = some (.ref b') ∧ H b' = some (.tup [.str x', .int (i' : Int)]) ∧ Fits e x i x' i') ∧ Yes H Q
section
variable {P : Program} {w : World} {K : PySem.W.Frag} {mg : Str → Option Value} {base : Heap}
theorem sc_removal_fits : FnScope ["places", "place", "entry", "owner", "index"] ["places", "place", "entry"] (defScope s_removal_fits) := ⟨rfl, rfl, rfl, by decide +kernel, rfl, by decide +kernel, by decide +kernel⟩
theorem ok_removal_fits (D : Def K mg "removal_fits" s_removal_fits ["places", "place", "entry"]) (T : Bl mg) : Good P w K mg base 1 "removal_fits" ["places", "place", "entry"] (spFits) := by
  refine D.good sc_removal_fits (fun vs H Q E h => ?_) (fun f cdv A outer s H vs Q E hr h => ?_)
  · obtain ⟨pd, b, c, kvs, x, i, e, rfl, _⟩ := h
    rfl
  · obtain ⟨pd, b, c, kvs, x, i, e, rfl, hd, hb, hc, hf, q⟩ := h
    have hu := hu_of hr
    refine ⟨_, (pss_cons (ps_if (pt_cmpR (x_ni (K := K) rfl) (x_ixt (K := K) (pv 2) pe_int) (pe_tup (pa_cons pe_str (pa_cons pe_str pa_nil))) (by rfl)) (pss_one (ps_ret pe_bl)) pss_nil)
      (pss_cons (ps_if (pt_cmp (pc_dnotin hu (x_ixt (K := K) (pv 2) (pe_un un_neg pe_int)) (pv 0))) (pss_one (ps_ret pe_bl)) pss_nil)
      (pss_cons (ps_asg (pe_dget hu (pv 0) (x_ixt (K := K) (pv 2) (pe_un un_neg pe_int)) (fun _ _ => rfl)) (x_gt (K := K) (pgs_cons (pg_name (i := 3) sc_removal_fits.nd rfl (Or.inl rfl)) (pgs_cons (pg_name (i := 4) sc_removal_fits.nd rfl (Or.inl rfl)) pgs_nil))))
      (pss_cons (ps_if (pt_cmpR op_eq (x_ixt (K := K) (pv 2) pe_int) pe_str (nomark _)) (pss_one (ps_ret (pe_and (pe_cmpR op_eq (pv 3) (x_ixt (K := K) (pv 1) pe_int) (nomark _)) (pe_one (pe_cmpR op_lt (pv 4) (x_ixt (K := K) (pv 1) pe_int) (nomark _)))))) pss_nil)
      (pss_one (ps_ret (pe_and (pe_cmpR op_eq (pv 3) (x_ixt (K := K) (pv 2) pe_int) (nomark _)) (pe_one (pe_cmpR op_ne (pv 3) (x_ixt (K := K) (pv 1) pe_int) (nomark _)))))))))), ?_⟩
    refine s_if (b := !e.isRe) (et_is (et_test (ev_niU (ev_op (ev_var rfl) ev_c (rv_ixT (st_of hc) e.at0)) (eu_tup (ea_cons ev_c (ea_cons ev_c ea_nil)) (by show 2 ≤ 100000; decide)) rfl rfl)) e.isRe_not) (fun _ H1 e1 => ?_) (fun hn H1 e1 => ?_)
    · exact s_ret ev_c fun H2 e2 => q H2 (e1.trans e2)
    have hre : e.isRe = true := by
      cases h : e.isRe with
      | true => rfl
      | false => rw [h] at hn; cases hn
    obtain ⟨b', x', i', hv, hb', hfit⟩ := hf hre
    have last : ∀ {σ : L2.St} {H2 : Hp}, Ex H H2 → σ[2]? = some (some (.ref c)) → Ev (tOp (rIxT K) (tVar 2) (tUn (rU fun i => .int (-i)) (tC (.int 1)))) σ H2 (.str e.it) := fun e2 h => ev_op (ev_var h) (ev_un ev_c ru_neg) (rv_ixT (st_of (e2 _ _ hc)) (e.atL hre))
    refine s_if (b := false) (et_B (ev_is (ev_dni (last e1 rfl) (ev_var rfl) (e1 _ _ hd) hv) rfl)) (fun z => nomatch z) (fun _ H2 e2 => ?_)
    have E2 := e1.trans e2
    refine s_unpack (ev_dget (ev_var rfl) (last E2 rfl) (E2 _ _ hd) hv) (E2 _ _ hb') fun H3 e3 => ?_
    have E3 := E2.trans e3
    refine s_if (b := e.isPo) (et_is (et_test (ev_op (ev_op (ev_var rfl) ev_c (rv_ixT (st_of (E3 _ _ hc)) e.at0)) ev_c (rv_eq rfl))) e.isPo_eq) (fun hp H4 e4 => ?_) (fun hp H4 e4 => ?_)
    · have E4 := E3.trans e4
      cases e with
      | pop y =>
        obtain ⟨f1, f2⟩ : x' = x ∧ i' < i := hfit
        subst f1
        exact s_ret (ev_andV (a := true) (b := true) (ev_is (ev_op (ev_var rfl) (ev_op (ev_var rfl) ev_c (rv_ixT (st_of (E4 _ _ hb)) rfl)) (rv_eq rfl)) (by simp)) (fun _ => ev_is (ev_op (ev_var rfl) (ev_op (ev_var rfl) ev_c (rv_ixT (st_of (E4 _ _ hb)) rfl)) rv_I0) (by simp; omega))) fun H5 e5 => q H5 (E4.trans e5)
      | push y => cases hp
      | size k => cases hp
      | steal o y => cases hp
    · have E4 := E3.trans e4
      cases e with
      | steal o y =>
        obtain ⟨f1, f2⟩ : x' = o ∧ o ≠ x := hfit
        subst f1
        exact s_ret (ev_andV (a := true) (b := true) (ev_is (ev_op (ev_var rfl) (ev_op (ev_var rfl) ev_c (rv_ixT (st_of (E4 _ _ hc)) rfl)) (rv_eq rfl)) (by simp)) (fun _ => ev_is (ev_op (ev_var rfl) (ev_op (ev_var rfl) ev_c (rv_ixT (st_of (E4 _ _ hb)) rfl)) (rv_ne rfl)) (by simp [f2]))) fun H5 e5 => q H5 (E4.trans e5)
      | push y => cases hre
      | size k => cases hre
      | pop y => cases hp
end
end Vx

set_option Elab.async false
set_option linter.all false
set_option maxRecDepth 100000
set_option maxHeartbeats 4000000
namespace Vx
open PySem PySem.Spec PyProof.Rows L2
/-! set(xs), xs a list of distinct keys of any kind -/
section
variable {prog : Program} {w : World} {A : Around} {R : Result → Shared → Prop} {I : Addr} {fp wr : List Addr} {G : Array GenState → Array GenState → Prop} {n : Nat} {P : Nat → Value → Prop} {St : Nat → Shared → Prop}
variable {K : Type} [DecidableEq K] [BEq K] [LawfulBEq K] {knd : KeyKind prog w K}
/-- the keys so far -/
def Sofar (key : Nat → K) (c : Nat) (x : K) : Bool := (List.range c).any fun j => decide (key j = x)
theorem sofar_no {key : Nat → K} {c : Nat} (h : ∀ j, j < c → key j ≠ key c) : Sofar key c (key c) = false := by
  unfold Sofar
  rw [List.any_eq_false]
  intro j hj
  simp [h j (List.mem_range.mp hj)]
theorem sofar_succ (key : Nat → K) (c : Nat) (x : K) : Sofar key (c + 1) x = (Sofar key c x || decide (x = key c)) := by
  unfold Sofar
  rw [List.range_succ, List.any_append]
  congr 1
  simp [eq_comm]
/-- one key more: the turns of the walk W from c on -/
theorem set_turns (W : WalksS prog w A.in1 I fp wr G n P St) {T : Addr} (hT : T ∉ fp) {key : Nat → K} (hkey : ∀ c v, P c v → knd.is (key c) v = true ∧ v.scannable = true)
    (apart : ∀ j c, j < c → c < n → key j ≠ key c) (room : n + 1 < scanBound) : ∀ (left c : Nat) (s : Shared), c + left = n → St c s → s.heap.SetOf knd T (Sofar key c) c →
      (∀ s2, Moved (T :: wr) G s s2 → s2.heap.SetOf knd T (Sofar key n) n → R (.ok (.ret .none)) s2) → codeAny (model prog w) A (.builtin "set.update.loop" ⟨[.ref T, .ref I], []⟩) R s := by
  have nT : T ∉ wr := fun z => hT (W.sub _ z)
  have up : ∀ {s1 s2 : Shared}, Moved wr G s1 s2 → Moved (T :: wr) G s1 s2 := fun m => m.mono fun b hb => List.mem_cons_of_mem _ hb
  have keep : ∀ {s1 s2 : Shared} {S : K → Bool} {c : Nat}, Moved wr G s1 s2 → s1.heap.SetOf knd T S c → s2.heap.SetOf knd T S c := fun m so => by
    obtain ⟨ob, es, ep, tb, at_, more⟩ := so
    exact ⟨ob, es, ep, tb, m.heap T _ nT at_, more⟩
  intro left
  induction left with
  | zero =>
    intro c s hc st so out
    obtain rfl : c = n := by omega
    refine codeAny_builtin PyProof.Rows.F.entry_set_update_loop ?_; rw [Around.under_plainId PyProof.Rows.F.plain_set_update_loop _]
    refine wpAny_bind (m := pyNext (.ref I)) (W.done s _ _ st fun s2 m => ?_)
    exact wpAny_pure (out s2 (up m) (keep m so))
  | succ left ih =>
    intro c s hc st so out
    have hlt : c < n := by omega
    refine codeAny_builtin PyProof.Rows.F.entry_set_update_loop ?_; rw [Around.under_plainId PyProof.Rows.F.plain_set_update_loop _]
    refine wpAny_bind (m := pyNext (.ref I)) (W.item c s _ _ hlt st fun v s2 pv st2 m => ?_)
    obtain ⟨isv, scv⟩ := hkey c v pv
    refine wpAny_bind (m := holding [v] (setAdd T v)) (wpAny_holding ?_)
    have so2 := keep m so
    unfold setAdd; refine wpAny_holding (wpAny_bind (knd.pyHash isv ?_))
    refine wpAny_setAddHashed_of (s := { s2 with toks := s2.toks + 1 }) isv scv so2 (by omega) fun h3 only so3 => ?_
    rw [if_neg (by rw [sofar_no fun j hj => apart j c hj hlt]; exact Bool.false_ne_true)] at so3
    have so4 : h3.SetOf knd T (Sofar key (c + 1)) (c + 1) := SetOf_congr so3 (fun x => (sofar_succ key c x).symm) rfl
    have other : ∀ b ∈ fp, b ≠ T := fun b hb z => hT (z ▸ hb)
    refine wpAny_pure ⟨plainId_quiet PyProof.Rows.F.plain_set_update_loop _, ih (c + 1) _ (by omega) (W.frame _ s2 _ _ st2 (Nat.le_succ _) fun b hb o e => (only.2 b (other b hb)).trans e) so4 fun s5 m5 so5 => ?_⟩
    exact out s5 (Moved.trans W.gtrans ((up m).then_heap (Nat.le_succ _) fun b o hb e => (only.2 b fun z => hb (z ▸ List.mem_cons_self)).trans e) m5) so5
end
end Vx
namespace Vx
open PySem PySem.Spec PyProof.Rows L2
section
variable {prog : Program} {w : World} {A : Around} {E : Value → Shared → Prop} {s : Shared}
variable {K : Type} [DecidableEq K] [BEq K] [LawfulBEq K] {knd : KeyKind prog w K}
def set0 (led : Bool) : Obj := { cls := .type "set", dict := none, data := .set #[] 0 (.fresh 0 0 led) }
theorem set_of_list {l : Addr} {its : Array Value} {key : Nat → K} {Q : Value → Shared → Prop} (quiet : A.handled = none) (hl : s.heap.IsList l its) (hkey : ∀ c v, its[c]? = some v → knd.is (key c) v = true ∧ v.scannable = true)
    (apart : ∀ j c, j < c → c < its.size → key j ≠ key c) (room : its.size + 1 < scanBound)
    (out : ∀ (h2 : Heap) (tk : Nat), h2.SetOf knd s.heap.objs.size (Sofar key its.size) its.size → (∀ b o, b < s.heap.objs.size → s.heap.get? b = some o → h2.get? b = some o) → Q (.ref s.heap.objs.size) { s with heap := h2, toks := tk }) :
    wpAny (model prog w) A (call (.type "set") [.ref l]) Q E s := by
  obtain ⟨cc, rest, mro⟩ := PySem.F.called_set.mro
  have a1 := PySem.F.called_set.made; have a2 := PySem.F.called_set.sub; have a3 := PySem.F.called_set.notType; have a4 := PySem.F.called_set.canCreate
  have a5 := PySem.F.typeCall_set_1 (.ref l)
  refine wpAny_call (codeAny_of_tree ?_); show wpAny _ _ (callAny (.type "set") _) _ _ _
  refine wpAny_pure ⟨Code.quiet_builtin _ (by decide +kernel), codeAny_builtin PySem.F.entry_type_call ?_⟩
  rw [Around.under_plain (weight_type_call_type "set" [.ref l] []) rfl]
  have h1 := a3; have h2 := a4; have hct := a5; have hmade := a1; have hsub := a2; have hmro := mro
  repeat (any_goals (first | assumption | wp_step))
  refine codeAny_mono (code_set_new_1 (.ref l) (E := E) (Q₁ := fun v s1 => ∃ led, v = .ref s.heap.objs.size ∧ s1 = { s with heap := s.heap.push (set0 led) }) fun led => ⟨led, rfl, rfl⟩) fun r s1 hr => ?_
  rcases r with e | fl
  · exact hr
  cases fl with
  | ret v =>
    obtain ⟨led, rfl, rfl⟩ := hr
    have at0 : (s.heap.push (set0 led)).get? s.heap.objs.size = some (set0 led) := Heap.get?_push_size _ rfl
    have hT : Shared.TypeIs { s with heap := s.heap.push (set0 led) } (.ref s.heap.objs.size) "set" := ⟨_, at0, rfl⟩
    have hli := PySem.F.called_set.init.lookup; have hbi := PySem.F.called_set.init.bind (.ref s.heap.objs.size)
    repeat (any_goals (first | assumption | wp_step))
    refine codeAny_mono (codeAny_call_builtin (R := wants (fun r s2 => r = .none ∧ ∃ h2 tk, s2 = { s with heap := h2, toks := tk } ∧ h2.SetOf knd s.heap.objs.size (Sofar key its.size) its.size ∧ ∀ b o, b < s.heap.objs.size → s.heap.get? b = some o → h2.get? b = some o) E)
      PySem.F.called_set.init.plain PySem.F.entry_set_init (check_set_init_1 hT ?_)) fun r2 s2 hr2 => ?_
    · obtain ⟨⟨_, od, _, osl⟩, at1, rfl, nl, rfl⟩ := hl
      have inl : (s.heap.push (set0 led)).IsList l its := ⟨_, Heap.get?_push_of_some _ at1, rfl, nl, rfl⟩
      have hol' : (s.heap.push (set0 led)).get? l = some { cls := .type "list", dict := od, data := .seq its nl, slots := osl } := Heap.get?_push_of_some _ at1
      have b1 := PySem.F.sub_list_set; have b2 := PySem.F.sub_list_frozenset
      have b3 : (Value.type "list" == Value.type "dict") = false := by decide
      unfold Builtin.«set.__init__» noKeywords Builtin.Frozenset.updateFrom
      generalize hit : pyIter = it0
      wp_walk
      subst hit
      refine wpAny_pyIter_list inl (wpAny_bind (wpAny_runValue ?_))
      have below : l < s.heap.objs.size := Heap.lt_size at1
      have sz : (s.heap.push (set0 led)).objs.size = s.heap.objs.size + 1 := Heap.size_push ..
      refine set_turns (knd := knd) (key := key) (n := its.size) ((Walks.list (by simp [quiet]) _ l (by rw [sz]; exact Nat.ne_of_lt (Nat.lt_succ_of_lt below)) its).toS) (by
        rw [sz]
        intro z
        rcases List.mem_cons.mp z with z | z
        · exact Nat.ne_of_lt (Nat.lt_succ_self _) z
        · exact Nat.ne_of_gt below (List.mem_singleton.mp z)) hkey apart room its.size 0 _ (by omega) ⟨⟨_, Heap.get?_push_size _ rfl, rfl, rfl⟩, inl.push _⟩ ?_ fun s5 m so => ?_
      · exact SetOf_congr ((setObjOf_fresh (knd := knd) led).setOf (Heap.get?_push_of_some _ at0) (by unfold scanBound; omega)) (fun _ => rfl) rfl
      · obtain ⟨h5, g5, d5, t5, o5⟩ := s5
        obtain rfl : g5 = s.gens := m.gens
        obtain rfl : d5 = s.drawn := m.drawn
        obtain rfl : o5 = s.os := m.os
        refine wpAny_pure (wpAny_pure ⟨rfl, h5, t5, rfl, so, fun b o hb e => m.heap b o ?_ (Heap.get?_push_of_some _ (Heap.get?_push_of_some _ e))⟩)
        rw [sz]
        intro z
        rcases List.mem_cons.mp z with z | z
        · exact Nat.ne_of_lt hb z
        · exact Nat.ne_of_lt (Nat.lt_succ_of_lt hb) (List.mem_singleton.mp z)
    · rcases r2 with e | f2
      · exact hr2
      cases f2 with
      | ret v =>
        obtain ⟨rfl, h5, t5, rfl, so, kp⟩ := hr2
        repeat (any_goals (first | assumption | wp_step))
        exact out _ _ so kp
      | _ => exact hr2.elim
  | _ => exact hr.elim
end
end Vx

set_option Elab.async false
set_option linter.all false
set_option maxRecDepth 100000
set_option maxHeartbeats 4000000
namespace Vx
open PySem PySem.Spec PyProof.Rows L2 Evl
/-- len(set(xs)), xs a list of distinct texts -/
def tLenTx (K : PySem.W.Frag) (ta : TE) : TE := fun σ H Q => ta σ H fun x H1 => ∃ (l : Addr) (xs : List Str), x = .ref l ∧ SqL K H1 l (xs.map V.str) ∧ xs.Nodup ∧ xs.length ≤ 4000 ∧ Q (.int (xs.length : Int)) H1
theorem pe_lenTx {X : Cx} {K : PySem.W.Frag} {a : Expr} {ta : TE} {p p2 pos pos2 : Pos} (hK : X.K = K) (calm : X.calm = true) (g1 : Gl X "len") (m1 : X.mg "len" = none) (g2 : Gl X "set") (m2 : X.mg "set" = none) (ha : PE X a ta)
    (st : starEach [a] X.env = (false, eval a X.env) :: starEach [] X.env := by rfl) : PE X (.Call (.Name "len" p) [.Call (.Name "set" p2) [a] [] pos2] [] pos) (tLenTx K ta) := by
  subst hK
  refine ⟨fun pins s σ H Q I hq => ?_⟩
  refine Call_ (ld_blt I g1 m1 PySem.boot_len (callWith_builtin1 (args_cons (Call_ (ld_blt I g2 m2 boot_set (callWith_type1 (args_cons (thn (ha.run pins s σ H _ I hq) fun v s1 ⟨x, H1, I1, r1, q1⟩ => args_nil ?_) st) st rfl))) rfl) rfl rfl))
  obtain ⟨l, xs, rfl, sq, nd, hz, q1⟩ := q1
  cases r1
  obtain ⟨its, r, pl, _⟩ := I1.list sq
  have sa := strsAre_of r
  have len : its.toArray.size = xs.length := by rw [List.size_toArray, ← r.length, List.length_map]
  have bound : its.toArray.size + 1 < scanBound := by rw [len]; unfold scanBound; omega
  refine set_of_list (knd := PySem.strKind X.prog X.w) (key := fun c => xs.getD c Str.empty) (I1.ok.hd calm) pl.isList (fun c v hv => ?_) (fun j c hj hc => ?_) bound fun h2 tk so kp => ?_
  · rw [← Array.getElem?_toList] at hv
    obtain ⟨t, rfl⟩ := SS.strs_at sa c v hv
    exact ⟨PySem.strKind_is _ _ _ _, rfl⟩
  · rw [len] at hc
    intro z
    have e1 := List.getElem?_eq_getElem hc
    have e2 := List.getElem?_eq_getElem (show j < xs.length by omega)
    rw [getD_at e1, getD_at e2] at z
    have := (List.getElem?_inj (show j < xs.length by omega) nd (j := c)).mp (by rw [e1, e2, z])
    omega
  · refine args_nil ?_
    obtain ⟨ob, es, ep, tb, at_, ex, dd, _, _, _, fits, num⟩ := so
    have I2 : Inv X pins σ H1 { s1 with heap := h2, toks := tk } := I1.kept fun b o e => kp b o (Heap.lt_size e) e
    exact call_len_set at_ ex dd fits (by rw [num, len]; omega) ⟨.int xs.length, H1, I2.tok _, ⟨_, by rw [num, len]⟩, q1⟩
end Vx

set_option Elab.async false
set_option linter.all false
set_option maxRecDepth 100000
set_option maxHeartbeats 8000000
namespace Vx
open PySem PySem.Spec PyProof.Rows L2 Evl
theorem mem_Rw {zs : List Lg} {x : Str} {i : Nat} {e : En} : (x, i, e) ∈ Rw zs ↔ ∃ z ∈ zs, z.1 = x ∧ z.2.2[i]? = some e := by
  unfold Rw
  rw [List.mem_flatMap]
  constructor
  · rintro ⟨z, hz, h⟩
    obtain ⟨j, hj⟩ := List.mem_iff_getElem?.mp h
    have hl : j < z.2.2.length := by rw [← rw1_len]; exact (List.getElem?_eq_some_iff.mp hj).1
    have := rw1_at (List.getElem?_eq_getElem hl)
    rw [this] at hj
    injection hj with hj
    injection hj with h1 h2
    injection h2 with h2 h3
    subst h1 h2 h3
    exact ⟨z, hz, rfl, List.getElem?_eq_getElem hl⟩
  · rintro ⟨z, hz, rfl, h⟩
    exact ⟨z, hz, List.mem_of_getElem? (rw1_at h)⟩
theorem valV_mem : ∀ {kvs : List (Key × V)} {k : Key} {v : V}, (kvs.map (·.1)).Nodup → (k, v) ∈ kvs → valV kvs k = some v
  | [], _, _, _, h => by cases h
  | p :: kvs, k, v, nd, h => by
    rw [List.map_cons, List.nodup_cons] at nd
    rcases List.mem_cons.mp h with rfl | h
    · exact valV_pos rfl
    · rw [valV_neg (fun e => nd.1 (by rw [e]; exact List.mem_map.mpr ⟨_, h, rfl⟩))]
      exact valV_mem nd.2 h
theorem lgs_mem {ws : List Str} {ps : List Addr} {L : List (List En)} {k : Nat} {x : Str} {p : Addr} {es : List En} (h1 : ws[k]? = some x) (h2 : ps[k]? = some p) (h3 : L[k]? = some es) : (x, p, es) ∈ lgs ws ps L := by
  refine List.mem_of_getElem? (i := k) ?_
  unfold lgs
  rw [List.getElem?_zip_eq_some]
  refine ⟨h1, ?_⟩
  rw [List.getElem?_zip_eq_some]
  exact ⟨h2, h3⟩
/-- the removals of valid logs fit the places of the pushes -/
theorem Vlog.fits {top : Nat} {ws : List Str} {ps : List Addr} {L : List (List En)} (v : Vlog top ws L) (pl : ps.length = ws.length) {zs zs2 : List Lg} (hz : zs.Perm (lgs ws ps L)) (hz2 : zs2.Perm (lgs ws ps L)) {R2 : List RowA} (h2 : R2.map RowA.tri = Rw zs2)
    {x : Str} {i : Nat} {e : En} (h : (x, i, e) ∈ Rw zs) (hre : e.isRe = true) : ∃ r2 ∈ R2, valV (Plc En.isPu R2) (.inr e.it) = some (.ref r2.b) ∧ Fits e x i r2.w r2.i := by
  have ndk : ((Plc En.isPu R2).map (·.1)).Nodup := by
    have : (Plc En.isPu R2).map (·.1) = ((R2.filter (·.e.isPu)).map (·.e.it)).map Sum.inr := by
      unfold Plc
      rw [List.map_map, List.map_map]
      rfl
    rw [this, rows_pus h2]
    have nd := (flat_lgs (f := pus) pl v.len hz2).nodup_iff.mpr v.pu
    unfold List.Nodup at nd ⊢
    rw [List.pairwise_map]
    exact nd.imp fun h e => h (Sum.inr.inj e)
  have got : ∀ {o y : Str} {j : Nat} {z2 : Lg}, z2 ∈ lgs ws ps L → z2.1 = o → z2.2.2[j]? = some (.push y) → ∃ r2 ∈ R2, valV (Plc En.isPu R2) (.inr y) = some (.ref r2.b) ∧ r2.w = o ∧ r2.i = j := fun {o y j z2} hm ho hj => by
    have h3 : (o, j, En.push y) ∈ R2.map RowA.tri := by
      rw [h2]
      exact mem_Rw.mpr ⟨z2, hz2.mem_iff.mpr hm, ho, hj⟩
    obtain ⟨r2, hr2, ht⟩ := List.mem_map.mp h3
    unfold RowA.tri at ht
    injection ht with t1 t2
    injection t2 with t2 t3
    refine ⟨r2, hr2, valV_mem ndk ?_, t1, t2⟩
    unfold Plc
    refine List.mem_map.mpr ⟨r2, List.mem_filter.mpr ⟨hr2, by simp [t3, En.isPu]⟩, ?_⟩
    rw [t3]
    rfl
  obtain ⟨z, hzm, rfl, hzi⟩ := mem_Rw.mp h
  have hzl := hz.mem_iff.mp hzm
  obtain ⟨k, k1, k2, k3⟩ := lgs_at hzl
  cases e with
  | push y => cases hre
  | size n => cases hre
  | pop y =>
    obtain ⟨j, hj, hp⟩ := v.own k _ i y k3 hzi
    obtain ⟨r2, m, g1, g2, g3⟩ := got hzl rfl hp
    exact ⟨r2, m, g1, g2, by omega⟩
  | steal o y =>
    obtain ⟨hne, k', es', c1, c2, c3⟩ := v.st k _ _ o y k3 k1 (List.mem_of_getElem? hzi)
    obtain ⟨j, hj⟩ := List.mem_iff_getElem?.mp c3
    have hk' : k' < ps.length := by rw [pl]; exact (List.getElem?_eq_some_iff.mp c1).1
    obtain ⟨r2, m, g1, g2, g3⟩ := got (lgs_mem c1 (List.getElem?_eq_getElem hk') c2) rfl hj
    exact ⟨r2, m, g1, g2, hne⟩
theorem given_all (n : Nat) : given n (fun _ => true) (fun _ => V.bl true) = (List.replicate n true).map V.bl := by
  unfold given
  rw [List.filter_eq_self.mpr (fun _ _ => rfl), List.map_const', List.length_range, List.map_replicate]
theorem et_yes {σ : L2.St} {H : Hp} : EvT tYes σ H true := fun H1 _ _ q => q H1 (Ex.refl H1)
theorem ev_lenTx {K : PySem.W.Frag} {σ : L2.St} {H : Hp} {te : TE} {l : Addr} {xs : List Str} (h : Ev te σ H (.ref l)) (hl : SqL K H l (xs.map V.str)) (nd : xs.Nodup) (hz : xs.length ≤ 4000) : Ev (tLenTx K te) σ H (.int (xs.length : Int)) := fun H1 e Q q =>
  h H1 e _ fun H2 e2 => ⟨l, xs, rfl, ex_l (e.trans e2) hl, nd, hz, q H2 e2⟩
def spFit : Sp := fun vs H Q _ => ∃ (d : Addr) (ws : List Str) (ps : List Addr) (L : List (List En)), vs = [.ref d] ∧ HLr H d ws ps L ∧ Vlog 60 ws L ∧ Yes H Q
section
variable {P : Program} {w : World} {K : PySem.W.Frag} {mg : Str → Option Value} {base : Heap}
theorem sc_items_fit : FnScope ["logs", "rows", "pushed", "removed", "places", "place", "entry"] ["logs"] (defScope s_items_fit) := ⟨rfl, rfl, rfl, by decide +kernel, rfl, by decide +kernel, by decide +kernel⟩
theorem ok_items_fit (D : Def K mg "items_fit" s_items_fit ["logs"]) (T : Bl mg) (G_all_entries : Good P w K mg base 1 "all_entries" ["logs"] (spRows K)) (G_push_places : Good P w K mg base 2 "push_places" ["logs"] (spPlc En.isPu pus)) (G_removal_fits : Good P w K mg base 1 "removal_fits" ["places", "place", "entry"] spFits) : Good P w K mg base 3 "items_fit" ["logs"] (spFit) := by
  refine D.good sc_items_fit (fun vs H Q E h => ?_) (fun f cdv A outer s H vs Q E hr h => ?_)
  · obtain ⟨d, ws, ps, L, rfl, _⟩ := h
    rfl
  · obtain ⟨d, ws, ps, L, rfl, hl, v, q⟩ := h
    have hu := hu_of hr
    refine ⟨_, (pss_cons (ps_set (i := 1) sc_items_fit.nd rfl (Or.inl rfl) (pe_fn (G_all_entries.mono (by decide)) hr (pa_cons (pv 0) pa_nil)))
      (pss_cons (ps_setLc (i := 2) (own := [("place", 5), ("entry", 6)]) (g := (gTup K 2 (gCons (gName 5) (gCons (gName 6) gNil))))  rfl sc_items_fit.nd rfl rfl (sw_true rfl rfl rfl (by decide +kernel)) (x_pil (K := K) (pv 1)) (blkOk_by (N := ["logs", "rows", "pushed", "removed", "places", "place", "entry"]) (sc := (defScope s_items_fit)) (by decide +kernel)) (fun _ _ _ _ _ => (x_gt (K := K) (pgs_cons (pg_name (i := 5) sc_items_fit.nd rfl (Or.inl rfl)) (pgs_cons (pg_name (i := 6) sc_items_fit.nd rfl (Or.inl rfl)) pgs_nil)))) (fun _ _ _ _ _ => (pts_one (pt_cmpR op_eq (x_ixt (K := K) (pv 6) pe_int) pe_str (nomark _)))) (fun _ _ _ _ _ => (x_ixt (K := K) (pv 6) pe_int)))
      (pss_cons (ps_setLc (i := 3) (own := [("place", 5), ("entry", 6)]) (g := (gTup K 2 (gCons (gName 5) (gCons (gName 6) gNil))))  rfl sc_items_fit.nd rfl rfl (sw_true rfl rfl rfl (by decide +kernel)) (x_pil (K := K) (pv 1)) (blkOk_by (N := ["logs", "rows", "pushed", "removed", "places", "place", "entry"]) (sc := (defScope s_items_fit)) (by decide +kernel)) (fun _ _ _ _ _ => (x_gt (K := K) (pgs_cons (pg_name (i := 5) sc_items_fit.nd rfl (Or.inl rfl)) (pgs_cons (pg_name (i := 6) sc_items_fit.nd rfl (Or.inl rfl)) pgs_nil)))) (fun _ _ _ _ _ => (pts_one (pt_cmpR (x_in (K := K) rfl) (x_ixt (K := K) (pv 6) pe_int) (pe_tup (pa_cons pe_str (pa_cons pe_str pa_nil))) (by rfl)))) (fun _ _ _ _ _ => (x_ixt (K := K) (pv 6) (pe_un un_neg pe_int))))
      (pss_cons (ps_if (pw_or (pt_cmpR op_lt (pe_lenTx (K := K) rfl rfl (by rfl) T.len (by rfl) T.set (pv 2)) (x_len (K := K) T (pv 2)) (nomark _)) (pw_or1 (pt_cmpR op_lt (pe_lenTx (K := K) rfl rfl (by rfl) T.len (by rfl) T.set (pv 3)) (x_len (K := K) T (pv 3)) (nomark _)))).pt pss_never pss_nil)
      (pss_cons (ps_set (i := 4) sc_items_fit.nd rfl (Or.inr rfl) (pe_fn (G_push_places.mono (by decide)) hr (pa_cons (pv 0) pa_nil)))
      (pss_one (ps_ret (x_all (K := K) T (pe_lc (own := [("place", 5), ("entry", 6)]) (g := (gTup K 2 (gCons (gName 5) (gCons (gName 6) gNil)))) (tt := tYes) rfl sc_items_fit.nd (x_pil (K := K) (pv 1)) (blkOk_by (N := ["logs", "rows", "pushed", "removed", "places", "place", "entry"]) (sc := (defScope s_items_fit)) (by decide +kernel)) (fun _ _ _ _ _ => (x_gt (K := K) (pgs_cons (pg_name (i := 5) sc_items_fit.nd rfl (Or.inl rfl)) (pgs_cons (pg_name (i := 6) sc_items_fit.nd rfl (Or.inl rfl)) pgs_nil)))) (fun _ _ _ _ _ => pts_nil) (fun _ _ _ _ _ => (pe_fn (G_removal_fits.mono (by decide)) hr (pa_cons (pv 4) (pa_cons (pv 5) (pa_cons (pv 6) pa_nil)))))))))))))), ?_⟩
    have ok := v.ok (Nat.le_refl _)
    refine ⟨_, rfl, d, ws, ps, L, rfl, hl, ok.nd, ok.wl, ok.ll, ok.el, fun p as R zs H1 n1 e1 h1 hR hz hso hRt hal => ?_⟩
    have tup : ∀ {H2 : Hp}, Ex H1 H2 → ∀ (i : Nat) (x : V), (as.map V.ref)[i]? = some x → ∃ (a : Addr) (r : RowA), x = .ref a ∧ R[i]? = some r ∧ RowAt H2 a r := fun e2 i x hx => by
      obtain ⟨a, r, rfl, hr, ha⟩ := row_at hR hx
      exact ⟨a, r, rfl, hr, ha.tk (tk_ex e2)⟩
    have kPu : given (as.map V.ref).length (fun i => (R.getD i row0).e.isPu) (fun i => V.str (R.getD i row0).e.it) = (zs.flatMap fun z => pus z.2.2).map V.str := by
      rw [List.length_map, hR.length, given_list R row0 (fun r => r.e.isPu) (fun r => V.str r.e.it), ← rows_pus hRt, List.map_map]
      rfl
    have kRe : given (as.map V.ref).length (fun i => (R.getD i row0).e.isRe) (fun i => V.str (R.getD i row0).e.it) = (zs.flatMap fun z => res z.2.2).map V.str := by
      rw [List.length_map, hR.length, given_list R row0 (fun r => r.e.isRe) (fun r => V.str r.e.it), ← rows_res hRt, List.map_map]
      rfl
    have ndPu := (flat_lgs (f := pus) hl.pl ok.ll hz).nodup_iff.mpr v.pu
    have ndRe := (flat_lgs (f := res) hl.pl ok.ll hz).nodup_iff.mpr v.re
    have lenR : R.length ≤ 360 := by rw [← hR.length]; exact hal
    have lPu : (zs.flatMap fun z => pus z.2.2).length ≤ 4000 := by
      rw [← rows_pus hRt, List.length_map]
      have := List.length_filter_le (fun r : RowA => r.e.isPu) R
      omega
    have lRe : (zs.flatMap fun z => res z.2.2).length ≤ 4000 := by
      rw [← rows_res hRt, List.length_map]
      have := List.length_filter_le (fun r : RowA => r.e.isRe) R
      omega
    have hasl : (as.map V.ref).length ≤ 40000 := by rw [List.length_map]; omega
    dsimp only [gName]
    refine q_asgL (xs := (zs.flatMap fun z => pus z.2.2).map V.str) ?_ fun pl H2 n2 e2 h2 => ?_
    · rw [← kPu]
      refine el_lcG _ _ (fun i => [some (.ref d), some (.ref p), none, none, none, some (.ref (R.getD i row0).b), some (.ref (R.getD i row0).c)]) (ev_var rfl) (sq_of h1) hasl (fun i x hx => ?_) (fun i x hx => ?_) (fun i x hx hf => ?_)
      · obtain ⟨a, r, rfl, hr, ha, hb, hc⟩ := tup (Ex.refl H1) i x hx
        rw [getD_at hr]
        exact ⟨rfl, fun H3 e3 Q' q' => ⟨a, _, rfl, st_of (e3 _ _ ha), rfl, _, _, rfl, _, _, rfl, rfl, q' H3 (Ex.refl H3)⟩⟩
      · obtain ⟨a, r, rfl, hr, ha, hb, hc⟩ := tup (Ex.refl H1) i x hx
        rw [getD_at hr]
        exact et_is (et_test (ev_op (ev_op (ev_var rfl) ev_c (rv_ixT (st_of hc) r.e.at0)) ev_c (rv_eq rfl))) r.e.isPu_eq
      · obtain ⟨a, r, rfl, hr, ha, hb, hc⟩ := tup (Ex.refl H1) i x hx
        rw [getD_at hr] at hf ⊢
        exact ev_op (ev_var rfl) ev_c (rv_ixT (st_of hc) (r.e.at1 hf))
    refine q_asgL (xs := (zs.flatMap fun z => res z.2.2).map V.str) ?_ fun rl H3 n3 e3 h3 => ?_
    · rw [← kRe]
      refine el_lcG _ _ (fun i => [some (.ref d), some (.ref p), some (.ref pl), none, none, some (.ref (R.getD i row0).b), some (.ref (R.getD i row0).c)]) (ev_var rfl) (sq_of (e2 _ _ h1)) hasl (fun i x hx => ?_) (fun i x hx => ?_) (fun i x hx hf => ?_)
      · obtain ⟨a, r, rfl, hr, ha, hb, hc⟩ := tup e2 i x hx
        rw [getD_at hr]
        exact ⟨rfl, fun H3 e3 Q' q' => ⟨a, _, rfl, st_of (e3 _ _ ha), rfl, _, _, rfl, _, _, rfl, rfl, q' H3 (Ex.refl H3)⟩⟩
      · obtain ⟨a, r, rfl, hr, ha, hb, hc⟩ := tup e2 i x hx
        rw [getD_at hr]
        exact et_is (et_test (ev_inU (ev_op (ev_var rfl) ev_c (rv_ixT (st_of hc) r.e.at0)) (eu_tup (ea_cons ev_c (ea_cons ev_c ea_nil)) (by show 2 ≤ 100000; decide)) rfl rfl)) r.e.isRe_eq
      · obtain ⟨a, r, rfl, hr, ha, hb, hc⟩ := tup e2 i x hx
        rw [getD_at hr] at hf ⊢
        exact ev_op (ev_var rfl) (ev_un ev_c ru_neg) (rv_ixT (st_of hc) (r.e.atL hf))
    have h23 := e3 _ _ h2
    refine q_if (b := false) (et_is (et_or (a := false) (b := false) (et_test (ev_is (ev_op (ev_lenTx (ev_var rfl) (sq_of h23) ndPu lPu) (ev_lenA (ev_var rfl) (Or.inl (sq_of h23))) rv_I0) (by rw [List.length_map]; simp)))
      (fun _ => et_test (ev_is (ev_op (ev_lenTx (ev_var rfl) (sq_of h3) ndRe lRe) (ev_lenA (ev_var rfl) (Or.inl (sq_of h3))) rv_I0) (by rw [List.length_map]; simp)))) rfl) (fun z => nomatch z) (fun _ H4 e4 => ?_)
    have E4 := (e2.trans e3).trans e4
    refine ⟨_, rfl, d, ws, ps, L, rfl, hl.ex (e1.trans E4), ok, v.pu, fun pd as2 R2 zs2 H5 n5 e5 h5 hR2 hz2 hso2 hRt2 => ?_⟩
    have E5 := E4.trans e5
    dsimp only [gName]
    refine s_ret (v := .bl true) (ev_is (ev_allN (bs := List.replicate (as.map V.ref).length true) ?_) (by rw [all_rep])) fun H6 e6 => q H6 ((e1.trans E5).trans e6)
    rw [← given_all]
    refine el_lcG _ _ (fun i => [some (.ref d), some (.ref p), some (.ref pl), some (.ref rl), some (.ref pd), some (.ref (R.getD i row0).b), some (.ref (R.getD i row0).c)]) (ev_var rfl) (sq_of (E5 _ _ h1)) hasl (fun i x hx => ?_) (fun i x hx => et_yes) (fun i x hx hf => ?_)
    · obtain ⟨a, r, rfl, hr, ha, hb, hc⟩ := tup E5 i x hx
      rw [getD_at hr]
      exact ⟨rfl, fun H3 e3 Q' q' => ⟨a, _, rfl, st_of (e3 _ _ ha), rfl, _, _, rfl, _, _, rfl, rfl, q' H3 (Ex.refl H3)⟩⟩
    · obtain ⟨a, r, rfl, hr, ha, hb, hc⟩ := tup E5 i x hx
      rw [getD_at hr]
      refine ev_call (ea_cons (ev_var rfl) (ea_cons (ev_var rfl) (ea_cons (ev_var rfl) ea_nil))) (Yes.spv fun H7 e7 Q7 y E => ⟨pd, r.b, r.c, Plc En.isPu R2, r.w, r.i, r.e, rfl, e7 _ _ h5, e7 _ _ hb, e7 _ _ hc, fun hre => ?_, y⟩)
      have hmem : (r.w, r.i, r.e) ∈ Rw zs := by
        rw [← hRt]
        exact List.mem_map.mpr ⟨r, List.mem_of_getElem? hr, rfl⟩
      obtain ⟨r2, m2, g1, g2⟩ := v.fits hl.pl hz hz2 hRt2 hmem hre
      obtain ⟨j, hj⟩ := List.mem_iff_getElem?.mp m2
      obtain ⟨a2, _, f1, f2, f3⟩ := paired_get hR2 hj
      exact ⟨r2.b, r2.w, r2.i, g1, e7 _ _ f2, g2⟩
end
end Vx

set_option Elab.async false
set_option linter.all false
set_option maxRecDepth 100000
set_option maxHeartbeats 8000000
namespace Vx
open PySem PySem.Spec PyProof.Rows L2 Evl
theorem tk_frz {d : Addr} {H : Hp} {kvs : List (Key × V)} {o : HO} (h : H d = some (.dK kvs)) : TK H (upd H d o) := fun a x z => by rw [upd_ne (fun e => by rw [e, h] at z; cases z)]; exact z
theorem TL.frz {d p : Addr} {H : Hp} {kvs : List (Key × V)} {o : HO} {ts : List (List V)} (t : TL H p ts) (h : H d = some (.dK kvs)) : TL (upd H d o) p ts := by
  obtain ⟨as, h1, _⟩ := id t
  exact t.keep (tk_frz h) (upd_ne fun e => by rw [e, h] at h1; cases h1)
/-- all([e for k, v in d.items()]) -/
theorem ev_allItems {K : PySem.W.Frag} {σ : L2.St} {H : Hp} {tl te : TE} {d : Addr} {kvs : List (Key × V)} {j1 j2 : Nat} {vs : List Nat} (hl : ∀ H', Ev tl σ H' (.ref d)) (hd : H d = some (.dK kvs)) (hz : kvs.length < 1000)
    (hw : ∀ x y, wipe (((wipe σ vs).set j1 (some x)).set j2 (some y)) vs = wipe σ vs) (hv : ∀ {H' : Hp}, H' d = H' d → tl (σ) H' = tl σ H')
    (he : ∀ H1, Ex H H1 → ∀ od (i : Nat) k v, kvs[i]? = some (k, v) → Ev te (((wipe σ vs).set j1 (some (kV k))).set j2 (some v)) (upd H1 d (.frz od (.dK kvs))) (.bl true)) :
    Ev (tCB (rAll K) (tCons (tLockE (tLc (iItems tl) (gTup K 2 (gCons (gName j1) (gCons (gName j2) gNil))) tYes te vs)) tNil)) σ H (.bl true) := fun H1 e1 Q q => by
  have hd1 := e1 _ _ hd
  refine ⟨d, .dK kvs, hd1, trivial, fun od => ?_⟩
  have nin : ∀ b o, H1 b = some o → b ≠ d → (upd H1 d (.frz od (.dK kvs))) b = some o := fun b o h n => by rw [upd_ne n]; exact h
  refine hl _ _ (Ex.refl _) _ fun H2 e2 => ⟨d, od, kvs, rfl, e2 _ _ upd_same, fun Dl hD => ?_⟩
  have hf2 : H2 d = some (.frz od (.dK kvs)) := e2 _ _ upd_same
  refine lc_P (B := upd H1 d (.frz od (.dK kvs))) (J := Iti d od kvs) (n := kvs.length) (fun _ v _ => v = .bl true) (by omega) e2 hD (fun i H3 hi e3 => ⟨e3 _ _ hf2, hi⟩) (fun H3 e3 => ⟨e3 _ _ hf2, Nat.le_refl _⟩) (fun i H3 x H4 hi e3 y => ?_) (fun xs H3 e3 h3 kn => ?_)
  · obtain ⟨T, k, v, hkv, rfl, hT, rfl⟩ := y
    exact ⟨_, Ex.new hT, hw _ _, fun Q2 q2 => ⟨T, _, rfl, st_of upd_same, rfl, _, _, rfl, _, _, rfl, rfl, q2 _ (Ex.refl _)⟩, evp_of (he H1 e1 od i k v hkv) fun _ _ => rfl⟩
  · have hx := kn.kn.now e2 e3
    have hf3 := e3 _ _ hf2
    have nD : Dl ≠ d := fun z => by rw [z, hf2] at hD; cases hD
    have : xs = (List.replicate kvs.length true).map V.bl := by
      refine List.ext_getElem? fun i => ?_
      by_cases hi : i < kvs.length
      · have hi2 : i < xs.length := by rw [hx.1]; exact hi
        rw [List.getElem?_map, List.getElem?_replicate, if_pos hi, List.getElem?_eq_getElem hi2, hx.2 i _ (List.getElem?_eq_getElem hi2)]
        rfl
      · rw [List.getElem?_eq_none (by rw [hx.1]; omega), List.getElem?_eq_none (by rw [List.length_map, List.length_replicate]; omega)]
    refine ⟨hf3, Dl, List.replicate kvs.length true, rfl, sq_of ?_, ?_⟩
    · rw [upd_ne nD, ← this]
      exact h3
    · rw [all_rep]
      refine q _ fun b o h => ?_
      by_cases z : b = d
      · rw [z, hd1] at h
        rw [z, upd_same]
        exact h
      · rw [upd_ne z]
        exact e3 _ _ (e2 _ _ (nin b o h z))
/-- the same over a dict that is locked: something else is locked here -/
theorem ev_allItemsZ {K : PySem.W.Frag} {σ : L2.St} {H : Hp} {tl te : TE} {d : Addr} {kvs : List (Key × V)} {j1 j2 : Nat} {vs : List Nat} (hl : ∀ H', Ev tl σ H' (.ref d)) {z : Addr} {zs : List V} {oz : Obj} (hd : H d = some (.frz oz (.dK kvs))) (hzz : H z = some (.lst zs)) (hz : kvs.length < 1000)
    (hw : ∀ x y, wipe (((wipe σ vs).set j1 (some x)).set j2 (some y)) vs = wipe σ vs) (hv : ∀ {H' : Hp}, H' d = H' d → tl (σ) H' = tl σ H')
    (he : ∀ H1, Ex H H1 → ∀ od (i : Nat) k v, kvs[i]? = some (k, v) → Ev te (((wipe σ vs).set j1 (some (kV k))).set j2 (some v)) (upd H1 z (.frz od (.lst zs))) (.bl true)) :
    Ev (tCB (rAll K) (tCons (tLockE (tLc (iItems tl) (gTup K 2 (gCons (gName j1) (gCons (gName j2) gNil))) tYes te vs)) tNil)) σ H (.bl true) := fun H1 e1 Q q => by
  have hd1 := e1 _ _ hd
  have hz1 := e1 _ _ hzz
  have ndz : d ≠ z := fun e => by rw [e, hz1] at hd1; cases hd1
  refine ⟨z, .lst zs, hz1, trivial, fun od => ?_⟩
  have nin : ∀ b o, H1 b = some o → b ≠ z → (upd H1 z (.frz od (.lst zs))) b = some o := fun b o h n => by rw [upd_ne n]; exact h
  refine hl _ _ (Ex.refl _) _ fun H2 e2 => ⟨d, oz, kvs, rfl, e2 _ _ (nin _ _ hd1 ndz), fun Dl hD => ?_⟩
  have hf2 : H2 d = some (.frz oz (.dK kvs)) := e2 _ _ (nin _ _ hd1 ndz)
  have hfz : H2 z = some (.frz od (.lst zs)) := e2 _ _ upd_same
  refine lc_P (B := upd H1 z (.frz od (.lst zs))) (J := Iti d oz kvs) (n := kvs.length) (fun _ v _ => v = .bl true) (by omega) e2 hD (fun i H3 hi e3 => ⟨e3 _ _ hf2, hi⟩) (fun H3 e3 => ⟨e3 _ _ hf2, Nat.le_refl _⟩) (fun i H3 x H4 hi e3 y => ?_) (fun xs H3 e3 h3 kn => ?_)
  · obtain ⟨T, k, v, hkv, rfl, hT, rfl⟩ := y
    exact ⟨_, Ex.new hT, hw _ _, fun Q2 q2 => ⟨T, _, rfl, st_of upd_same, rfl, _, _, rfl, _, _, rfl, rfl, q2 _ (Ex.refl _)⟩, evp_of (he H1 e1 od i k v hkv) fun _ _ => rfl⟩
  · have hx := kn.kn.now e2 e3
    have hf3 := e3 _ _ hfz
    have nD : Dl ≠ z := fun e => by rw [e, hfz] at hD; cases hD
    have : xs = (List.replicate kvs.length true).map V.bl := by
      refine List.ext_getElem? fun i => ?_
      by_cases hi : i < kvs.length
      · have hi2 : i < xs.length := by rw [hx.1]; exact hi
        rw [List.getElem?_map, List.getElem?_replicate, if_pos hi, List.getElem?_eq_getElem hi2, hx.2 i _ (List.getElem?_eq_getElem hi2)]
        rfl
      · rw [List.getElem?_eq_none (by rw [hx.1]; omega), List.getElem?_eq_none (by rw [List.length_map, List.length_replicate]; omega)]
    refine ⟨hf3, Dl, List.replicate kvs.length true, rfl, sq_of ?_, ?_⟩
    · rw [upd_ne nD, ← this]
      exact h3
    · rw [all_rep]
      refine q _ fun b o h => ?_
      by_cases c : b = z
      · rw [c, hz1] at h
        rw [c, upd_same]
        exact h
      · rw [upd_ne c]
        exact e3 _ _ (e2 _ _ (nin b o h c))
def spLogsOk : Sp := fun vs H Q _ => ∃ (d : Addr) (ws : List Str) (ps : List Addr) (L : List (List En)), vs = [.ref d] ∧ HLr H d ws ps L ∧ Vlog 60 ws L ∧ Yes H Q
def spCheck : Sp := fun vs H Q _ => ∃ (d : Addr) (ws : List Str) (ps : List Addr) (L : List (List En)), vs = [.ref d] ∧ HLr H d ws ps L ∧ Vlog 60 ws L ∧ ∀ H', Ex H H' → Q .non H'
theorem dk_at : ∀ {ws : List Str} {ps : List Addr} {i : Nat} {k : Key} {v : V}, (Dk ws ps)[i]? = some (k, v) → ∃ (x : Str) (p : Addr), ws[i]? = some x ∧ ps[i]? = some p ∧ k = .inr x ∧ v = .ref p := by
  intro ws ps i k v h
  unfold Dk at h
  rw [List.getElem?_map] at h
  obtain ⟨z, hz, e⟩ := Option.map_eq_some_iff.mp h
  rw [List.getElem?_zip_eq_some] at hz
  injection e with e1 e2
  exact ⟨z.1, z.2, hz.1, hz.2, e1.symm, e2.symm⟩
section
variable {P : Program} {w : World} {K : PySem.W.Frag} {mg : Str → Option Value} {base : Heap}
theorem sc_is_logs : FnScope ["thing", "worker", "log"] ["thing"] (defScope s_is_logs) := ⟨rfl, rfl, rfl, by decide +kernel, rfl, by decide +kernel, by decide +kernel⟩
theorem ok_is_logs (D : Def K mg "is_logs" s_is_logs ["thing"]) (T : Bl mg) (C : Cs mg) (G_is_name : Good P w K mg base 1 "is_name" ["thing"] spName) (G_is_log : Good P w K mg base 4 "is_log" ["thing"] spIsLog) (G_items_fit : Good P w K mg base 3 "items_fit" ["logs"] spFit) : Good P w K mg base 5 "is_logs" ["thing"] (spLogsOk) := by
  refine D.good sc_is_logs (fun vs H Q E h => ?_) (fun f cdv A outer s H vs Q E hr h => ?_)
  · obtain ⟨d, ws, ps, L, rfl, _⟩ := h
    rfl
  · obtain ⟨d, ws, ps, L, rfl, hl, v, q⟩ := h
    have hu := hu_of hr
    refine ⟨_, (pss_cons (ps_if (pw_or (pt_not (pt_val (x_isi (K := K) "dict" T (pv 0) T.dict))) (pw_or1 (pt_not (pt_chain op_le op_le pe_int (pe_callB call_lenR (by rfl) T.len PySem.boot_len (pa_cons (pv 0) pa_nil)) (x_gint C.MOST_WORKERS))))).pt pss_never pss_nil)
      (pss_cons (ps_if (pt_not (pt_val (x_all (K := K) T (pe_lock (pe_lc (own := [("worker", 1), ("log", 2)]) (g := (gTup K 2 (gCons (gName 1) (gCons (gName 2) gNil)))) (tt := tYes) rfl sc_is_logs.nd (pi_items (pv 0)) (blkOk_by (N := ["thing", "worker", "log"]) (sc := (defScope s_is_logs)) (by decide +kernel)) (fun _ _ _ _ _ => (x_gt (K := K) (pgs_cons (pg_name (i := 1) sc_is_logs.nd rfl (Or.inl rfl)) (pgs_cons (pg_name (i := 2) sc_is_logs.nd rfl (Or.inl rfl)) pgs_nil)))) (fun _ _ _ _ _ => pts_nil) (fun _ _ _ _ _ => (pe_and (pe_fn (G_is_name.mono (by decide)) hr (pa_cons (pv 1) pa_nil)) (pe_one (pe_fn (G_is_log.mono (by decide)) hr (pa_cons (pv 2) pa_nil)))))))))) pss_never pss_nil)
      (pss_one (ps_ret (pe_fn (G_items_fit.mono (by decide)) hr (pa_cons (pv 0) pa_nil)))))), ?_⟩
    have dl : (Dk ws ps).length = ws.length := dk_len hl.pl
    have lenD : ∀ {σ : L2.St} {H2 : Hp}, Ex H H2 → σ[0]? = some (some (.ref d)) → Ev (tCB (fun xs H Q => ∃ (a : Addr) (kvs : List (Key × V)), xs = [V.ref a] ∧ Rd H a (.dK kvs) ∧ Q (.int kvs.length) H) (tCons (tVar 0) tNil)) σ H2 (.int (ws.length : Int)) := fun e2 h0 H3 e3 Q3 q3 =>
      ⟨_, h0, d, _, rfl, ex_rd (e2.trans e3) hl.rd, by rw [dl]; exact q3 H3 (Ex.refl _)⟩
    refine s_if (b := false) (et_is (et_or (a := false) (b := false) (et_not (a := true) (et_B (ev_isI rfl (ty_dict (hl.rd)) rfl))) (fun _ => et_not (a := true) (et_test (ev_chain ev_c (lenD (Ex.refl H) rfl) ev_c (rv_b rv_I0 ?_) (rv_b rv_I0 ?_))))) rfl) (fun z => nomatch z) (fun _ H1 e1 => ?_)
    · have := v.wk.1
      simp
      omega
    · have := v.wk.2.1
      simp
      omega
    have hl1 := hl.ex e1
    have body : ∀ {H2 HF : Hp} {i : Nat} {k : Key} {u : V}, (Dk ws ps)[i]? = some (k, u) → (∀ p es, ps[i]? = some p → L[i]? = some es → TL HF p (es.map En.vs)) → Ev (tAndV (tCall spName [] E0 (tCons (tVar 1) tNil)) (tCall spIsLog [] E0 (tCons (tVar 2) tNil))) [some (.ref d), some (kV k), some u] HF (.bl true) := fun {H2 HF i k u} hk ht => by
      obtain ⟨x, p, g1, g2, rfl, rfl⟩ := dk_at hk
      have hiL : i < L.length := by rw [v.len]; exact (List.getElem?_eq_some_iff.mp g1).1
      have g3 := List.getElem?_eq_getElem hiL
      have tl := ht p _ g2 g3
      exact ev_andV (a := true) (b := true) (ev_call (ea_cons (ev_var rfl) ea_nil) (Yes.spv fun H3 e3 Q3 y E => ⟨x, rfl, v.wk.2.2.2 x (List.mem_of_getElem? g1), y⟩)) (fun _ => ev_call (ea_cons (ev_var rfl) ea_nil) (Yes.spv fun H3 e3 Q3 y E => ⟨p, L[i], rfl, tl.ex e3, v.ent _ (List.mem_of_getElem? g3), y⟩))
    have z1000 : (Dk ws ps).length < 1000 := by rw [dl]; have := v.wk.2.1; omega
    have all : Ev (tCB (rAll K) (tCons (tLockE (tLc (iItems (tVar 0)) (gTup K 2 (gCons (gName 1) (gCons (gName 2) gNil))) tYes (tAndV (tCall spName [] E0 (tCons (tVar 1) tNil)) (tCall spIsLog [] E0 (tCons (tVar 2) tNil))) [1, 2])) tNil)) [some (.ref d), none, none] H1 (.bl true) := by
      rcases hl1.dk with hd | ⟨⟨oz, hd⟩, z, zs, hz, nz⟩
      · exact ev_allItems (fun _ => ev_var rfl) hd z1000 (fun _ _ => rfl) (fun _ => rfl) (fun H2 e2 od i k u hk => body (H2 := H2) hk fun p es a b => ((hl1.ex e2).lg i p es a b).frz (e2 _ _ hd))
      · exact ev_allItemsZ (fun _ => ev_var rfl) hd hz z1000 (fun _ _ => rfl) (fun _ => rfl) (fun H2 e2 od i k u hk => body (H2 := H2) hk fun p es a b => ((hl1.ex e2).lg i p es a b).frzL (e2 _ _ hz) fun e => nz (by rw [← e]; exact List.mem_of_getElem? a))
    refine s_if (b := false) (et_not (a := true) (et_B all)) (fun z => nomatch z) (fun _ H2 e2 => ?_)
    exact s_ret (ev_call (ea_cons (ev_var rfl) ea_nil) (Yes.spv fun H3 e3 Q3 y E => ⟨d, ws, ps, L, rfl, (hl1.ex e2).ex e3, v, y⟩)) fun H3 e3 => q H3 ((e1.trans e2).trans e3)
end
end Vx

set_option Elab.async false
set_option linter.all false
set_option maxRecDepth 100000
set_option maxHeartbeats 8000000
namespace Vx
open PySem PySem.Spec PyProof.Rows L2 Evl
def lastScope (b : List Stmt) (outer : Scope) : Scope := match b.getLast? with
  | some (.Return (some (.DictComp _ _ _ sc _)) _) => { sc with names := sc.names.map fun (n, k) => if (k == NameKind.free && outer.kind == .function && outer.names.lookup n == some .cell) then (n, NameKind.cell) else (n, k) }
  | _ => outer
/-- the items of a log that no entry removes -/
def leftOf (L : List (List En)) (es : List En) : List Str := (pus es).filter fun x => decide (¬ x ∈ L.flatMap res)
def spLeft : Sp := fun vs H Q _ => ∃ (d : Addr) (ws : List Str) (ps : List Addr) (L : List (List En)), vs = [.ref d] ∧ HLr H d ws ps L ∧ Vlog 60 ws L ∧
  ∀ (f : Addr) (zs : List Lg) (qs : List Addr) H', H f = none → Ex H H' → zs.Perm (lgs ws ps L) → sortedS (zs.map (·.1)) = true → H' f = some (.dK (Dk (zs.map (·.1)) qs)) → qs.length = zs.length → qs.Nodup → (∀ r ∈ qs, H r = none) →
    (∀ (i : Nat) z r, zs[i]? = some z → qs[i]? = some r → H' r = some (.lst ((leftOf L z.2.2).map V.str))) → Q (.ref f) H'
theorem plc_has {p : En → Bool} {R : List RowA} {x : Str} : (valV (Plc p R) (.inr x)).isSome = decide (x ∈ (R.filter fun r => p r.e).map (·.e.it)) := by
  rw [← valV_any]
  have : (Plc p R).any (fun kv => decide (kv.1 = Sum.inr x)) = true ↔ x ∈ (R.filter fun r => p r.e).map (·.e.it) := by
    rw [List.any_eq_true]
    constructor
    · rintro ⟨kv, h1, h2⟩
      unfold Plc at h1
      obtain ⟨r, h3, rfl⟩ := List.mem_map.mp h1
      have h2 := Sum.inr.inj (of_decide_eq_true h2)
      exact List.mem_map.mpr ⟨r, h3, h2⟩
    · intro h
      obtain ⟨r, h3, h4⟩ := List.mem_map.mp h
      exact ⟨_, List.mem_map.mpr ⟨r, h3, rfl⟩, by simp [h4]⟩
  cases h : (Plc p R).any (fun kv => decide (kv.1 = Sum.inr x)) with
  | true => exact (decide_eq_true (this.mp h)).symm
  | false => exact (decide_eq_false (fun z => by rw [this.mpr z] at h; cases h)).symm
theorem dk_snoc {ws : List Str} {ps : List Addr} {x : Str} {p : Addr} (h : ps.length = ws.length) : Dk (ws ++ [x]) (ps ++ [p]) = Dk ws ps ++ [(.inr x, .ref p)] := by
  unfold Dk
  rw [List.zip_append h.symm, List.map_append]
  rfl
section
variable {P : Program} {w : World} {K : PySem.W.Frag} {mg : Str → Option Value} {base : Heap}
end
end Vx

set_option Elab.async false
set_option linter.all false
set_option maxRecDepth 100000
set_option maxHeartbeats 8000000
namespace Vx
open PySem PySem.Spec PyProof.Rows L2 Evl
/-- dict([(name, e) for name in names]), e a new list -/
theorem ev_rowsC {K : PySem.W.Frag} {σ : L2.St} {H : Hp} {tl te2 : TE} {j : Nat} {vs : List Nat} {Q : VK} (F : Addr → List Str → Hp → Prop) (C : Str → List V)
    (htl : ∀ R : VK, (∀ pw names H1, F pw names H1 → H1 pw = some (.lst (names.map V.str)) → names.Nodup → names.length ≤ 1000 → R (.ref pw) H1) → tl σ H R)
    (hj : ∀ x, ((wipe σ vs).set j (some x))[j]? = some (some x)) (hwp : ∀ x, wipe ((wipe σ vs).set j (some x)) vs = wipe σ vs)
    (he : ∀ pw names H1, F pw names H1 → ∀ (i : Nat) x, names[i]? = some x → EvL te2 ((wipe σ vs).set j (some (.str x))) H1 (C x))
    (q : ∀ pw names H1 d ps H2, F pw names H1 → H1 d = none → Ex H1 H2 → H2 d = some (.dK (Dk names ps)) → ps.length = names.length → ps.Nodup → (∀ (i : Nat) p x, ps[i]? = some p → names[i]? = some x → H1 p = none ∧ H2 p = some (.lst (C x))) → Q (.ref d) H2) :
    tCB (rDictP K) (tCons (tLc (iList K tl) (gName j) tYes (tTup (tCons (tVar j) (tCons te2 tNil))) vs) tNil) σ H Q := by
  refine htl _ fun pw names H1 hF hw1 nd hl => ⟨pw, rfl, ⟨_, sq_of hw1⟩, fun Dl hD => ?_⟩
  have nwD : pw ≠ Dl := ne_of_none hw1 hD
  refine lc_list (xs := names.map V.str) (fun i H' => Ex H1 H' ∧ ∃ as ps : List Addr, H' Dl = some (.lst (as.map V.ref)) ∧ as.length = i ∧ ps.length = i ∧ ps.Nodup ∧ (∀ (k : Nat) p x, ps[k]? = some p → names[k]? = some x → H1 p = none ∧ p ≠ Dl ∧ H' p = some (.lst (C x))) ∧ Paired (fun a (x : Key × V) => H' a = some (.tup [kV x.1, x.2])) as (Dk (names.take i) ps))
    ⟨Ex.new hD, [], [], upd_same, rfl, rfl, List.nodup_nil, fun _ _ _ z => (by simp at z), by simpa [Dk] using Paired.nil⟩ (fun i H' _ p => sq_of (p.1 _ _ hw1)) (fun i x H' hx p => ?_) (fun H' p => ?_)
  · obtain ⟨e2, as, ps, ha, hlen, n1, n2, n3, hp⟩ := p
    rw [List.getElem?_map] at hx
    obtain ⟨z, hz, rfl⟩ := Option.map_eq_some_iff.mp hx
    have hi : i < names.length := (List.getElem?_eq_some_iff.mp hz).1
    refine ⟨hwp _, ?_⟩
    refine ⟨_, hj _, he pw names H1 hF i z hz H' e2 _ fun p0 H3 hp0 e3 h3 => ⟨(by show 2 ≤ sizeLine; decide), fun t ht => ⟨as.map V.ref, ?_, ?_, ?_⟩⟩⟩
    all_goals have n0 : Dl ≠ p0 := ne_of_none ha hp0
    all_goals have n4 : Dl ≠ t := ne_of_none (e3 _ _ ha) ht
    · rw [upd_ne n4]
      exact e3 _ _ ha
    · rw [List.length_map]
      exact sz_lt (by omega)
    · have n5 : p0 ≠ t := ne_of_none h3 ht
      have tk : TK H' (upd (upd H3 t (.tup [.str z, .ref p0])) Dl (.lst (as.map V.ref ++ [.ref t]))) := ((tk_ex e3).trans (tk_new ht)).trans (tk_upd (by rw [upd_ne n4]; exact e3 _ _ ha))
      refine ⟨Ex.mut ((e2.trans e3).trans (Ex.new ht)) hD, as ++ [t], ps ++ [p0], by rw [upd_same, List.map_append]; rfl, by rw [List.length_append, hlen]; rfl, by rw [List.length_append, n1]; rfl, ?_, ?_, ?_⟩
      · refine List.nodup_append.mpr ⟨n2, by simp, fun a h1 b h2 e => ?_⟩
        have : b = p0 := by simpa using h2
        subst this e
        obtain ⟨k, hk⟩ := List.mem_iff_getElem?.mp h1
        have hk2 : k < names.length := by have := (List.getElem?_eq_some_iff.mp hk).1; omega
        have := (n3 k _ _ hk (List.getElem?_eq_getElem hk2)).2.2
        rw [hp0] at this
        cases this
      · intro k p x hk hx2
        by_cases hkl : k < ps.length
        · rw [List.getElem?_append_left hkl] at hk
          obtain ⟨g1, g2, g3⟩ := n3 k p x hk hx2
          have g4 := e3 _ _ g3
          refine ⟨g1, g2, ?_⟩
          rw [upd_ne g2, upd_ne (ne_of_none g4 ht)]
          exact g4
        · rw [List.getElem?_append_right (by omega)] at hk
          have hz0 : k - ps.length = 0 := by
            have := (List.getElem?_eq_some_iff.mp hk).1
            simp at this
            omega
          rw [hz0] at hk
          have hp2 : p0 = p := by simpa using hk
          subst hp2
          have hki : k = i := by omega
          subst hki
          rw [hz] at hx2
          cases hx2
          refine ⟨fresh_back e2 hp0, n0.symm, ?_⟩
          rw [upd_ne n0.symm, upd_ne n5]
          exact h3
      · have e5 : Dk (names.take (i + 1)) (ps ++ [p0]) = Dk (names.take i) ps ++ [(.inr z, .ref p0)] := by
          have : names.take (i + 1) = names.take i ++ [z] := by
            rw [List.take_add_one, hz]
            rfl
          rw [this, dk_snoc (by rw [List.length_take, n1]; omega)]
        rw [e5]
        refine Paired.snoc (paired_imp (fun a x z => tk _ _ z) hp) ?_
        rw [upd_ne n4.symm, upd_same]
        rfl
  · obtain ⟨e2, as, ps, ha, hlen, n1, n2, n3, hp⟩ := p
    rw [List.length_map] at n1
    rw [List.length_map, List.take_length] at hp
    refine ⟨Dl, as, Dk names ps, rfl, sq_of ha, paired_imp (fun a x z => st_of z) hp, fun d hd => ?_⟩
    rw [merge_dk n1 nd]
    refine q pw names H1 d ps _ hF (fresh_back e2 hd) (e2.trans (Ex.new hd)) upd_same n1 n2 fun k p x hk hx => ?_
    obtain ⟨g1, g2, g3⟩ := n3 k p x hk hx
    exact ⟨g1, by rw [upd_ne (ne_of_none g3 hd)]; exact g3⟩
theorem s_rowsC {K : PySem.W.Frag} {D : Ends} {σ : L2.St} {H : Hp} {tl te2 : TE} {j : Nat} {vs : List Nat} (F : Addr → List Str → Hp → Prop) (C : Str → List V)
    (htl : ∀ R : VK, (∀ pw names H1, F pw names H1 → H1 pw = some (.lst (names.map V.str)) → names.Nodup → names.length ≤ 1000 → R (.ref pw) H1) → tl σ H R)
    (hj : ∀ x, ((wipe σ vs).set j (some x))[j]? = some (some x)) (hwp : ∀ x, wipe ((wipe σ vs).set j (some x)) vs = wipe σ vs)
    (he : ∀ pw names H1, F pw names H1 → ∀ (i : Nat) x, names[i]? = some x → EvL te2 ((wipe σ vs).set j (some (.str x))) H1 (C x))
    (q : ∀ pw names H1 d ps H2, F pw names H1 → H1 d = none → Ex H1 H2 → H2 d = some (.dK (Dk names ps)) → ps.length = names.length → ps.Nodup → (∀ (i : Nat) p x, ps[i]? = some p → names[i]? = some x → H1 p = none ∧ H2 p = some (.lst (C x))) → D.rt (.ref d) H2) :
    tRet (tCB (rDictP K) (tCons (tLc (iList K tl) (gName j) tYes (tTup (tCons (tVar j) (tCons te2 tNil))) vs) tNil)) D σ H := ev_rowsC F C htl hj hwp he q
/-- what stands in the log of x -/
def cont (H : Hp) (ws : List Str) (ps : List Addr) (x : Str) : List V := match valV (Dk ws ps) (.inr x) with
  | some (.ref p) => (match H p with | some (.lst xs) => xs | _ => [])
  | _ => []
theorem zip_self {α β : Type} : ∀ T : List (α × β), (T.map (·.1)).zip (T.map (·.2)) = T
  | [] => rfl
  | t :: T => by
    rw [List.map_cons, List.map_cons, List.zip_cons_cons, zip_self T]
/-- logs the same, the names in another order -/
def Same (ws : List Str) (L : List (List En)) (ws2 : List Str) (L2 : List (List En)) : Prop := ws2.length = ws.length ∧ L2.length = ws2.length ∧ (ws2.zip L2).Perm (ws.zip L)
def spTurned (K : PySem.W.Frag) : Sp := fun vs H Q _ => ∃ (s d : Addr) (n : Nat) (ws : List Str) (ps : List Addr) (L : List (List En)), vs = [.ref s, .ref d] ∧ Src H s n ∧ n + 10 ≤ 1000000000 ∧ HL H d ws ps L ∧ (∀ p ∈ ps, p ≠ s) ∧ LgOk ws L ∧
  ∀ d2 ws2 ps2 L2 H', H d2 = none → KB s H H' → Src H' s (n + 10) → HL H' d2 ws2 ps2 L2 → (∀ p ∈ ps2, H p = none) → ps2.Nodup → Same ws L ws2 L2 → Q (.ref d2) H'
section
variable {P : Program} {w : World} {K : PySem.W.Frag} {mg : Str → Option Value} {base : Heap}
end
end Vx

set_option Elab.async false
set_option linter.all false
set_option maxRecDepth 100000
set_option maxHeartbeats 8000000
namespace Vx
open PySem PySem.Spec PyProof.Rows L2 Evl
theorem ev_dgetR {σ : L2.St} {H : Hp} {td ty : TE} {d : Addr} {kvs : List (Key × V)} {x : Str} {v : V} (h1 : Ev td σ H (.ref d)) (h2 : Ev ty σ H (.str x)) (hd : Rd H d (.dK kvs)) (hv : valV kvs (.inr x) = some v) : Ev (tDGet td ty) σ H v := fun H1 e Q q =>
  h1 H1 e _ fun H2 e2 => h2 H2 (e.trans e2) _ fun H3 e3 => ⟨d, v, rfl, .inl ⟨kvs, .inr x, ex_rd (e.trans (e2.trans e3)) hd, rfl, hv.symm⟩, q H3 (e2.trans e3)⟩
def spDue : Sp := fun vs H Q _ => ∃ (d : Addr) (ws : List Str) (ps : List Addr) (L : List (List En)), vs = [.ref d] ∧ HL H d ws ps L ∧ LgOk ws L ∧
  ∀ (f : Addr) (zs : List Lg) (qs : List Addr) H', H f = none → Ex H H' → zs.Perm (lgs ws ps L) → sortedS (zs.map (·.1)) = true → H' f = some (.dK (Dk (zs.map (·.1)) qs)) → qs.length = zs.length →
    (∀ (i : Nat) z r, zs[i]? = some z → qs[i]? = some r → H' r = some (.lst ((leftOf L z.2.2).map V.str))) → Q (.ref f) H'
theorem inV_strs (y : Str) (xs : List Str) : inV (V.str y) (xs.map V.str) = decide (y ∈ xs) := by
  unfold inV
  rw [List.any_map]
  by_cases h : y ∈ xs
  · rw [decide_eq_true h, List.any_eq_true]
    exact ⟨y, h, by show (y == y) = true; simp⟩
  · rw [decide_eq_false h, List.any_eq_false]
    intro z hz
    show ¬ (z == y) = true
    intro e
    have : z = y := by simpa using e
    exact h (this ▸ hz)
theorem flat_strs (xs : List Str) : (xs.map V.str).all flatV = true := by
  rw [List.all_map, List.all_eq_true]
  intro x _
  rfl
theorem En.atN {e : En} (h : e.isRe = true) : atI e.vs ((e.vs.length : Int) - 1) = some (.str e.it) := by cases e <;> first | rfl | cases h
theorem res_len (es : List En) : (res es).length ≤ es.length := by
  rw [res_eq, List.length_map]
  exact List.length_filter_le _ _
theorem tl_at {H : Hp} {p : Addr} {es : List En} {as : List Addr} (h2 : Paired (fun a t => H a = some (.tup t)) as (es.map En.vs)) {i : Nat} {x : V} (hx : (as.map V.ref)[i]? = some x) : ∃ (a : Addr) (e : En), x = .ref a ∧ es[i]? = some e ∧ H a = some (.tup e.vs) := by
  rw [List.getElem?_map] at hx
  obtain ⟨b, hb, rfl⟩ := Option.map_eq_some_iff.mp hx
  have hi : i < es.length := by
    have := (List.getElem?_eq_some_iff.mp hb).1
    rw [h2.length, List.length_map] at this
    exact this
  obtain ⟨c, hc, hd⟩ := paired_get h2 (i := i) (y := (es[i]).vs) (by rw [List.getElem?_map, List.getElem?_eq_getElem hi]; rfl)
  rw [hb] at hc
  cases hc
  exact ⟨b, es[i], rfl, List.getElem?_eq_getElem hi, hd⟩
theorem Rd_frz {H : Hp} {d : Addr} {od : Obj} {o : HO} (h : H d = some (.frz od o)) : Rd H d o := Or.inr ⟨od, h⟩
theorem Rd.of {H : Hp} {d : Addr} {o : HO} (h : H d = some o) : Rd H d o := Or.inl h
/-- the comprehensions of the law's own reading -/
theorem el_gone {K : PySem.W.Frag} {σ : L2.St} {H : Hp} {tl : TE} {p : Addr} {es : List En} {j : Nat} (h : Ev tl σ H (.ref p)) (hp : TL H p (es.map En.vs)) (hz : es.length ≤ 60) (hj : ∀ x, ((wipe σ [j]).set j (some x))[j]? = some (some x)) (hw : ∀ x, wipe ((wipe σ [j]).set j (some x)) [j] = wipe σ [j]) :
    EvL (tLc (iList K tl) (gName j) (tTest (tOp (rIn K false) (tOp (rIxT K) (tVar j) (tC (.int 0))) (tLst (tCons (tC (.str "pop")) (tCons (tC (.str "steal")) tNil))))) (tOp (rIxT K) (tVar j) (tOp (rI0 fun i j => .int (i - j)) (tCB (rLenS K) (tCons (tVar j) tNil)) (tC (.int 1)))) [j]) σ H ((res es).map V.str) := by
  obtain ⟨as, h1, h2⟩ := hp
  have asl : as.length = es.length := by rw [h2.length, List.length_map]
  have key : given (as.map V.ref).length (fun i => (es.getD i (.size 0)).isRe) (fun i => V.str (es.getD i (.size 0)).it) = (res es).map V.str := by
    rw [List.length_map, asl, given_list es (.size 0) En.isRe (fun e => V.str e.it), res_eq, List.map_map]
    rfl
  rw [← key]
  refine el_lcL _ _ h (sq_of h1) (by rw [List.length_map]; omega) hw (fun i x H1 e1 hx => ?_) (fun i x H1 e1 hx hf => ?_)
  · obtain ⟨b, e, rfl, he, hb⟩ := tl_at (p := p) h2 hx
    rw [getD_at he]
    exact et_is (et_test (ev_opL (ev_op (ev_var (hj _)) ev_c (rv_ixT (st_of (e1 _ _ hb)) e.at0)) (el_lst (ea_cons ev_c (ea_cons ev_c ea_nil)) (by show 2 ≤ 100000; decide)) fun p H3 h3 _ => rv_isL (sq_of h3) rfl rfl)) e.isRe_eq
  · obtain ⟨b, e, rfl, he, hb⟩ := tl_at (p := p) h2 hx
    rw [getD_at he] at hf ⊢
    exact ev_op (ev_var (hj _)) (ev_op (ev_lenA (ev_var (hj _)) (Or.inr (st_of (e1 _ _ hb)))) ev_c rv_I0) (rv_ixT (st_of (e1 _ _ hb)) (e.atN hf))
theorem el_pushed {K : PySem.W.Frag} {σ : L2.St} {H : Hp} {tl : TE} {p : Addr} {es : List En} {j : Nat} (h : Ev tl σ H (.ref p)) (hp : TL H p (es.map En.vs)) (hz : es.length ≤ 60) (hj : ∀ x, ((wipe σ [j]).set j (some x))[j]? = some (some x)) (hw : ∀ x, wipe ((wipe σ [j]).set j (some x)) [j] = wipe σ [j]) :
    EvL (tLc (iList K tl) (gName j) (tTest (tOp rEq (tOp (rIxT K) (tVar j) (tC (.int 0))) (tC (.str "push")))) (tOp (rIxT K) (tVar j) (tC (.int 1))) [j]) σ H ((pus es).map V.str) := by
  obtain ⟨as, h1, h2⟩ := hp
  have asl : as.length = es.length := by rw [h2.length, List.length_map]
  have key : given (as.map V.ref).length (fun i => (es.getD i (.size 0)).isPu) (fun i => V.str (es.getD i (.size 0)).it) = (pus es).map V.str := by
    rw [List.length_map, asl, given_list es (.size 0) En.isPu (fun e => V.str e.it), pus_eq, List.map_map]
    rfl
  rw [← key]
  refine el_lcL _ _ h (sq_of h1) (by rw [List.length_map]; omega) hw (fun i x H1 e1 hx => ?_) (fun i x H1 e1 hx hf => ?_)
  · obtain ⟨b, e, rfl, he, hb⟩ := tl_at (p := p) h2 hx
    rw [getD_at he]
    exact et_is (et_test (ev_op (ev_op (ev_var (hj _)) ev_c (rv_ixT (st_of (e1 _ _ hb)) e.at0)) ev_c (rv_eq rfl))) e.isPu_eq
  · obtain ⟨b, e, rfl, he, hb⟩ := tl_at (p := p) h2 hx
    rw [getD_at he] at hf ⊢
    exact ev_op (ev_var (hj _)) ev_c (rv_ixT (st_of (e1 _ _ hb)) (e.at1 hf))
theorem el_stay {K : PySem.W.Frag} {σ : L2.St} {H : Hp} {tl : TE} {p pg : Addr} {xs gs : List Str} {j jg : Nat} (h : Ev tl σ H (.ref p)) (hp : H p = some (.lst (xs.map V.str))) (hz : xs.length ≤ 60) (hg : H pg = some (.lst (gs.map V.str)))
    (hjg : ∀ x, ((wipe σ [j]).set j (some x))[jg]? = some (some (.ref pg))) (hj : ∀ x, ((wipe σ [j]).set j (some x))[j]? = some (some x)) (hw : ∀ x, wipe ((wipe σ [j]).set j (some x)) [j] = wipe σ [j]) :
    EvL (tLc (iList K tl) (gName j) (tTest (tOp (rIn K true) (tVar j) (tVar jg))) (tVar j) [j]) σ H ((xs.filter fun x => decide (¬ x ∈ gs)).map V.str) := by
  have key : given (xs.map V.str).length (fun i => decide (¬ xs.getD i "" ∈ gs)) (fun i => V.str (xs.getD i "")) = (xs.filter fun x => decide (¬ x ∈ gs)).map V.str := by
    rw [List.length_map]
    exact given_list xs "" (fun x => decide (¬ x ∈ gs)) V.str
  rw [← key]
  have at_ : ∀ {i : Nat} {x : V}, (xs.map V.str)[i]? = some x → ∃ y : Str, x = .str y ∧ xs[i]? = some y := fun {i x} hx => by
    rw [List.getElem?_map] at hx
    obtain ⟨y, hy, rfl⟩ := Option.map_eq_some_iff.mp hx
    exact ⟨y, rfl, hy⟩
  refine el_lcL _ _ h (sq_of hp) (by rw [List.length_map]; omega) hw (fun i x H1 e1 hx => ?_) (fun i x H1 e1 hx hf => ?_)
  · obtain ⟨y, rfl, hy⟩ := at_ hx
    rw [getD_at hy]
    refine et_is (et_test (ev_op (ev_var (hj _)) (ev_var (hjg _)) (rv_niL (sq_of (e1 _ _ hg)) rfl (flat_strs gs)))) ?_
    rw [inV_strs, decide_not]
  · obtain ⟨y, rfl, hy⟩ := at_ hx
    rw [getD_at hy]
    exact ev_var (hj _)
section
variable {P : Program} {w : World} {K : PySem.W.Frag} {mg : Str → Option Value} {base : Heap}
end
end Vx

set_option Elab.async false
set_option linter.all false
set_option maxRecDepth 100000
set_option maxHeartbeats 8000000
namespace Vx
open PySem PySem.Spec PyProof.Rows L2 Evl
/-- equal data: atoms, sequences, and dicts of dict-free values -/
def EqG (H : Hp) : Nat → V → V → Prop
  | 0, x, y => x = y ∧ atom x = true
  | n + 1, x, y => (x = y ∧ atom x = true) ∨ (∃ p q xs ys, x = .ref p ∧ y = .ref q ∧ ((Rd H p (.lst xs) ∧ Rd H q (.lst ys)) ∨ (Rd H p (.tup xs) ∧ Rd H q (.tup ys))) ∧ xs.length = ys.length ∧ xs.length < 40000 ∧
      ∀ (i : Nat) (x' y' : V), xs[i]? = some x' → ys[i]? = some y' → EqG H n x' y') ∨
    ∃ p q names ps qs, x = .ref p ∧ y = .ref q ∧ H p = some (.dK (Dk names ps)) ∧ H q = some (.dK (Dk names qs)) ∧ ps.length = names.length ∧ qs.length = names.length ∧ names.Nodup ∧ names.length < 1000 ∧ 1 ≤ n ∧
      ∀ (i : Nat) (u v : Addr), ps[i]? = some u → qs[i]? = some v → EqS H n (.ref u) (.ref v)
theorem EqG.ex {H H' : Hp} (e : Ex H H') : ∀ {n : Nat} {x y : V}, EqG H n x y → EqG H' n x y
  | 0, _, _, h => h
  | n + 1, x, y, h => by
    rcases h with h | ⟨p, q, xs, ys, h1, h2, h3, h4, h5, h6⟩ | ⟨p, q, names, ps, qs, h1, h2, h3, h4, h5, h6, h7, h8, h9, h10⟩
    · exact Or.inl h
    · exact Or.inr (Or.inl ⟨p, q, xs, ys, h1, h2, h3.imp (fun z => ⟨ex_rd e z.1, ex_rd e z.2⟩) (fun z => ⟨ex_rd e z.1, ex_rd e z.2⟩), h4, h5, fun i x' y' a b => EqG.ex e (h6 i x' y' a b)⟩)
    · exact Or.inr (Or.inr ⟨p, q, names, ps, qs, h1, h2, e _ _ h3, e _ _ h4, h5, h6, h7, h8, h9, fun i u v a b => (h10 i u v a b).ex e⟩)
theorem EqS.g {H : Hp} : ∀ {n : Nat} {x y : V}, EqS H n x y → EqG H n x y
  | 0, _, _, h => h
  | n + 1, x, y, h => by
    rcases h with h | ⟨p, q, xs, ys, h1, h2, h3, h4, h5, h6⟩
    · exact Or.inl h
    · exact Or.inr (Or.inl ⟨p, q, xs, ys, h1, h2, h3, h4, h5, fun i x' y' a b => EqS.g (h6 i x' y' a b)⟩)
theorem rd_frz {H : Hp} {d b : Addr} {kvs : List (Key × V)} {o u : HO} (h : H d = some (.dK kvs)) (hu : u ≠ .dK kvs) (r : Rd H b u) : Rd (upd H d o) b u := by
  have n : b ≠ d := fun z => by
    rcases r with r | ⟨od, r⟩
    · rw [z, h] at r
      exact hu (Option.some.inj r).symm
    · rw [z, h] at r
      cases Option.some.inj r
  rcases r with r | ⟨od, r⟩
  · exact Or.inl (by rw [upd_ne n]; exact r)
  · exact Or.inr ⟨od, by rw [upd_ne n]; exact r⟩
theorem EqS.frz {H : Hp} {d : Addr} {kvs : List (Key × V)} {o : HO} (h : H d = some (.dK kvs)) : ∀ {n : Nat} {x y : V}, EqS H n x y → EqS (upd H d o) n x y
  | 0, _, _, z => z
  | n + 1, x, y, z => by
    rcases z with z | ⟨p, q, xs, ys, h1, h2, h3, h4, h5, h6⟩
    · exact Or.inl z
    · exact Or.inr ⟨p, q, xs, ys, h1, h2, h3.imp (fun z => ⟨rd_frz h (fun e => nomatch e) z.1, rd_frz h (fun e => nomatch e) z.2⟩) (fun z => ⟨rd_frz h (fun e => nomatch e) z.1, rd_frz h (fun e => nomatch e) z.2⟩), h4, h5, fun i x' y' a b => EqS.frz h (h6 i x' y' a b)⟩
theorem eqs_atom {H : Hp} {x : V} (h : atom x = true) : ∀ n : Nat, EqS H n x x
  | 0 => ⟨rfl, h⟩
  | _ + 1 => Or.inl ⟨rfl, h⟩
theorem eqs_strs {H : Hp} {p q : Addr} {xs : List Str} {n : Nat} (h1 : Rd H p (.lst (xs.map V.str))) (h2 : Rd H q (.lst (xs.map V.str))) (hz : xs.length < 40000) (hn : 1 ≤ n) : EqS H n (.ref p) (.ref q) := by
  obtain ⟨m, rfl⟩ : ∃ m, n = m + 1 := ⟨n - 1, by omega⟩
  refine Or.inr ⟨p, q, _, _, rfl, rfl, Or.inl ⟨h1, h2⟩, rfl, by rw [List.length_map]; exact hz, fun i x y a b => ?_⟩
  rw [a] at b
  cases b
  rw [List.getElem?_map] at a
  obtain ⟨z, _, rfl⟩ := Option.map_eq_some_iff.mp a
  exact eqs_atom rfl m
/-- all([e for k in d]) -/
theorem ev_allKeys {K : PySem.W.Frag} {σ : L2.St} {H : Hp} {tl te : TE} {d : Addr} {kvs : List (Key × V)} {j : Nat} {vs : List Nat} (hl : ∀ H', Ev tl σ H' (.ref d)) (hd : H d = some (.dK kvs)) (hz : kvs.length < 1000)
    (hw : ∀ x, wipe ((wipe σ vs).set j (some x)) vs = wipe σ vs)
    (he : ∀ H1, Ex H H1 → ∀ od (i : Nat) k v, kvs[i]? = some (k, v) → Ev te ((wipe σ vs).set j (some (kV k))) (upd H1 d (.frz od (.dK kvs))) (.bl true)) :
    Ev (tCB (rAll K) (tCons (tLockE (tLc (iKeys tl) (gName j) tYes te vs)) tNil)) σ H (.bl true) := fun H1 e1 Q q => by
  have hd1 := e1 _ _ hd
  refine ⟨d, .dK kvs, hd1, trivial, fun od => ?_⟩
  have nin : ∀ b o, H1 b = some o → b ≠ d → (upd H1 d (.frz od (.dK kvs))) b = some o := fun b o h n => by rw [upd_ne n]; exact h
  refine hl _ _ (Ex.refl _) _ fun H2 e2 => ⟨d, od, rfl, Or.inl ⟨kvs, e2 _ _ upd_same, fun Dl hD => ?_⟩⟩
  have hf2 : H2 d = some (.frz od (.dK kvs)) := e2 _ _ upd_same
  refine lc_P (B := upd H1 d (.frz od (.dK kvs))) (J := Itk d od kvs) (n := kvs.length) (fun _ v _ => v = .bl true) (by omega) e2 hD (fun i H3 hi e3 => ⟨e3 _ _ hf2, hi⟩) (fun H3 e3 => ⟨e3 _ _ hf2, Nat.le_refl _⟩) (fun i H3 x H4 hi e3 y => ?_) (fun xs H3 e3 h3 kn => ?_)
  · obtain ⟨rfl, k, v, hkv, rfl⟩ := y
    exact ⟨_, Ex.refl _, hw _, fun Q2 q2 => q2 _ (Ex.refl _), evp_of (he H1 e1 od i k v hkv) fun _ _ => rfl⟩
  · have hx := kn.kn.now e2 e3
    have hf3 := e3 _ _ hf2
    have nD : Dl ≠ d := fun z => by rw [z, hf2] at hD; cases hD
    have : xs = (List.replicate kvs.length true).map V.bl := by
      refine List.ext_getElem? fun i => ?_
      by_cases hi : i < kvs.length
      · have hi2 : i < xs.length := by rw [hx.1]; exact hi
        rw [List.getElem?_map, List.getElem?_replicate, if_pos hi, List.getElem?_eq_getElem hi2, hx.2 i _ (List.getElem?_eq_getElem hi2)]
        rfl
      · rw [List.getElem?_eq_none (by rw [hx.1]; omega), List.getElem?_eq_none (by rw [List.length_map, List.length_replicate]; omega)]
    refine ⟨hf3, Dl, List.replicate kvs.length true, rfl, sq_of ?_, ?_⟩
    · rw [upd_ne nD, ← this]
      exact h3
    · rw [all_rep]
      refine q _ fun b o h => ?_
      by_cases z : b = d
      · rw [z, hd1] at h
        rw [z, upd_same]
        exact h
      · rw [upd_ne z]
        exact e3 _ _ (e2 _ _ (nin b o h z))
def spSameG (n : Nat) : Sp := fun vs H Q _ => ∃ x y, vs = [x, y] ∧ EqG H n x y ∧ ∀ H', Ex H H' → Q (.bl true) H'
section
variable {P : Program} {w : World} {K : PySem.W.Frag} {mg : Str → Option Value} {base : Heap}
end
end Vx

set_option Elab.async false
set_option linter.all false
set_option maxRecDepth 100000
set_option maxHeartbeats 4000000
namespace Vx
open PySem PySem.Spec PyProof.Rows L2
/-- logs of a run while it is played: the deques hold what is pushed and not removed -/
structure Plog (top : Nat) (ws : List Str) (L : List (List En)) (fr : List Str) (q : List (List Str)) : Prop where
  v : Vlog top ws L
  pf : (L.flatMap pus ++ fr).Nodup
  cnt : (L.flatMap pus).length + fr.length = 6 * top
  frn : ∀ z ∈ fr, IsNm z
  ql : q.length = ws.length
  dq : ∀ (k : Nat) es, L[k]? = some es → q[k]? = some (leftOf L es)
theorem leftOf_mem {L : List (List En)} {es : List En} {x : Str} : x ∈ leftOf L es ↔ x ∈ pus es ∧ ¬ x ∈ L.flatMap res := by
  unfold leftOf
  rw [List.mem_filter]
  simp only [decide_eq_true_eq]
theorem filter_ne_last {q : List Str} {x : Str} (h : (q ++ [x]).Nodup) : (q ++ [x]).filter (fun y => decide (y ≠ x)) = q := by
  have h2 := (List.nodup_append.mp h).2.2
  rw [List.filter_append, List.filter_eq_self.mpr (fun y hy => by simpa using h2 y hy x (List.mem_singleton.mpr rfl))]
  simp
theorem filter_ne_first {q : List Str} {x : Str} (h : (x :: q).Nodup) : (x :: q).filter (fun y => decide (y ≠ x)) = q := by
  rw [List.filter_cons]
  simp only [ne_eq, not_true_eq_false, decide_false, Bool.false_eq_true, if_false]
  refine List.filter_eq_self.mpr fun y hy => ?_
  have := (List.nodup_cons.mp h).1
  simp only [ne_eq, decide_eq_true_eq]
  exact fun e => this (e ▸ hy)
theorem filter_ne_not {q : List Str} {x : Str} (h : ¬ x ∈ q) : q.filter (fun y => decide (y ≠ x)) = q :=
  List.filter_eq_self.mpr fun y hy => by
    simp only [ne_eq, decide_eq_true_eq]
    exact fun e => h (e ▸ hy)
/-- one removal more -/
theorem leftOf_rem {L L2 : List (List En)} {es : List En} {x : Str} (h : (L2.flatMap res).Perm (L.flatMap res ++ [x])) : leftOf L2 es = (leftOf L es).filter fun y => decide (y ≠ x) := by
  unfold leftOf
  rw [List.filter_filter]
  congr 1
  funext y
  have : y ∈ L2.flatMap res ↔ y ∈ L.flatMap res ∨ y = x := by rw [h.mem_iff, List.mem_append, List.mem_singleton]
  rw [Bool.eq_iff_iff]
  simp only [decide_eq_true_eq, Bool.and_eq_true, this, not_or, ne_eq]
  exact ⟨fun ⟨a, b⟩ => ⟨b, a⟩, fun ⟨a, b⟩ => ⟨b, a⟩⟩
theorem leftOf_same {L L2 : List (List En)} {es : List En} (h : (L2.flatMap res).Perm (L.flatMap res)) : leftOf L2 es = leftOf L es := by
  unfold leftOf
  congr 1
  funext y
  rw [Bool.eq_iff_iff]
  simp only [decide_eq_true_eq, h.mem_iff]
section
variable {top : Nat} {ws : List Str} {L : List (List En)} {fr : List Str} {q : List (List Str)} {k : Nat} {es : List En} {e : En}
theorem Plog.nd (d : Plog top ws L fr q) (hk : L[k]? = some es) : (pus es).Nodup := by
  have := d.v.pu
  obtain ⟨l1, l2, rfl⟩ := List.append_of_mem (List.mem_of_getElem? hk)
  rw [List.flatMap_append, List.flatMap_cons] at this
  exact (List.nodup_append.mp (List.nodup_append.mp this).2.1).1
/-- the pushes of two logs are apart -/
theorem Plog.apart (d : Plog top ws L fr q) {i : Nat} {es2 : List En} (hk : L[k]? = some es) (hi : L[i]? = some es2) (n : i ≠ k) {x : Str} (hx : x ∈ pus es) : ¬ x ∈ pus es2 := fun h2 => by
  have nd := d.v.pu
  unfold List.Nodup at nd
  rw [List.pairwise_flatMap] at nd
  obtain ⟨_, ap⟩ := nd
  rw [List.pairwise_iff_getElem] at ap
  obtain ⟨a1, a2⟩ := List.getElem?_eq_some_iff.mp hk
  obtain ⟨b1, b2⟩ := List.getElem?_eq_some_iff.mp hi
  rcases Nat.lt_or_ge i k with h | h
  · have := ap i k b1 a1 h
    rw [a2, b2] at this
    exact this x h2 x hx rfl
  · have := ap k i a1 b1 (by omega)
    rw [a2, b2] at this
    exact this x hx x h2 rfl
theorem Plog.size (d : Plog top ws L fr q) (hk : L[k]? = some es) (hl : es.length < top) {n : Int} (h0 : 0 ≤ n) (h1 : n ≤ 60) : Plog top ws (L.set k (es ++ [.size n])) fr q := by
  have p1 := flat_set (f := pus) (es' := es ++ [.size n]) (g := []) (by rw [pus_snoc]; rfl) hk
  have p2 := flat_set (f := res) (es' := es ++ [.size n]) (g := []) (by rw [res_snoc]; rfl) hk
  rw [List.append_nil] at p1 p2
  refine ⟨d.v.app hk hl ⟨h0, h1⟩ (by rw [show (En.size n).pu = [] from rfl, List.append_nil]; exact d.v.pu) (by rw [show (En.size n).re = [] from rfl, List.append_nil]; exact d.v.re) (fun _ z => nomatch z) (fun _ _ _ _ z => nomatch z), (p1.append_right fr).nodup_iff.mpr d.pf, ?_, d.frn, d.ql, ?_⟩
  · rw [p1.length_eq]
    exact d.cnt
  · intro i es2 h
    rw [leftOf_same p2]
    rcases set_get h with ⟨rfl, rfl⟩ | ⟨_, h3⟩
    · rw [d.dq i es hk]
      unfold leftOf
      rw [pus_snoc]
      simp [En.pu]
    · exact d.dq i es2 h3
theorem Plog.push {x w : Str} (d : Plog top ws L (fr ++ [x]) q) (hk : L[k]? = some es) (hl : es.length < top) : Plog top ws (L.set k (es ++ [.push x])) fr (q.set k (leftOf L es ++ [x])) := by
  have p1 := flat_set (f := pus) (es' := es ++ [.push x]) (g := [x]) (by rw [pus_snoc]; rfl) hk
  have p2 := flat_set (f := res) (es' := es ++ [.push x]) (g := []) (by rw [res_snoc]; rfl) hk
  rw [List.append_nil] at p2
  have nm : IsNm x := d.frn x (List.mem_append_right _ (List.mem_singleton.mpr rfl))
  have q1 : (L.flatMap pus ++ [x] ++ fr).Nodup := by
    refine (List.Perm.nodup_iff ?_).mpr d.pf
    rw [List.append_assoc]
    exact List.Perm.append_left _ List.perm_append_comm
  have nx : ¬ x ∈ L.flatMap pus := fun z => (List.nodup_append.mp (List.nodup_append.mp q1).1).2.2 x z x (List.mem_singleton.mpr rfl) rfl
  have nr : ¬ x ∈ L.flatMap res := fun h => by
    obtain ⟨es2, h2, h3⟩ := List.mem_flatMap.mp h
    obtain ⟨i, hi⟩ := List.mem_iff_getElem?.mp h2
    unfold res at h3
    obtain ⟨e2, h4, h5⟩ := List.mem_flatMap.mp h3
    refine nx ?_
    cases e2 with
    | push _ => simp [En.re] at h5
    | size _ => simp [En.re] at h5
    | pop y =>
      have : x = y := by simpa [En.re] using h5
      subst this
      obtain ⟨j, hj⟩ := List.mem_iff_getElem?.mp h4
      obtain ⟨j', _, h6⟩ := d.v.own i es2 j x hi hj
      exact List.mem_flatMap.mpr ⟨es2, h2, mem_pus.mpr (List.mem_of_getElem? h6)⟩
    | steal o y =>
      have : x = y := by simpa [En.re] using h5
      subst this
      have hlt : i < ws.length := by rw [← d.v.len]; exact (List.getElem?_eq_some_iff.mp hi).1
      obtain ⟨_, i', es', _, h7, h8⟩ := d.v.st i es2 _ o x hi (List.getElem?_eq_getElem hlt) h4
      exact List.mem_flatMap.mpr ⟨es', List.mem_of_getElem? h7, mem_pus.mpr h8⟩
  refine ⟨d.v.app hk hl nm (List.nodup_append.mp q1).1 (by rw [show (En.push x).re = [] from rfl, List.append_nil]; exact d.v.re) (fun _ z => nomatch z) (fun _ _ _ _ z => nomatch z), (p1.append_right fr).nodup_iff.mpr q1, ?_, fun z hz => d.frn z (List.mem_append_left _ hz), by rw [List.length_set]; exact d.ql, ?_⟩
  · rw [p1.length_eq]
    have := d.cnt
    rw [List.length_append] at this ⊢
    simp only [List.length_cons, List.length_nil] at this ⊢
    omega
  · intro i es2 h
    rw [leftOf_same p2]
    rcases set_get h with ⟨rfl, rfl⟩ | ⟨n, h3⟩
    · have hq : i < q.length := (List.getElem?_eq_some_iff.mp (d.dq i es hk)).1
      rw [List.getElem?_set_self hq]
      congr 1
      unfold leftOf
      rw [pus_snoc, List.filter_append]
      congr 1
      simp only [En.pu, List.filter_cons, List.filter_nil, decide_eq_true_eq]
      rw [if_pos nr]
    · rw [List.getElem?_set_ne (fun z => n z.symm)]
      exact d.dq i es2 h3
/-- an entry e of the log k removes x, which stands in the deque j -/
theorem Plog.rem {x w o : Str} {j : Nat} {ej : List En} {q' : List Str} (d : Plog top ws L fr q) (hk : L[k]? = some es) (hw : ws[k]? = some w) (hl : es.length < top) (hj : L[j]? = some ej) (ho : ws[j]? = some o) (hx : x ∈ leftOf L ej)
    (he : (j = k ∧ e = .pop x) ∨ (j ≠ k ∧ e = .steal o x)) (hq : q' = (leftOf L ej).filter fun y => decide (y ≠ x)) : Plog top ws (L.set k (es ++ [e])) fr (q.set j q') := by
  obtain ⟨x1, x2⟩ := leftOf_mem.mp hx
  have er : e.re = [x] := by rcases he with ⟨_, rfl⟩ | ⟨_, rfl⟩ <;> rfl
  have ep : e.pu = [] := by rcases he with ⟨_, rfl⟩ | ⟨_, rfl⟩ <;> rfl
  have p1 := flat_set (f := pus) (es' := es ++ [e]) (g := []) (by rw [pus_snoc, ep]) hk
  have p2 := flat_set (f := res) (es' := es ++ [e]) (g := [x]) (by rw [res_snoc, er]) hk
  rw [List.append_nil] at p1
  have xnm : IsNm x := by
    have := (d.v.ent ej (List.mem_of_getElem? hj)).2 _ (mem_pus.mp x1)
    exact this
  have onm : IsNm o := d.v.wk.2.2.2 o (List.mem_of_getElem? ho)
  have ndr : (L.flatMap res ++ [x]).Nodup := List.nodup_append.mpr ⟨d.v.re, by simp, fun a ha b hb e => x2 (by rw [← List.mem_singleton.mp hb, ← e]; exact ha)⟩
  refine ⟨d.v.app hk hl ?_ (by rw [ep, List.append_nil]; exact d.v.pu) (by rw [er]; exact ndr) ?_ ?_, (p1.append_right fr).nodup_iff.mpr d.pf, by rw [p1.length_eq]; exact d.cnt, d.frn, by rw [List.length_set]; exact d.ql, ?_⟩
  · rcases he with ⟨_, rfl⟩ | ⟨_, rfl⟩
    · exact xnm
    · exact ⟨onm, xnm⟩
  · intro y hy
    rcases he with ⟨rfl, rfl⟩ | ⟨_, rfl⟩
    · cases hy
      rw [hj] at hk
      cases hk
      exact mem_pus.mp x1
    · cases hy
  · intro w2 o2 y h1 h2
    rcases he with ⟨_, rfl⟩ | ⟨hne, rfl⟩
    · cases h2
    · cases h2
      rw [hw] at h1
      cases h1
      refine ⟨fun z => hne ?_, j, ej, ho, hj, mem_pus.mp x1⟩
      subst z
      exact (List.getElem?_inj (List.getElem?_eq_some_iff.mp ho).1 d.v.wk.2.2.1).mp (ho.trans hw.symm)
  · intro i es2 h
    have step : ∀ {i : Nat} {e3 : List En}, L[i]? = some e3 → (q.set j q')[i]? = some (leftOf (L.set k (es ++ [e])) e3) := fun {i e3} h3 => by
      rw [leftOf_rem p2]
      by_cases hij : i = j
      · subst hij
        rw [hj] at h3
        cases h3
        rw [List.getElem?_set_self (List.getElem?_eq_some_iff.mp (d.dq i ej hj)).1, hq]
      · rw [List.getElem?_set_ne (fun z => hij z.symm), d.dq i e3 h3]
        congr 1
        exact (filter_ne_not fun z => d.apart hj h3 hij x1 (leftOf_mem.mp z).1).symm
    rcases set_get h with ⟨rfl, rfl⟩ | ⟨_, h3⟩
    · have := step hk
      rw [this]
      congr 1
      unfold leftOf
      rw [pus_snoc, ep, List.append_nil]
    · exact step h3
theorem Plog.nil (h : WkOk ws) (hl : fr.length = 6 * top) (hd : fr.Nodup) (hn : ∀ z ∈ fr, IsNm z) : Plog top ws (List.replicate ws.length []) fr (List.replicate ws.length []) := by
  refine ⟨Vlog.nil h, by rw [flatMap_nil_rep rfl]; exact hd, by rw [flatMap_nil_rep rfl]; simpa using hl, hn, by rw [List.length_replicate], fun k es h1 => ?_⟩
  have h2 := (List.mem_replicate.mp (List.mem_of_getElem? h1)).2
  subst h2
  have h3 : k < ws.length := by
    have := (List.getElem?_eq_some_iff.mp h1).1
    rw [List.length_replicate] at this
    exact this
  rw [List.getElem?_replicate, if_pos h3]
  rfl
end
end Vx

set_option Elab.async false
set_option linter.all false
set_option maxRecDepth 100000
set_option maxHeartbeats 8000000
namespace Vx
open PySem PySem.Spec PyProof.Rows L2 Evl
theorem x_neD {X : Cx} {K : PySem.W.Frag} (hK : X.K = K) (hu : X.A.units + 64 < cLine) : OpR X (compareOp .NotEq) (rNeD K) := by
  subst hK
  exact op_neD hu
def spPlayed (K : PySem.W.Frag) : Sp := fun vs H Q _ => ∃ (s : Addr) (n m : Nat), vs = [.ref s, .int (m : Int)] ∧ Src H s n ∧ n + 4000 ≤ 1000000000 ∧ 1 ≤ m ∧ m ≤ 60 ∧
  ∀ (p d1 d2 po : Addr) (ws : List Str) (ps qs : List Addr) (L : List (List En)) (H' : Hp), H p = none → KB s H H' → Src H' s (n + 4000) → H' p = some (.lst [.ref d1, .ref d2, .ref po]) → HL H' d1 ws ps L → (∀ p ∈ ps, H p = none) → ps.Nodup →
    H' d2 = some (.dK (Dk ws qs)) → qs.length = ws.length → (∀ (k : Nat) r es, qs[k]? = some r → L[k]? = some es → H' r = some (.lst ((leftOf L es).map V.str))) → Vlog m ws L → Q (.ref p) H'
structure Ap2 (s pw pf po : Addr) (ps qs : List Addr) (H : Hp) : Prop where
  wf : pw ≠ pf
  wo : pw ≠ po
  fo : pf ≠ po
  nw : pw ≠ s
  nf : pf ≠ s
  no : po ≠ s
  al : ∀ p ∈ ps ++ qs, p ≠ pw ∧ p ≠ pf ∧ p ≠ po ∧ p ≠ s ∧ H p = none
  pq : ∀ p ∈ ps, ∀ r ∈ qs, p ≠ r
  pn : ps.Nodup
  qn : qs.Nodup
  f0 : H pf = none
  o0 : H po = none
structure PlH (s d1 d2 pw pf po : Addr) (ws : List Str) (ps qs : List Addr) (H H' : Hp) (n : Nat) (L : List (List En)) (fr : List Str) (q : List (List Str)) (os : List Str) : Prop where
  kb : KB s H H'
  src : Src H' s n
  hw : H' pw = some (.lst (ws.map V.str))
  hl : HL H' d1 ws ps L
  dd : H' d2 = some (.dK (Dk ws qs))
  ql : qs.length = ws.length
  qv : ∀ (k : Nat) r x, qs[k]? = some r → q[k]? = some x → H' r = some (.lst (x.map V.str))
  hf : H' pf = some (.lst (fr.map V.str))
  ho : H' po = some (.lst (os.map V.str))
section
variable {s d1 d2 pw pf po : Addr} {ws : List Str} {ps qs : List Addr} {H H' H2 : Hp} {n n2 : Nat} {L : List (List En)} {fr : List Str} {q : List (List Str)} {os : List Str}
theorem Ap2.inP (a : Ap2 s pw pf po ps qs H) {p : Addr} (h : p ∈ ps) : p ≠ pw ∧ p ≠ pf ∧ p ≠ po ∧ p ≠ s ∧ H p = none := a.al p (List.mem_append_left _ h)
theorem Ap2.inQ (a : Ap2 s pw pf po ps qs H) {p : Addr} (h : p ∈ qs) : p ≠ pw ∧ p ≠ pf ∧ p ≠ po ∧ p ≠ s ∧ H p = none := a.al p (List.mem_append_right _ h)
theorem PlH.nd1 (l : PlH s d1 d2 pw pf po ws ps qs H H' n L fr q os) {p : Addr} {vs : List V} (h : H' p = some (.lst vs)) : d1 ≠ p := fun z => by
  have := l.hl.dk
  rw [z, h] at this
  cases this
theorem PlH.nd2 (l : PlH s d1 d2 pw pf po ws ps qs H H' n L fr q os) {p : Addr} {vs : List V} (h : H' p = some (.lst vs)) : d2 ≠ p := fun z => by
  have := l.dd
  rw [z, h] at this
  cases this
theorem PlH.turn (l : PlH s d1 d2 pw pf po ws ps qs H H' n L fr q os) (a : Ap2 s pw pf po ps qs H) (k : KB s H' H2) (S : Src H2 s n2) : PlH s d1 d2 pw pf po ws ps qs H H2 n2 L fr q os := by
  obtain ⟨ys, hs⟩ := l.src.at_
  exact ⟨l.kb.trans k, S, k _ _ a.nw l.hw, l.hl.kb k hs fun p hp => (a.inP hp).2.2.2.1, k _ _ (l.nd2 hs) l.dd, l.ql, fun i r x h1 h2 => k _ _ (a.inQ (List.mem_of_getElem? h1)).2.2.2.1 (l.qv i r x h1 h2), k _ _ a.nf l.hf, k _ _ a.no l.ho⟩
theorem PlH.ex (l : PlH s d1 d2 pw pf po ws ps qs H H' n L fr q os) (a : Ap2 s pw pf po ps qs H) (e : Ex H' H2) : PlH s d1 d2 pw pf po ws ps qs H H2 n L fr q os := l.turn a (kb_ex e) (l.src.ex e)
theorem PlH.le (l : PlH s d1 d2 pw pf po ws ps qs H H' n L fr q os) (h : n ≤ n2) : PlH s d1 d2 pw pf po ws ps qs H H' n2 L fr q os := ⟨l.kb, l.src.le h, l.hw, l.hl, l.dd, l.ql, l.qv, l.hf, l.ho⟩
theorem PlH.app {k : Nat} {pk a : Addr} {es : List En} {e : En} {lv : List V} (l : PlH s d1 d2 pw pf po ws ps qs H H' n L fr q os) (ap : Ap2 s pw pf po ps qs H) (hpk : ps[k]? = some pk) (hes : L[k]? = some es) (hlv : H' pk = some (.lst lv))
    (ha : H' a = some (.tup e.vs)) : PlH s d1 d2 pw pf po ws ps qs H (upd H' pk (.lst (lv ++ [.ref a]))) n (L.set k (es ++ [e])) fr q os := by
  have pm := List.mem_of_getElem? hpk
  obtain ⟨a1, a2, a3, a4, a5⟩ := ap.inP pm
  have tk : TK H' (upd H' pk (.lst (lv ++ [.ref a]))) := tk_upd hlv
  refine ⟨l.kb.updN (Or.inl a5), l.src.upd a4.symm, by rw [upd_ne a1.symm]; exact l.hw, ?_, by rw [upd_ne (l.nd2 hlv)]; exact l.dd, l.ql, fun i r x h1 h2 => by rw [upd_ne (ap.pq pk pm r (List.mem_of_getElem? h1)).symm]; exact l.qv i r x h1 h2, by rw [upd_ne a2.symm]; exact l.hf, by rw [upd_ne a3.symm]; exact l.ho⟩
  refine l.hl.set ap.pn tk (upd_ne (l.nd1 hlv)) hpk (fun p _ h => upd_ne h) ?_
  rw [List.map_append]
  exact (l.hl.lg k pk es hpk hes).app tk hlv upd_same (tk _ _ ha)
theorem PlH.setQ {k : Nat} {rk : Addr} {x y : List Str} (l : PlH s d1 d2 pw pf po ws ps qs H H' n L fr q os) (ap : Ap2 s pw pf po ps qs H) (hrk : qs[k]? = some rk) (hx : q[k]? = some x) : PlH s d1 d2 pw pf po ws ps qs H (upd H' rk (.lst (y.map V.str))) n L fr (q.set k y) os := by
  have rm := List.mem_of_getElem? hrk
  have old := l.qv k rk x hrk hx
  obtain ⟨a1, a2, a3, a4, a5⟩ := ap.inQ rm
  have tk : TK H' (upd H' rk (.lst (y.map V.str))) := tk_upd old
  refine ⟨l.kb.updN (Or.inl a5), l.src.upd a4.symm, by rw [upd_ne a1.symm]; exact l.hw, ⟨by rw [upd_ne (l.nd1 old)]; exact l.hl.dk, l.hl.pl, fun i p es h1 h2 => (l.hl.lg i p es h1 h2).keep tk (upd_ne (ap.pq p (List.mem_of_getElem? h1) rk rm))⟩, by rw [upd_ne (l.nd2 old)]; exact l.dd, l.ql, fun i r z h1 h2 => ?_, by rw [upd_ne a2.symm]; exact l.hf, by rw [upd_ne a3.symm]; exact l.ho⟩
  by_cases e : k = i
  · subst e
    rw [hrk] at h1
    cases h1
    rw [List.getElem?_set_self (List.getElem?_eq_some_iff.mp hx).1] at h2
    cases h2
    exact upd_same
  · rw [List.getElem?_set_ne e] at h2
    have : r ≠ rk := fun z2 => e (by
      subst z2
      exact (List.getElem?_inj (List.getElem?_eq_some_iff.mp hrk).1 ap.qn).mp (hrk.trans h1.symm))
    rw [upd_ne this]
    exact l.qv i r z h1 h2
theorem PlH.popF {x : Str} (l : PlH s d1 d2 pw pf po ws ps qs H H' n L (fr ++ [x]) q os) (ap : Ap2 s pw pf po ps qs H) : PlH s d1 d2 pw pf po ws ps qs H (upd H' pf (.lst ((fr ++ [x]).map V.str).dropLast)) n L fr q os := by
  have tk : TK H' (upd H' pf (.lst ((fr ++ [x]).map V.str).dropLast)) := tk_upd l.hf
  refine ⟨l.kb.updN (Or.inl ap.f0), l.src.upd ap.nf.symm, by rw [upd_ne ap.wf]; exact l.hw, ⟨by rw [upd_ne (l.nd1 l.hf)]; exact l.hl.dk, l.hl.pl, fun i p es h1 h2 => (l.hl.lg i p es h1 h2).keep tk (upd_ne (ap.inP (List.mem_of_getElem? h1)).2.1)⟩, by rw [upd_ne (l.nd2 l.hf)]; exact l.dd, l.ql, fun i r x h1 h2 => by rw [upd_ne (ap.inQ (List.mem_of_getElem? h1)).2.1]; exact l.qv i r x h1 h2, ?_, by rw [upd_ne ap.fo.symm]; exact l.ho⟩
  rw [upd_same, List.map_append]
  have : (fr.map V.str ++ [x].map V.str).dropLast = fr.map V.str := List.dropLast_concat
  rw [this]
theorem PlH.appO {x : Str} (l : PlH s d1 d2 pw pf po ws ps qs H H' n L fr q os) (ap : Ap2 s pw pf po ps qs H) : PlH s d1 d2 pw pf po ws ps qs H (upd H' po (.lst (os.map V.str ++ [.str x]))) n L fr q (os ++ [x]) := by
  have tk : TK H' (upd H' po (.lst (os.map V.str ++ [.str x]))) := tk_upd l.ho
  refine ⟨l.kb.updN (Or.inl ap.o0), l.src.upd ap.no.symm, by rw [upd_ne ap.wo]; exact l.hw, ⟨by rw [upd_ne (l.nd1 l.ho)]; exact l.hl.dk, l.hl.pl, fun i p es h1 h2 => (l.hl.lg i p es h1 h2).keep tk (upd_ne (ap.inP (List.mem_of_getElem? h1)).2.2.1)⟩, by rw [upd_ne (l.nd2 l.ho)]; exact l.dd, l.ql, fun i r x h1 h2 => by rw [upd_ne (ap.inQ (List.mem_of_getElem? h1)).2.2.1]; exact l.qv i r x h1 h2, by rw [upd_ne ap.fo]; exact l.hf, by rw [upd_same, List.map_append]; rfl⟩
end
theorem dp_strs {K : PySem.W.Frag} {H : Hp} : ∀ q : List Str, DpAll K H (q.map V.str) (q.map PyData.str)
  | [] => .nil
  | x :: q => .cons (.str x) (dp_strs q)
theorem deep_strs : ∀ q : List Str, PyData.depthAll (q.map PyData.str) = 0
  | [] => rfl
  | x :: q => by
    rw [List.map_cons]
    simp only [PyData.depthAll, PyData.depth, deep_strs q]
    decide
theorem IsNm.strOk {x : Str} (h : IsNm x) : PyData.strOk x = true := by
  unfold PyData.strOk
  rw [← Array.all_toList, List.all_eq_true]
  intro c hc
  have := (h.2.2 c hc).2
  simp only [decide_eq_true_eq]
  omega
theorem lay_strs : ∀ q : List Str, (∀ x ∈ q, IsNm x) → PyData.canLayAll0 (q.map PyData.str) = true
  | [], _ => rfl
  | x :: q, h => by
    rw [List.map_cons]
    simp only [PyData.canLayAll0, PyData.canLay0, lay_strs q (fun y hy => h y (List.mem_cons_of_mem _ hy)), (h x (List.mem_cons_self ..)).strOk]
    decide
theorem shaped_strs (q : List Str) (h : ∀ x ∈ q, IsNm x) : SeqAt.shaped (.list (q.map PyData.str)) = true := by
  unfold SeqAt.shaped
  simp only [PyData.depth, PyData.canLay0, deep_strs, lay_strs q h]
  decide
theorem ev_neE {K : PySem.W.Frag} {σ : L2.St} {H : Hp} {te : TE} {p : Addr} {q : List Str} (h : Ev te σ H (.ref p)) (hp : H p = some (.lst (q.map V.str))) (hn : ∀ x ∈ q, IsNm x) : Ev (tOp (rNeD K) te (tLst tNil)) σ H (.bl (!decide (q = []))) :=
  ev_opL h (el_lst ea_nil (by decide)) fun r H1 h1 e1 H2 e2 Q q2 => ⟨.list (q.map PyData.str), .list [], .lst (sq_of (e2 _ _ (e1 _ _ hp))) (dp_strs q), .lst (sq_of (e2 _ _ h1)) .nil, shaped_strs q hn, rfl, by
    have : PyData.eqv (.list (q.map PyData.str)) (.list []) = decide (q = []) := by
      cases q with
      | nil => rfl
      | cons x q => rfl
    rw [this]
    exact q2 H2 (Ex.refl _)⟩
theorem te_rows {K : PySem.W.Frag} {σ : L2.St} {H : Hp} {tl : TE} {j : Nat} {vs : List Nat} {pw : Addr} {ws : List Str} {Q : VK} (h : Ev tl σ H (.ref pw)) (hw : H pw = some (.lst (ws.map V.str))) (hl : ws.length ≤ 1000) (nd : ws.Nodup)
    (hj : ∀ x, ((wipe σ vs).set j (some x))[j]? = some (some x)) (hwp : ∀ x, wipe ((wipe σ vs).set j (some x)) vs = wipe σ vs)
    (k : ∀ d ps H2, H d = none → Ex H H2 → H2 d = some (.dK (Dk ws ps)) → New H H2 ws.length ps → Q (.ref d) H2) :
      tCB (rDictP K) (tCons (tLc (iList K tl) (gName j) tYes (tTup (tCons (tVar j) (tCons (tLst tNil) tNil))) vs) tNil) σ H Q :=
  ev_rows h hw hl nd hj hwp H (Ex.refl H) Q k
theorem te_pop {K : PySem.W.Frag} {σ : L2.St} {H : Hp} {to : TE} {a y : V} {r : Addr} {xs : List V} {Q : VK} (h : Ev to σ H (.ref r)) (hr : H r = some (.lst xs)) (hy : xs[xs.length - 1]? = some y)
    (k : ∀ H1, Ex H H1 → ∀ t, (upd H1 r (.lst xs.dropLast)) t = none → Q (.ref t) (upd (upd H1 r (.lst xs.dropLast)) t (.tup [a, y]))) : tTup (tCons (tC a) (tCons (tBM0 K "list" rPop to) tNil)) σ H Q :=
  h H (Ex.refl H) _ fun H1 e1 => ⟨.inl ⟨rfl, _, sq_of (e1 _ _ hr)⟩, r, xs, y, rfl, rfl, e1 _ _ hr, hy, (by show 2 ≤ sizeLine; decide), fun t ht => k H1 e1 t ht⟩
theorem te_first {K : PySem.W.Frag} {σ : L2.St} {H : Hp} {to : TE} {a b y : V} {j : Nat} {r : Addr} {xs : List V} {Q : VK} (hb : σ[j]? = some (some b)) (h : Ev to σ H (.ref r)) (hr : H r = some (.lst (y :: xs)))
    (k : ∀ H1, Ex H H1 → ∀ t, (upd H1 r (.lst xs)) t = none → Q (.ref t) (upd (upd H1 r (.lst xs)) t (.tup [a, b, y]))) : tTup (tCons (tC a) (tCons (tVar j) (tCons (tBM K "list" rPopAt to (tCons (tC (.int 0)) tNil)) tNil))) σ H Q :=
  ⟨b, hb, h H (Ex.refl H) _ fun H1 e1 => ⟨.inl ⟨rfl, _, sq_of (e1 _ _ hr)⟩, r, y :: xs, 0, 0, y, rfl, rfl, e1 _ _ hr, by decide, by decide, seqIx (by decide) (by rw [List.length_cons]; omega), rfl, (by show 3 ≤ sizeLine; decide), fun t ht => k H1 e1 t ht⟩⟩
theorem s_rows2 {K : PySem.W.Frag} {D : Ends} {σ : L2.St} {H : Hp} {tl : TE} {i i2 i3 j : Nat} {vs : List Nat} {pw : Addr} {ws : List Str} (h : ∀ H', Ev tl σ H' (.ref pw)) (hw : H pw = some (.lst (ws.map V.str))) (hl : ws.length ≤ 1000) (nd : ws.Nodup)
    (hj : ∀ x, ((wipe σ vs).set j (some x))[j]? = some (some x)) (hwp : ∀ x, wipe ((wipe σ vs).set j (some x)) vs = wipe σ vs)
    (k : ∀ d1 ps H2 d2 qs H3 po, H d1 = none → Ex H H2 → H2 d1 = some (.dK (Dk ws ps)) → New H H2 ws.length ps → H2 d2 = none → Ex H2 H3 → H3 d2 = some (.dK (Dk ws qs)) → New H2 H3 ws.length qs → H3 po = none → D.nx (((σ.set i (some (.ref d1))).set i2 (some (.ref d2))).set i3 (some (.ref po))) (upd H3 po (.lst []))) :
      tPar3 i i2 i3 (tCons (tCB (rDictP K) (tCons (tLc (iList K tl) (gName j) tYes (tTup (tCons (tVar j) (tCons (tLst tNil) tNil))) vs) tNil)) (tCons (tCB (rDictP K) (tCons (tLc (iList K tl) (gName j) tYes (tTup (tCons (tVar j) (tCons (tLst tNil) tNil))) vs) tNil)) (tCons (tLst tNil) tNil))) D σ H := by
  unfold tPar3
  refine ev_rows (h H) hw hl nd hj hwp H (Ex.refl H) _ fun d1 ps H2 n2 e2 hd1 new => ?_
  refine ev_rows (h H2) (e2 _ _ hw) hl nd hj hwp H2 (Ex.refl H2) _ fun d2 qs H3 n3 e3 hd2 new2 => ?_
  exact ⟨(by show 0 ≤ sizeLine; decide), fun po hpo => ⟨_, _, _, rfl, k d1 ps H2 d2 qs H3 po n2 e2 hd1 new n3 e3 hd2 new2 hpo⟩⟩
section
variable {P : Program} {w : World} {K : PySem.W.Frag} {mg : Str → Option Value} {base : Heap}
end
end Vx

set_option Elab.async false
set_option linter.all false
set_option maxRecDepth 100000
set_option maxHeartbeats 4000000
namespace Vx
open PySem PySem.Spec PyProof.Rows L2 Evl
/-! defs that are called where no repr is under way -/
structure FnG (P : Program) (w : World) (K : PySem.W.Frag) (mg : Str → Option Value) (base : Heap) (k : Nat) (f : Addr) (fd : FuncData) (ps : List Str) (sp : Sp) : Prop where
  len : ∀ vs H Q E, sp vs H Q E → vs.length = ps.length
  run : ∀ (A : Around) (outer : List Env) (s : Shared) (H : Hp) (args : Args) (us : List Value) (vs : List V) (Q : VK) (E : XK), A.guards = some [] → Room k A → Env0 P w K mg base A outer s H → BindsTo s fd args (ps.zip us) → Vals vs us → sp vs H Q E →
    codeAny (model P w) A (.call (.ref f) args) (CR CX0 outer P w H s Q E) s
section
variable {P : Program} {w : World} {K : PySem.W.Frag} {mg : Str → Option Value} {base : Heap}
theorem fun_okG {x qual : Str} {st : Stmt} {f : Addr} {fd : FuncData} {N ps : List Str} {k : Nat} {sp : Sp} (F : Fun K x qual st f fd) (S : FnScope N ps (defScope st)) (len : ∀ vs H Q E, sp vs H Q E → vs.length = ps.length)
    (body : ∀ (cdv : Value) (A : Around) (outer : List Env) (s : Shared) (H : Hp) (vs : List V) (Q : VK) (E : XK), A.guards = some [] → Room k (A.deeper (envOfC qual (defScope st) s.heap.objs.size f cdv)) → sp vs H Q E →
      ∃ t, PSs (cxOf CX0 P w K mg base N qual (defScope st) f cdv A outer s H E).nox (defBody st) t ∧ t { nx := fun _ H' => Q .non H', rt := Q } (start N vs) H) : FnG P w K mg base (k + 1) f fd ps sp := by
  obtain ⟨oc, od, kV, doc, pm, an, cdv, ct, osl, rfl, look, code⟩ := F.ex
  refine ⟨len, fun A outer s H args us vs Q E quiet room e0 bind rel hs => ?_⟩
  have here : ∀ b o, base.get? b = some o → s.heap.get? b = some o := fun b o e => (e0.bs b o e).1
  have kin : K.In s.heap := e0.mod.kin.keeps here
  have kinds : ∀ y ∈ ps.zip us, (defScope st).names.lookup y.1 = some .local ∨ ((defScope st).names.lookup y.1 = some .cell ∧ ((cellsFrom (s.heap.objs.size + 1) (defScope st).names []).lookup y.1).isSome = true) := by
    rintro ⟨nm, v⟩ hy
    exact (S.par nm (List.of_mem_zip hy).1).imp id fun z => ⟨z, PySem.W.cellsFrom_some _ _ _ (.inl z)⟩
  refine codeAny_call_function room.depth (kin _ _ look) rfl S.co S.gen rfl (PySem.W.codeRec_of kin code) (bind _ _ _ _ (wpAny_newFunctionEnv_cells S.kind kinds ?_))
  rintro env rfl s1 made
  refine ⟨(e0.mod.nolimit.keeps here).keeps made.toInCall.keep, codeAny_func ?_⟩
  obtain ⟨t, reads, holds⟩ := body cdv A outer s H vs Q E quiet (room.deeper _) hs
  have I := inv_start (CX := CX0) (K := K) (mg := mg) (base := base) (E := E) S room.hd e0 (len _ _ _ _ hs) rel made
  refine wpAny_mono (reads.nox.run [] s1 (start N vs) H _ I holds) (fun fl s2 z => ?_) fun e s2 z => z
  cases fl with
  | ret u =>
    obtain ⟨v, σ2, H2, J, rv, q⟩ := z
    exact ⟨v, H2, J.os, J.bare, J.base, J.hok, rv, q⟩
  | next =>
    obtain ⟨σ2, H2, J, q⟩ := z
    exact ⟨.non, H2, J.os, J.bare, J.base, J.hok, rfl, q⟩
  | brk => exact z.elim fun _ z => z.elim fun _ z => z.2.elim
  | cont => exact z.elim fun _ z => z.elim fun _ z => z.2.elim
structure GoodG (P : Program) (w : World) (K : PySem.W.Frag) (mg : Str → Option Value) (base : Heap) (k : Nat) (x : Str) (ps : List Str) (sp : Sp) : Prop where
  ex : ∃ f fd, FnG P w K mg base k f fd ps sp ∧ mg x = some (.ref f) ∧ PySem.W.keepIn K (.ref f) = true ∧ Binds K fd ps []
theorem Def.goodG {x : Str} {st : Stmt} {N ps : List Str} {k : Nat} {sp : Sp} (D : Def K mg x st ps) (S : FnScope N ps (defScope st)) (len : ∀ vs H Q E, sp vs H Q E → vs.length = ps.length)
    (body : ∀ (f : Addr) (cdv : Value) (A : Around) (outer : List Env) (s : Shared) (H : Hp) (vs : List V) (Q : VK) (E : XK), A.guards = some [] → Room k (A.deeper (envOfC x (defScope st) s.heap.objs.size f cdv)) → sp vs H Q E →
      ∃ t, PSs (cxOf CX0 P w K mg base N x (defScope st) f cdv A outer s H E).nox (defBody st) t ∧ t { nx := fun _ H' => Q .non H', rt := Q } (start N vs) H) : GoodG P w K mg base (k + 1) x ps sp := by
  obtain ⟨f, fd, F, m, b⟩ := D.ex
  exact ⟨f, fd, fun_okG F S len fun cdv A outer s H vs Q E qu hr h => body f cdv A outer s H vs Q E qu hr h, m, F.kp, b⟩
end
section
variable {X : Cx} {k : Nat} {x : Str} {ps : List Str} {sp : Sp} {p pos : Pos} {e : Expr} {es : List Expr} {t : TA}
theorem pe_fnG (g : GoodG X.prog X.w X.K X.mg X.base k x ps sp) (quiet : X.A.guards = some []) (room : Room k X.A) (ha : PA X (e :: es) t) (hg : Gl X x := by rfl)
    (hd : (x == ("__debug__" : Str)) = false := by decide) (he : starEach (e :: es) X.env = (false, eval e X.env) :: starEach es X.env := by rfl)
    (hp : (backTo pos (starEach es X.env)).any (·.1) = false := by rfl) : PE X (.Call (.Name x p) (e :: es) [] pos) (tCall sp [] E0 t) := by
  obtain ⟨f, fd, F, m, kp, b⟩ := g.ex
  refine ⟨fun pins s σ H Q I h => wpAny_Call_Name_kw (ld_glob I hg m (PySem.W.callWith_K (h₀ := X.base) I.ok.mod.kin kp (thn (ha.run pos pins s σ H _ I h) fun us s1 ⟨vs, H1, I1, r, q⟩ => ⟨I1.kIn, ?_⟩) he hp) hd)⟩
  have q : sp (vs ++ []) H1 Q E0 := q
  rw [List.append_nil] at q
  show wpAny (model X.prog X.w) X.A (call (.ref f) us) (EP X pins σ Q) X.xe s1
  have b2 := b s1 us I1.kIn (by rw [List.append_nil, ← r.length]; exact F.len _ _ _ _ q)
  rw [List.append_nil] at b2
  refine wpAny_call (codeAny_mono (F.run X.A X.stack s1 H1 ⟨us, []⟩ us vs Q E0 quiet room I1.env0 b2 r q) fun r2 s2 z => ?_)
  rcases r2 with e2 | fl
  · exact pass0 (X := X) pins σ H1 s1 e2 s2 I1 z
  cases fl with
  | ret u => exact I1.after z
  | next => exact False.elim z
  | brk => exact False.elim z
  | cont => exact False.elim z
end
end Vx

set_option Elab.async false
set_option linter.all false
set_option maxRecDepth 100000
set_option maxHeartbeats 4000000
namespace Vx
open PySem PySem.Spec PyProof.Rows L2
section
variable {P : Program} {w : World} {K : PySem.W.Frag} {mg mb : Str → Option Value} {a : Addr} {s1 : Shared} {vs : List Value} {ns : List Int} {H : Hp}
/-- the heap behind the top, the script hidden -/
theorem head_env (kin : K.In s1.heap) (gl : s1.heap.Ns mainGlobals mg) (bi : s1.heap.Ns builtinsNs mb) (bb : ∀ x : Str, x ≠ "__name__" → mb x = bootBuiltins x) (lim : s1.heap.NoLimit) (gens : s1.gens = #[])
    (ha : s1.heap.get? a = some { cls := .type "list", data := .seq vs.toArray }) (hok : HOk P w H s1.heap) (onlyA : ∀ b, H b ≠ none → b = a) (offK : H a ≠ none → K.lookup a = none) (sm : ∃ mm, s1.heap.Ns sysModules mm) :
    Env0 P w K mg (hidT s1.heap H) callerA [] s1 H ∧ K.In (hidT s1.heap H) ∧ (hidT s1.heap H).Ns mainGlobals mg ∧ ∃ o, (hidT s1.heap H).get? sysModules = some o := by
  have seen : ∀ {b : Addr} {o : Obj}, s1.heap.get? b = some o → (b = a → H a = none) → (hidT s1.heap H).get? b = some o := fun {b o} e n => hidT_get e (by
    cases q : H b with
    | none => rfl
    | some u =>
      have ba := onlyA b (fun z => by rw [z] at q; cases q)
      rw [ba, n ba] at q
      cases q)
  have names : ∀ {b : Addr} {m : Str → Option Value}, s1.heap.Ns b m → (hidT s1.heap H).Ns b m := fun ⟨o, es, ep, e, d, r⟩ => ⟨o, es, ep, seen e fun ba => (by
    rw [ba, ha] at e
    have eo := Option.some.inj e
    rw [← eo] at d
    cases d), d, r⟩
  have kb : K.In (hidT s1.heap H) := fun b o e => seen (kin b o e) fun ba => by
    cases q : H a with
    | none => rfl
    | some u =>
      rw [ba, offK fun z => (by rw [z] at q; cases q)] at e
      cases e
  obtain ⟨mc, l1, l2⟩ := lim
  exact ⟨⟨rfl, ⟨kb, names gl, ⟨mb, names bi, bb⟩, ⟨mc, names l1, l2⟩⟩, fun b o e => of_hidT e, Nat.le_of_eq (hidT_size _ _), trivial, fun b hb => absurd (show b ∈ ([] : List Addr) from hb) (by simp), hok, .of_eq gens⟩, kb, names gl, by
    obtain ⟨mm, hm⟩ := sm
    obtain ⟨o, es, ep, e, _⟩ := names hm
    exact ⟨o, e⟩⟩
theorem head_run {k : Nat} {fa : Addr} {fd : FuncData} {x : Str} {sp : Sp} (kin : K.In s1.heap) (gl : s1.heap.Ns mainGlobals mg) (bi : s1.heap.Ns builtinsNs mb) (bb : ∀ x : Str, x ≠ "__name__" → mb x = bootBuiltins x) (lim : s1.heap.NoLimit) (gens : s1.gens = #[])
    (ha : s1.heap.get? a = some { cls := .type "list", data := .seq vs.toArray }) (hin : IntsAre vs ns) (size : ns.length ≤ sizeLine) (room : Room k callerA)
    (sm : ∃ mm, s1.heap.Ns sysModules mm) (F : ∀ base : Heap, K.In base → base.Ns mainGlobals mg → (∃ o, base.get? sysModules = some o) → FnG P w K mg base k fa fd [x] sp) (bind : ∀ (s : Shared) (u : Value), BindsTo s fd ⟨[u], []⟩ [(x, u)])
    (say : ∀ H : Hp, SqL K H a (ns.map V.int) → sp [.ref a] H (fun v _ => v = .bl true) E0) :
    codeAny (model P w) callerA (.call (.ref fa) ⟨[.ref a], []⟩) (fun r s2 => r = .ok (.ret (.bool true)) ∧ OldK s1.heap s2.heap ∧ s2.os = s1.os ∧ AllBare s2.gens) s1 := by
  have rel := vals_ints hin
  have go : ∀ H : Hp, Only H → SqL K H a (ns.map V.int) → HOk P w H s1.heap → (∀ b, H b ≠ none → b = a) → (H a ≠ none → K.lookup a = none) →
      codeAny (model P w) callerA (.call (.ref fa) ⟨[.ref a], []⟩) (fun r s2 => r = .ok (.ret (.bool true)) ∧ OldK s1.heap s2.heap ∧ s2.os = s1.os ∧ AllBare s2.gens) s1 := fun H only sq hok onlyA offK => by
    obtain ⟨e0, kb, glb, smb⟩ := head_env kin gl bi bb lim gens ha hok onlyA offK sm
    refine codeAny_mono ((F _ kb glb smb).run callerA [] s1 H ⟨[.ref a], []⟩ [.ref a] [.ref a] _ _ rfl room e0 (bind s1 (.ref a)) (.cons rfl .nil) (say H sq)) fun r s2 h => ?_
    rcases r with e | fl
    · exact False.elim h
    cases fl with
    | ret u =>
      obtain ⟨v, H2, os, bare, un, hok2, rv, rfl⟩ := h
      obtain rfl : u = Value.bool true := rv
      refine ⟨rfl, OldK.of_keep fun b o e => ?_, os, bare⟩
      rcases only b with z | ⟨ob, xs, z⟩
      · exact un.keep b o e z (fun hb => absurd (show b ∈ ([] : List Addr) from hb) (by simp)) (by simp)
      · have g1 := (hok b _ z).1
        have g2 := (hok2 b _ (un.frzs b ob _ z)).1
        rw [e] at g1
        rw [Option.some.inj g1]
        exact g2
    | next => exact False.elim h
    | brk => exact False.elim h
    | cont => exact False.elim h
  cases look : K.lookup a with
  | some o =>
    have eo := kin a o look
    rw [ha] at eo
    obtain rfl := Option.some.inj eo
    exact go (fun _ => none) (fun _ => .inl rfl) (.inr ⟨_, vs.toArray, _, look, rfl, rfl, rfl, by rw [List.size_toArray, hin.length]; exact size, by simpa using rel⟩) (fun b u z => nomatch (show (none : Option HO) = some u from z)) (fun b z => absurd rfl z) (fun z => absurd rfl z)
  | none =>
    let H0 : Hp := fun b => if b = a then some (.frz { cls := .type "list", data := .seq vs.toArray } (.lst (ns.map V.int))) else none
    have at0 : H0 a = some (.frz { cls := .type "list", data := .seq vs.toArray } (.lst (ns.map V.int))) := if_pos rfl
    have off0 : ∀ b, b ≠ a → H0 b = none := fun b h => if_neg h
    refine go H0 (fun b => ?_) (.inl (.inr ⟨_, at0⟩)) (fun b u z => ?_) (fun b z => Classical.byContradiction fun h => z (off0 b h)) fun _ => look
    · by_cases h : b = a
      · exact .inr ⟨_, _, by rw [h]; exact at0⟩
      · exact .inl (off0 b h)
    · by_cases h : b = a
      · rw [h, at0] at z
        rw [h]
        obtain rfl := Option.some.inj z
        exact ⟨ha, by rw [List.length_map]; exact size, vs, _, rel, ha⟩
      · rw [off0 b h] at z
        cases z
end
theorem walkG {l : PySem.W.OpenLaw} {n k : Nat} {q : Program} {loose : List Str} {XP : (Str → Option Value) → Heap → Prop} {YP : World → Heap → Prop} {d : DefRec} {K : Params → PySem.W.Frag} {sp : PySem.W.Frag → Sp} {x : Str}
    (hq : importsNone q = true) (hn : l.most = some n) (hn2 : n ≤ sizeLine) (hdf : d.params.defaults = []) (room : Room k callerA) (hY : ∀ (w : World) (h : Heap), YP w h → (K w.params).In h)
    (F : ∀ (w : World) (mg : Str → Option Value) (fa : Addr) (h : Heap), (K w.params).In h → h.Ns mainGlobals mg → mg d.name = some (.ref fa) →
      ∃ fd : FuncData, (∀ (s : Shared) (u : Value), BindsTo s fd ⟨[u], []⟩ [(x, u)]) ∧ ∀ base : Heap, (K w.params).In base → base.Ns mainGlobals mg → (∃ o, base.get? sysModules = some o) → FnG l.prog w (K w.params) mg base k fa fd [x] (sp (K w.params)))
    (say : ∀ (K : PySem.W.Frag) (H : Hp) (a : Addr) (ns : List Int), ns.length ≤ n → SqL K H a (ns.map V.int) → sp K [.ref a] H (fun v _ => v = .bl true) E0) :
    PySem.W.WalkO q loose XP YP l.row.toRowW d [] (fun f vs => PySem.call f vs) := by
  refine Att.attach_call hn hdf fun w s₀ s1 mg mb fa o pm cd doc a vs ns G Y ho hd hcd hmg hobj hints hlen hg => ?_
  have kin := hY w _ Y
  obtain ⟨fd, bind, hF⟩ := F w mg fa _ kin G.T.g hmg
  exact head_run kin G.T.g G.T.b G.T.builtins G.T.nolimit hg hobj hints (Nat.le_trans hlen hn2) room (let ⟨mm, h1, _⟩ := (G.T.seer hq).mods; ⟨mm, h1⟩) hF bind fun H sq => say _ H a ns hlen sq
end Vx

set_option Elab.async false
set_option linter.all false
set_option maxRecDepth 100000
set_option maxHeartbeats 4000000
namespace Vx
open PySem PySem.Spec PyProof.Rows L2 Evl
/-! the law: names and numbers -/
/-- a comprehension with a test, over anything -/
theorem lc_F {J : It} {g : TG} {t : TT} {te : TE} {vs : List Nat} {σ : L2.St} {H1 : Hp} {Dl : Addr} {Qd : Hp → Prop} {n : Nat} (f : Nat → Bool) (v : Nat → V) (hn : n < 50000) (hD : H1 Dl = none)
    (hgo : ∀ i H2, i < n → Ex H1 H2 → J.go i H2) (hst : ∀ H2, Ex H1 H2 → J.stop n H2)
    (hy : ∀ i H2 x H', i < n → Ex H1 H2 → J.yld i H2 x H' → ∃ σ2, Ex H2 H' ∧ wipe σ2 vs = wipe σ vs ∧ (∀ Q : L2.St → Hp → Prop, (∀ H3, Ex H' H3 → Q σ2 H3) → g x (wipe σ vs) H' Q) ∧ EvT t σ2 H1 (f i) ∧ (f i = true → Ev te σ2 H1 (v i)))
    (hd : ∀ H2, Ex H1 H2 → H2 Dl = some (.lst (given n f v)) → Qd H2) :
    ∃ W : Nat → Nat → Hp → Prop, (∃ m, W 0 m (upd H1 Dl (.lst []))) ∧ ∀ i m H2, W i m H2 →
      (J.stop i H2 ∧ Qd H2) ∨ (J.go i H2 ∧ ∃ Nx : Hp → Prop, (∀ H', Nx H' → ∃ m', m' < m ∧ W (i + 1) m' H') ∧ ∀ x H', J.yld i H2 x H' → g x (wipe σ vs) H' fun σ2 H3 => wipe σ2 vs = wipe σ vs ∧ t σ2 H3 fun b H4 =>
        if b = true then te σ2 H4 fun y H5 => ∃ acc, H5 Dl = some (.lst acc) ∧ acc.length < sizeLine ∧ Nx (upd H5 Dl (.lst (acc ++ [y]))) else Nx H4) := by
  refine ⟨fun i m H => m = n - i ∧ i ≤ n ∧ Cw H1 f v Dl i H, ⟨n, by simp, Nat.zero_le _, hD, Ex.new hD, upd_same⟩, ?_⟩
  rintro i m H2 ⟨rfl, hi, p⟩
  by_cases hlt : i < n
  · refine .inr ⟨hgo i H2 hlt p.2.1, Cw H1 f v Dl (i + 1), fun H' p' => ⟨n - (i + 1), by omega, rfl, hlt, p'⟩, fun x H' y => ?_⟩
    obtain ⟨σ2, e1, hw, hg, ht, he⟩ := hy i H2 x H' hlt p.2.1 y
    refine hg _ fun H3 e3 => ⟨hw, ?_⟩
    exact cw_turn ⟨p.1, (p.2.1.trans e1).trans e3, e3 _ _ (e1 _ _ p.2.2)⟩ (by omega) ht he
  · have e : i = n := by omega
    subst e
    exact .inl ⟨hst H2 p.2.1, hd H2 p.2.1 p.2.2⟩
theorem el_lcSf {σ : L2.St} {H : Hp} {t : TT} {te tl : TE} {vs : List Nat} {j : Nat} {z : Str} (f : Nat → Bool) (v : Nat → V) (h : Ev tl σ H (.str z)) (hz : z.length < 40000) (hw : ∀ x, wipe ((wipe σ vs).set j (some x)) vs = wipe σ vs)
    (ht : ∀ (i c : Nat) H1, Ex H H1 → z.cps.toList[i]? = some c → EvT t ((wipe σ vs).set j (some (.str ⟨#[c]⟩))) H1 (f i)) (he : ∀ (i c : Nat) H1, Ex H H1 → z.cps.toList[i]? = some c → f i = true → Ev te ((wipe σ vs).set j (some (.str ⟨#[c]⟩))) H1 (v i)) :
    EvL (tLc (iStr tl) (gName j) t te vs) σ H (given z.length f v) := fun H0 e Q q => h H0 e _ fun H1 e1 =>
  ⟨z, rfl, fun Dl hD => lc_F (J := Its z) (n := z.length) f v (by omega) hD (fun i H2 hi e2 => hi) (fun H2 e2 => Nat.le_refl _)
    (fun i H2 x H' hi e2 y => by
      obtain ⟨rfl, c, hc, rfl⟩ := y
      have hc' : z.cps.toList[i]? = some c := by rw [Array.getElem?_toList]; exact hc
      exact ⟨_, Ex.refl _, hw _, fun Q2 q2 => q2 _ (Ex.refl _), ht i c H1 (e.trans e1) hc', he i c H1 (e.trans e1) hc'⟩)
    (fun H2 e2 h2 => q Dl H2 (fresh_back e1 hD) (e1.trans e2) h2)⟩
/-- a new list == [] -/
theorem ev_eqNil {K : PySem.W.Frag} {σ : L2.St} {H : Hp} {te : TE} {xs : List V} {ds : List PyData} (h : EvL te σ H xs) (hd : ∀ H', Ex H H' → DpAll K H' xs ds) (hs : SeqAt.shaped (.list ds) = true) : Ev (tOp (rEqD K) te (tLst tNil)) σ H (.bl ds.isEmpty) := fun H1 e Q q =>
  h H1 e _ fun p H2 n e2 h2 => ⟨(by show 0 ≤ sizeLine; decide), fun r hr => ⟨.list ds, .list [], .lst (sq_of (by rw [upd_ne (ne_of_none h2 hr)]; exact h2)) (hd _ ((e.trans e2).trans (Ex.new hr))), .lst (sq_of upd_same) .nil, hs, (by decide +kernel), by
    have : PyData.eqv (.list ds) (.list []) = ds.isEmpty := by
      cases ds with
      | nil => simp only [PyData.eqv, PyData.eqvAll, List.isEmpty]
      | cons d ds => simp only [PyData.eqv, PyData.eqvAll, List.isEmpty]
    rw [this]
    exact q _ (e2.trans (Ex.new hr))⟩⟩
theorem dp_strsY {K : PySem.W.Frag} {H : Hp} : ∀ zs : List Str, DpAll K H (zs.map V.str) (zs.map PyData.str)
  | [] => .nil
  | z :: zs => .cons (.str z) (dp_strsY zs)
theorem lay_strsY : ∀ {zs : List Str}, (∀ z ∈ zs, ∀ c ∈ z.cps.toList, c < 1114112) → PyData.canLayAll0 (zs.map PyData.str) = true
  | [], _ => by simp [PyData.canLayAll0]
  | z :: zs, h => by
    have h1 := lay_strsY (zs := zs) fun y hy => h y (List.mem_cons_of_mem _ hy)
    have h2 : PyData.strOk z = true := by
      unfold PyData.strOk
      rw [Array.all_eq_true']
      intro c hc
      exact decide_eq_true (h z (List.mem_cons_self ..) c (Array.mem_toList_iff.mpr hc))
    simp only [List.map_cons, PyData.canLayAll0, PyData.canLay0, h1, h2, Bool.and_self]
theorem depth_strsY : ∀ zs : List Str, PyData.depthAll (zs.map PyData.str) = 0
  | [] => by simp [PyData.depthAll]
  | z :: zs => by
    have := depth_strsY zs
    simp only [List.map_cons, PyData.depthAll, PyData.depth, this]
    decide
theorem shaped_strsY {zs : List Str} (h : ∀ z ∈ zs, ∀ c ∈ z.cps.toList, c < 1114112) : SeqAt.shaped (.list (zs.map PyData.str)) = true := by
  have h1 := lay_strsY h
  have h2 := depth_strsY zs
  show (PyData.canLay0 (.list _) && decide (PyData.depth (.list _) ≤ 64)) = true
  simp only [PyData.canLay0, PyData.depth, h1, h2]
  decide
def spWh (K : PySem.W.Frag) : Sp := fun vs H Q _ => ∃ (v : V) (n : String), vs = [v, .int 0, .int 60] ∧ Thing K H v n ∧ ∀ H', Ex H H' → Q (.bl (szB v)) H'
def okV (v : V) : Prop := ∀ z, v = .str z → ∀ c ∈ z.cps.toList, c < 1114112
def spNmL (K : PySem.W.Frag) : Sp := fun vs H Q _ => ∃ (v : V) (n : String), vs = [v] ∧ Thing K H v n ∧ okV v ∧ ∀ H', Ex H H' → Q (.bl (nmB v)) H'
def alpha : Str := "abcdefghijklmnopqrstuvwxyz"
theorem alpha_mem {c : Nat} : decide (c ∈ alpha.cps.toList) = (decide (97 ≤ c) && decide (c ≤ 122)) := by
  have h : alpha.cps.toList = (List.range 26).map (97 + ·) := by decide +kernel
  rw [h]
  by_cases z : 97 ≤ c ∧ c ≤ 122
  · rw [decide_eq_true z.1, decide_eq_true z.2]
    exact decide_eq_true (List.mem_map.mpr ⟨c - 97, List.mem_range.mpr (by omega), by omega⟩)
  · have n : ¬ c ∈ (List.range 26).map (97 + ·) := fun m => by
      obtain ⟨k, hk, e⟩ := List.mem_map.mp m
      have := List.mem_range.mp hk
      exact z (by omega)
    rw [decide_eq_false n]
    by_cases a : 97 ≤ c
    · rw [decide_eq_false (show ¬ c ≤ 122 from fun b => z ⟨a, b⟩), Bool.and_false]
    · rw [decide_eq_false a, Bool.false_and]
theorem isEmpty_not {α : Type} (p : α → Bool) : ∀ xs : List α, (xs.filter fun c => !p c).isEmpty = xs.all p
  | [] => rfl
  | x :: xs => by
    rw [List.filter_cons, List.all_cons]
    cases h : p x with
    | true => exact isEmpty_not p xs
    | false => rfl
section
variable {P : Program} {w : World} {K : PySem.W.Frag} {mg : Str → Option Value} {base : Heap}
theorem sc_law_whole : FnScope ["value", "least", "most"] ["value", "least", "most"] (defScope s_law_whole) := ⟨rfl, rfl, rfl, by decide +kernel, rfl, by decide +kernel, by decide +kernel⟩
theorem ok_law_whole (D : Def K mg "_law_whole" s_law_whole ["value", "least", "most"]) (T : Bl mg) : Good P w K mg base 1 "_law_whole" ["value", "least", "most"] (spWh K) := by
  refine D.good sc_law_whole (fun vs H Q E h => ?_) (fun f cdv A outer s H vs Q E hr h => ?_)
  · obtain ⟨v, n, rfl, _⟩ := h
    rfl
  · obtain ⟨v, n, rfl, hv, q⟩ := h
    have hu := hu_of hr
    refine ⟨_, (pss_one (ps_ret (pe_and (x_isi (K := K) "int" T (pv 0) T.int) (pe_and (pe_not (x_isi (K := K) "bool" T (pv 0) T.bool)) (pe_one (pe_chain op_le op_le (pv 1) (pv 0) (pv 2))))))), ?_⟩
    have go : ∀ {b1 b2 : Bool}, kitB n "int" = some b1 → kitB n "bool" = some b2 → (b1 = true → b2 = false → ∃ k, v = .int k) → (b1 && (!b2 && szB v)) = szB v → Ev (tAndV (tCB (rIsi K) (tCons (tVar 0) (tCons (tC (.ty "int")) tNil))) (tAndV (tNotV (tCB (rIsi K) (tCons (tVar 0) (tCons (tC (.ty "bool")) tNil)))) (tChain (rI0 fun i j => .bl (decide (i ≤ j))) (rI0 fun i j => .bl (decide (i ≤ j))) (tVar 1) (tVar 0) (tVar 2)))) [some v, some (.int 0), some (.int 60)] H (.bl (szB v)) := fun {b1 b2} h1 h2 h3 h4 => by
      refine Evl.ev_is (ev_andV (a := b1) (b := !b2 && szB v) (ev_isI rfl hv.ty h1) (fun hb => ev_andV (a := !b2) (b := szB v) (ev_notV (ev_isI rfl hv.ty h2)) (fun hb2 => ?_))) (congrArg V.bl h4)
      obtain ⟨k, rfl⟩ := h3 hb (by rw [Bool.not_eq_true'] at hb2; exact hb2)
      exact ev_chainB (x := .int 0) (y := .int k) (z := .int 60) (b1 := decide (0 ≤ k)) (b2 := decide (k ≤ 60)) (ev_var rfl) (ev_var rfl) (ev_var rfl) rv_I0 fun _ => rv_I0
    refine s_ret (v := .bl (szB v)) ?_ fun H1 e1 => q H1 e1
    cases hv with
    | non => exact go rfl rfl (fun z => nomatch z) rfl
    | bl b => exact go rfl rfl (fun _ z => nomatch z) rfl
    | int k => exact go (b1 := true) (b2 := false) rfl rfl (fun _ _ => ⟨k, rfl⟩) rfl
    | str => exact go rfl rfl (fun z => nomatch z) rfl
    | lst => exact go rfl rfl (fun z => nomatch z) rfl
    | tup => exact go rfl rfl (fun z => nomatch z) rfl
    | dict => exact go rfl rfl (fun z => nomatch z) rfl
theorem sc_law_is_name : FnScope ["value", "sign"] ["value"] (defScope s_law_is_name) := ⟨rfl, rfl, rfl, by decide +kernel, rfl, by decide +kernel, by decide +kernel⟩
theorem ok_law_is_name (D : Def K mg "_law_is_name" s_law_is_name ["value"]) (T : Bl mg) : Good P w K mg base 1 "_law_is_name" ["value"] (spNmL K) := by
  refine D.good sc_law_is_name (fun vs H Q E h => ?_) (fun f cdv A outer s H vs Q E hr h => ?_)
  · obtain ⟨v, n, rfl, _⟩ := h
    rfl
  · obtain ⟨v, n, rfl, hv, hok, q⟩ := h
    have hu := hu_of hr
    refine ⟨_, (pss_cons (ps_if (pw_or (pt_not (pt_val (x_isi (K := K) "str" T (pv 0) T.str))) (pw_or (pt_cmpR op_lt (pe_callB call_len_str (by rfl) T.len PySem.boot_len (pa_cons (pv 0) pa_nil)) pe_int (nomark _)) (pw_or1 (pt_cmpR op_gt (pe_callB call_len_str (by rfl) T.len PySem.boot_len (pa_cons (pv 0) pa_nil)) pe_int (nomark _))))).pt (pss_one (ps_ret pe_bl)) pss_nil)
      (pss_one (ps_ret (pe_cmpR (op_eqDK (K := K) rfl hr.units) (pe_lc (own := [("sign", 1)]) (g := (gName 1)) rfl sc_law_is_name.nd (pi_str (pv 0)) (blkOk_by (N := ["value", "sign"]) (sc := (defScope s_law_is_name)) (by decide +kernel)) (fun _ _ _ _ _ => (pg_name (i := 1) sc_law_is_name.nd rfl (Or.inl rfl))) (fun _ _ _ _ _ => pts_one (pt_cmpR op_notIn_sign (pv 1) pe_str (by rfl))) (fun _ _ _ _ _ => (pv 1))) (pe_lst pa_nil) (nomark _))))), ?_⟩
    have cs : (kitB n "str" = some false ∧ nmB v = false) ∨ ∃ z, v = .str z ∧ z.length < 40000 := by
      cases hv with
      | non => exact Or.inl ⟨rfl, rfl⟩
      | bl => exact Or.inl ⟨rfl, rfl⟩
      | int => exact Or.inl ⟨rfl, rfl⟩
      | lst => exact Or.inl ⟨rfl, rfl⟩
      | tup => exact Or.inl ⟨rfl, rfl⟩
      | dict => exact Or.inl ⟨rfl, rfl⟩
      | str z hz => exact Or.inr ⟨z, rfl, hz⟩
    rcases cs with ⟨h1, h2⟩ | ⟨z, rfl, hz⟩
    · refine s_if (b := true) (et_is (et_or (a := true) (b := true) (et_not (a := false) (et_B (ev_isI rfl hv.ty h1))) (fun z => nomatch z)) rfl) (fun _ H1 e1 => s_ret (v := .bl false) ev_c fun H2 e2 => ?_) (fun z => nomatch z)
      have := q H2 (e1.trans e2)
      rw [h2] at this
      exact this
    · have hc := hok z rfl
      refine s_if (b := decide ((z.length : Int) < 1) || decide ((z.length : Int) > 8)) (et_is (et_or (a := false) (et_not (a := true) (et_B (ev_isI rfl ty_str rfl))) (fun _ => et_or (a := decide ((z.length : Int) < 1)) (b := decide ((z.length : Int) > 8)) (et_test (ev_op (ev_lenS (fun H Q q => ?_) (ev_var rfl)) ev_c rv_I0)) (fun _ => et_test (ev_op (ev_lenS (fun H Q q => ?_) (ev_var rfl)) ev_c rv_I0)))) (by rw [Bool.false_or])) (fun hb H1 e1 => ?_) (fun hb H1 e1 => ?_)
      · exact ⟨z, rfl, sz_of (by omega), q⟩
      · exact ⟨z, rfl, sz_of (by omega), q⟩
      · refine s_ret (v := .bl false) ev_c fun H2 e2 => ?_
        have := q H2 (e1.trans e2)
        have z2 : nmB (.str z) = false := by
          show nameS z = false
          unfold nameS
          rw [Bool.or_eq_true] at hb
          rcases hb with hb | hb
          · rw [decide_eq_false (show ¬ 1 ≤ z.length by have := of_decide_eq_true hb; omega)]
            rfl
          · rw [decide_eq_false (show ¬ z.length ≤ 8 by have := of_decide_eq_true hb; omega), Bool.and_false]
            rfl
        rw [z2] at this
        exact this
      · rw [Bool.or_eq_false_iff] at hb
        have l1 : 1 ≤ z.length := by have := of_decide_eq_false hb.1; omega
        have l8 : z.length ≤ 8 := by have := of_decide_eq_false hb.2; omega
        have gl : given z.length (fun i => !(decide (97 ≤ z.cps.toList.getD i 97) && decide (z.cps.toList.getD i 97 ≤ 122))) (fun i => V.str ⟨#[z.cps.toList.getD i 97]⟩) = ((z.cps.toList.filter fun c => !(decide (97 ≤ c) && decide (c ≤ 122))).map fun c => (⟨#[c]⟩ : Str)).map V.str := by
          have l : z.length = z.cps.toList.length := by rw [Array.length_toList]; rfl
          rw [l, given_list z.cps.toList 97 (fun c => !(decide (97 ≤ c) && decide (c ≤ 122))) (fun c => V.str ⟨#[c]⟩), List.map_map]
          rfl
        have hl : EvL (tLc (iStr (tVar 0)) (gName 1) (tTest (tOp (fun x y H Q => ∃ (c : Nat) (z : Str), x = V.str ⟨#[c]⟩ ∧ y = .str z ∧ Q (.bl (!decide (c ∈ z.cps.toList))) H) (tVar 1) (tC (.str alpha)))) (tVar 1) [1]) [some (.str z), none] H1 (((z.cps.toList.filter fun c => !(decide (97 ≤ c) && decide (c ≤ 122))).map fun c => (⟨#[c]⟩ : Str)).map V.str) := by
          rw [← gl]
          refine el_lcSf _ _ (ev_var rfl) hz (fun _ => rfl) (fun i c H2 e2 hi => ?_) (fun i c H2 e2 hi hf => ?_)
          · have gi : z.cps.toList.getD i 97 = c := by rw [List.getD_eq_getElem?_getD, hi]; rfl
            rw [gi, ← alpha_mem]
            exact et_test (ev_op (ev_var rfl) ev_c (fun H3 e3 Q3 q3 => ⟨c, alpha, rfl, rfl, q3 H3 (Ex.refl _)⟩))
          · have gi : z.cps.toList.getD i 97 = c := by rw [List.getD_eq_getElem?_getD, hi]; rfl
            rw [gi]
            exact ev_var rfl
        refine s_ret (v := .bl (nmB (.str z))) (Evl.ev_is (ev_eqNil (K := K) hl (fun H' e' => dp_strsY _) (shaped_strsY fun y hy c hcm => ?_)) ?_) fun H2 e2 => q H2 (e1.trans e2)
        · obtain ⟨a, ha, rfl⟩ := List.mem_map.mp hy
          have : c = a := by simpa using hcm
          rw [this]
          exact hc a (List.mem_filter.mp ha).1
        · congr 1
          show _ = nameS z
          unfold nameS
          rw [decide_eq_true l1, decide_eq_true l8, List.map_map, List.isEmpty_map]
          show _ = (z.cps.toList.all fun c => decide (97 ≤ c) && decide (c ≤ 122))
          exact isEmpty_not _ _
end
end Vx

set_option Elab.async false
set_option linter.all false
set_option maxRecDepth 100000
set_option maxHeartbeats 4000000
namespace Vx
open PySem PySem.Spec PyProof.Rows L2
/-! repr of logs -/
def vD : V → PyData
  | .str x => .str x
  | .int i => .int i
  | _ => .none
def flat2 : V → Prop
  | .str _ => True
  | .int _ => True
  | _ => False
def En.data (e : En) : PyData := .tuple (e.vs.map vD)
def logD (es : List En) : PyData := .list (es.map En.data)
def rowD (x : Str × List En) : PyData × PyData := (.str x.1, logD x.2)
def rowsD (ws : List Str) (L : List (List En)) : PyData := .dict ((ws.zip L).map rowD)
section
variable {X : Cx} {pins : List (Addr × Obj)} {σ : L2.St} {H : Hp} {s : Shared}
theorem reads_flat {h : Heap} : ∀ {vs : List V} {us : List Value}, Vals vs us → (∀ v ∈ vs, flat2 v) → ReadsAll h us (vs.map vD) []
  | _, _, .nil, _ => .nil
  | v :: vs, u :: us, .cons r t, f => by
    have hv := f v (List.mem_cons_self ..)
    have ht := reads_flat (h := h) t fun w hw => f w (List.mem_cons_of_mem _ hw)
    cases v with
    | str x =>
      obtain ⟨k, rfl⟩ := r
      exact ReadsAll.cons (as := []) (.str x k) ht
    | int i =>
      obtain ⟨k, rfl⟩ := r
      exact ReadsAll.cons (as := []) (.int i k) ht
    | _ => exact hv.elim
theorem En.flat (e : En) : ∀ v ∈ e.vs, flat2 v := by
  cases e <;> (intro v hv; simp only [En.vs, List.mem_cons, List.mem_nil_iff, or_false] at hv)
  · rcases hv with rfl | rfl <;> trivial
  · rcases hv with rfl | rfl <;> trivial
  · rcases hv with rfl | rfl <;> trivial
  · rcases hv with rfl | rfl | rfl <;> trivial
theorem reads_en (I : L2.Inv X pins σ H s) {a : Addr} {e : En} (h : H a = some (.tup e.vs)) : Reads s.heap (.ref a) e.data [] := by
  obtain ⟨its, r, ⟨o, g1, g2, n, g3⟩, _⟩ := I.tuple (X := X) (Or.inl (Or.inl h))
  exact Reads.tuple g1 g2 g3 (by simpa using reads_flat r e.flat)
theorem reads_ens (I : L2.Inv X pins σ H s) : ∀ {as : List Addr} {es : List En}, Paired (fun a t => H a = some (.tup t)) as (es.map En.vs) → ReadsAll s.heap (as.map Value.ref) (es.map En.data) []
  | [], [], _ => .nil
  | a :: as, e :: es, .cons h t => ReadsAll.cons (as := []) (reads_en I h) (reads_ens I t)
theorem reads_log (I : L2.Inv X pins σ H s) {p : Addr} {es : List En} (h : TL H p (es.map En.vs)) : Reads s.heap (.ref p) (logD es) [p] := by
  obtain ⟨as, h1, h2⟩ := h
  obtain ⟨its, n, r, g, _⟩ := I.lst h1
  have e := refs_at r
  subst e
  exact Reads.list g rfl rfl (by simpa using reads_ens I h2)
theorem reads_rows (I : L2.Inv X pins σ H s) : ∀ {ws : List Str} {ps : List Addr} {L : List (List En)} {vs : List (Key × Value)} {es : List DictEntry}, ps.length = ws.length → L.length = ws.length → KV (Dk ws ps) vs → Pairs (mixKind X.prog X.w) es vs →
      (∀ (i : Nat) p e, ps[i]? = some p → L[i]? = some e → TL H p (e.map En.vs)) → ReadsAll s.heap (es.map (·.key)) (((ws.zip L).map rowD).map (·.1)) [] ∧ ReadsAll s.heap (es.map (·.val)) (((ws.zip L).map rowD).map (·.2)) ps
  | [], [], [], vs, es, _, _, kv, pr, _ => by
    cases kv
    cases pr
    exact ⟨.nil, .nil⟩
  | w :: ws, p :: ps, e :: L, vs, es, h1, h2, kv, pr, lg => by
    cases kv with
    | @cons _ q _ qs k t =>
      cases pr with
      | @cons en _ es _ ks vv pr =>
        obtain ⟨k1, k2⟩ := k
        obtain ⟨r1, r2⟩ := reads_rows I (ws := ws) (ps := ps) (L := L) (by simpa using h1) (by simpa using h2) t pr fun i p e a b => lg (i + 1) p e (by simpa using a) (by simpa using b)
        have hk : keyIs q.1 en.key = true := ks
        have k1' : (Sum.inr w : Key) = q.1 := k1
        rw [← k1'] at hk
        rcases keyIs_shape hk with ⟨i, t2, z, _⟩ | ⟨x, t2, z, hx⟩
        · cases z
        · have z2 : w = x := Sum.inr.inj z
          subst z2
          have hv : en.val = .ref p := vv.trans k2
          refine ⟨?_, ?_⟩
          · show ReadsAll s.heap (en.key :: es.map (·.key)) (PyData.str w :: ((ws.zip L).map rowD).map (·.1)) []
            rw [hx]
            exact ReadsAll.cons (as := []) (.str w t2) r1
          · show ReadsAll s.heap (en.val :: es.map (·.val)) (logD e :: ((ws.zip L).map rowD).map (·.2)) (p :: ps)
            rw [hv]
            exact ReadsAll.cons (as := [p]) (reads_log I (lg 0 p e rfl rfl)) r2
theorem reads_dict (I : L2.Inv X pins σ H s) {d : Addr} {ws : List Str} {ps : List Addr} {L : List (List En)} (hl : HL H d ws ps L) (ll : L.length = ws.length) : Reads s.heap (.ref d) (rowsD ws L) (d :: ps) := by
  obtain ⟨_, _, vs, kv, o, es, ep, g1, g2, g3, _, pr, _⟩ := dk_rd I.hok (Or.inl hl.dk)
  obtain ⟨r1, r2⟩ := reads_rows I hl.pl ll kv pr hl.lg
  exact Reads.dict (as := []) g1 g2.1 g3 r1 r2
end
theorem sign_strs {x : Str} (h : IsNm x) : (x.cps.toList.all fun c => decide (c < 16 ^ 8)) = true := by
  rw [List.all_eq_true]
  intro c hc
  have := (h.2.2 c hc).2
  simp only [decide_eq_true_eq]
  omega
theorem kw_nms : ∀ z ∈ (["push", "pop", "size", "steal"] : List Str), 1 ≤ z.length ∧ z.length ≤ 8 ∧ ∀ c ∈ z.cps.toList, 97 ≤ c ∧ c ≤ 122 := by decide +kernel
theorem nmP : IsNm "push" := kw_nms _ (by simp)
theorem nmO : IsNm "pop" := kw_nms _ (by simp)
theorem nmS : IsNm "size" := kw_nms _ (by simp)
theorem nmT : IsNm "steal" := kw_nms _ (by simp)
structure Small (d : PyData) (dp wt : Nat) : Prop where
  sh : d.showable = true
  sl : PyData.leavesShort 13 d = true
  dp : d.depth ≤ dp
  wt : d.weight ≤ wt
structure SmallAll (ds : List PyData) (dp wt : Nat) : Prop where
  sh : PyData.showableAll ds = true
  sl : PyData.leavesShortAll 13 ds = true
  dp : PyData.depthAll ds ≤ dp
  wt : PyData.weightAll ds ≤ wt
theorem small_str {x : Str} (h : IsNm x) : Small (.str x) 0 8 := ⟨by simp only [PyData.showable], by simp only [PyData.leavesShort]; exact sign_strs h, by simp only [PyData.depth]; exact Nat.le_refl _, by simp only [PyData.weight]; exact h.2.1⟩
theorem small_int {i : Int} (h0 : 0 ≤ i) (h1 : i ≤ 60) : Small (.int i) 0 8 := by
  have hl : i.natAbs.log2 ≤ 5 := by
    have := PySem.Flt.log2_lt_of (by decide : 0 < 6) (show i.natAbs < 2 ^ 6 by omega)
    omega
  refine ⟨by simp only [PyData.showable, decide_eq_true_eq]; omega, by simp only [PyData.leavesShort, decide_eq_true_eq]; exact PyData.shown_int_le (by omega), by simp only [PyData.depth]; exact Nat.le_refl _, ?_⟩
  simp only [PyData.weight]
  split <;> omega
theorem small_nil : SmallAll [] 0 0 := ⟨rfl, rfl, Nat.le_refl _, Nat.le_refl _⟩
theorem small_cons {x : PyData} {xs : List PyData} {dp w1 w2 : Nat} (h : Small x dp w1) (t : SmallAll xs dp w2) : SmallAll (x :: xs) dp (w1 + 1 + w2) :=
  ⟨by simp only [PyData.showableAll, h.sh, t.sh, Bool.and_self], by simp only [PyData.leavesShortAll, h.sl, t.sl, Bool.and_self], by simp only [PyData.depthAll]; exact Nat.max_le.mpr ⟨h.dp, t.dp⟩, by simp only [PyData.weightAll]; have := h.wt; have := t.wt; omega⟩
theorem SmallAll.tuple {xs : List PyData} {dp wt : Nat} (h : SmallAll xs dp wt) : Small (.tuple xs) (dp + 1) wt :=
  ⟨by simp only [PyData.showable]; exact h.sh, by simp only [PyData.leavesShort]; exact h.sl, by simp only [PyData.depth]; have := h.dp; omega, by simp only [PyData.weight]; exact h.wt⟩
theorem SmallAll.list {xs : List PyData} {dp wt : Nat} (h : SmallAll xs dp wt) : Small (.list xs) (dp + 1) wt :=
  ⟨by simp only [PyData.showable]; exact h.sh, by simp only [PyData.leavesShort]; exact h.sl, by simp only [PyData.depth]; have := h.dp; omega, by simp only [PyData.weight]; exact h.wt⟩
theorem SmallAll.le {xs : List PyData} {d1 d2 w1 w2 : Nat} (h : SmallAll xs d1 w1) (a : d1 ≤ d2) (b : w1 ≤ w2) : SmallAll xs d2 w2 := ⟨h.sh, h.sl, Nat.le_trans h.dp a, Nat.le_trans h.wt b⟩
theorem Small.le {x : PyData} {d1 d2 w1 w2 : Nat} (h : Small x d1 w1) (a : d1 ≤ d2) (b : w1 ≤ w2) : Small x d2 w2 := ⟨h.sh, h.sl, Nat.le_trans h.dp a, Nat.le_trans h.wt b⟩
theorem small_en {e : En} (h : e.ok) : Small e.data 1 30 := by
  cases e with
  | push x => exact (small_cons (small_str nmP) (small_cons (small_str (show IsNm x from h)) small_nil)).tuple.le (Nat.le_refl _) (by decide)
  | pop x => exact (small_cons (small_str nmO) (small_cons (small_str (show IsNm x from h)) small_nil)).tuple.le (Nat.le_refl _) (by decide)
  | size k => exact (small_cons (small_str nmS) (small_cons (small_int h.1 h.2) small_nil)).tuple.le (Nat.le_refl _) (by decide)
  | steal o x => exact (small_cons (small_str nmT) (small_cons (small_str h.1) (small_cons (small_str h.2) small_nil))).tuple.le (Nat.le_refl _) (by decide)
theorem small_ens : ∀ {es : List En}, (∀ e ∈ es, e.ok) → SmallAll (es.map En.data) 1 (31 * es.length)
  | [], _ => small_nil.le (by decide) (by decide)
  | e :: es, h => (small_cons (small_en (h e (List.mem_cons_self ..))) (small_ens fun x hx => h x (List.mem_cons_of_mem _ hx))).le (Nat.le_refl _) (by rw [List.length_cons]; omega)
theorem small_rows : ∀ {ws : List Str} {L : List (List En)}, (∀ x ∈ ws, IsNm x) → (∀ es ∈ L, es.length ≤ 60 ∧ ∀ e ∈ es, e.ok) → ws.length ≤ 6 →
    PyData.showableKv ((ws.zip L).map rowD) = true ∧ PyData.leavesShortKv 13 ((ws.zip L).map rowD) = true ∧ PyData.depthKv ((ws.zip L).map rowD) ≤ 2 ∧ PyData.weightKv ((ws.zip L).map rowD) ≤ 2000 * ws.length
  | [], L, _, _, _ => ⟨rfl, rfl, by show 0 ≤ 2; omega, by show 0 ≤ _; omega⟩
  | w :: ws, [], _, _, _ => ⟨rfl, rfl, by show 0 ≤ 2; omega, by show 0 ≤ _; omega⟩
  | w :: ws, es :: L, hw, hL, hl => by
    obtain ⟨a1, a2, a3, a4⟩ := small_rows (ws := ws) (L := L) (fun x hx => hw x (List.mem_cons_of_mem _ hx)) (fun e he => hL e (List.mem_cons_of_mem _ he)) (by rw [List.length_cons] at hl; omega)
    have k := small_str (hw w (List.mem_cons_self ..))
    have oe := hL es (List.mem_cons_self ..)
    have v : Small (logD es) 2 (31 * es.length) := (small_ens oe.2).list
    have e1 : (w :: ws).zip (es :: L) = (w, es) :: ws.zip L := rfl
    rw [e1, List.map_cons]
    show PyData.showableKv ((.str w, logD es) :: _) = true ∧ PyData.leavesShortKv 13 ((.str w, logD es) :: _) = true ∧ PyData.depthKv ((.str w, logD es) :: _) ≤ 2 ∧ PyData.weightKv ((.str w, logD es) :: _) ≤ _
    refine ⟨by simp only [PyData.showableKv, k.sh, v.sh, a1, Bool.and_self], by simp only [PyData.leavesShortKv, k.sl, v.sl, a2, Bool.and_self], ?_, ?_⟩
    · simp only [PyData.depthKv]
      have := k.dp
      have := v.dp
      omega
    · simp only [PyData.weightKv]
      have := k.wt
      have := v.wt
      have := oe.1
      rw [List.length_cons]
      omega
/-- repr(rows) of logs -/
def rReprL (K : PySem.W.Frag) : List V → Hp → VK → Prop := fun xs H Q => ∃ (d : Addr) (ws : List Str) (ps : List Addr) (L : List (List En)), xs = [.ref d] ∧ HL H d ws ps L ∧ Vlog 60 ws L ∧ Q (.str (rowsD ws L).shown) H
theorem call_reprL {X : Cx} {K : PySem.W.Frag} (hK : X.K = K) (quiet : X.A.guards = some []) (room : X.A.units + 64 < cLine) (hs : ∃ o, X.base.get? sysModules = some o) : CallR X (.builtin "repr") (rReprL K) := by
  intro pins s σ H xs us Q I r h
  obtain ⟨d, ws, ps, L, rfl, hl, v, q⟩ := h
  obtain ⟨u, rfl, ru⟩ := vals1 r
  cases ru
  obtain ⟨o, ho⟩ := hs
  have off : H sysModules = none := (I.bs _ _ ho).2
  obtain ⟨a1, a2, a3, a4⟩ := small_rows v.wk.2.2.2 v.ent v.wk.2.1
  have wl := v.wk.2.1
  have rd := reads_dict I hl v.len
  refine repr_of_reads' (h₀ := s.heap) rd (by simp only [rowsD, PyData.showable]; exact a1) (fun _ hm => ?_) quiet (by simp only [rowsD, PyData.depth]; omega) (fun _ _ e => e) (fun h2 t tk kp => ⟨.str (rowsD ws L).shown, H, I.kept kp, ⟨t, rfl⟩, q⟩)
    (PyData.shown_fits (B := 13) (by decide) (by decide) (by simp only [rowsD, PyData.leavesShort]; exact a2) (by simp only [rowsD, PyData.weight]; omega))
  rcases List.mem_cons.mp hm with e | hm
  · have := hl.dk
    rw [← e, off] at this
    cases this
  · obtain ⟨i, hi⟩ := List.mem_iff_getElem?.mp hm
    have hiL : i < L.length := by rw [v.len, ← hl.pl]; exact (List.getElem?_eq_some_iff.mp hi).1
    obtain ⟨as, g1, _⟩ := hl.lg i _ _ hi (List.getElem?_eq_getElem hiL)
    rw [off] at g1
    cases g1
end Vx

set_option Elab.async false
set_option linter.all false
set_option maxRecDepth 100000
set_option maxHeartbeats 4000000
namespace Vx
open PySem PySem.Spec PyProof.Rows L2 Evl
/-! plain data at any depth, as values -/
def keyD : Key → PyData
  | .inl i => .int i
  | .inr z => .str z
def zipD (kvs : List (Key × V)) (ds : List PyData) : List (PyData × PyData) := (kvs.map fun kv => keyD kv.1).zip ds
mutual
inductive Dz (H : Hp) : V → PyData → List Addr → Prop
  | non : Dz H .non .none []
  | bl (b : Bool) : Dz H (.bl b) (.bool b) []
  | int (i : Int) : Dz H (.int i) (.int i) []
  | str (z : Str) : Dz H (.str z) (.str z) []
  | lst {p : Addr} {vs : List V} {ds : List PyData} {as : List Addr} : H p = some (.lst vs) → DzA H vs ds as → Dz H (.ref p) (.list ds) (p :: as)
  | tup {p : Addr} {vs : List V} {ds : List PyData} {as : List Addr} : H p = some (.tup vs) → DzA H vs ds as → Dz H (.ref p) (.tuple ds) as
  | dict {p : Addr} {kvs : List (Key × V)} {ds : List PyData} {as : List Addr} : H p = some (.dK kvs) → (kvs.map (·.1)).Nodup → DzA H (kvs.map (·.2)) ds as → Dz H (.ref p) (.dict (zipD kvs ds)) (p :: as)
inductive DzA (H : Hp) : List V → List PyData → List Addr → Prop
  | nil : DzA H [] [] []
  | cons {v : V} {vs : List V} {d : PyData} {ds : List PyData} {as bs : List Addr} : Dz H v d as → DzA H vs ds bs → DzA H (v :: vs) (d :: ds) (as ++ bs)
end
mutual
theorem Dz.ex {H H' : Hp} (e : Ex H H') : ∀ {v : V} {d : PyData} {as : List Addr}, Dz H v d as → Dz H' v d as
  | _, _, _, .non => .non
  | _, _, _, .bl b => .bl b
  | _, _, _, .int b => .int b
  | _, _, _, .str b => .str b
  | _, _, _, .lst h t => .lst (e _ _ h) (DzA.ex e t)
  | _, _, _, .tup h t => .tup (e _ _ h) (DzA.ex e t)
  | _, _, _, .dict h n t => .dict (e _ _ h) n (DzA.ex e t)
theorem DzA.ex {H H' : Hp} (e : Ex H H') : ∀ {vs : List V} {ds : List PyData} {as : List Addr}, DzA H vs ds as → DzA H' vs ds as
  | _, _, _, .nil => .nil
  | _, _, _, .cons a t => .cons (Dz.ex e a) (DzA.ex e t)
end
mutual
theorem Dz.at {H : Hp} : ∀ {v : V} {d : PyData} {as : List Addr}, Dz H v d as → ∀ a ∈ as, H a ≠ none
  | _, _, _, .non => fun _ z => nomatch z
  | _, _, _, .bl b => fun _ z => nomatch z
  | _, _, _, .int b => fun _ z => nomatch z
  | _, _, _, .str b => fun _ z => nomatch z
  | _, _, _, .lst h t => fun a ha => by
    rcases List.mem_cons.mp ha with rfl | ha
    · rw [h]; exact fun z => by cases z
    · exact DzA.at t a ha
  | _, _, _, .tup h t => fun a ha => DzA.at t a ha
  | _, _, _, .dict h n t => fun a ha => by
    rcases List.mem_cons.mp ha with rfl | ha
    · rw [h]; exact fun z => by cases z
    · exact DzA.at t a ha
theorem DzA.at {H : Hp} : ∀ {vs : List V} {ds : List PyData} {as : List Addr}, DzA H vs ds as → ∀ a ∈ as, H a ≠ none
  | _, _, _, .nil => fun _ z => nomatch z
  | _, _, _, .cons a t => fun b hb => by
    rcases List.mem_append.mp hb with hb | hb
    · exact Dz.at a b hb
    · exact DzA.at t b hb
end
theorem DzA.len {H : Hp} : ∀ {vs : List V} {ds : List PyData} {as : List Addr}, DzA H vs ds as → vs.length = ds.length
  | _, _, _, .nil => rfl
  | _, _, _, .cons _ t => by rw [List.length_cons, List.length_cons, t.len]
theorem DzA.get {H : Hp} : ∀ {vs : List V} {ds : List PyData} {as : List Addr}, DzA H vs ds as → ∀ {i : Nat} {v : V}, vs[i]? = some v → ∃ d bs, ds[i]? = some d ∧ Dz H v d bs
  | _, _, _, .nil, i, v, h => by simp at h
  | _, _, _, .cons a t, 0, v, h => by
    have e := Option.some.inj h
    subst e
    exact ⟨_, _, rfl, a⟩
  | _, _, _, .cons a t, i + 1, v, h => t.get (i := i) h
theorem DzA.of {H : Hp} : ∀ {vs : List V} {ds : List PyData}, vs.length = ds.length → (∀ (i : Nat) v d, vs[i]? = some v → ds[i]? = some d → ∃ as, Dz H v d as) → ∃ as, DzA H vs ds as
  | [], [], _, _ => ⟨[], .nil⟩
  | [], _ :: _, h, _ => by cases h
  | _ :: _, [], h, _ => by cases h
  | v :: vs, d :: ds, h, f => by
    obtain ⟨a, ha⟩ := f 0 v d rfl rfl
    obtain ⟨b, hb⟩ := DzA.of (vs := vs) (ds := ds) (by simpa using h) fun i x y h1 h2 => f (i + 1) x y h1 h2
    exact ⟨_, .cons ha hb⟩
theorem DzA.app {H : Hp} : ∀ {vs ws : List V} {ds es : List PyData} {as bs : List Addr}, DzA H vs ds as → DzA H ws es bs → ∃ cs, DzA H (vs ++ ws) (ds ++ es) cs
  | _, _, _, _, _, _, .nil, h => ⟨_, h⟩
  | _, _, _, _, _, _, .cons a t, h => by
    obtain ⟨c, hc⟩ := t.app h
    exact ⟨_, .cons a hc⟩
section
variable {X : Cx} {pins : List (Addr × Obj)} {σ : L2.St} {H : Hp} {s : Shared}
theorem kv_reads : ∀ {kvs : List (Key × V)} {vs : List (Key × Value)} {es : List DictEntry}, KV kvs vs → Pairs (mixKind X.prog X.w) es vs →
      ReadsAll s.heap (es.map (·.key)) (kvs.map fun kv => keyD kv.1) [] ∧ L2.Vals (kvs.map (·.2)) (es.map (·.val))
  | [], vs, es, kv, pr => by
    cases kv
    cases pr
    exact ⟨.nil, .nil⟩
  | kv0 :: kvs, vs, es, kv, pr => by
    cases kv with
    | @cons _ q _ qs k t =>
      cases pr with
      | @cons en _ es _ ks vv pr =>
        obtain ⟨k1, k2⟩ := k
        obtain ⟨r1, r2⟩ := kv_reads t pr
        have hk : keyIs q.1 en.key = true := ks
        rw [← k1] at hk
        refine ⟨?_, .cons (show L2.RelV kv0.2 en.val by rw [vv]; exact k2) r2⟩
        rcases keyIs_shape hk with ⟨i, t2, z, hx⟩ | ⟨x, t2, z, hx⟩
        · show ReadsAll s.heap (en.key :: es.map (·.key)) (keyD kv0.1 :: _) []
          rw [hx, z]
          exact ReadsAll.cons (as := []) (.int i t2) r1
        · show ReadsAll s.heap (en.key :: es.map (·.key)) (keyD kv0.1 :: _) []
          rw [hx, z]
          exact ReadsAll.cons (as := []) (.str x t2) r1
mutual
theorem reads_z (I : L2.Inv X pins σ H s) : ∀ {x : V} {d : PyData} {as : List Addr} {u : Value}, Dz H x d as → RelV x u → Reads s.heap u d as
  | _, _, _, u, .non, r => by
    cases (show u = Value.none from r)
    exact .none
  | _, _, _, u, .bl b, r => by
    cases (show u = Value.bool b from r)
    exact .bool b
  | _, _, _, u, .int i, r => by
    obtain ⟨k, rfl⟩ := r
    exact .int i k
  | _, _, _, u, .str z, r => by
    obtain ⟨k, rfl⟩ := r
    exact .str z k
  | _, _, _, u, .lst (p := p) h t, r => by
    cases (show u = Value.ref p from r)
    obtain ⟨its, m, rv, g, _⟩ := I.lst h
    exact Reads.list g rfl rfl (by simpa using reads_za I t rv)
  | _, _, _, u, .tup (p := p) h t, r => by
    cases (show u = Value.ref p from r)
    obtain ⟨its, rv, ⟨o, g1, g2, m, g3⟩, _⟩ := I.tuple (X := X) (Or.inl (Or.inl h))
    exact Reads.tuple g1 g2 g3 (by simpa using reads_za I t rv)
  | _, _, _, u, .dict (p := p) (kvs := kvs) (ds := ds) h n t, r => by
    cases (show u = Value.ref p from r)
    obtain ⟨_, _, vs, kv, o, es, ep, g1, g2, g3, _, pr, _⟩ := dk_rd I.hok (Or.inl h)
    obtain ⟨r1, r2⟩ := kv_reads (X := X) (s := s) kv pr
    have l : kvs.length = ds.length := by rw [← t.len, List.length_map]
    have e1 : (zipD kvs ds).map (·.1) = kvs.map fun kv => keyD kv.1 := by
      unfold zipD
      rw [List.map_fst_zip]
      rw [List.length_map]
      omega
    have e2 : (zipD kvs ds).map (·.2) = ds := by
      unfold zipD
      rw [List.map_snd_zip]
      rw [List.length_map]
      omega
    exact Reads.dict (as := []) g1 g2.1 g3 (by rw [e1]; exact r1) (by rw [e2]; exact reads_za I t r2)
theorem reads_za (I : L2.Inv X pins σ H s) : ∀ {vs : List V} {ds : List PyData} {as : List Addr} {us : List Value}, DzA H vs ds as → L2.Vals vs us → ReadsAll s.heap us ds as
  | _, _, _, _, .nil, .nil => .nil
  | _, _, _, _, .cons a t, .cons r q => ReadsAll.cons (reads_z I a r) (reads_za I t q)
end
end
/-! sizes -/
structure Sz (d : PyData) (dp wt : Nat) : Prop where
  sh : d.showable = true
  sl : PyData.leavesShort 70 d = true
  dp : d.depth ≤ dp
  wt : d.weight ≤ wt
structure SzA (ds : List PyData) (dp wt : Nat) : Prop where
  sh : PyData.showableAll ds = true
  sl : PyData.leavesShortAll 70 ds = true
  dp : PyData.depthAll ds ≤ dp
  wt : PyData.weightAll ds ≤ wt
theorem Sz.le {x : PyData} {d1 d2 w1 w2 : Nat} (h : Sz x d1 w1) (a : d1 ≤ d2) (b : w1 ≤ w2) : Sz x d2 w2 := ⟨h.sh, h.sl, Nat.le_trans h.dp a, Nat.le_trans h.wt b⟩
theorem SzA.le {x : List PyData} {d1 d2 w1 w2 : Nat} (h : SzA x d1 w1) (a : d1 ≤ d2) (b : w1 ≤ w2) : SzA x d2 w2 := ⟨h.sh, h.sl, Nat.le_trans h.dp a, Nat.le_trans h.wt b⟩
theorem sz_non : Sz .none 0 0 := ⟨rfl, rfl, Nat.le_refl _, Nat.le_refl _⟩
theorem sz_bl (b : Bool) : Sz (.bool b) 0 0 := ⟨rfl, rfl, Nat.le_refl _, Nat.le_refl _⟩
theorem sz_int {i : Int} (h : i.natAbs < 10 ^ 60) : Sz (.int i) 0 200 := by
  have hl : i.natAbs.log2 < 200 := by
    have h2 : i.natAbs < 2 ^ 200 := Nat.lt_of_lt_of_le h (by decide)
    exact PySem.Flt.log2_lt_of (by decide) h2
  refine ⟨by simp only [PyData.showable, decide_eq_true_eq]; omega, ?_, by simp only [PyData.depth]; exact Nat.le_refl _, ?_⟩
  · simp only [PyData.leavesShort, decide_eq_true_eq]
    have e := int_text_length_le10 (k := 60) (by decide) h
    show (Str.ofString (toString i)).length ≤ 70
    rw [PySem.ofString_length]
    omega
  · simp only [PyData.weight]
    split <;> omega
theorem sz_str {z : Str} {n : Nat} (hc : ∀ c ∈ z.cps.toList, c < 16 ^ 8) (hl : z.length ≤ n) : Sz (.str z) 0 n := ⟨by simp only [PyData.showable], by simp only [PyData.leavesShort, List.all_eq_true, decide_eq_true_eq]; exact hc, by simp only [PyData.depth]; exact Nat.le_refl _, by simp only [PyData.weight]; exact hl⟩
theorem sz_nm {z : Str} (h : IsNm z) : Sz (.str z) 0 8 := sz_str (fun c hc => by have := (h.2.2 c hc).2; omega) h.2.1
theorem sza_nil : SzA [] 0 0 := ⟨rfl, rfl, Nat.le_refl _, Nat.le_refl _⟩
theorem sza_cons {x : PyData} {xs : List PyData} {dp w1 w2 : Nat} (h : Sz x dp w1) (t : SzA xs dp w2) : SzA (x :: xs) dp (w1 + 1 + w2) :=
  ⟨by simp only [PyData.showableAll, h.sh, t.sh, Bool.and_self], by simp only [PyData.leavesShortAll, h.sl, t.sl, Bool.and_self], by simp only [PyData.depthAll]; exact Nat.max_le.mpr ⟨h.dp, t.dp⟩, by simp only [PyData.weightAll]; have := h.wt; have := t.wt; omega⟩
theorem SzA.tuple {xs : List PyData} {dp wt : Nat} (h : SzA xs dp wt) : Sz (.tuple xs) (dp + 1) wt :=
  ⟨by simp only [PyData.showable]; exact h.sh, by simp only [PyData.leavesShort]; exact h.sl, by simp only [PyData.depth]; have := h.dp; omega, by simp only [PyData.weight]; exact h.wt⟩
theorem SzA.list {xs : List PyData} {dp wt : Nat} (h : SzA xs dp wt) : Sz (.list xs) (dp + 1) wt :=
  ⟨by simp only [PyData.showable]; exact h.sh, by simp only [PyData.leavesShort]; exact h.sl, by simp only [PyData.depth]; have := h.dp; omega, by simp only [PyData.weight]; exact h.wt⟩
theorem sza_all {dp w : Nat} : ∀ {xs : List PyData}, (∀ x ∈ xs, Sz x dp w) → SzA xs dp ((w + 1) * xs.length)
  | [], _ => sza_nil.le (Nat.zero_le _) (Nat.zero_le _)
  | x :: xs, h => (sza_cons (h x (List.mem_cons_self ..)) (sza_all fun y hy => h y (List.mem_cons_of_mem _ hy))).le (Nat.le_refl _) (by rw [List.length_cons, Nat.mul_succ]; omega)
theorem sz_kv {dp w : Nat} : ∀ {kds : List (PyData × PyData)}, (∀ kd ∈ kds, Sz kd.1 dp w ∧ Sz kd.2 dp w) → PyData.showableKv kds = true ∧ PyData.leavesShortKv 70 kds = true ∧ PyData.depthKv kds ≤ dp ∧ PyData.weightKv kds ≤ (2 * w + 2) * kds.length
  | [], _ => ⟨rfl, rfl, Nat.zero_le _, Nat.zero_le _⟩
  | (k, d) :: kds, h => by
    obtain ⟨a1, a2, a3, a4⟩ := sz_kv (kds := kds) fun x hx => h x (List.mem_cons_of_mem _ hx)
    obtain ⟨hk, hd⟩ := h (k, d) (List.mem_cons_self ..)
    have hk : Sz k dp w := hk
    have hd : Sz d dp w := hd
    refine ⟨by simp only [PyData.showableKv, hk.sh, hd.sh, a1, Bool.and_self], by simp only [PyData.leavesShortKv, hk.sl, hd.sl, a2, Bool.and_self], ?_, ?_⟩
    · simp only [PyData.depthKv]
      have := hk.dp
      have := hd.dp
      omega
    · simp only [PyData.weightKv]
      have := hk.wt
      have := hd.wt
      rw [List.length_cons, Nat.mul_succ]
      omega
theorem sz_dict {dp w : Nat} {kds : List (PyData × PyData)} (h : ∀ kd ∈ kds, Sz kd.1 dp w ∧ Sz kd.2 dp w) : Sz (.dict kds) (dp + 1) ((2 * w + 2) * kds.length) := by
  obtain ⟨a1, a2, a3, a4⟩ := sz_kv h
  exact ⟨by simp only [PyData.showable]; exact a1, by simp only [PyData.leavesShort]; exact a2, by simp only [PyData.depth]; omega, by simp only [PyData.weight]; exact a4⟩
def rReprZ (K : PySem.W.Frag) : List V → Hp → VK → Prop := fun xs H Q => ∃ (p : Addr) (d : PyData) (as : List Addr), xs = [.ref p] ∧ Dz H (.ref p) d as ∧ Sz d 12 200000 ∧ Q (.str d.shown) H
theorem call_reprZ {X : Cx} {K : PySem.W.Frag} (hK : X.K = K) (quiet : X.A.guards = some []) (room : X.A.units + 64 < cLine) (hs : ∃ o, X.base.get? sysModules = some o) : CallR X (.builtin "repr") (rReprZ K) := by
  intro pins s σ H xs us Q I r h
  obtain ⟨p, d, as, rfl, hd, sm, q⟩ := h
  obtain ⟨u, rfl, ru⟩ := vals1 r
  have rd := reads_z I hd ru
  cases ru
  obtain ⟨o, ho⟩ := hs
  have off : H sysModules = none := (I.bs _ _ ho).2
  have dp := sm.dp
  refine repr_of_reads' (h₀ := s.heap) rd sm.sh (fun _ hm => hd.at _ hm off) quiet (by omega) (fun _ _ e => e) (fun h2 t tk kp => ⟨.str d.shown, H, I.kept kp, ⟨t, rfl⟩, q⟩) ?_
  have := PyData.shown_le 70 (by decide) d sm.sl
  have := sm.wt
  rw [sizeLine_eq]
  omega
end Vx

set_option Elab.async false
set_option linter.all false
set_option maxRecDepth 100000
set_option maxHeartbeats 8000000
namespace Vx
open PySem PySem.Spec PyProof.Rows L2 Evl
/-- all([e for k, v in d.items()]) -/
theorem ev_allItemsB {K : PySem.W.Frag} {σ : L2.St} {H : Hp} {tl te : TE} {d : Addr} {kvs : List (Key × V)} {j1 j2 : Nat} {vs : List Nat} {bs : List Bool} (hbs : kvs.length = bs.length) (hl : ∀ H', Ev tl σ H' (.ref d)) (hd : H d = some (.dK kvs)) (hz : kvs.length < 1000)
    (hw : ∀ x y, wipe (((wipe σ vs).set j1 (some x)).set j2 (some y)) vs = wipe σ vs) (hv : ∀ {H' : Hp}, H' d = H' d → tl (σ) H' = tl σ H')
    (he : ∀ H1, Ex H H1 → ∀ od (i : Nat) k v, kvs[i]? = some (k, v) → ∃ b, bs[i]? = some b ∧ Ev te (((wipe σ vs).set j1 (some (kV k))).set j2 (some v)) (upd H1 d (.frz od (.dK kvs))) (.bl b)) :
    Ev (tCB (rAll K) (tCons (tLockE (tLc (iItems tl) (gTup K 2 (gCons (gName j1) (gCons (gName j2) gNil))) tYes te vs)) tNil)) σ H (.bl (bs.all id)) := fun H1 e1 Q q => by
  have hd1 := e1 _ _ hd
  refine ⟨d, .dK kvs, hd1, trivial, fun od => ?_⟩
  have nin : ∀ b o, H1 b = some o → b ≠ d → (upd H1 d (.frz od (.dK kvs))) b = some o := fun b o h n => by rw [upd_ne n]; exact h
  refine hl _ _ (Ex.refl _) _ fun H2 e2 => ⟨d, od, kvs, rfl, e2 _ _ upd_same, fun Dl hD => ?_⟩
  have hf2 : H2 d = some (.frz od (.dK kvs)) := e2 _ _ upd_same
  refine lc_P (B := upd H1 d (.frz od (.dK kvs))) (J := Iti d od kvs) (n := kvs.length) (fun i v _ => ∃ b, bs[i]? = some b ∧ v = .bl b) (by omega) e2 hD (fun i H3 hi e3 => ⟨e3 _ _ hf2, hi⟩) (fun H3 e3 => ⟨e3 _ _ hf2, Nat.le_refl _⟩) (fun i H3 x H4 hi e3 y => ?_) (fun xs H3 e3 h3 kn => ?_)
  · obtain ⟨T, k, v, hkv, rfl, hT, rfl⟩ := y
    exact ⟨_, Ex.new hT, hw _ _, fun Q2 q2 => ⟨T, _, rfl, st_of upd_same, rfl, _, _, rfl, _, _, rfl, rfl, q2 _ (Ex.refl _)⟩, (by
      obtain ⟨b, hb, hev⟩ := he H1 e1 od i k v hkv
      exact evp_of hev fun _ _ => ⟨b, hb, rfl⟩)⟩
  · have hx := kn.kn.now e2 e3
    have hf3 := e3 _ _ hf2
    have nD : Dl ≠ d := fun z => by rw [z, hf2] at hD; cases hD
    have : xs = bs.map V.bl := list_bl (by rw [hx.1, hbs]) hx.2
    refine ⟨hf3, Dl, bs, rfl, sq_of ?_, ?_⟩
    · rw [upd_ne nD, ← this]
      exact h3
    · refine q _ fun b o h => ?_
      by_cases z : b = d
      · rw [z, hd1] at h
        rw [z, upd_same]
        exact h
      · rw [upd_ne z]
        exact e3 _ _ (e2 _ _ (nin b o h z))
end Vx

set_option Elab.async false
set_option linter.all false
set_option maxRecDepth 100000
set_option maxHeartbeats 8000000
namespace Vx
open PySem PySem.Spec PyProof.Rows L2 Evl
/-! the program: what it says of things that may be no logs -/
/-- logs whose entries are right, that may not fit -/
structure Shaped (ws : List Str) (L : List (List En)) : Prop where
  wk : WkOk ws
  len : L.length = ws.length
  ent : ∀ es ∈ L, es.length ≤ 60 ∧ ∀ e ∈ es, e.ok
theorem entB_ok {e : En} (h : e.ok) : entB e.vs = true := by
  cases e with
  | push x => exact nameS_iff.mpr h
  | pop x => exact nameS_iff.mpr h
  | size k =>
    show (decide (0 ≤ k) && decide (k ≤ 60)) = true
    rw [decide_eq_true h.1, decide_eq_true h.2]
    rfl
  | steal o x =>
    show (nameS o && nameS x) = true
    rw [nameS_iff.mpr h.1, nameS_iff.mpr h.2]
    rfl
theorem nm_short {z : Str} (h : IsNm z) : z.length < 40000 := by
  have := h.2.1
  omega
theorem En.thing {K : PySem.W.Frag} {H : Hp} {e : En} (h : e.ok) : ∀ x ∈ e.vs, ∃ n, Thing K H x n ∧ n ≠ "dict" := by
  have st : ∀ {z : Str}, z.length < 40000 → ∃ n, Thing K H (.str z) n ∧ n ≠ "dict" := fun hz => ⟨_, .str _ hz, by decide⟩
  cases e with
  | push x =>
    intro y hy
    rcases List.mem_cons.mp hy with rfl | hy
    · exact st (by decide +kernel)
    · rcases List.mem_cons.mp hy with rfl | hy
      · exact st (nm_short h)
      · cases hy
  | pop x =>
    intro y hy
    rcases List.mem_cons.mp hy with rfl | hy
    · exact st (by decide +kernel)
    · rcases List.mem_cons.mp hy with rfl | hy
      · exact st (nm_short h)
      · cases hy
  | size k =>
    intro y hy
    rcases List.mem_cons.mp hy with rfl | hy
    · exact st (by decide +kernel)
    · rcases List.mem_cons.mp hy with rfl | hy
      · exact ⟨_, .int _, by decide⟩
      · cases hy
  | steal o x =>
    intro y hy
    rcases List.mem_cons.mp hy with rfl | hy
    · exact st (by decide +kernel)
    · rcases List.mem_cons.mp hy with rfl | hy
      · exact st (nm_short h.1)
      · rcases List.mem_cons.mp hy with rfl | hy
        · exact st (nm_short h.2)
        · cases hy
theorem tl_log {K : PySem.W.Frag} {H : Hp} {p : Addr} {es : List En} (h : TL H p (es.map En.vs)) (l : es.length ≤ 60) (ok : ∀ e ∈ es, e.ok) : LogT K H (.ref p) true := by
  obtain ⟨as, h1, h2⟩ := h
  have al : as.length = es.length := by rw [h2.length, List.length_map]
  have := LogT.lst (K := K) (bs := List.replicate es.length true) h1 (by rw [List.length_map]; omega) (by rw [List.length_map, List.length_replicate]; omega) fun i v hv => ?_
  · rw [all_rep] at this
    exact this
  · rw [List.getElem?_map] at hv
    obtain ⟨a, ha, rfl⟩ := Option.map_eq_some_iff.mp hv
    have hi : i < es.length := by rw [← al]; exact (List.getElem?_eq_some_iff.mp ha).1
    have he := List.getElem?_eq_getElem hi
    obtain ⟨x, hx, hh⟩ := paired_get h2 (i := i) (y := (es[i]).vs) (by rw [List.getElem?_map, he]; rfl)
    rw [ha] at hx
    injection hx with hx
    subst hx
    have oke := ok _ (List.mem_of_getElem? he)
    refine ⟨true, by rw [List.getElem?_replicate, if_pos hi], ?_⟩
    have := EntT.tup (K := K) hh (by cases es[i] <;> simp [En.vs]) (En.thing oke) fun h t z => by
      cases hc : es[i] with
      | push x => rw [hc] at z; injection z with z _; rw [← z]; rfl
      | pop x => rw [hc] at z; injection z with z _; rw [← z]; rfl
      | size x => rw [hc] at z; injection z with z _; rw [← z]; rfl
      | steal o x => rw [hc] at z; injection z with z _; rw [← z]; rfl
    rw [entB_ok oke] at this
    exact this
inductive LogsT (K : PySem.W.Frag) (F : List Str → List (List En) → Bool) (H : Hp) : V → Bool → Prop
  | no {v : V} {n : String} : Thing K H v n → kitB n "dict" = some false → LogsT K F H v false
  | few {d : Addr} {kvs : List (Key × V)} : H d = some (.dK kvs) → (kvs.length = 0 ∨ 6 < kvs.length) → LogsT K F H (.ref d) false
  | bad {d : Addr} {kvs : List (Key × V)} {bs : List Bool} : H d = some (.dK kvs) → 1 ≤ kvs.length → kvs.length ≤ 6 → kvs.length = bs.length →
      (∀ (i : Nat) k u, kvs[i]? = some (k, u) → u ≠ .ref d ∧ ∃ (n : String) (b : Bool), Thing K H (kV k) n ∧ n ≠ "dict" ∧ LogT K H u b ∧ bs[i]? = some (nmB (kV k) && b)) → bs.all id = false → LogsT K F H (.ref d) false
  | fit {d : Addr} {ws : List Str} {ps : List Addr} {L : List (List En)} : HL H d ws ps L → Shaped ws L → LogsT K F H (.ref d) (F ws L)
theorem LogsT.ex {K : PySem.W.Frag} {F : List Str → List (List En) → Bool} {H H' : Hp} {v : V} {b : Bool} (h : LogsT K F H v b) (e : Ex H H') : LogsT K F H' v b := by
  cases h with
  | no t k => exact .no (t.ex e) k
  | few h l => exact .few (e _ _ h) l
  | bad h l1 l6 lb hx hf =>
    refine .bad (e _ _ h) l1 l6 lb (fun i k u hk => ?_) hf
    obtain ⟨nu, n, b, ht, nn, hg, hb⟩ := hx i k u hk
    exact ⟨nu, n, b, ht.ex e, nn, hg.ex e, hb⟩
  | fit hl v => exact .fit (hl.ex e) v
def spFB (F : List Str → List (List En) → Bool) : Sp := fun vs H Q _ => ∃ (d : Addr) (ws : List Str) (ps : List Addr) (L : List (List En)), vs = [.ref d] ∧ HL H d ws ps L ∧ Shaped ws L ∧ ∀ H', Ex H H' → Q (.bl (F ws L)) H'
def spLB (K : PySem.W.Frag) (F : List Str → List (List En) → Bool) : Sp := fun vs H Q _ => ∃ (v : V) (b : Bool), vs = [v] ∧ LogsT K F H v b ∧ ∀ H', Ex H H' → Q (.bl b) H'
section
variable {P : Program} {w : World} {K : PySem.W.Frag} {mg : Str → Option Value} {base : Heap} {F : List Str → List (List En) → Bool}
theorem frz_nk {H : Hp} {d : Addr} {kvs : List (Key × V)} {od : Obj} (h : H d = some (.dK kvs)) : NDk H (upd H d (.frz od (.dK kvs))) := fun a o z n => by
  rw [upd_ne (fun e => n kvs (by rw [e, h] at z; injection z with z; exact z.symm))]
  exact z
theorem okB_is_logs (D : Def K mg "is_logs" s_is_logs ["thing"]) (T : Bl mg) (C : Cs mg) (G_is_name : Good P w K mg base 1 "is_name" ["thing"] (spB K nmB)) (G_is_log : Good P w K mg base 4 "is_log" ["thing"] (spG K)) (G_items_fit : Good P w K mg base 3 "items_fit" ["logs"] (spFB F)) : Good P w K mg base 5 "is_logs" ["thing"] (spLB K F) := by
  refine D.good sc_is_logs (fun vs H Q E h => ?_) (fun f cdv A outer s H vs Q E hr h => ?_)
  · obtain ⟨v, b, rfl, _⟩ := h
    rfl
  · obtain ⟨v, b, rfl, hv, q⟩ := h
    have hu := hu_of hr
    refine ⟨_, (pss_cons (ps_if (pw_or (pt_not (pt_val (x_isi (K := K) "dict" T (pv 0) T.dict))) (pw_or1 (pt_not (pt_chain op_le op_le pe_int (pe_callB call_lenR (by rfl) T.len PySem.boot_len (pa_cons (pv 0) pa_nil)) (x_gint C.MOST_WORKERS))))).pt (pss_one (ps_ret pe_bl)) pss_nil)
      (pss_cons (ps_if (pt_not (pt_val (x_all (K := K) T (pe_lock (pe_lc (own := [("worker", 1), ("log", 2)]) (g := (gTup K 2 (gCons (gName 1) (gCons (gName 2) gNil)))) (tt := tYes) rfl sc_is_logs.nd (pi_items (pv 0)) (blkOk_by (N := ["thing", "worker", "log"]) (sc := (defScope s_is_logs)) (by decide +kernel)) (fun _ _ _ _ _ => (x_gt (K := K) (pgs_cons (pg_name (i := 1) sc_is_logs.nd rfl (Or.inl rfl)) (pgs_cons (pg_name (i := 2) sc_is_logs.nd rfl (Or.inl rfl)) pgs_nil)))) (fun _ _ _ _ _ => pts_nil) (fun _ _ _ _ _ => (pe_and (pe_fn (G_is_name.mono (by decide)) hr (pa_cons (pv 1) pa_nil)) (pe_one (pe_fn (G_is_log.mono (by decide)) hr (pa_cons (pv 2) pa_nil)))))))))) (pss_one (ps_ret pe_bl)) pss_nil)
      (pss_one (ps_ret (pe_fn (G_items_fit.mono (by decide)) hr (pa_cons (pv 0) pa_nil)))))), ?_⟩
    have lenD : ∀ {σ : L2.St} {H2 : Hp} {d : Addr} {kvs : List (Key × V)}, H d = some (.dK kvs) → Ex H H2 → σ[0]? = some (some (.ref d)) → Ev (tCB (fun xs H Q => ∃ (a : Addr) (kvs : List (Key × V)), xs = [V.ref a] ∧ Rd H a (.dK kvs) ∧ Q (.int kvs.length) H) (tCons (tVar 0) tNil)) σ H2 (.int (kvs.length : Int)) := fun hd e2 h0 H3 e3 Q3 q3 =>
      ⟨_, h0, _, _, rfl, Or.inl (e3 _ _ (e2 _ _ hd)), q3 H3 (Ex.refl _)⟩
    have hall : ∀ {d : Addr} {kvs : List (Key × V)} {bs : List Bool} {H1 : Hp}, H d = some (.dK kvs) → Ex H H1 → kvs.length ≤ 6 → kvs.length = bs.length →
        (∀ (i : Nat) k u, kvs[i]? = some (k, u) → u ≠ .ref d ∧ ∃ (n : String) (b : Bool), Thing K H (kV k) n ∧ n ≠ "dict" ∧ LogT K H u b ∧ bs[i]? = some (nmB (kV k) && b)) →
        Ev (tCB (rAll K) (tCons (tLockE (tLc (iItems (tVar 0)) (gTup K 2 (gCons (gName 1) (gCons (gName 2) gNil))) tYes (tAndV (tCall (spB K nmB) [] E0 (tCons (tVar 1) tNil)) (tCall (spG K) [] E0 (tCons (tVar 2) tNil))) [1, 2])) tNil)) [some (.ref d), none, none] H1 (.bl (bs.all id)) := by
      intro d kvs bs H1 hd e1 l6 lb hx
      refine ev_allItemsB lb (fun _ => ev_var rfl) (e1 _ _ hd) (by omega) (fun _ _ => rfl) (fun _ => rfl) (fun H2 e2 od i k u hk => ?_)
      obtain ⟨nu, n, b, ht, nn, hg, hb⟩ := hx i k u hk
      have hd2 := (e1.trans e2) _ _ hd
      have nk := frz_nk (od := od) hd2
      refine ⟨_, hb, ev_andV (ev_call (ea_cons (ev_var rfl) ea_nil) (spv_b ((ht.ex (e1.trans e2)).nk nn nk))) (fun _ => ev_call (ea_cons (ev_var rfl) ea_nil) (spv_g ((hg.ex (e1.trans e2)).nk nk fun a o z h => ?_)))⟩
      rw [upd_ne (fun e => nu (by rw [z, e]))]
      exact h
    cases hv with
    | no t k =>
      refine s_if (b := true) (et_is (et_or (a := true) (b := true) (et_not (a := false) (et_B (ev_isI rfl t.ty k))) (fun z => nomatch z)) rfl) (fun _ H1 e1 => s_ret (v := .bl false) ev_c fun H2 e2 => ?_) (fun z => nomatch z)
      exact q H2 (e1.trans e2)
    | @few d kvs hd l =>
      refine s_if (b := true) (et_is (et_or (a := false) (b := true) (et_not (a := true) (et_B (ev_isI rfl (ty_dict (Or.inl hd)) rfl))) (fun _ => et_is (et_not (et_test (ev_chainB (b1 := decide (1 ≤ (kvs.length : Int))) (b2 := decide ((kvs.length : Int) ≤ 6)) ev_c (lenD hd (Ex.refl H) rfl) ev_c rv_I0 fun _ => rv_I0))) ?_)) rfl) (fun _ H1 e1 => s_ret (v := .bl false) ev_c fun H2 e2 => ?_) (fun z => nomatch z)
      · rcases l with l | l
        · rw [decide_eq_false (show ¬ (1 ≤ (kvs.length : Int)) by omega)]
          rfl
        · rw [decide_eq_false (show ¬ ((kvs.length : Int) ≤ 6) by omega), Bool.and_false]
          rfl
      · exact q H2 (e1.trans e2)
    | @bad d kvs bs hd l1 l6 lb hx hf =>
      refine s_if (b := false) (et_is (et_or (a := false) (b := false) (et_not (a := true) (et_B (ev_isI rfl (ty_dict (Or.inl hd)) rfl))) (fun _ => et_is (et_not (et_test (ev_chainB (b1 := decide (1 ≤ (kvs.length : Int))) (b2 := decide ((kvs.length : Int) ≤ 6)) ev_c (lenD hd (Ex.refl H) rfl) ev_c rv_I0 fun _ => rv_I0))) ?_)) rfl) (fun z => nomatch z) (fun _ H1 e1 => ?_)
      · rw [decide_eq_true (show (1 ≤ (kvs.length : Int)) by omega), decide_eq_true (show ((kvs.length : Int) ≤ 6) by omega)]
        rfl
      · refine s_if (b := true) (et_is (et_not (a := bs.all id) (et_B (hall hd e1 l6 lb hx))) (by rw [hf]; rfl)) (fun _ H2 e2 => s_ret (v := .bl false) ev_c fun H3 e3 => ?_) (fun z => nomatch z)
        exact q H3 ((e1.trans e2).trans e3)
    | @fit d ws ps L hl v =>
      have dl : (Dk ws ps).length = ws.length := dk_len hl.pl
      have w1 := v.wk.1
      have w6 := v.wk.2.1
      refine s_if (b := false) (et_is (et_or (a := false) (b := false) (et_not (a := true) (et_B (ev_isI rfl (ty_dict (Or.inl hl.dk)) rfl))) (fun _ => et_is (et_not (et_test (ev_chainB (b1 := decide (1 ≤ ((Dk ws ps).length : Int))) (b2 := decide (((Dk ws ps).length : Int) ≤ 6)) ev_c (lenD hl.dk (Ex.refl H) rfl) ev_c rv_I0 fun _ => rv_I0))) ?_)) rfl) (fun z => nomatch z) (fun _ H1 e1 => ?_)
      · rw [decide_eq_true (show (1 ≤ ((Dk ws ps).length : Int)) by omega), decide_eq_true (show (((Dk ws ps).length : Int) ≤ 6) by omega)]
        rfl
      · have ha := hall (bs := List.replicate ws.length true) hl.dk e1 (by omega) (by rw [List.length_replicate, dl]) fun i k u hk => ?_
        · rw [all_rep] at ha
          refine s_if (b := false) (et_not (a := true) (et_B ha)) (fun z => nomatch z) (fun _ H2 e2 => ?_)
          refine s_ret (v := .bl (F ws L)) (ev_call (ea_cons (ev_var rfl) ea_nil) (fun H3 e3 Q3 q3 E => ?_)) fun H3 e3 => ?_
          · exact ⟨d, ws, ps, L, rfl, hl.ex ((e1.trans e2).trans e3), v, q3⟩
          · exact q H3 ((e1.trans e2).trans e3)
        · obtain ⟨x, p, g1, g2, rfl, rfl⟩ := dk_at hk
          have hi : i < ws.length := (List.getElem?_eq_some_iff.mp g1).1
          have g3 := List.getElem?_eq_getElem (show i < L.length by rw [v.len]; exact hi)
          have tl := hl.lg i p _ g2 g3
          have en := v.ent _ (List.mem_of_getElem? g3)
          have nx := v.wk.2.2.2 x (List.mem_of_getElem? g1)
          refine ⟨fun z => ?_, _, true, .str _ (nm_short nx), by decide, tl_log tl en.1 en.2, ?_⟩
          · injection z with z
            obtain ⟨as, h1, _⟩ := tl
            rw [z, hl.dk] at h1
            cases h1
          · rw [List.getElem?_replicate, if_pos hi]
            show _ = some (nameS x && true)
            rw [nameS_iff.mpr nx]
            rfl
end
end Vx

set_option Elab.async false
set_option linter.all false
set_option maxRecDepth 100000
set_option maxHeartbeats 4000000
namespace Vx
open PySem PySem.Spec PyProof.Rows L2 Evl
/-! whether plain data is logs -/
def isS (z : Str) : PyData → Bool
  | .str y => decide (y = z)
  | _ => false
def nmD : PyData → Bool
  | .str z => nameS z
  | _ => false
def szD : PyData → Bool
  | .int k => decide (0 ≤ k) && decide (k ≤ 60)
  | _ => false
def entL : List PyData → Bool
  | [h, x] => if (isS "push" h || isS "pop" h) = true then nmD x else isS "size" h && szD x
  | [h, o, x] => isS "steal" h && (nmD o && nmD x)
  | _ => false
def entD : PyData → Bool
  | .tuple xs => entL xs
  | _ => false
def lgD : PyData → Bool
  | .list xs => decide (xs.length ≤ 60) && xs.all entD
  | _ => false
def entOfL : List PyData → En
  | [.str h, .str x] => if h = "push" then .push x else .pop x
  | [_, .int k] => .size k
  | [_, .str o, .str x] => .steal o x
  | _ => .size 0
def entOf : PyData → En
  | .tuple xs => entOfL xs
  | _ => .size 0
def strOf : PyData → Str
  | .str z => z
  | _ => Str.empty
def lstOf : PyData → List PyData
  | .list xs => xs
  | _ => []
def wsOf (kds : List (PyData × PyData)) : List Str := kds.map fun kd => strOf kd.1
def LOf (kds : List (PyData × PyData)) : List (List En) := kds.map fun kd => (lstOf kd.2).map entOf
def logsK (F : List Str → List (List En) → Bool) (kds : List (PyData × PyData)) : Bool := (decide (1 ≤ kds.length) && decide (kds.length ≤ 6)) && ((kds.all fun kd => nmD kd.1 && lgD kd.2) && F (wsOf kds) (LOf kds))
def logsD (F : List Str → List (List En) → Bool) : PyData → Bool
  | .dict kds => logsK F kds
  | _ => false
def flatD : PyData → Bool
  | .list _ => false
  | .tuple _ => false
  | .dict _ => false
  | _ => true
def ndD : PyData → Bool
  | .dict _ => false
  | _ => true
def chOk (z : Str) : Bool := z.cps.toList.all fun c => decide (c < 1114112)
def plA : PyData → Bool
  | .str z => decide (z.length < 40000) && chOk z
  | _ => true
def hdF : List PyData → Bool
  | h :: _ => flatD h
  | [] => true
def hdTup : List PyData → Bool
  | [.tuple [.str z], _] => decide (z = "push")
  | _ => false
def plE : PyData → Bool
  | .tuple xs => (decide (xs.length ≤ 40000) && (xs.all (fun x => plA x && ndD x) && hdF xs)) || hdTup xs
  | x => plA x && ndD x
def plL : PyData → Bool
  | .list es => es.all plE
  | .dict kds => kds.isEmpty
  | x => plA x && ndD x
def plD : PyData → Bool
  | .dict kds => kds.all fun kd => plA kd.1 && plL kd.2
  | x => plA x
section
variable {K : PySem.W.Frag} {R : Hp} {v : V} {d : PyData} {as : List Addr}
theorem plA_len {z : Str} (pl : plA (.str z) = true) : z.length < 40000 := by
  have pl' : (decide (z.length < 40000) && chOk z) = true := pl
  rw [Bool.and_eq_true] at pl'
  exact of_decide_eq_true pl'.1
theorem thing_d (h : Dz R v d as) (pl : plA d = true) : ∃ n, Thing K R v n ∧ (ndD d = true → n ≠ "dict") := by
  cases h with
  | non => exact ⟨_, .non, fun _ => by decide⟩
  | bl b => exact ⟨_, .bl b, fun _ => by decide⟩
  | int i => exact ⟨_, .int i, fun _ => by decide⟩
  | str z => exact ⟨_, .str z (plA_len pl), fun _ => by decide⟩
  | lst h t => exact ⟨_, .lst _ _ h, fun _ => by decide⟩
  | tup h t => exact ⟨_, .tup _ _ h, fun _ => by decide⟩
  | dict h n t => exact ⟨_, .dict _ _ h, fun z => nomatch z⟩
theorem dz_nm (h : Dz R v d as) : nmB v = nmD d := by cases h <;> rfl
theorem dz_sz (h : Dz R v d as) : szB v = szD d := by cases h <;> rfl
theorem dz_is {z : Str} (h : Dz R v d as) : decide (v = .str z) = isS z d := by
  cases h with
  | str y => exact decide_eq_decide.mpr ⟨fun e => V.str.inj e, fun e => by rw [e]⟩
  | _ => exact decide_eq_false fun z => nomatch z
theorem dz_flat (h : Dz R v d as) (f : flatD d = true) : flatV v = true := by
  cases h with
  | lst => cases f
  | tup => cases f
  | dict => cases f
  | _ => rfl
theorem eqV_str {z : Str} (h : Dz R v d as) : eqV (.str z) v = isS z d := by
  rw [← dz_is (z := z) h]
  cases h with
  | str y =>
    show decide _ = decide _
    exact decide_eq_decide.mpr ⟨fun e => by first | rw [e] | (rw [V.str.inj e]) | (cases e; rfl), fun e => by first | exact (V.str.inj e).symm | (cases e; rfl)⟩
  | _ => first | rfl | exact (decide_eq_false fun z => nomatch z).symm
theorem dza_mem {vs : List V} {ds : List PyData} (h : DzA R vs ds as) {x : V} (hx : x ∈ vs) : ∃ d bs, d ∈ ds ∧ Dz R x d bs := by
  obtain ⟨i, hi⟩ := List.mem_iff_getElem?.mp hx
  obtain ⟨d, bs, h1, h2⟩ := h.get hi
  exact ⟨d, bs, List.mem_of_getElem? h1, h2⟩
theorem inV2 {h : V} {a b : Str} {dh : PyData} {cs : List Addr} (hh : Dz R h dh cs) : inV h [.str a, .str b] = (isS a dh || isS b dh) := by
  unfold inV
  rw [List.any_cons, List.any_cons, List.any_nil, Bool.or_false, eqV_str hh, eqV_str hh]
theorem entB_d {vs : List V} {ds : List PyData} (h : DzA R vs ds as) : entB vs = entL ds := by
  cases h with
  | nil => rfl
  | cons h1 t1 =>
    cases t1 with
    | nil => rfl
    | cons h2 t2 =>
      cases t2 with
      | nil =>
        show (if inV _ [.str "push", .str "pop"] = true then nmB _ else decide (_ = V.str "size") && szB _) = (if (isS "push" _ || isS "pop" _) = true then nmD _ else isS "size" _ && szD _)
        rw [inV2 h1, dz_nm h2, dz_sz h2, dz_is h1]
      | cons h3 t3 =>
        cases t3 with
        | nil =>
          show (decide (_ = V.str "steal") && (nmB _ && nmB _)) = (isS "steal" _ && (nmD _ && nmD _))
          rw [dz_is h1, dz_nm h2, dz_nm h3]
        | cons h4 t4 => rfl
theorem entT_d (h : Dz R v d as) (pl : plE d = true) : EntT K R v (entD d) := by
  cases h with
  | non => exact .no .non rfl (by decide)
  | bl b => exact .no (.bl b) rfl (by decide)
  | int i => exact .no (.int i) rfl (by decide)
  | str z =>
    rw [show plE (.str z) = (plA (.str z) && true) from rfl, Bool.and_true] at pl
    exact .no (.str z (plA_len pl)) rfl (by decide)
  | lst h t => exact .no (.lst _ _ h) rfl (by decide)
  | dict h n t => exact absurd (show (true && false) = true from pl) (by decide)
  | @tup p vs ds as h t =>
    have pl0 : ((decide (ds.length ≤ 40000) && (ds.all (fun x => plA x && ndD x) && hdF ds)) || hdTup ds) = true := pl
    by_cases pl' : (decide (ds.length ≤ 40000) && (ds.all (fun x => plA x && ndD x) && hdF ds)) = true
    case neg =>
      have ht : hdTup ds = true := by
        rw [Bool.or_eq_true] at pl0
        exact pl0.resolve_left pl'
      match ds, ht, t with
      | [.tuple [.str z], x], hz, t =>
        have hz : z = "push" := of_decide_eq_true hz
        subst hz
        cases t with
        | cons t1 t2 =>
          cases t2 with
          | cons t3 t4 =>
            cases t4
            cases t1 with
            | tup hc hz =>
              cases hz with
              | cons z1 z2 =>
                cases z1
                cases z2
                exact EntT.hd h hc
    rw [Bool.and_eq_true, Bool.and_eq_true, List.all_eq_true] at pl'
    obtain ⟨p1, p2, p3⟩ := pl'
    have := EntT.tup (K := K) h (by rw [t.len]; exact of_decide_eq_true p1) (fun x hx => by
      obtain ⟨dx, bs, m, hd⟩ := dza_mem t hx
      have q := p2 dx m
      rw [Bool.and_eq_true] at q
      obtain ⟨n, h1, h2⟩ := thing_d (K := K) hd q.1
      exact ⟨n, h1, h2 q.2⟩) (fun x r e => by
      subst e
      cases t with
      | cons h1 t1 => exact dz_flat h1 p3)
    rw [entB_d t] at this
    exact this
theorem logT_d (h : Dz R v d as) (pl : plL d = true) : LogT K R v (lgD d) := by
  cases h with
  | non => exact .no .non rfl
  | bl b => exact .no (.bl b) rfl
  | int i => exact .no (.int i) rfl
  | str z =>
    rw [show plL (.str z) = (plA (.str z) && true) from rfl, Bool.and_true] at pl
    exact .no (.str z (plA_len pl)) rfl
  | tup h t => exact .no (.tup _ _ h) rfl
  | dict h n t => exact .no (.dict _ _ h) rfl
  | @lst p vs ds as h t =>
    have pl' : ds.all plE = true := pl
    rw [List.all_eq_true] at pl'
    have l := t.len
    by_cases big : 60 < vs.length
    · have e : lgD (.list ds) = false := by
        show (decide (ds.length ≤ 60) && ds.all entD) = false
        rw [decide_eq_false (by omega), Bool.false_and]
      rw [e]
      exact .big h big
    · have e : lgD (.list ds) = (ds.map entD).all id := by
        show (decide (ds.length ≤ 60) && ds.all entD) = _
        rw [decide_eq_true (by omega), Bool.true_and, List.all_map]
        rfl
      rw [e]
      refine .lst h (by omega) (by rw [List.length_map]; exact l) fun i x hx => ?_
      obtain ⟨dx, bs, g1, g2⟩ := t.get hx
      exact ⟨entD dx, by rw [List.getElem?_map, g1]; rfl, entT_d g2 (pl' dx (List.mem_of_getElem? g1))⟩
theorem isS_eq {z : Str} : ∀ {d : PyData}, isS z d = true → d = .str z
  | .str y, h => by rw [of_decide_eq_true h]
  | .none, h => nomatch h
  | .bool _, h => nomatch h
  | .int _, h => nomatch h
  | .list _, h => nomatch h
  | .tuple _, h => nomatch h
  | .dict _, h => nomatch h
theorem nmD_eq : ∀ {d : PyData}, nmD d = true → ∃ z, d = .str z ∧ IsNm z
  | .str y, h => ⟨y, rfl, nameS_iff.mp h⟩
  | .none, h => nomatch h
  | .bool _, h => nomatch h
  | .int _, h => nomatch h
  | .list _, h => nomatch h
  | .tuple _, h => nomatch h
  | .dict _, h => nomatch h
theorem szD_eq : ∀ {d : PyData}, szD d = true → ∃ k, d = .int k ∧ 0 ≤ k ∧ k ≤ 60
  | .int y, h => ⟨y, rfl, by
    have h' : (decide (0 ≤ y) && decide (y ≤ 60)) = true := h
    rw [Bool.and_eq_true] at h'
    exact ⟨of_decide_eq_true h'.1, of_decide_eq_true h'.2⟩⟩
  | .str _, h => nomatch h
  | .none, h => nomatch h
  | .bool _, h => nomatch h
  | .list _, h => nomatch h
  | .tuple _, h => nomatch h
  | .dict _, h => nomatch h
theorem entL_en {ds : List PyData} (h : entL ds = true) : (entOfL ds).ok ∧ ds = (entOfL ds).vs.map vD := by
  match ds, h with
  | [hd, x], h =>
    have h' : (if (isS "push" hd || isS "pop" hd) = true then nmD x else isS "size" hd && szD x) = true := h
    split at h'
    · rename_i hp
      obtain ⟨z, rfl, nz⟩ := nmD_eq h'
      rw [Bool.or_eq_true] at hp
      rcases hp with hp | hp
      · rw [isS_eq hp]
        exact ⟨by show ((if ("push" : Str) = "push" then En.push z else En.pop z)).ok; rw [if_pos rfl]; exact nz, by show _ = (if ("push" : Str) = "push" then En.push z else En.pop z).vs.map vD; rw [if_pos rfl]; rfl⟩
      · rw [isS_eq hp]
        have n : ¬ (("pop" : Str) = "push") := by decide +kernel
        exact ⟨by show ((if ("pop" : Str) = "push" then En.push z else En.pop z)).ok; rw [if_neg n]; exact nz, by show _ = (if ("pop" : Str) = "push" then En.push z else En.pop z).vs.map vD; rw [if_neg n]; rfl⟩
    · rw [Bool.and_eq_true] at h'
      obtain ⟨k, rfl, k0, k1⟩ := szD_eq h'.2
      rw [isS_eq h'.1]
      exact ⟨⟨k0, k1⟩, rfl⟩
  | [hd, o, x], h =>
    have h' : (isS "steal" hd && (nmD o && nmD x)) = true := h
    rw [Bool.and_eq_true, Bool.and_eq_true] at h'
    obtain ⟨y, rfl, ny⟩ := nmD_eq h'.2.1
    obtain ⟨z, rfl, nz⟩ := nmD_eq h'.2.2
    rw [isS_eq h'.1]
    exact ⟨⟨ny, nz⟩, rfl⟩
theorem dz_vD {x : V} (f : flat2 x) : Dz R v (vD x) as → v = x := by
  intro h
  cases x with
  | str z => cases h; rfl
  | int z => cases h; rfl
  | _ => exact absurd f (by simp [flat2])
theorem dza_vD : ∀ {xs vs : List V} {as : List Addr}, (∀ x ∈ xs, flat2 x) → DzA R vs (xs.map vD) as → vs = xs
  | [], _, _, _, h => by cases h; rfl
  | x :: xs, _, _, f, h => by
    cases h with
    | cons a t => rw [dz_vD (f x (List.mem_cons_self ..)) a, dza_vD (fun y hy => f y (List.mem_cons_of_mem _ hy)) t]
theorem en_flat (e : En) : ∀ x ∈ e.vs, flat2 x := by
  cases e <;> simp [En.vs, flat2]
theorem ent_en (h : Dz R v d as) (e : entD d = true) : ∃ a, v = .ref a ∧ R a = some (.tup (entOf d).vs) ∧ (entOf d).ok := by
  cases h with
  | @tup p vs ds as h t =>
    have e' : entL ds = true := e
    obtain ⟨ok, eq⟩ := entL_en e'
    refine ⟨p, rfl, ?_, ok⟩
    rw [eq] at t
    rw [dza_vD (en_flat _) t] at h
    exact h
  | _ => cases e
theorem log_tl {p : Addr} {ds : List PyData} {vs : List V} (hp : R p = some (.lst vs)) (t : DzA R vs ds as) (e : ds.all entD = true) : TL R p ((ds.map entOf).map En.vs) ∧ ∀ x ∈ ds.map entOf, x.ok := by
  rw [List.all_eq_true] at e
  refine ⟨?_, fun x hx => ?_⟩
  · have : ∃ as : List Addr, vs = as.map V.ref ∧ Paired (fun a t => R a = some (.tup t)) as ((ds.map entOf).map En.vs) := by
      clear hp
      induction ds generalizing vs as with
      | nil =>
        cases t
        exact ⟨[], rfl, .nil⟩
      | cons d ds ih =>
        cases t with
        | cons a t =>
          obtain ⟨b, rfl, hb, _⟩ := ent_en a (e d (List.mem_cons_self ..))
          obtain ⟨bs, rfl, hbs⟩ := ih t fun x hx => e x (List.mem_cons_of_mem _ hx)
          exact ⟨b :: bs, rfl, .cons hb hbs⟩
    obtain ⟨bs, rfl, hb⟩ := this
    exact ⟨bs, hp, hb⟩
  · obtain ⟨y, hy, rfl⟩ := List.mem_map.mp hx
    have h := e y hy
    cases y with
    | tuple xs => exact (entL_en h).1
    | _ => cases h
/-- logs that are right entry by entry, out of plain data -/
theorem fit_d : ∀ {kvs : List (Key × V)} {ds : List PyData} {as : List Addr}, DzA R (kvs.map (·.2)) ds as → ((zipD kvs ds).all fun kd => nmD kd.1 && lgD kd.2) = true →
    ∃ (ws : List Str) (ps : List Addr) (L : List (List En)), kvs = Dk ws ps ∧ ps.length = ws.length ∧ L.length = ws.length ∧ (∀ (i : Nat) p es, ps[i]? = some p → L[i]? = some es → TL R p (es.map En.vs)) ∧ (∀ w ∈ ws, IsNm w) ∧ (∀ es ∈ L, es.length ≤ 60 ∧ ∀ e ∈ es, e.ok) ∧
      ws = wsOf (zipD kvs ds) ∧ L = LOf (zipD kvs ds)
  | [], ds, _, h, _ => by
    cases h
    exact ⟨[], [], [], rfl, rfl, rfl, fun i p es h => by simp at h, (fun _ z => nomatch z), (fun _ z => nomatch z), rfl, rfl⟩
  | (k, u) :: kvs, ds, _, h, e => by
    cases h with
    | @cons _ _ d ds as bs a t =>
      have e' : ((nmD (keyD k) && lgD d) && (zipD kvs ds).all fun kd => nmD kd.1 && lgD kd.2) = true := e
      rw [Bool.and_eq_true, Bool.and_eq_true] at e'
      obtain ⟨⟨e1, e2⟩, e3⟩ := e'
      obtain ⟨ws, ps, L, rfl, l1, l2, lg, nm, en, ew, eL⟩ := fit_d t e3
      obtain ⟨w, hw, nw⟩ := nmD_eq e1
      cases k with
      | inl i => cases hw
      | inr y =>
        cases hw
        cases a with
        | @lst p vs es cs hp ht =>
          have e2' : (decide (es.length ≤ 60) && es.all entD) = true := e2
          rw [Bool.and_eq_true] at e2'
          obtain ⟨tl, ok⟩ := log_tl hp ht e2'.2
          refine ⟨w :: ws, p :: ps, (es.map entOf) :: L, rfl, by simp [l1], by simp [l2], fun i q es' h1 h2 => ?_, fun x hx => ?_, fun x hx => ?_, ?_, ?_⟩
          · cases i with
            | zero =>
              cases h1
              cases h2
              exact tl
            | succ i => exact lg i q es' h1 h2
          · rcases List.mem_cons.mp hx with rfl | hx
            · exact nw
            · exact nm x hx
          · rcases List.mem_cons.mp hx with rfl | hx
            · exact ⟨by rw [List.length_map]; exact of_decide_eq_true e2'.1, ok⟩
            · exact en x hx
          · show _ = strOf (.str w) :: wsOf (zipD (Dk ws ps) ds)
            rw [← ew]
            rfl
          · show _ = (lstOf (.list es)).map entOf :: LOf (zipD (Dk ws ps) ds)
            rw [← eL]
            rfl
        | _ => cases e2
theorem logsT_d {F : List Str → List (List En) → Bool} (h : Dz R v d as) (pl : plD d = true) : LogsT K F R v (logsD F d) := by
  cases h with
  | non => exact .no .non rfl
  | bl b => exact .no (.bl b) rfl
  | int i => exact .no (.int i) rfl
  | str z => exact .no (.str z (plA_len pl)) rfl
  | lst h t => exact .no (.lst _ _ h) rfl
  | tup h t => exact .no (.tup _ _ h) rfl
  | @dict p kvs ds as hp nd t =>
    have l : kvs.length = ds.length := by rw [← t.len, List.length_map]
    have lz : (zipD kvs ds).length = kvs.length := by
      unfold zipD
      rw [List.length_zip, List.length_map]
      omega
    have pl' : ((zipD kvs ds).all fun kd => plA kd.1 && plL kd.2) = true := pl
    rw [List.all_eq_true] at pl'
    show LogsT K F R (.ref p) (logsK F (zipD kvs ds))
    unfold logsK
    by_cases ln : kvs.length = 0 ∨ 6 < kvs.length
    · have e : (decide (1 ≤ (zipD kvs ds).length) && decide ((zipD kvs ds).length ≤ 6)) = false := by
        rw [lz]
        rcases ln with ln | ln
        · rw [decide_eq_false (by omega), Bool.false_and]
        · rw [decide_eq_false (show ¬ kvs.length ≤ 6 by omega), Bool.and_false]
      rw [e, Bool.false_and]
      exact .few hp ln
    · have e : (decide (1 ≤ (zipD kvs ds).length) && decide ((zipD kvs ds).length ≤ 6)) = true := by
        rw [lz, decide_eq_true (by omega), decide_eq_true (by omega)]
        rfl
      rw [e, Bool.true_and]
      by_cases ha : ((zipD kvs ds).all fun kd => nmD kd.1 && lgD kd.2) = true
      · rw [ha, Bool.true_and]
        obtain ⟨ws, ps, L, rfl, l1, l2, lg, nm, en, ew, eL⟩ := fit_d t ha
        rw [← ew, ← eL]
        have dl : (Dk ws ps).length = ws.length := dk_len l1
        refine .fit ⟨hp, l1, lg⟩ ⟨⟨by omega, by omega, ?_, nm⟩, l2, en⟩
        rw [dk_keys l1] at nd
        unfold List.Nodup at nd ⊢
        rw [List.pairwise_map] at nd
        exact nd.imp fun h e => h (by rw [e])
      · have ha' : ((zipD kvs ds).all fun kd => nmD kd.1 && lgD kd.2) = false := by
          cases q : ((zipD kvs ds).all fun kd => nmD kd.1 && lgD kd.2) with
          | true => exact absurd q ha
          | false => rfl
        rw [ha', Bool.false_and]
        refine .bad (bs := (zipD kvs ds).map fun kd => nmD kd.1 && lgD kd.2) hp (by omega) (by omega) (by rw [List.length_map, lz]) (fun i k u hk => ?_) (by rw [List.all_map]; exact ha')
        obtain ⟨du, cs, g1, g2⟩ := t.get (i := i) (v := u) (by rw [List.getElem?_map, hk]; rfl)
        have hz : (zipD kvs ds)[i]? = some (keyD k, du) := by
          unfold zipD
          rw [List.getElem?_zip_eq_some, List.getElem?_map, hk]
          exact ⟨rfl, g1⟩
        have pk := pl' _ (List.mem_of_getElem? hz)
        rw [Bool.and_eq_true] at pk
        have pk1 : plA (keyD k) = true := pk.1
        have pk2 : plL du = true := pk.2
        refine ⟨fun z => ?_, ?_⟩
        · subst z
          cases g2 with
          | lst h => rw [hp] at h; cases h
          | tup h => rw [hp] at h; cases h
          | @dict _ kvs2 ds2 _ h _ t2 =>
            rw [hp] at h
            cases h
            have e2 : (zipD kvs ds2).isEmpty = true := pk2
            have l2 : kvs.length = ds2.length := by rw [← t2.len, List.length_map]
            have l3 : (zipD kvs ds2).length = kvs.length := by
              unfold zipD
              rw [List.length_zip, List.length_map]
              omega
            rw [List.isEmpty_iff.mp e2] at l3
            rw [List.length_nil] at l3
            omega
        · obtain ⟨n, h1, h2⟩ := thing_d (K := K) (show Dz R (kV k) (keyD k) [] from by cases k <;> first | exact .int _ | exact .str _) pk1
          refine ⟨n, lgD du, h1, h2 (by cases k <;> rfl), logT_d g2 pk2, ?_⟩
          rw [List.getElem?_map, hz]
          have e : nmB (kV k) = nmD (keyD k) := by cases k <;> rfl
          rw [e]
          rfl
end
end Vx

set_option Elab.async false
set_option linter.all false
set_option maxRecDepth 100000
set_option maxHeartbeats 4000000
namespace Vx
open PySem PySem.Spec PyProof.Rows L2 Evl
/-! the law: entries -/
def strD : PyData → Bool
  | .str _ => true
  | _ => false
theorem hat0 {x : V} {xs : List V} : atI (x :: xs) 0 = some x := atI_nat (j := 0) rfl
theorem hat1 {x y : V} {xs : List V} : atI (x :: y :: xs) 1 = some y := atI_nat (j := 1) rfl
theorem hat2 {x y z : V} {xs : List V} : atI (x :: y :: z :: xs) 2 = some z := atI_nat (j := 2) rfl
theorem isS_self (z : Str) : isS z (.str z) = true := decide_eq_true rfl
section
variable {K : PySem.W.Frag} {H : Hp} {v : V} {d : PyData} {as : List Addr}
theorem dz_ty (h : Dz H v d as) : ∃ n, TyN K H v n ∧ kitB n "str" = some (strD d) := by
  cases h with
  | non => exact ⟨_, ty_non, rfl⟩
  | bl b => exact ⟨_, ty_bl, rfl⟩
  | int i => exact ⟨_, ty_int, rfl⟩
  | str z => exact ⟨_, ty_str, rfl⟩
  | lst h t => exact ⟨_, ty_lst (Or.inl h), rfl⟩
  | tup h t => exact ⟨_, ty_tup (Or.inl h), rfl⟩
  | dict h n t => exact ⟨_, ty_dict (Or.inl h), rfl⟩
def tupD : PyData → Bool
  | .tuple _ => true
  | _ => false
theorem dz_tyT (h : Dz H v d as) : ∃ n, TyN K H v n ∧ kitB n "tuple" = some (tupD d) := by
  cases h with
  | non => exact ⟨_, ty_non, rfl⟩
  | bl b => exact ⟨_, ty_bl, rfl⟩
  | int i => exact ⟨_, ty_int, rfl⟩
  | str z => exact ⟨_, ty_str, rfl⟩
  | lst h t => exact ⟨_, ty_lst (Or.inl h), rfl⟩
  | tup h t => exact ⟨_, ty_tup (Or.inl h), rfl⟩
  | dict h n t => exact ⟨_, ty_dict (Or.inl h), rfl⟩
theorem dz_ok (h : Dz H v d as) (pl : plA d = true) : okV v := by
  intro z hz c hc
  cases h with
  | str y =>
    cases hz
    have pl' : (decide (z.length < 40000) && chOk z) = true := pl
    rw [Bool.and_eq_true] at pl'
    exact of_decide_eq_true (List.all_eq_true.mp pl'.2 c hc)
  | _ => cases hz
end
/-- a tuple that begins with no text -/
theorem entL_head {ds : List PyData} (h : ∀ x r, ds = x :: r → strD x = false) : entL ds = false := by
  have no : ∀ {x : PyData} {z : Str}, strD x = false → isS z x = false := fun {x z} e => by
    cases x with
    | str y => cases e
    | _ => rfl
  match ds with
  | [] => rfl
  | [_] => rfl
  | [x, y] =>
    have e := h x [y] rfl
    show (if (isS "push" x || isS "pop" x) = true then nmD y else isS "size" x && szD y) = false
    rw [no e, no e, no e]
    rfl
  | [x, y, z] =>
    have e := h x [y, z] rfl
    show (isS "steal" x && _) = false
    rw [no e, Bool.false_and]
  | _ :: _ :: _ :: _ :: _ => rfl
def spEL (K : PySem.W.Frag) : Sp := fun vs H Q _ => ∃ (v : V) (d : PyData) (as : List Addr), vs = [v] ∧ Dz H v d as ∧ plE d = true ∧ ∀ H', Ex H H' → Q (.bl (entD d)) H'
section
variable {P : Program} {w : World} {K : PySem.W.Frag} {mg : Str → Option Value} {base : Heap}
theorem sc_law_is_entry : FnScope ["value"] ["value"] (defScope s_law_is_entry) := ⟨rfl, rfl, rfl, by decide +kernel, rfl, by decide +kernel, by decide +kernel⟩
theorem ok_law_is_entry (D : Def K mg "_law_is_entry" s_law_is_entry ["value"]) (T : Bl mg) (GN : Good P w K mg base 1 "_law_is_name" ["value"] (spNmL K)) (GW : Good P w K mg base 1 "_law_whole" ["value", "least", "most"] (spWh K)) : Good P w K mg base 2 "_law_is_entry" ["value"] (spEL K) := by
  refine D.good sc_law_is_entry (fun vs H Q E h => ?_) (fun f cdv A outer s H vs Q E hr h => ?_)
  · obtain ⟨v, d, as, rfl, _⟩ := h
    rfl
  · obtain ⟨v, d, as, rfl, hv, pl, q⟩ := h
    have hu := hu_of hr
    refine ⟨_, (pss_cons (ps_if (pw_or (pt_not (pt_val (x_isi (K := K) "tuple" T (pv 0) T.tuple))) (pw_or (pt_cmpR op_lt (x_len (K := K) T (pv 0)) pe_int (nomark _)) (pw_or1 (pt_not (pt_val (x_isi (K := K) "str" T (x_ixt (K := K) (pv 0) pe_int) T.str)))))).pt (pss_one (ps_ret pe_bl)) pss_nil)
      (pss_cons (ps_if (pt_cmpR op_eq (x_ixt (K := K) (pv 0) pe_int) pe_str (nomark _)) (pss_one (ps_ret (pe_and (pe_cmpR op_eq (x_len (K := K) T (pv 0)) pe_int (nomark _)) (pe_one (pe_fn (GW.mono (by decide)) hr (pa_cons (x_ixt (K := K) (pv 0) pe_int) (pa_cons pe_int (pa_cons pe_int pa_nil)))))))) pss_nil)
      (pss_cons (ps_if (pt_cmpR op_eq (x_ixt (K := K) (pv 0) pe_int) pe_str (nomark _)) (pss_one (ps_ret (pe_and (pe_cmpR op_eq (x_len (K := K) T (pv 0)) pe_int (nomark _)) (pe_and (pe_fn (GN.mono (by decide)) hr (pa_cons (x_ixt (K := K) (pv 0) pe_int) pa_nil)) (pe_one (pe_fn (GN.mono (by decide)) hr (pa_cons (x_ixt (K := K) (pv 0) pe_int) pa_nil))))))) pss_nil)
      (pss_one (ps_ret (pe_and (pe_cmpR (x_in (K := K) rfl) (x_ixt (K := K) (pv 0) pe_int) (pe_lst (pa_cons pe_str (pa_cons pe_str pa_nil))) (by rfl)) (pe_and (pe_cmpR op_eq (x_len (K := K) T (pv 0)) pe_int (nomark _)) (pe_one (pe_fn (GN.mono (by decide)) hr (pa_cons (x_ixt (K := K) (pv 0) pe_int) pa_nil)))))))))), ?_⟩
    obtain ⟨n, hn, hk⟩ := dz_tyT (K := K) hv
    by_cases ht : tupD d = false
    · rw [ht] at hk
      refine s_if (b := true) (et_is (et_or (a := true) (b := true) (et_not (a := false) (et_B (ev_isI rfl hn hk))) (fun z => nomatch z)) rfl) (fun _ H1 e1 => s_ret (v := .bl false) ev_c fun H2 e2 => ?_) (fun z => nomatch z)
      have := q H2 (e1.trans e2)
      have e0 : entD d = false := by
        cases d with
        | tuple => cases ht
        | _ => rfl
      rw [e0] at this
      exact this
    cases hv with
    | @tup a xs ds as ha t =>
      have l := t.len
      have st : ∀ H1, Ex H H1 → SqT K H1 a xs := fun H1 e1 => st_of (e1 _ _ ha)
      have hq : ∀ H', Ex H H' → Q (.bl (entL ds)) H' := q
      have tyT : kitB "tuple" "tuple" = some true := rfl
      have fin : ∀ {H1}, Ex H H1 → entL ds = false → ∀ H2, Ex H1 H2 → Q (.bl false) H2 := fun e1 z H2 e2 => by
        have := hq H2 (e1.trans e2)
        rw [z] at this
        exact this
      match ds, xs, t, l with
      | [], [], _, _ =>
        exact s_if (b := true) (et_is (et_or (a := false) (b := true) (et_not (a := true) (et_B (ev_isI rfl (ty_tup (Or.inl ha)) tyT))) (fun _ => et_is (et_or (a := true) (b := true) (et_is (et_test (ev_op (ev_lenA (ev_var rfl) (Or.inr (st H (Ex.refl H)))) ev_c rv_I0)) rfl) (fun z => nomatch z)) rfl)) rfl) (fun _ H1 e1 => s_ret (v := .bl false) ev_c fun H2 e2 => fin e1 rfl H2 e2) (fun z => nomatch z)
      | [_], [_], _, _ =>
        exact s_if (b := true) (et_is (et_or (a := false) (b := true) (et_not (a := true) (et_B (ev_isI rfl (ty_tup (Or.inl ha)) tyT))) (fun _ => et_is (et_or (a := true) (b := true) (et_is (et_test (ev_op (ev_lenA (ev_var rfl) (Or.inr (st H (Ex.refl H)))) ev_c rv_I0)) rfl) (fun z => nomatch z)) rfl)) rfl) (fun _ H1 e1 => s_ret (v := .bl false) ev_c fun H2 e2 => fin e1 rfl H2 e2) (fun z => nomatch z)
      | dh :: d2 :: dr, xh :: x2 :: xr, t, l =>
        cases t with
        | cons th tr =>
          obtain ⟨nh, hnh, hkh⟩ := dz_ty (K := K) th
          have lz : ¬ (((xh :: x2 :: xr).length : Int) < 2) := by
            rw [List.length_cons, List.length_cons]
            omega
          have isS0 : ∀ {σ : L2.St} {H1 : Hp}, Ex H H1 → σ[0]? = some (some (.ref a)) → Ev (tCB (rIsi K) (tCons (tOp (rIxT K) (tVar 0) (tC (.int 0))) (tCons (tC (.ty "str")) tNil))) σ H1 (.bl (strD dh)) := fun e1 h0 =>
            ev_cb (ea_cons (ev_op (ev_var h0) ev_c (rv_ixT (st _ e1) hat0)) (ea_cons ev_c ea_nil)) fun H2 e2 Q q => ⟨xh, .ty "str", _, _, strD dh, rfl, .ty "str", hnh H2 (e1.trans e2), kit_ty hkh, q H2 (Ex.refl H2)⟩
          refine s_if (b := !strD dh) (et_is (et_or (a := false) (b := !strD dh) (et_not (a := true) (et_B (ev_isI rfl (ty_tup (Or.inl ha)) tyT))) (fun _ => et_is (et_or (a := false) (b := !strD dh) (et_is (et_test (ev_op (ev_lenA (ev_var rfl) (Or.inr (st H (Ex.refl H)))) ev_c rv_I0)) (decide_eq_false lz)) (fun _ => et_not (et_B (isS0 (Ex.refl H) rfl)))) rfl)) rfl) (fun hb H1 e1 => s_ret (v := .bl false) ev_c fun H2 e2 => ?_) (fun hb H1 e1 => ?_)
          · refine fin e1 (entL_head fun x r e => ?_) H2 e2
            injection e with e _
            rw [← e]
            rw [Bool.not_eq_true'] at hb
            exact hb
          · rw [Bool.not_eq_false'] at hb
            cases th with
            | str h =>
              have pl0 : ((decide ((PyData.str h :: d2 :: dr).length ≤ 40000) && ((PyData.str h :: d2 :: dr).all (fun x => plA x && ndD x) && true)) || hdTup (PyData.str h :: d2 :: dr)) = true := pl
              have hdf : hdTup (PyData.str h :: d2 :: dr) = false := by
                cases dr <;> rfl
              rw [hdf, Bool.or_false, Bool.and_eq_true, Bool.and_true, List.all_eq_true] at pl0
              have plx : ∀ x ∈ d2 :: dr, plA x = true := fun x hx => by
                have := pl0.2 x (List.mem_cons_of_mem _ hx)
                rw [Bool.and_eq_true] at this
                exact this.1
              have nm : ∀ {σ : L2.St} {H2 : Hp} {i : Int} {y : V} {dy : PyData} {cs : List Addr}, Ex H H2 → σ[0]? = some (some (.ref a)) → atI (.str h :: x2 :: xr) i = some y → dy ∈ d2 :: dr → Dz H y dy cs → Ev (tCall (spNmL K) [] E0 (tCons (tOp (rIxT K) (tVar 0) (tC (.int i))) tNil)) σ H2 (.bl (nmD dy)) := fun {σ H2 i y dy cs} e2 h0 hi hm hd => by
                obtain ⟨n, ht, _⟩ := thing_d (K := K) hd (plx dy hm)
                rw [← dz_nm hd]
                exact ev_call (ea_cons (ev_op (ev_var h0) ev_c (rv_ixT (st _ e2) hi)) ea_nil) fun H3 e3 Q3 q3 E3 => ⟨y, n, rfl, ht.ex (e2.trans e3), dz_ok hd (plx dy hm), q3⟩
              have hd0 : ∀ {σ : L2.St} {H2 : Hp} {z : Str}, Ex H H2 → σ[0]? = some (some (.ref a)) → EvT (tTest (tOp rEq (tOp (rIxT K) (tVar 0) (tC (.int 0))) (tC (.str z)))) σ H2 (decide (h = z)) := fun {σ H2 z} e2 h0 => et_is (et_test (ev_op (ev_op (ev_var h0) ev_c (rv_ixT (st _ e2) hat0)) ev_c (rv_eq rfl))) (decide_eq_decide.mpr ⟨fun e => V.str.inj e, fun e => by rw [e]⟩)
              have ln : ∀ {σ : L2.St} {H2 : Hp} {m : Int}, Ex H H2 → σ[0]? = some (some (.ref a)) → Ev (tOp rEq (tCB (rLenS K) (tCons (tVar 0) tNil)) (tC (.int m))) σ H2 (.bl (decide (((xr.length : Int) + 2) = m))) := fun {σ H2 m} e2 h0 => Evl.ev_is (ev_op (ev_lenA (ev_var h0) (Or.inr (st _ e2))) ev_c (rv_eq rfl)) (congrArg V.bl (decide_eq_decide.mpr ⟨fun e => by have := V.int.inj e; rw [List.length_cons, List.length_cons] at this; omega, fun e => by rw [List.length_cons, List.length_cons]; congr 1 <;> omega⟩))
              have lr : xr.length = dr.length := by simpa using l
              refine s_if (b := decide (h = "size")) (hd0 e1 rfl) (fun hs H2 e2 => ?_) (fun hs H2 e2 => ?_)
              · have hs := of_decide_eq_true hs
                subst hs
                have E2 := e1.trans e2
                have p1 : isS "push" (.str "size") = false := by decide +kernel
                have p2 : isS "pop" (.str "size") = false := by decide +kernel
                have p3 : isS "steal" (.str "size") = false := by decide +kernel
                cases tr with
                | @cons _ _ _ _ c1 c2 t2 t3 =>
                  refine s_ret (v := .bl (entL (.str "size" :: d2 :: dr))) (Evl.ev_is (ev_andV (a := decide (((xr.length : Int) + 2) = 2)) (b := szD d2) (ln E2 rfl) (fun _ => ?_)) ?_) fun H3 e3 => hq H3 (E2.trans e3)
                  · obtain ⟨n, ht, _⟩ := thing_d (K := K) t2 (plx d2 (List.mem_cons_self ..))
                    rw [← dz_sz t2]
                    exact ev_call (ea_cons (ev_op (ev_var rfl) ev_c (rv_ixT (st _ E2) hat1)) (ea_cons ev_c (ea_cons ev_c ea_nil))) fun H3 e3 Q3 q3 E3 => ⟨x2, n, rfl, ht.ex (E2.trans e3), q3⟩
                  · congr 1
                    match dr, lr with
                    | [], lr =>
                      have : xr.length = 0 := lr
                      rw [decide_eq_true (by omega), Bool.true_and]
                      show szD d2 = (if (isS "push" (.str "size") || isS "pop" (.str "size")) = true then nmD d2 else isS "size" (.str "size") && szD d2)
                      rw [p1, p2, Bool.or_false, if_neg (by decide), isS_self, Bool.true_and]
                    | [d3], lr =>
                      have : xr.length = 1 := lr
                      rw [decide_eq_false (by omega), Bool.false_and]
                      show _ = (isS "steal" (.str "size") && (nmD d2 && nmD d3))
                      rw [p3, Bool.false_and]
                    | _ :: _ :: _, lr =>
                      rw [List.length_cons, List.length_cons] at lr
                      rw [decide_eq_false (by omega), Bool.false_and]
                      rfl
              · have hs := of_decide_eq_false hs
                have E2 := e1.trans e2
                refine s_if (b := decide (h = "steal")) (hd0 E2 rfl) (fun hs2 H3 e3 => ?_) (fun hs2 H3 e3 => ?_)
                · have hs2 := of_decide_eq_true hs2
                  subst hs2
                  have E3 := E2.trans e3
                  have p1 : isS "push" (.str "steal") = false := by decide +kernel
                  have p2 : isS "pop" (.str "steal") = false := by decide +kernel
                  have p3 : isS "size" (.str "steal") = false := by decide +kernel
                  cases tr with
                  | cons t2 t3 =>
                    rcases dr with _ | ⟨d3, _ | ⟨d4, dr⟩⟩
                    · rcases xr with _ | ⟨x3, xr⟩
                      · refine s_ret (v := .bl (entL [.str "steal", d2])) (Evl.ev_is (ev_andV (a := false) (b := false) (Evl.ev_is (ln E3 rfl) (congrArg V.bl (decide_eq_false (by decide)))) (fun z => nomatch z)) ?_) fun H4 e4 => hq H4 (E3.trans e4)
                        congr 1
                      · cases lr
                    · rcases xr with _ | ⟨x3, _ | ⟨x4, xr⟩⟩
                      · cases lr
                      · cases t3 with
                        | cons t3 t4 =>
                          refine s_ret (v := .bl (entL [.str "steal", d2, d3])) (Evl.ev_is (ev_andV (a := true) (b := nmD d2 && nmD d3) (Evl.ev_is (ln E3 rfl) (congrArg V.bl (decide_eq_true rfl))) (fun _ => ev_andV (nm E3 rfl hat1 (List.mem_cons_self ..) t2) (fun _ => nm E3 rfl hat2 (List.mem_cons_of_mem _ (List.mem_cons_self ..)) t3))) ?_) fun H4 e4 => hq H4 (E3.trans e4)
                          congr 1
                      · cases lr
                    · refine s_ret (v := .bl false) (Evl.ev_is (ev_andV (a := false) (b := false) (Evl.ev_is (ln E3 rfl) (congrArg V.bl (decide_eq_false (by rw [lr, List.length_cons, List.length_cons]; omega)))) (fun z => nomatch z)) rfl) fun H4 e4 => fin E3 rfl H4 e4
                · have hs2 := of_decide_eq_false hs2
                  have E3 := E2.trans e3
                  unfold tNext
                  dsimp only
                  have n1 : ∀ {z : Str}, h ≠ z → isS z (.str h) = false := fun n => decide_eq_false n
                  have hin : Ev (tOp (rIn K false) (tOp (rIxT K) (tVar 0) (tC (.int 0))) (tLst (tCons (tC (.str "push")) (tCons (tC (.str "pop")) tNil)))) [some (.ref a)] H3 (.bl (isS "push" (.str h) || isS "pop" (.str h))) := fun H4 e4 Q4 q4 =>
                    (ev_op (ev_var rfl) ev_c (rv_ixT (st _ E3) hat0) : Ev (tOp (rIxT K) (tVar 0) (tC (.int 0))) [some (.ref a)] H3 (.str h)) H4 e4 _ fun H5 e5 => ⟨(by show 2 ≤ sizeLine; decide), fun p hp => ⟨p, _, rfl, Or.inl (sq_of upd_same), rfl, rfl, by
                      have e := inV2 (a := "push") (b := "pop") (Dz.str (H := H) h)
                      show Q4 (.bl (inV (.str h) [.str "push", .str "pop"])) _
                      rw [e]
                      exact q4 _ (e5.trans (Ex.new hp))⟩⟩
                  cases tr with
                  | cons t2 t3 =>
                    refine s_ret (v := .bl (entL (.str h :: d2 :: dr))) (Evl.ev_is (ev_andV (a := isS "push" (.str h) || isS "pop" (.str h)) (b := decide (((xr.length : Int) + 2) = 2) && nmD d2) hin (fun _ => ev_andV (ln E3 rfl) (fun _ => nm E3 rfl hat1 (List.mem_cons_self ..) t2))) ?_) fun H4 e4 => hq H4 (E3.trans e4)
                    congr 1
                    match dr, lr with
                    | [], lr =>
                      have : xr.length = 0 := lr
                      rw [decide_eq_true (by omega), Bool.true_and]
                      show _ = (if (isS "push" (.str h) || isS "pop" (.str h)) = true then nmD d2 else isS "size" (.str h) && szD d2)
                      rw [n1 hs]
                      cases isS "push" (.str h) || isS "pop" (.str h) <;> rfl
                    | [d3], lr =>
                      have : xr.length = 1 := lr
                      rw [decide_eq_false (by omega), Bool.false_and, Bool.and_false]
                      show _ = (isS "steal" (.str h) && (nmD d2 && nmD d3))
                      rw [n1 hs2, Bool.false_and]
                    | _ :: _ :: _, lr =>
                      rw [List.length_cons, List.length_cons] at lr
                      rw [decide_eq_false (by omega), Bool.false_and, Bool.and_false]
                      rfl
            | _ => cases hb
    | _ => exact absurd rfl ht
end
end Vx

set_option Elab.async false
set_option linter.all false
set_option maxRecDepth 100000
set_option maxHeartbeats 8000000
namespace Vx
open PySem PySem.Spec PyProof.Rows L2 Evl
/-! the program: whether a removal fits, with both answers -/
def fitsB (e : En) (w : Str) (i : Nat) (r : Option (Str × Nat)) : Bool := match e, r with
  | .pop _, some z => decide (z.1 = w) && decide (z.2 < i)
  | .steal o _, some z => decide (z.1 = o) && !decide (z.1 = w)
  | .pop _, none => false
  | .steal _ _, none => false
  | _, _ => true
def spFitsB : Sp := fun vs H Q _ => ∃ (pd b c : Addr) (kvs : List (Key × V)) (x : Str) (i : Nat) (e : En) (r : Option (Str × Nat)), vs = [.ref pd, .ref b, .ref c] ∧ H pd = some (.dK kvs) ∧ H b = some (.tup [.str x, .int (i : Int)]) ∧ H c = some (.tup e.vs) ∧
  (r = none → valV kvs (.inr e.it) = none) ∧ (∀ z, r = some z → ∃ b', valV kvs (.inr e.it) = some (.ref b') ∧ H b' = some (.tup [.str z.1, .int (z.2 : Int)])) ∧ ∀ H', Ex H H' → Q (.bl (fitsB e x i r)) H'
section
variable {P : Program} {w : World} {K : PySem.W.Frag} {mg : Str → Option Value} {base : Heap}
theorem okB_removal_fits (D : Def K mg "removal_fits" s_removal_fits ["places", "place", "entry"]) (T : Bl mg) : Good P w K mg base 1 "removal_fits" ["places", "place", "entry"] spFitsB := by
  refine D.good sc_removal_fits (fun vs H Q E h => ?_) (fun f cdv A outer s H vs Q E hr h => ?_)
  · obtain ⟨pd, b, c, kvs, x, i, e, r, rfl, _⟩ := h
    rfl
  · obtain ⟨pd, b, c, kvs, x, i, e, r, rfl, hd, hb, hc, hno, hyes, q⟩ := h
    have hu := hu_of hr
    refine ⟨_, (pss_cons (ps_if (pt_cmpR (x_ni (K := K) rfl) (x_ixt (K := K) (pv 2) pe_int) (pe_tup (pa_cons pe_str (pa_cons pe_str pa_nil))) (by rfl)) (pss_one (ps_ret pe_bl)) pss_nil)
      (pss_cons (ps_if (pt_cmp (pc_dnotin hu (x_ixt (K := K) (pv 2) (pe_un un_neg pe_int)) (pv 0))) (pss_one (ps_ret pe_bl)) pss_nil)
      (pss_cons (ps_asg (pe_dget hu (pv 0) (x_ixt (K := K) (pv 2) (pe_un un_neg pe_int)) (fun _ _ => rfl)) (x_gt (K := K) (pgs_cons (pg_name (i := 3) sc_removal_fits.nd rfl (Or.inl rfl)) (pgs_cons (pg_name (i := 4) sc_removal_fits.nd rfl (Or.inl rfl)) pgs_nil))))
      (pss_cons (ps_if (pt_cmpR op_eq (x_ixt (K := K) (pv 2) pe_int) pe_str (nomark _)) (pss_one (ps_ret (pe_and (pe_cmpR op_eq (pv 3) (x_ixt (K := K) (pv 1) pe_int) (nomark _)) (pe_one (pe_cmpR op_lt (pv 4) (x_ixt (K := K) (pv 1) pe_int) (nomark _)))))) pss_nil)
      (pss_one (ps_ret (pe_and (pe_cmpR op_eq (pv 3) (x_ixt (K := K) (pv 2) pe_int) (nomark _)) (pe_one (pe_cmpR op_ne (pv 3) (x_ixt (K := K) (pv 1) pe_int) (nomark _)))))))))), ?_⟩
    refine s_if (b := !e.isRe) (et_is (et_test (ev_niU (ev_op (ev_var rfl) ev_c (rv_ixT (st_of hc) e.at0)) (eu_tup (ea_cons ev_c (ea_cons ev_c ea_nil)) (by show 2 ≤ 100000; decide)) rfl rfl)) e.isRe_not) (fun hn H1 e1 => ?_) (fun hn H1 e1 => ?_)
    · refine s_ret (v := .bl true) ev_c fun H2 e2 => ?_
      have := q H2 (e1.trans e2)
      cases e with
      | push y => exact this
      | size y => exact this
      | pop y => cases hn
      | steal o y => cases hn
    have hre : e.isRe = true := by
      cases h : e.isRe with
      | true => rfl
      | false => rw [h] at hn; cases hn
    have last : ∀ {σ : L2.St} {H2 : Hp}, Ex H H2 → σ[2]? = some (some (.ref c)) → Ev (tOp (rIxT K) (tVar 2) (tUn (rU fun i => .int (-i)) (tC (.int 1)))) σ H2 (.str e.it) := fun e2 h => ev_op (ev_var h) (ev_un ev_c ru_neg) (rv_ixT (st_of (e2 _ _ hc)) (e.atL hre))
    rcases r with _ | ⟨x', i'⟩
    · refine s_if (b := true) (et_B (ev_is (ev_dni (last e1 rfl) (ev_var rfl) (e1 _ _ hd) (hno rfl)) rfl)) (fun _ H2 e2 => ?_) (fun z => nomatch z)
      refine s_ret (v := .bl false) ev_c fun H3 e3 => ?_
      have := q H3 ((e1.trans e2).trans e3)
      cases e with
      | push y => cases hre
      | size y => cases hre
      | pop y => exact this
      | steal o y => exact this
    · obtain ⟨b', hv, hb'⟩ := hyes _ rfl
      refine s_if (b := false) (et_B (ev_is (ev_dni (last e1 rfl) (ev_var rfl) (e1 _ _ hd) hv) rfl)) (fun z => nomatch z) (fun _ H2 e2 => ?_)
      have E2 := e1.trans e2
      refine s_unpack (ev_dget (ev_var rfl) (last E2 rfl) (E2 _ _ hd) hv) (E2 _ _ hb') fun H3 e3 => ?_
      have E3 := E2.trans e3
      refine s_if (b := e.isPo) (et_is (et_test (ev_op (ev_op (ev_var rfl) ev_c (rv_ixT (st_of (E3 _ _ hc)) e.at0)) ev_c (rv_eq rfl))) e.isPo_eq) (fun hp H4 e4 => ?_) (fun hp H4 e4 => ?_)
      · have E4 := E3.trans e4
        cases e with
        | pop y =>
          refine s_ret (v := .bl (decide (x' = x) && decide (i' < i))) (ev_andV (ev_is (ev_op (ev_var rfl) (ev_op (ev_var rfl) ev_c (rv_ixT (st_of (E4 _ _ hb)) rfl)) (rv_eq rfl)) (by simp)) (fun _ => ev_is (ev_op (ev_var rfl) (ev_op (ev_var rfl) ev_c (rv_ixT (st_of (E4 _ _ hb)) rfl)) rv_I0) (by simp))) fun H5 e5 => ?_
          exact q H5 (E4.trans e5)
        | push y => cases hp
        | size k => cases hp
        | steal o y => cases hp
      · have E4 := E3.trans e4
        cases e with
        | steal o y =>
          refine s_ret (v := .bl (decide (x' = o) && !decide (x' = x))) (ev_andV (ev_is (ev_op (ev_var rfl) (ev_op (ev_var rfl) ev_c (rv_ixT (st_of (E4 _ _ hc)) rfl)) (rv_eq rfl)) (by simp)) (fun _ => ev_is (ev_op (ev_var rfl) (ev_op (ev_var rfl) ev_c (rv_ixT (st_of (E4 _ _ hb)) rfl)) (rv_ne rfl)) (by simp))) fun H5 e5 => ?_
          exact q H5 (E4.trans e5)
        | push y => cases hre
        | size k => cases hre
        | pop y => cases hp
end
end Vx

set_option Elab.async false
set_option linter.all false
set_option maxRecDepth 100000
set_option maxHeartbeats 4000000
namespace Vx
open PySem PySem.Spec PyProof.Rows L2
/-! set(xs), xs a list of distinct keys of any kind -/
section
variable {prog : Program} {w : World} {A : Around} {R : Result → Shared → Prop} {I : Addr} {fp wr : List Addr} {G : Array GenState → Array GenState → Prop} {n : Nat} {P : Nat → Value → Prop} {St : Nat → Shared → Prop}
variable {K : Type} [DecidableEq K] [BEq K] [LawfulBEq K] {knd : KeyKind prog w K}
/-- how many different keys there are so far -/
def Num (key : Nat → K) : Nat → Nat
  | 0 => 0
  | c + 1 => if Sofar key c (key c) = true then Num key c else Num key c + 1
theorem Num_le (key : Nat → K) : ∀ c, Num key c ≤ c
  | 0 => Nat.le_refl _
  | c + 1 => by
    have := Num_le key c
    unfold Num
    split <;> omega
theorem Num_all {key : Nat → K} : ∀ {n : Nat}, (∀ j c, j < c → c < n → key j ≠ key c) → Num key n = n
  | 0, _ => rfl
  | n + 1, h => by
    unfold Num
    rw [if_neg (by rw [sofar_no fun j hj => h j n hj (Nat.lt_succ_self _)]; exact Bool.false_ne_true), Num_all fun j c h1 h2 => h j c h1 (by omega)]
theorem Num_lt {key : Nat → K} : ∀ {n : Nat}, (∃ j c, j < c ∧ c < n ∧ key j = key c) → Num key n < n
  | 0, ⟨_, _, _, h, _⟩ => by omega
  | n + 1, ⟨j, c, h1, h2, h3⟩ => by
    unfold Num
    by_cases z : c = n
    · subst z
      have : Sofar key c (key c) = true := by
        unfold Sofar
        rw [List.any_eq_true]
        exact ⟨j, List.mem_range.mpr h1, decide_eq_true h3⟩
      rw [if_pos this]
      have := Num_le key c
      omega
    · have := Num_lt (n := n) ⟨j, c, h1, by omega, h3⟩
      split <;> omega
/-- one key more: the turns of the walk W from c on -/
theorem set_turnsD (W : WalksS prog w A.in1 I fp wr G n P St) {T : Addr} (hT : T ∉ fp) {key : Nat → K} (hkey : ∀ c v, P c v → knd.is (key c) v = true ∧ v.scannable = true)
    (room : n + 1 < scanBound) : ∀ (left c : Nat) (s : Shared), c + left = n → St c s → s.heap.SetOf knd T (Sofar key c) (Num key c) →
      (∀ s2, Moved (T :: wr) G s s2 → s2.heap.SetOf knd T (Sofar key n) (Num key n) → R (.ok (.ret .none)) s2) → codeAny (model prog w) A (.builtin "set.update.loop" ⟨[.ref T, .ref I], []⟩) R s := by
  have nT : T ∉ wr := fun z => hT (W.sub _ z)
  have up : ∀ {s1 s2 : Shared}, Moved wr G s1 s2 → Moved (T :: wr) G s1 s2 := fun m => m.mono fun b hb => List.mem_cons_of_mem _ hb
  have keep : ∀ {s1 s2 : Shared} {S : K → Bool} {c : Nat}, Moved wr G s1 s2 → s1.heap.SetOf knd T S c → s2.heap.SetOf knd T S c := fun m so => by
    obtain ⟨ob, es, ep, tb, at_, more⟩ := so
    exact ⟨ob, es, ep, tb, m.heap T _ nT at_, more⟩
  intro left
  induction left with
  | zero =>
    intro c s hc st so out
    obtain rfl : c = n := by omega
    refine codeAny_builtin PyProof.Rows.F.entry_set_update_loop ?_; rw [Around.under_plainId PyProof.Rows.F.plain_set_update_loop _]
    refine wpAny_bind (m := pyNext (.ref I)) (W.done s _ _ st fun s2 m => ?_)
    exact wpAny_pure (out s2 (up m) (keep m so))
  | succ left ih =>
    intro c s hc st so out
    have hlt : c < n := by omega
    refine codeAny_builtin PyProof.Rows.F.entry_set_update_loop ?_; rw [Around.under_plainId PyProof.Rows.F.plain_set_update_loop _]
    refine wpAny_bind (m := pyNext (.ref I)) (W.item c s _ _ hlt st fun v s2 pv st2 m => ?_)
    obtain ⟨isv, scv⟩ := hkey c v pv
    refine wpAny_bind (m := holding [v] (setAdd T v)) (wpAny_holding ?_)
    have so2 := keep m so
    unfold setAdd; refine wpAny_holding (wpAny_bind (knd.pyHash isv ?_))
    refine wpAny_setAddHashed_of (s := { s2 with toks := s2.toks + 1 }) isv scv so2 (by have := Num_le key c; omega) fun h3 only so3 => ?_
    have so4 : h3.SetOf knd T (Sofar key (c + 1)) (Num key (c + 1)) := SetOf_congr so3 (fun x => (sofar_succ key c x).symm) rfl
    have other : ∀ b ∈ fp, b ≠ T := fun b hb z => hT (z ▸ hb)
    refine wpAny_pure ⟨plainId_quiet PyProof.Rows.F.plain_set_update_loop _, ih (c + 1) _ (by omega) (W.frame _ s2 _ _ st2 (Nat.le_succ _) fun b hb o e => (only.2 b (other b hb)).trans e) so4 fun s5 m5 so5 => ?_⟩
    exact out s5 (Moved.trans W.gtrans ((up m).then_heap (Nat.le_succ _) fun b o hb e => (only.2 b fun z => hb (z ▸ List.mem_cons_self)).trans e) m5) so5
end
end Vx
namespace Vx
open PySem PySem.Spec PyProof.Rows L2
section
variable {prog : Program} {w : World} {A : Around} {E : Value → Shared → Prop} {s : Shared}
variable {K : Type} [DecidableEq K] [BEq K] [LawfulBEq K] {knd : KeyKind prog w K}
theorem set_of_listD {l : Addr} {its : Array Value} {key : Nat → K} {Q : Value → Shared → Prop} (quiet : A.handled = none) (hl : s.heap.IsList l its) (hkey : ∀ c v, its[c]? = some v → knd.is (key c) v = true ∧ v.scannable = true)
    (room : its.size + 1 < scanBound)
    (out : ∀ (h2 : Heap) (tk : Nat), h2.SetOf knd s.heap.objs.size (Sofar key its.size) (Num key its.size) → (∀ b o, b < s.heap.objs.size → s.heap.get? b = some o → h2.get? b = some o) → Q (.ref s.heap.objs.size) { s with heap := h2, toks := tk }) :
    wpAny (model prog w) A (call (.type "set") [.ref l]) Q E s := by
  obtain ⟨cc, rest, mro⟩ := PySem.F.called_set.mro
  have a1 := PySem.F.called_set.made; have a2 := PySem.F.called_set.sub; have a3 := PySem.F.called_set.notType; have a4 := PySem.F.called_set.canCreate
  have a5 := PySem.F.typeCall_set_1 (.ref l)
  refine wpAny_call (codeAny_of_tree ?_); show wpAny _ _ (callAny (.type "set") _) _ _ _
  refine wpAny_pure ⟨Code.quiet_builtin _ (by decide +kernel), codeAny_builtin PySem.F.entry_type_call ?_⟩
  rw [Around.under_plain (weight_type_call_type "set" [.ref l] []) rfl]
  have h1 := a3; have h2 := a4; have hct := a5; have hmade := a1; have hsub := a2; have hmro := mro
  repeat (any_goals (first | assumption | wp_step))
  refine codeAny_mono (code_set_new_1 (.ref l) (E := E) (Q₁ := fun v s1 => ∃ led, v = .ref s.heap.objs.size ∧ s1 = { s with heap := s.heap.push (set0 led) }) fun led => ⟨led, rfl, rfl⟩) fun r s1 hr => ?_
  rcases r with e | fl
  · exact hr
  cases fl with
  | ret v =>
    obtain ⟨led, rfl, rfl⟩ := hr
    have at0 : (s.heap.push (set0 led)).get? s.heap.objs.size = some (set0 led) := Heap.get?_push_size _ rfl
    have hT : Shared.TypeIs { s with heap := s.heap.push (set0 led) } (.ref s.heap.objs.size) "set" := ⟨_, at0, rfl⟩
    have hli := PySem.F.called_set.init.lookup; have hbi := PySem.F.called_set.init.bind (.ref s.heap.objs.size)
    repeat (any_goals (first | assumption | wp_step))
    refine codeAny_mono (codeAny_call_builtin (R := wants (fun r s2 => r = .none ∧ ∃ h2 tk, s2 = { s with heap := h2, toks := tk } ∧ h2.SetOf knd s.heap.objs.size (Sofar key its.size) (Num key its.size) ∧ ∀ b o, b < s.heap.objs.size → s.heap.get? b = some o → h2.get? b = some o) E)
      PySem.F.called_set.init.plain PySem.F.entry_set_init (check_set_init_1 hT ?_)) fun r2 s2 hr2 => ?_
    · obtain ⟨⟨_, od, _, osl⟩, at1, rfl, nl, rfl⟩ := hl
      have inl : (s.heap.push (set0 led)).IsList l its := ⟨_, Heap.get?_push_of_some _ at1, rfl, nl, rfl⟩
      have hol' : (s.heap.push (set0 led)).get? l = some { cls := .type "list", dict := od, data := .seq its nl, slots := osl } := Heap.get?_push_of_some _ at1
      have b1 := PySem.F.sub_list_set; have b2 := PySem.F.sub_list_frozenset
      have b3 : (Value.type "list" == Value.type "dict") = false := by decide
      unfold Builtin.«set.__init__» noKeywords Builtin.Frozenset.updateFrom
      generalize hit : pyIter = it0
      wp_walk
      subst hit
      refine wpAny_pyIter_list inl (wpAny_bind (wpAny_runValue ?_))
      have below : l < s.heap.objs.size := Heap.lt_size at1
      have sz : (s.heap.push (set0 led)).objs.size = s.heap.objs.size + 1 := Heap.size_push ..
      refine set_turnsD (knd := knd) (key := key) (n := its.size) ((Walks.list (by simp [quiet]) _ l (by rw [sz]; exact Nat.ne_of_lt (Nat.lt_succ_of_lt below)) its).toS) (by
        rw [sz]
        intro z
        rcases List.mem_cons.mp z with z | z
        · exact Nat.ne_of_lt (Nat.lt_succ_self _) z
        · exact Nat.ne_of_gt below (List.mem_singleton.mp z)) hkey room its.size 0 _ (by omega) ⟨⟨_, Heap.get?_push_size _ rfl, rfl, rfl⟩, inl.push _⟩ ?_ fun s5 m so => ?_
      · exact SetOf_congr ((setObjOf_fresh (knd := knd) led).setOf (Heap.get?_push_of_some _ at0) (by unfold scanBound; omega)) (fun _ => rfl) rfl
      · obtain ⟨h5, g5, d5, t5, o5⟩ := s5
        obtain rfl : g5 = s.gens := m.gens
        obtain rfl : d5 = s.drawn := m.drawn
        obtain rfl : o5 = s.os := m.os
        refine wpAny_pure (wpAny_pure ⟨rfl, h5, t5, rfl, so, fun b o hb e => m.heap b o ?_ (Heap.get?_push_of_some _ (Heap.get?_push_of_some _ e))⟩)
        rw [sz]
        intro z
        rcases List.mem_cons.mp z with z | z
        · exact Nat.ne_of_lt hb z
        · exact Nat.ne_of_lt (Nat.lt_succ_of_lt hb) (List.mem_singleton.mp z)
    · rcases r2 with e | f2
      · exact hr2
      cases f2 with
      | ret v =>
        obtain ⟨rfl, h5, t5, rfl, so, kp⟩ := hr2
        repeat (any_goals (first | assumption | wp_step))
        exact out _ _ so kp
      | _ => exact hr2.elim
  | _ => exact hr.elim
end
end Vx

set_option Elab.async false
set_option linter.all false
set_option maxRecDepth 100000
set_option maxHeartbeats 4000000
namespace Vx
open PySem PySem.Spec PyProof.Rows L2 Evl
/-- len(set(xs)), xs any list of texts -/
def numS (xs : List Str) : Nat := Num (fun c => xs.getD c Str.empty) xs.length
def tLenTd (K : PySem.W.Frag) (ta : TE) : TE := fun σ H Q => ta σ H fun x H1 => ∃ (l : Addr) (xs : List Str), x = .ref l ∧ SqL K H1 l (xs.map V.str) ∧ xs.length ≤ 4000 ∧ Q (.int (numS xs : Int)) H1
theorem pe_lenTd {X : Cx} {K : PySem.W.Frag} {a : Expr} {ta : TE} {p p2 pos pos2 : Pos} (hK : X.K = K) (calm : X.calm = true) (g1 : Gl X "len") (m1 : X.mg "len" = none) (g2 : Gl X "set") (m2 : X.mg "set" = none) (ha : PE X a ta)
    (st : starEach [a] X.env = (false, eval a X.env) :: starEach [] X.env := by rfl) : PE X (.Call (.Name "len" p) [.Call (.Name "set" p2) [a] [] pos2] [] pos) (tLenTd K ta) := by
  subst hK
  refine ⟨fun pins s σ H Q I hq => ?_⟩
  refine Call_ (ld_blt I g1 m1 PySem.boot_len (callWith_builtin1 (args_cons (Call_ (ld_blt I g2 m2 boot_set (callWith_type1 (args_cons (thn (ha.run pins s σ H _ I hq) fun v s1 ⟨x, H1, I1, r1, q1⟩ => args_nil ?_) st) st rfl))) rfl) rfl rfl))
  obtain ⟨l, xs, rfl, sq, hz, q1⟩ := q1
  cases r1
  obtain ⟨its, r, pl, _⟩ := I1.list sq
  have sa := strsAre_of r
  have len : its.toArray.size = xs.length := by rw [List.size_toArray, ← r.length, List.length_map]
  have bound : its.toArray.size + 1 < scanBound := by rw [len]; unfold scanBound; omega
  refine set_of_listD (knd := PySem.strKind X.prog X.w) (key := fun c => xs.getD c Str.empty) (I1.ok.hd calm) pl.isList (fun c v hv => ?_) bound fun h2 tk so kp => ?_
  · rw [← Array.getElem?_toList] at hv
    obtain ⟨t, rfl⟩ := SS.strs_at sa c v hv
    exact ⟨PySem.strKind_is _ _ _ _, rfl⟩
  · refine args_nil ?_
    obtain ⟨ob, es, ep, tb, at_, ex, dd, _, _, _, fits, num⟩ := so
    have I2 : Inv X pins σ H1 { s1 with heap := h2, toks := tk } := I1.kept fun b o e => kp b o (Heap.lt_size e) e
    exact call_len_set at_ ex dd fits (by have := Num_le (fun c => xs.getD c Str.empty) xs.length; rw [num, len]; omega) ⟨.int (numS xs), H1, I2.tok _, ⟨_, by rw [num, len]; rfl⟩, q1⟩
end Vx

set_option Elab.async false
set_option linter.all false
set_option maxRecDepth 100000
set_option maxHeartbeats 8000000
namespace Vx
open PySem PySem.Spec PyProof.Rows L2 Evl
/-! what it is for logs to fit -/
def tr1 (z : Str × List En) : List Tri := z.2.zipIdx.map fun x => (z.1, x.2, x.1)
def Tr (ws : List Str) (L : List (List En)) : List Tri := (ws.zip L).flatMap tr1
def pushAt (ws : List Str) (L : List (List En)) (x : Str) : Option (Str × Nat) := ((Tr ws L).find? fun t => t.2.2.isPu && decide (t.2.2.it = x)).map fun t => (t.1, t.2.1)
def fitL (ws : List Str) (L : List (List En)) : Bool := (decide (L.flatMap pus).Nodup && decide (L.flatMap res).Nodup) && (Tr ws L).all fun t => fitsB t.2.2 t.1 t.2.1 (pushAt ws L t.2.2.it)
theorem Rw_Tr : ∀ {ws : List Str} {ps : List Addr} {L : List (List En)}, ps.length = ws.length → L.length = ws.length → Rw (lgs ws ps L) = Tr ws L
  | [], _, _, _, _ => rfl
  | w :: ws, [], _, h, _ => by cases h
  | w :: ws, p :: ps, [], _, h => by cases h
  | w :: ws, p :: ps, es :: L, h1, h2 => by
    have ih := Rw_Tr (ws := ws) (ps := ps) (L := L) (by simpa using h1) (by simpa using h2)
    have e1 : Rw (lgs (w :: ws) (p :: ps) (es :: L)) = rw1 (w, p, es) ++ Rw (lgs ws ps L) := rfl
    have e2 : Tr (w :: ws) (es :: L) = tr1 (w, es) ++ Tr ws L := rfl
    rw [e1, e2, ih]
    rfl
theorem perm_Tr {ws : List Str} {ps : List Addr} {L : List (List En)} {zs : List Lg} (h1 : ps.length = ws.length) (h2 : L.length = ws.length) (h : zs.Perm (lgs ws ps L)) : (Rw zs).Perm (Tr ws L) := by
  rw [← Rw_Tr h1 h2]
  exact perm_flat h
theorem pl_some {R : List RowA} (nd : ((R.filter (·.e.isPu)).map (·.e.it)).Nodup) {r : RowA} (m : r ∈ R) (h : r.e.isPu = true) : valV (Plc En.isPu R) (.inr r.e.it) = some (.ref r.b) := by
  refine valV_mem ?_ (List.mem_map.mpr ⟨r, List.mem_filter.mpr ⟨m, h⟩, rfl⟩)
  have : (Plc En.isPu R).map (·.1) = ((R.filter (·.e.isPu)).map (·.e.it)).map Sum.inr := by
    unfold Plc
    rw [List.map_map, List.map_map]
    rfl
  rw [this]
  exact nd.map _ fun a b hab e => hab (Sum.inr.inj e)
theorem pushAt_some {ws : List Str} {L : List (List En)} {x : Str} {z : Str × Nat} (h : pushAt ws L x = some z) : ∃ e, (z.1, z.2, e) ∈ Tr ws L ∧ e.isPu = true ∧ e.it = x := by
  unfold pushAt at h
  obtain ⟨t, ht, rfl⟩ := Option.map_eq_some_iff.mp h
  have hp := List.find?_some ht
  rw [Bool.and_eq_true] at hp
  exact ⟨t.2.2, List.mem_of_find?_eq_some ht, hp.1, of_decide_eq_true hp.2⟩
theorem pushAt_none {ws : List Str} {L : List (List En)} {x : Str} (h : pushAt ws L x = none) : ∀ t ∈ Tr ws L, t.2.2.isPu = true → t.2.2.it ≠ x := by
  intro t ht hp e
  unfold pushAt at h
  rw [Option.map_eq_none_iff, List.find?_eq_none] at h
  exact h t ht (by rw [hp, decide_eq_true e]; rfl)
end Vx

set_option Elab.async false
set_option linter.all false
set_option maxRecDepth 100000
set_option maxHeartbeats 8000000
namespace Vx
open PySem PySem.Spec PyProof.Rows L2 Evl
theorem numS_lt (xs : List Str) : decide ((numS xs : Int) < (xs.length : Int)) = !decide xs.Nodup := by
  by_cases nd : xs.Nodup
  · have : numS xs = xs.length := Num_all fun j c hj hc z => by
      have e1 := List.getElem?_eq_getElem hc
      have e2 := List.getElem?_eq_getElem (show j < xs.length by omega)
      rw [getD_at e1, getD_at e2] at z
      have := (List.getElem?_inj (show j < xs.length by omega) nd (j := c)).mp (by rw [e1, e2, z])
      omega
    rw [this, decide_eq_true nd, decide_eq_false (by omega)]
    rfl
  · have : numS xs < xs.length := by
      refine Num_lt ?_
      by_cases h : ∃ j c, j < c ∧ c < xs.length ∧ xs.getD j Str.empty = xs.getD c Str.empty
      · exact h
      · refine absurd (List.pairwise_iff_getElem.mpr fun i j hi hj hij z => h ⟨i, j, hij, hj, ?_⟩) nd
        rw [getD_at (List.getElem?_eq_getElem hi), getD_at (List.getElem?_eq_getElem hj), z]
    rw [decide_eq_false nd, decide_eq_true (by omega)]
    rfl
theorem ev_lenTd {K : PySem.W.Frag} {σ : L2.St} {H : Hp} {te : TE} {l : Addr} {xs : List Str} (h : Ev te σ H (.ref l)) (hl : SqL K H l (xs.map V.str)) (hz : xs.length ≤ 4000) : Ev (tLenTd K te) σ H (.int (numS xs : Int)) := fun H1 e Q q =>
  h H1 e _ fun H2 e2 => ⟨l, xs, rfl, ex_l (e.trans e2) hl, hz, q H2 e2⟩
section
variable {P : Program} {w : World} {K : PySem.W.Frag} {mg : Str → Option Value} {base : Heap}
theorem okB_items_fit (D : Def K mg "items_fit" s_items_fit ["logs"]) (T : Bl mg) (G_all_entries : Good P w K mg base 1 "all_entries" ["logs"] (spRows K)) (G_push_places : Good P w K mg base 2 "push_places" ["logs"] (spPlc En.isPu pus)) (G_removal_fits : Good P w K mg base 1 "removal_fits" ["places", "place", "entry"] spFitsB) : Good P w K mg base 3 "items_fit" ["logs"] (spFB fitL) := by
  refine D.good sc_items_fit (fun vs H Q E h => ?_) (fun f cdv A outer s H vs Q E hr h => ?_)
  · obtain ⟨d, ws, ps, L, rfl, _⟩ := h
    rfl
  · obtain ⟨d, ws, ps, L, rfl, hl0, v, q⟩ := h
    have hu := hu_of hr
    refine ⟨_, (pss_cons (ps_set (i := 1) sc_items_fit.nd rfl (Or.inl rfl) (pe_fn (G_all_entries.mono (by decide)) hr (pa_cons (pv 0) pa_nil)))
      (pss_cons (ps_setLc (i := 2) (own := [("place", 5), ("entry", 6)]) (g := (gTup K 2 (gCons (gName 5) (gCons (gName 6) gNil))))  rfl sc_items_fit.nd rfl rfl (sw_true rfl rfl rfl (by decide +kernel)) (x_pil (K := K) (pv 1)) (blkOk_by (N := ["logs", "rows", "pushed", "removed", "places", "place", "entry"]) (sc := (defScope s_items_fit)) (by decide +kernel)) (fun _ _ _ _ _ => (x_gt (K := K) (pgs_cons (pg_name (i := 5) sc_items_fit.nd rfl (Or.inl rfl)) (pgs_cons (pg_name (i := 6) sc_items_fit.nd rfl (Or.inl rfl)) pgs_nil)))) (fun _ _ _ _ _ => (pts_one (pt_cmpR op_eq (x_ixt (K := K) (pv 6) pe_int) pe_str (nomark _)))) (fun _ _ _ _ _ => (x_ixt (K := K) (pv 6) pe_int)))
      (pss_cons (ps_setLc (i := 3) (own := [("place", 5), ("entry", 6)]) (g := (gTup K 2 (gCons (gName 5) (gCons (gName 6) gNil))))  rfl sc_items_fit.nd rfl rfl (sw_true rfl rfl rfl (by decide +kernel)) (x_pil (K := K) (pv 1)) (blkOk_by (N := ["logs", "rows", "pushed", "removed", "places", "place", "entry"]) (sc := (defScope s_items_fit)) (by decide +kernel)) (fun _ _ _ _ _ => (x_gt (K := K) (pgs_cons (pg_name (i := 5) sc_items_fit.nd rfl (Or.inl rfl)) (pgs_cons (pg_name (i := 6) sc_items_fit.nd rfl (Or.inl rfl)) pgs_nil)))) (fun _ _ _ _ _ => (pts_one (pt_cmpR (x_in (K := K) rfl) (x_ixt (K := K) (pv 6) pe_int) (pe_tup (pa_cons pe_str (pa_cons pe_str pa_nil))) (by rfl)))) (fun _ _ _ _ _ => (x_ixt (K := K) (pv 6) (pe_un un_neg pe_int))))
      (pss_cons (ps_if (pw_or (pt_cmpR op_lt (pe_lenTd (K := K) rfl rfl (by rfl) T.len (by rfl) T.set (pv 2)) (x_len (K := K) T (pv 2)) (nomark _)) (pw_or1 (pt_cmpR op_lt (pe_lenTd (K := K) rfl rfl (by rfl) T.len (by rfl) T.set (pv 3)) (x_len (K := K) T (pv 3)) (nomark _)))).pt (pss_one (ps_ret pe_bl)) pss_nil)
      (pss_cons (ps_set (i := 4) sc_items_fit.nd rfl (Or.inr rfl) (pe_fn (G_push_places.mono (by decide)) hr (pa_cons (pv 0) pa_nil)))
      (pss_one (ps_ret (x_all (K := K) T (pe_lc (own := [("place", 5), ("entry", 6)]) (g := (gTup K 2 (gCons (gName 5) (gCons (gName 6) gNil)))) (tt := tYes) rfl sc_items_fit.nd (x_pil (K := K) (pv 1)) (blkOk_by (N := ["logs", "rows", "pushed", "removed", "places", "place", "entry"]) (sc := (defScope s_items_fit)) (by decide +kernel)) (fun _ _ _ _ _ => (x_gt (K := K) (pgs_cons (pg_name (i := 5) sc_items_fit.nd rfl (Or.inl rfl)) (pgs_cons (pg_name (i := 6) sc_items_fit.nd rfl (Or.inl rfl)) pgs_nil)))) (fun _ _ _ _ _ => pts_nil) (fun _ _ _ _ _ => (pe_fn (G_removal_fits.mono (by decide)) hr (pa_cons (pv 4) (pa_cons (pv 5) (pa_cons (pv 6) pa_nil)))))))))))))), ?_⟩
    have hl := hl0.r
    have ok : LgOk ws L := ⟨v.wk.2.2.1, v.wk.2.1, v.len, fun es he => (v.ent es he).1⟩
    refine ⟨_, rfl, d, ws, ps, L, rfl, hl, ok.nd, ok.wl, ok.ll, ok.el, fun p as R zs H1 n1 e1 h1 hR hz hso hRt hal => ?_⟩
    have tup : ∀ {H2 : Hp}, Ex H1 H2 → ∀ (i : Nat) (x : V), (as.map V.ref)[i]? = some x → ∃ (a : Addr) (r : RowA), x = .ref a ∧ R[i]? = some r ∧ RowAt H2 a r := fun e2 i x hx => by
      obtain ⟨a, r, rfl, hr, ha⟩ := row_at hR hx
      exact ⟨a, r, rfl, hr, ha.tk (tk_ex e2)⟩
    have kPu : given (as.map V.ref).length (fun i => (R.getD i row0).e.isPu) (fun i => V.str (R.getD i row0).e.it) = (zs.flatMap fun z => pus z.2.2).map V.str := by
      rw [List.length_map, hR.length, given_list R row0 (fun r => r.e.isPu) (fun r => V.str r.e.it), ← rows_pus hRt, List.map_map]
      rfl
    have kRe : given (as.map V.ref).length (fun i => (R.getD i row0).e.isRe) (fun i => V.str (R.getD i row0).e.it) = (zs.flatMap fun z => res z.2.2).map V.str := by
      rw [List.length_map, hR.length, given_list R row0 (fun r => r.e.isRe) (fun r => V.str r.e.it), ← rows_res hRt, List.map_map]
      rfl
    have lenR : R.length ≤ 360 := by rw [← hR.length]; exact hal
    have lPu : (zs.flatMap fun z => pus z.2.2).length ≤ 4000 := by
      rw [← rows_pus hRt, List.length_map]
      have := List.length_filter_le (fun r : RowA => r.e.isPu) R
      omega
    have lRe : (zs.flatMap fun z => res z.2.2).length ≤ 4000 := by
      rw [← rows_res hRt, List.length_map]
      have := List.length_filter_le (fun r : RowA => r.e.isRe) R
      omega
    have hasl : (as.map V.ref).length ≤ 40000 := by rw [List.length_map]; omega
    dsimp only [gName]
    refine q_asgL (xs := (zs.flatMap fun z => pus z.2.2).map V.str) ?_ fun pl H2 n2 e2 h2 => ?_
    · rw [← kPu]
      refine el_lcG _ _ (fun i => [some (.ref d), some (.ref p), none, none, none, some (.ref (R.getD i row0).b), some (.ref (R.getD i row0).c)]) (ev_var rfl) (sq_of h1) hasl (fun i x hx => ?_) (fun i x hx => ?_) (fun i x hx hf => ?_)
      · obtain ⟨a, r, rfl, hr, ha, hb, hc⟩ := tup (Ex.refl H1) i x hx
        rw [getD_at hr]
        exact ⟨rfl, fun H3 e3 Q' q' => ⟨a, _, rfl, st_of (e3 _ _ ha), rfl, _, _, rfl, _, _, rfl, rfl, q' H3 (Ex.refl H3)⟩⟩
      · obtain ⟨a, r, rfl, hr, ha, hb, hc⟩ := tup (Ex.refl H1) i x hx
        rw [getD_at hr]
        exact et_is (et_test (ev_op (ev_op (ev_var rfl) ev_c (rv_ixT (st_of hc) r.e.at0)) ev_c (rv_eq rfl))) r.e.isPu_eq
      · obtain ⟨a, r, rfl, hr, ha, hb, hc⟩ := tup (Ex.refl H1) i x hx
        rw [getD_at hr] at hf ⊢
        exact ev_op (ev_var rfl) ev_c (rv_ixT (st_of hc) (r.e.at1 hf))
    refine q_asgL (xs := (zs.flatMap fun z => res z.2.2).map V.str) ?_ fun rl H3 n3 e3 h3 => ?_
    · rw [← kRe]
      refine el_lcG _ _ (fun i => [some (.ref d), some (.ref p), some (.ref pl), none, none, some (.ref (R.getD i row0).b), some (.ref (R.getD i row0).c)]) (ev_var rfl) (sq_of (e2 _ _ h1)) hasl (fun i x hx => ?_) (fun i x hx => ?_) (fun i x hx hf => ?_)
      · obtain ⟨a, r, rfl, hr, ha, hb, hc⟩ := tup e2 i x hx
        rw [getD_at hr]
        exact ⟨rfl, fun H3 e3 Q' q' => ⟨a, _, rfl, st_of (e3 _ _ ha), rfl, _, _, rfl, _, _, rfl, rfl, q' H3 (Ex.refl H3)⟩⟩
      · obtain ⟨a, r, rfl, hr, ha, hb, hc⟩ := tup e2 i x hx
        rw [getD_at hr]
        exact et_is (et_test (ev_inU (ev_op (ev_var rfl) ev_c (rv_ixT (st_of hc) r.e.at0)) (eu_tup (ea_cons ev_c (ea_cons ev_c ea_nil)) (by show 2 ≤ 100000; decide)) rfl rfl)) r.e.isRe_eq
      · obtain ⟨a, r, rfl, hr, ha, hb, hc⟩ := tup e2 i x hx
        rw [getD_at hr] at hf ⊢
        exact ev_op (ev_var rfl) (ev_un ev_c ru_neg) (rv_ixT (st_of hc) (r.e.atL hf))

    have h23 := e3 _ _ h2
    have nPu := (flat_lgs (f := pus) hl.pl ok.ll hz).nodup_iff
    have nRe := (flat_lgs (f := res) hl.pl ok.ll hz).nodup_iff
    refine q_if (b := !decide (zs.flatMap fun z => pus z.2.2).Nodup || !decide (zs.flatMap fun z => res z.2.2).Nodup) (et_or (et_test (ev_is (ev_op (ev_lenTd (ev_var rfl) (sq_of h23) lPu) (ev_lenA (ev_var rfl) (Or.inl (sq_of h23))) rv_I0) (by rw [List.length_map, numS_lt])))
      (fun _ => et_test (ev_is (ev_op (ev_lenTd (ev_var rfl) (sq_of h3) lRe) (ev_lenA (ev_var rfl) (Or.inl (sq_of h3))) rv_I0) (by rw [List.length_map, numS_lt])))) (fun hb H4 e4 => ?_) (fun hb H4 e4 => ?_)
    · have E4 := (e2.trans e3).trans e4
      refine s_ret (v := .bl false) ev_c fun H5 e5 => ?_
      have := q H5 ((e1.trans E4).trans e5)
      have z2 : fitL ws L = false := by
        unfold fitL
        rw [Bool.or_eq_true, Bool.not_eq_true', Bool.not_eq_true'] at hb
        rcases hb with hb | hb
        · rw [decide_eq_false (fun z => of_decide_eq_false hb (nPu.mpr z))]
          rfl
        · rw [decide_eq_false (show ¬ (L.flatMap res).Nodup from fun z => of_decide_eq_false hb (nRe.mpr z)), Bool.and_false]
          rfl
      rw [z2] at this
      exact this
    have E4 := (e2.trans e3).trans e4
    rw [Bool.or_eq_false_iff, Bool.not_eq_false', Bool.not_eq_false'] at hb
    have ndPu := nPu.mp (of_decide_eq_true hb.1)
    have ndRe := nRe.mp (of_decide_eq_true hb.2)
    refine ⟨_, rfl, d, ws, ps, L, rfl, hl.ex (e1.trans E4), ok, ndPu, fun pd as2 R2 zs2 H5 n5 e5 h5 hR2 hz2 hso2 hRt2 => ?_⟩
    have E5 := E4.trans e5
    have nd2 : ((R2.filter (·.e.isPu)).map (·.e.it)).Nodup := by
      rw [rows_pus hRt2]
      exact (flat_lgs (f := pus) hl.pl ok.ll hz2).nodup_iff.mpr ndPu
    have val : fitL ws L = (R.map fun r => fitsB r.e r.w r.i (pushAt ws L r.e.it)).all id := by
      unfold fitL
      rw [decide_eq_true ndPu, decide_eq_true ndRe, List.all_map]
      have hp := perm_Tr hl.pl ok.ll hz
      rw [← hRt] at hp
      have := hp.all_eq (f := fun t => fitsB t.2.2 t.1 t.2.1 (pushAt ws L t.2.2.it))
      rw [← this, List.all_map]
      rfl
    rw [val] at q
    dsimp only [gName]
    have kF : given (as.map V.ref).length (fun _ => true) (fun i => V.bl (fitsB (R.getD i row0).e (R.getD i row0).w (R.getD i row0).i (pushAt ws L (R.getD i row0).e.it))) = (R.map fun r => fitsB r.e r.w r.i (pushAt ws L r.e.it)).map V.bl := by
      rw [List.length_map, hR.length, given_list R row0 (fun _ => true) (fun r => V.bl (fitsB r.e r.w r.i (pushAt ws L r.e.it))), List.map_map]
      rw [List.filter_eq_self.mpr fun _ _ => rfl]
      rfl
    refine s_ret (v := .bl ((R.map fun r => fitsB r.e r.w r.i (pushAt ws L r.e.it)).all id)) (ev_allN ?_) fun H6 e6 => ?_
    · rw [← kF]
      refine el_lcG _ _ (fun i => [some (.ref d), some (.ref p), some (.ref pl), some (.ref rl), some (.ref pd), some (.ref (R.getD i row0).b), some (.ref (R.getD i row0).c)]) (ev_var rfl) (sq_of (E5 _ _ h1)) hasl (fun i x hx => ?_) (fun i x hx => et_yes) (fun i x hx hf => ?_)
      · obtain ⟨a, r, rfl, hr, ha, hb, hc⟩ := tup E5 i x hx
        rw [getD_at hr]
        exact ⟨rfl, fun H3 e3 Q' q' => ⟨a, _, rfl, st_of (e3 _ _ ha), rfl, _, _, rfl, _, _, rfl, rfl, q' H3 (Ex.refl H3)⟩⟩
      · obtain ⟨a, r, rfl, hr, ha, hb, hc⟩ := tup E5 i x hx
        rw [getD_at hr]
        refine ev_call (ea_cons (ev_var rfl) (ea_cons (ev_var rfl) (ea_cons (ev_var rfl) ea_nil))) fun H7 e7 Q7 y E => ⟨pd, r.b, r.c, Plc En.isPu R2, r.w, r.i, r.e, pushAt ws L r.e.it, rfl, e7 _ _ h5, e7 _ _ hb, e7 _ _ hc, fun hno => ?_, fun z hz3 => ?_, y⟩
        · have := pushAt_none hno
          unfold valV
          rw [Option.map_eq_none_iff, List.find?_eq_none]
          intro kv hkv hk
          obtain ⟨r2, m2, rfl⟩ := List.mem_map.mp hkv
          obtain ⟨m3, p3⟩ := List.mem_filter.mp m2
          have tm : r2.tri ∈ Tr ws L := (perm_Tr hl.pl ok.ll hz2).mem_iff.mp (by rw [← hRt2]; exact List.mem_map.mpr ⟨r2, m3, rfl⟩)
          exact this _ tm p3 (Sum.inr.inj (of_decide_eq_true hk))
        · obtain ⟨e, me, pe, ie⟩ := pushAt_some hz3
          have mr : (z.1, z.2, e) ∈ R2.map RowA.tri := by
            rw [hRt2]
            exact (perm_Tr hl.pl ok.ll hz2).mem_iff.mpr me
          obtain ⟨r2, m2, t2⟩ := List.mem_map.mp mr
          injection t2 with t3 t4
          injection t4 with t4 t5
          have hv := pl_some nd2 m2 (by rw [t5]; exact pe)
          rw [t5, ie] at hv
          obtain ⟨j, hj⟩ := List.mem_iff_getElem?.mp m2
          obtain ⟨a2, _, f1, f2, f3⟩ := paired_get hR2 hj
          rw [t3, t4] at f2
          exact ⟨r2.b, hv, e7 _ _ f2⟩
    · exact q H6 ((e1.trans E5).trans e6)
end
end Vx

set_option Elab.async false
set_option linter.all false
set_option maxRecDepth 100000
set_option maxHeartbeats 4000000
namespace Vx
open PySem PySem.Spec PyProof.Rows L2 Evl
/-! what the law's loops tell of logs -/
def plsOf (ts : List Tri) (x : Str) : List (Str × Nat) := (ts.filter fun t => t.2.2.isPu && decide (t.2.2.it = x)).map fun t => (t.1, t.2.1)
def itP (ts : List Tri) : List Str := (ts.filter fun t => t.2.2.isPu).map fun t => t.2.2.it
def itR (ts : List Tri) : List Str := (ts.filter fun t => t.2.2.isRe).map fun t => t.2.2.it
theorem pushAt_eq {ws : List Str} {L : List (List En)} {x : Str} : pushAt ws L x = (plsOf (Tr ws L) x).head? := by
  unfold pushAt plsOf
  rw [List.head?_map, List.head?_filter]
theorem plsOf_app {ts us : List Tri} {x : Str} : plsOf (ts ++ us) x = plsOf ts x ++ plsOf us x := by
  unfold plsOf
  rw [List.filter_append, List.map_append]
theorem plsOf_no {t : Tri} {x : Str} (h : (t.2.2.isPu && decide (t.2.2.it = x)) = false) : plsOf [t] x = [] := by
  unfold plsOf
  rw [List.filter_cons, if_neg (by rw [h]; decide)]
  rfl
theorem plsOf_yes {t : Tri} {x : Str} (h : (t.2.2.isPu && decide (t.2.2.it = x)) = true) : plsOf [t] x = [(t.1, t.2.1)] := by
  unfold plsOf
  rw [List.filter_cons, if_pos h]
  rfl
theorem count_itP (x : Str) : ∀ ts : List Tri, (itP ts).count x = (plsOf ts x).length
  | [] => rfl
  | t :: ts => by
    have ih := count_itP x ts
    have e1 : plsOf (t :: ts) x = plsOf [t] x ++ plsOf ts x := plsOf_app (ts := [t])
    rw [e1, List.length_append, ← ih]
    cases hp : t.2.2.isPu with
    | false =>
      rw [plsOf_no (by rw [hp]; rfl)]
      have : itP (t :: ts) = itP ts := by
        unfold itP
        rw [List.filter_cons, if_neg (by rw [hp]; decide)]
      rw [this]
      show _ = 0 + _
      omega
    | true =>
      have e2 : itP (t :: ts) = t.2.2.it :: itP ts := by
        unfold itP
        rw [List.filter_cons, if_pos hp]
        rfl
      rw [e2, List.count_cons]
      by_cases hx : t.2.2.it = x
      · rw [plsOf_yes (by rw [hp, decide_eq_true hx]; rfl), if_pos (by rw [hx]; exact beq_self_eq_true x)]
        show _ = 1 + _
        omega
      · rw [plsOf_no (by rw [decide_eq_false hx, Bool.and_false]), if_neg (by simpa using hx)]
        show _ = 0 + _
        omega
theorem nodup_itP {ts : List Tri} : (itP ts).Nodup ↔ ∀ x, (plsOf ts x).length ≤ 1 := by
  rw [List.nodup_iff_count]
  exact ⟨fun h x => by rw [← count_itP]; exact h x, fun h x => by rw [count_itP]; exact h x⟩
theorem es_tr1 (z : Str × List En) : (tr1 z).map (·.2.2) = z.2 := by
  unfold tr1
  rw [List.map_map]
  refine List.ext_getElem? fun i => ?_
  rw [List.getElem?_map, List.getElem?_zipIdx]
  cases z.2[i]? <;> rfl
theorem flat_itP : ∀ {ws : List Str} {L : List (List En)}, L.length = ws.length → L.flatMap pus = itP (Tr ws L)
  | [], [], _ => rfl
  | [], _ :: _, h => by cases h
  | _ :: _, [], h => by cases h
  | w :: ws, es :: L, h => by
    have ih := flat_itP (ws := ws) (L := L) (by simpa using h)
    have e1 : Tr (w :: ws) (es :: L) = tr1 (w, es) ++ Tr ws L := rfl
    rw [List.flatMap_cons, ih, e1]
    unfold itP
    rw [List.filter_append, List.map_append]
    congr 1
    rw [pus_eq]
    have := es_tr1 (w, es)
    have e2 : es = (tr1 (w, es)).map (·.2.2) := this.symm
    conv => lhs; rw [e2, List.filter_map, List.map_map]
    rfl
theorem flat_itR : ∀ {ws : List Str} {L : List (List En)}, L.length = ws.length → L.flatMap res = itR (Tr ws L)
  | [], [], _ => rfl
  | [], _ :: _, h => by cases h
  | _ :: _, [], h => by cases h
  | w :: ws, es :: L, h => by
    have ih := flat_itR (ws := ws) (L := L) (by simpa using h)
    have e1 : Tr (w :: ws) (es :: L) = tr1 (w, es) ++ Tr ws L := rfl
    rw [List.flatMap_cons, ih, e1]
    unfold itR
    rw [List.filter_append, List.map_append]
    congr 1
    rw [res_eq]
    have := es_tr1 (w, es)
    have e2 : es = (tr1 (w, es)).map (·.2.2) := this.symm
    conv => lhs; rw [e2, List.filter_map, List.map_map]
    rfl
theorem tr_mem {ws : List Str} {L : List (List En)} {t : Tri} (h : t ∈ Tr ws L) : ∃ (k : Nat) (es : List En), ws[k]? = some t.1 ∧ L[k]? = some es ∧ es[t.2.1]? = some t.2.2 := by
  unfold Tr at h
  obtain ⟨z, hz, ht⟩ := List.mem_flatMap.mp h
  obtain ⟨k, hk⟩ := List.mem_iff_getElem?.mp hz
  obtain ⟨h1, h2⟩ := List.getElem?_zip_eq_some.mp hk
  unfold tr1 at ht
  obtain ⟨y, hy, rfl⟩ := List.mem_map.mp ht
  exact ⟨k, z.2, h1, h2, List.mem_zipIdx_iff_getElem?.mp hy⟩
theorem tr_inj {ws : List Str} {L : List (List En)} {w : Str} {i : Nat} {e e' : En} (nd : ws.Nodup) (h : (w, i, e) ∈ Tr ws L) (h' : (w, i, e') ∈ Tr ws L) : e = e' := by
  obtain ⟨k, es, a1, a2, a3⟩ := tr_mem h
  obtain ⟨l, fs, b1, b2, b3⟩ := tr_mem h'
  have hk : k < ws.length := (List.getElem?_eq_some_iff.mp a1).1
  have : k = l := (List.getElem?_inj hk nd (j := l)).mp (a1.trans b1.symm)
  subst this
  rw [a2] at b2
  cases b2
  exact Option.some.inj (a3.symm.trans b3)
/-- the law's own test of a removal -/
def lawF (e : En) (w : Str) (i : Nat) (z : Str × Nat) : Bool := match e with
  | .pop _ => decide (z.1 = w) && decide (z.2 ≤ i)
  | .steal o _ => decide (z.1 = o) && !decide (z.1 = w)
  | _ => true
theorem lawF_fits {ws : List Str} {L : List (List En)} {t : Tri} {z : Str × Nat} (nd : ws.Nodup) (h : t ∈ Tr ws L) (hr : t.2.2.isRe = true) (hz : pushAt ws L t.2.2.it = some z) : fitsB t.2.2 t.1 t.2.1 (pushAt ws L t.2.2.it) = lawF t.2.2 t.1 t.2.1 z := by
  obtain ⟨e', m, pu, it⟩ := pushAt_some hz
  obtain ⟨w, i, e⟩ := t
  have hz' : pushAt ws L e.it = some z := hz
  show fitsB e w i (pushAt ws L e.it) = lawF e w i z
  rw [hz']
  cases e with
  | push => cases hr
  | size => cases hr
  | steal o x => rfl
  | pop x =>
    show (decide (z.1 = w) && decide (z.2 < i)) = (decide (z.1 = w) && decide (z.2 ≤ i))
    by_cases hw : z.1 = w
    · have : z.2 ≠ i := fun hi => by
        rw [hw, hi] at m
        have := tr_inj nd h m
        subst this
        cases pu
      rw [decide_eq_true hw, Bool.true_and, Bool.true_and]
      exact decide_eq_decide.mpr ⟨fun q => by omega, fun q => by omega⟩
    · rw [decide_eq_false hw]
      rfl
theorem fits_none {e : En} {w : Str} {i : Nat} (hr : e.isRe = true) : fitsB e w i none = false := by
  cases e with
  | push => cases hr
  | size => cases hr
  | pop => rfl
  | steal => rfl
theorem fits_other {e : En} {w : Str} {i : Nat} {r : Option (Str × Nat)} (hr : e.isRe = false) : fitsB e w i r = true := by
  cases e with
  | push => rfl
  | size => rfl
  | pop => cases hr
  | steal => cases hr
/-- what is so before place j of the rows -/
structure Fine (ws : List Str) (L : List (List En)) (j : Nat) : Prop where
  nd : (itR ((Tr ws L).take j)).Nodup
  ft : ∀ t ∈ (Tr ws L).take j, fitsB t.2.2 t.1 t.2.1 (pushAt ws L t.2.2.it) = true
theorem fine_zero {ws : List Str} {L : List (List En)} : Fine ws L 0 := ⟨List.nodup_nil, fun t h => by rw [List.take_zero] at h; cases h⟩
theorem take_snoc {α : Type} {l : List α} {j : Nat} {x : α} (h : l[j]? = some x) : l.take (j + 1) = l.take j ++ [x] := by
  rw [List.take_add_one, h]
  rfl
theorem itR_app {ts us : List Tri} : itR (ts ++ us) = itR ts ++ itR us := by
  unfold itR
  rw [List.filter_append, List.map_append]
theorem itP_app {ts us : List Tri} : itP (ts ++ us) = itP ts ++ itP us := by
  unfold itP
  rw [List.filter_append, List.map_append]
theorem itR_yes {t : Tri} (h : t.2.2.isRe = true) : itR [t] = [t.2.2.it] := by
  unfold itR
  rw [List.filter_cons, if_pos h]
  rfl
theorem itR_no {t : Tri} (h : t.2.2.isRe = false) : itR [t] = [] := by
  unfold itR
  rw [List.filter_cons, if_neg (by rw [h]; decide)]
  rfl
theorem Fine.skip {ws : List Str} {L : List (List En)} {j : Nat} {t : Tri} (F : Fine ws L j) (h : (Tr ws L)[j]? = some t) (hr : t.2.2.isRe = false) : Fine ws L (j + 1) := by
  refine ⟨?_, fun u hu => ?_⟩
  · rw [take_snoc h, itR_app, itR_no hr, List.append_nil]
    exact F.nd
  · rw [take_snoc h] at hu
    rcases List.mem_append.mp hu with hu | hu
    · exact F.ft u hu
    · rw [List.mem_singleton.mp hu]
      exact fits_other hr
theorem Fine.step {ws : List Str} {L : List (List En)} {j : Nat} {t : Tri} (F : Fine ws L j) (h : (Tr ws L)[j]? = some t) (hr : t.2.2.isRe = true) (hn : t.2.2.it ∉ itR ((Tr ws L).take j)) (hf : fitsB t.2.2 t.1 t.2.1 (pushAt ws L t.2.2.it) = true) : Fine ws L (j + 1) := by
  refine ⟨?_, fun u hu => ?_⟩
  · rw [take_snoc h, itR_app, itR_yes hr]
    refine List.nodup_append.mpr ⟨F.nd, by simp, fun a ha b hb e => ?_⟩
    rw [List.mem_singleton.mp hb] at e
    rw [e] at ha
    exact hn ha
  · rw [take_snoc h] at hu
    rcases List.mem_append.mp hu with hu | hu
    · exact F.ft u hu
    · rw [List.mem_singleton.mp hu]
      exact hf
theorem not_twice {ws : List Str} {L : List (List En)} {j : Nat} {t : Tri} (ll : L.length = ws.length) (h : (Tr ws L)[j]? = some t) (hr : t.2.2.isRe = true) (hn : t.2.2.it ∈ itR ((Tr ws L).take j)) : fitL ws L = false := by
  unfold fitL
  rw [flat_itR ll, decide_eq_false (show ¬ (itR (Tr ws L)).Nodup from fun nd => ?_), Bool.and_false, Bool.false_and]
  have e : Tr ws L = (Tr ws L).take (j + 1) ++ (Tr ws L).drop (j + 1) := (List.take_append_drop _ _).symm
  rw [e, itR_app, take_snoc h, itR_app, itR_yes hr] at nd
  have := (List.nodup_append.mp nd).1
  exact (List.nodup_append.mp this).2.2 _ hn _ (List.mem_singleton.mpr rfl) rfl
theorem not_fit {ws : List Str} {L : List (List En)} {j : Nat} {t : Tri} (h : (Tr ws L)[j]? = some t) (hf : fitsB t.2.2 t.1 t.2.1 (pushAt ws L t.2.2.it) = false) : fitL ws L = false := by
  unfold fitL
  have : ((Tr ws L).all fun t => fitsB t.2.2 t.1 t.2.1 (pushAt ws L t.2.2.it)) = false := by
    rw [Bool.eq_false_iff]
    intro z
    have := List.all_eq_true.mp z t (List.mem_of_getElem? h)
    rw [hf] at this
    cases this
  rw [this, Bool.and_false]
theorem all_fine {ws : List Str} {L : List (List En)} (ll : L.length = ws.length) (F : Fine ws L (Tr ws L).length) : fitL ws L = decide (itP (Tr ws L)).Nodup := by
  have nd := F.nd
  have ft := F.ft
  rw [List.take_length] at nd ft
  unfold fitL
  rw [flat_itR ll, flat_itP ll, decide_eq_true nd, Bool.and_true, List.all_eq_true.mpr ft, Bool.and_true]
end Vx

set_option Elab.async false
set_option linter.all false
set_option maxRecDepth 100000
set_option maxHeartbeats 8000000
namespace Vx
open PySem PySem.Spec PyProof.Rows L2 Evl
def lyE (d : PyData) : Bool := PyData.canLay0 d && decide (PyData.depth d ≤ 8)
def lyL : PyData → Bool
  | .list es => es.all lyE
  | _ => true
def lyD : PyData → Bool
  | .dict kds => kds.all fun kd => lyL kd.2
  | _ => true
def lstDB : PyData → Bool
  | .list _ => true
  | _ => false
/-- all but p is as it was -/
def But (p : Addr) (H H' : Hp) : Prop := ∀ a o, a ≠ p → H a = some o → H' a = some o
theorem But.ex {p : Addr} {H H1 H2 : Hp} (b : But p H H1) (e : Ex H1 H2) : But p H H2 := fun a o n h => e _ _ (b a o n h)
mutual
theorem Dz.lay {p : Addr} {H H' : Hp} {kvs : List (Key × V)} (hp : H p = some (.dK kvs)) (e : But p H H') : ∀ {v : V} {d : PyData} {as : List Addr}, Dz H v d as → PyData.canLay0 d = true → Dz H' v d as
  | _, _, _, .non, _ => .non
  | _, _, _, .bl b, _ => .bl b
  | _, _, _, .int b, _ => .int b
  | _, _, _, .str b, _ => .str b
  | _, _, _, .lst h t, c => .lst (e _ _ (fun z => by rw [z, hp] at h; cases h) h) (DzA.lay hp e t (by simpa [PyData.canLay0] using c))
  | _, _, _, .tup h t, c => .tup (e _ _ (fun z => by rw [z, hp] at h; cases h) h) (DzA.lay hp e t (by simpa [PyData.canLay0] using c))
  | _, _, _, .dict h n t, c => by simp [PyData.canLay0] at c
theorem DzA.lay {p : Addr} {H H' : Hp} {kvs : List (Key × V)} (hp : H p = some (.dK kvs)) (e : But p H H') : ∀ {vs : List V} {ds : List PyData} {as : List Addr}, DzA H vs ds as → PyData.canLayAll0 ds = true → DzA H' vs ds as
  | _, _, _, .nil, _ => .nil
  | _, _, _, .cons a t, c => by
    have c' := c
    simp only [PyData.canLayAll0, Bool.and_eq_true] at c'
    exact .cons (Dz.lay hp e a c'.1) (DzA.lay hp e t c'.2)
end
mutual
theorem Dz.dp {K : PySem.W.Frag} {H : Hp} : ∀ {v : V} {d : PyData} {as : List Addr}, Dz H v d as → PyData.canLay0 d = true → Dp K H v d
  | _, _, _, .non, _ => .non
  | _, _, _, .bl b, _ => .bl b
  | _, _, _, .int b, _ => .int b
  | _, _, _, .str b, _ => .str b
  | _, _, _, .lst h t, c => .lst (sq_of h) (DzA.dp t (by simpa [PyData.canLay0] using c))
  | _, _, _, .tup h t, c => .tup (st_of h) (DzA.dp t (by simpa [PyData.canLay0] using c))
  | _, _, _, .dict h n t, c => by simp [PyData.canLay0] at c
theorem DzA.dp {K : PySem.W.Frag} {H : Hp} : ∀ {vs : List V} {ds : List PyData} {as : List Addr}, DzA H vs ds as → PyData.canLayAll0 ds = true → DpAll K H vs ds
  | _, _, _, .nil, _ => .nil
  | _, _, _, .cons a t, c => by
    have c' := c
    simp only [PyData.canLayAll0, Bool.and_eq_true] at c'
    exact .cons (Dz.dp a c'.1) (DzA.dp t c'.2)
end
theorem lay_all {ds : List PyData} (h : ds.all lyE = true) : PyData.canLayAll0 ds = true ∧ PyData.depthAll ds ≤ 8 := by
  induction ds with
  | nil => exact ⟨by simp [PyData.canLayAll0], by simp [PyData.depthAll]⟩
  | cons d ds ih =>
    rw [List.all_cons, Bool.and_eq_true] at h
    obtain ⟨a, b⟩ := ih h.2
    have h1 : (PyData.canLay0 d && decide (PyData.depth d ≤ 8)) = true := h.1
    rw [Bool.and_eq_true] at h1
    refine ⟨by simp [PyData.canLayAll0, h1.1, a], ?_⟩
    simp only [PyData.depthAll]
    have := of_decide_eq_true h1.2
    omega
theorem shaped_all {ds : List PyData} (h : ds.all lyE = true) : SeqAt.shaped (.list ds) = true := by
  obtain ⟨a, b⟩ := lay_all h
  show (PyData.canLay0 (.list _) && decide (PyData.depth (.list _) ≤ 64)) = true
  simp only [PyData.canLay0, PyData.depth, a, Bool.true_and]
  exact decide_eq_true (by omega)
theorem dp_filter {K : PySem.W.Frag} {H : Hp} {p : PyData → Bool} : ∀ {vs : List V} {ds : List PyData}, DpAll K H vs ds → DpAll K H (((vs.zip ds).filter fun z => p z.2).map (·.1)) (ds.filter p)
  | _, _, .nil => .nil
  | _, _, .cons (v := v) (d := d) (vs := vs) (ds := ds) a t => by
    have ih := dp_filter (p := p) t
    rw [List.zip_cons_cons, List.filter_cons, List.filter_cons]
    cases h : p d with
    | true =>
      rw [if_pos rfl, if_pos rfl]
      exact .cons a ih
    | false =>
      rw [if_neg (by decide), if_neg (by decide)]
      exact ih
theorem ev_neNil {K : PySem.W.Frag} {σ : L2.St} {H : Hp} {te : TE} {xs : List V} {ds : List PyData} (h : EvL te σ H xs) (hd : ∀ H', Ex H H' → DpAll K H' xs ds) (hs : SeqAt.shaped (.list ds) = true) : Ev (tOp (rNeD K) te (tLst tNil)) σ H (.bl (!ds.isEmpty)) := fun H1 e Q q =>
  h H1 e _ fun p H2 n e2 h2 => ⟨(by show 0 ≤ sizeLine; decide), fun r hr => ⟨.list ds, .list [], .lst (sq_of (by rw [upd_ne (ne_of_none h2 hr)]; exact h2)) (hd _ ((e.trans e2).trans (Ex.new hr))), .lst (sq_of upd_same) .nil, hs, (by decide +kernel), by
    have : PyData.eqv (.list ds) (.list []) = ds.isEmpty := by
      cases ds with
      | nil => simp only [PyData.eqv, PyData.eqvAll, List.isEmpty]
      | cons d ds => simp only [PyData.eqv, PyData.eqvAll, List.isEmpty]
    rw [this]
    exact q _ (e2.trans (Ex.new hr))⟩⟩
/-- rows: a worker, a place, an entry -/
def RowV (H : Hp) (v : V) (t : Tri) : Prop := ∃ a c, v = .ref a ∧ H a = some (.tup [.str t.1, .int (t.2.1 : Int), .ref c]) ∧ H c = some (.tup t.2.2.vs)
def RowsA (H : Hp) (vs : List V) (ts : List Tri) : Prop := vs.length = ts.length ∧ ∀ (i : Nat) v t, vs[i]? = some v → ts[i]? = some t → RowV H v t
theorem RowsA.keep {H H' : Hp} {vs : List V} {ts : List Tri} (h : RowsA H vs ts) (k : ∀ a xs, H a = some (.tup xs) → H' a = some (.tup xs)) : RowsA H' vs ts := ⟨h.1, fun i v t a b => by
  obtain ⟨x, c, rfl, h1, h2⟩ := h.2 i v t a b
  exact ⟨x, c, rfl, k _ _ h1, k _ _ h2⟩⟩
theorem RowsA.app {H : Hp} {vs us : List V} {ts rs : List Tri} (h : RowsA H vs ts) (g : RowsA H us rs) : RowsA H (vs ++ us) (ts ++ rs) := by
  refine ⟨by rw [List.length_append, List.length_append, h.1, g.1], fun i v t a b => ?_⟩
  by_cases hi : i < vs.length
  · rw [List.getElem?_append_left hi] at a
    rw [List.getElem?_append_left (by rw [← h.1]; exact hi)] at b
    exact h.2 i v t a b
  · rw [List.getElem?_append_right (by omega)] at a
    rw [List.getElem?_append_right (by rw [← h.1]; omega), ← h.1] at b
    exact g.2 _ v t a b
def trK (kds : List (PyData × PyData)) : List Tri := kds.flatMap fun kd => tr1 (strOf kd.1, (lstOf kd.2).map entOf)
theorem trK_eq : ∀ kds : List (PyData × PyData), trK kds = Tr (wsOf kds) (LOf kds)
  | [] => rfl
  | kd :: kds => by
    have := trK_eq kds
    have e1 : trK (kd :: kds) = tr1 (strOf kd.1, (lstOf kd.2).map entOf) ++ trK kds := rfl
    rw [e1, this]
    rfl
theorem trK_snoc {kds : List (PyData × PyData)} {kd : PyData × PyData} : trK (kds ++ [kd]) = trK kds ++ tr1 (strOf kd.1, (lstOf kd.2).map entOf) := by
  unfold trK
  rw [List.flatMap_append, List.flatMap_cons]
  simp
theorem tr1_at {z : Str × List En} {i : Nat} {e : En} (h : z.2[i]? = some e) : (tr1 z)[i]? = some (z.1, i, e) := by
  unfold tr1
  rw [List.getElem?_map, List.getElem?_zipIdx, h]
  simp
theorem tr1_len (z : Str × List En) : (tr1 z).length = z.2.length := by
  unfold tr1
  rw [List.length_map, List.length_zipIdx]
abbrev tB1r (K : PySem.W.Frag) : TS := tSeq (tIfS (tOr (tNot (tB (tCall (spNmL K) [] E0 (tCons (tVar 2) tNil)))) (tOr (tNot (tB (tCB (rIsi K) (tCons (tVar 3) (tCons (tC (V.ty "list")) tNil))))) (tTest (tOp (rI0 fun i j => V.bl (decide (j < i))) (tCB (rLenS K) (tCons (tVar 3) tNil)) (tC (V.int 60)))))) (tRet (tC (V.bl false))) tNext)
  (tSeq (tIfS (tTest (tOp (rNeD K) (tLc (iList K (tVar 3)) (gName 6) (tNot (tB (tCall (spEL K) [] E0 (tCons (tVar 6) tNil)))) (tVar 6) [6]) (tLst tNil))) (tRet (tC (V.bl false))) tNext)
  (tDrop (tBM K "list" rExtend (tVar 1) (tCons (tLc (iRng1 (tCons (tCB (rLenS K) (tCons (tVar 3) tNil)) tNil)) (gName 5) tYes (tTup (tCons (tVar 2) (tCons (tVar 5) (tCons (tOp (rIxL K) (tVar 3) (tVar 5)) tNil)))) [5]) tNil))))
abbrev tB1 (K : PySem.W.Frag) : TS := tSeq (tAsg (tDGet (tVar 0) (tVar 2)) (gName 3)) (tB1r K)
theorem s_body1 {K : PySem.W.Frag} {D : Ends} {H0 H' : Hp} {p0 r : Addr} {kvs : List (Key × V)} {od : Obj} {i : Nat} {k : Key} {v : V} {di : PyData} {bs : List Addr} {vs : List V} {ts : List Tri} {b3 : Option V}
    (hp : H0 p0 = some (.dK kvs)) (nd : (kvs.map (·.1)).Nodup) (hv : Dz H0 v di bs) (pk : plA (keyD k) = true) (pl : plL di = true) (ly : lyL di = true) (hk : (k, v) ∈ kvs) (hi : i < 6)
    (old : But p0 H0 H') (hf : H' p0 = some (.frz od (.dK kvs))) (hr0 : H0 r = none) (hr : H' r = some (.lst vs)) (rows : RowsA H' vs ts) (len : vs.length ≤ 60 * i)
    (next : ∀ c3 us H2, (nmD (keyD k) && lgD di) = true → But p0 H0 H2 → H2 p0 = some (.frz od (.dK kvs)) → H2 r = some (.lst us) → RowsA H2 us (ts ++ tr1 (strOf (keyD k), (lstOf di).map entOf)) → us.length ≤ 60 * (i + 1) → D.nx [some (.ref p0), some (.ref r), some (kV k), some c3, none, none, none, none, none, none, none] H2)
    (out : (nmD (keyD k) && lgD di) = false → ∀ H2, But p0 H0 H2 → H2 p0 = some (.frz od (.dK kvs)) → D.rt (.bl false) H2) :
    tB1 K D [some (.ref p0), some (.ref r), some (kV k), b3, none, none, none, none, none, none, none] H' := by
  refine q_asg (v := v) (fun H2 e Q q => ⟨.ref p0, rfl, kV k, rfl, p0, v, rfl, .inl ⟨kvs, k, Or.inr ⟨od, e _ _ hf⟩, rfl, (valV_mem nd hk).symm⟩, q H2 (Ex.refl H2)⟩) fun H1 e1 => ?_
  have old1 := old.ex e1
  have hf1 := e1 _ _ hf
  have nmk : ∃ n, Thing K H1 (kV k) n := by
    cases k with
    | inl j => exact ⟨_, .int j⟩
    | inr z => exact ⟨_, .str z (plA_len pk)⟩
  obtain ⟨nk, nmk⟩ := nmk
  have okk : okV (kV k) := by
    cases k with
    | inl j => exact fun z hz => nomatch hz
    | inr z => exact dz_ok (Dz.str (H := H1) z) pk
  have nmD_eq2 : nmB (kV k) = nmD (keyD k) := by cases k <;> rfl
  have en : EvT (tNot (tB (tCall (spNmL K) [] E0 (tCons (tVar 2) tNil)))) [some (.ref p0), some (.ref r), some (kV k), some v, none, none, none, none, none, none, none] H1 (!nmD (keyD k)) := by
    rw [← nmD_eq2]
    exact et_not (et_B (ev_call (ea_cons (ev_var rfl) ea_nil) fun H3 e3 Q3 q3 E3 => ⟨kV k, nk, rfl, nmk.ex e3, okk, q3⟩))
  have bad : ∀ {n : String}, TyN K H1 v n → kitB n "list" = some false → lgD di = false → tB1r K D [some (.ref p0), some (.ref r), some (kV k), some v, none, none, none, none, none, none, none] H1 := fun {n} hn hb hl =>
    q_if (b := true) (et_is (et_or (a := !nmD (keyD k)) (b := true) en (fun _ => et_is (et_or (a := true) (b := true) (et_not (a := false) (et_B (ev_isI rfl hn hb))) (fun z => nomatch z)) rfl)) (by rw [Bool.or_true])) (fun _ H2 e2 => s_ret (v := .bl false) ev_c fun H3 e3 => out (by rw [hl, Bool.and_false]) H3 ((old1.ex e2).ex e3) (e3 _ _ (e2 _ _ hf1))) (fun z => nomatch z)
  cases hv with
  | non => exact bad ty_non rfl rfl
  | bl b => exact bad ty_bl rfl rfl
  | int j => exact bad ty_int rfl rfl
  | str z => exact bad ty_str rfl rfl
  | tup h t => exact bad (ty_tup (Or.inl (old1 _ _ (fun z => by rw [z, hp] at h; cases h) h))) rfl rfl
  | @dict p kvs2 ds2 as2 h n t =>
    refine bad (ty_dict (Or.inl (old1 _ _ (fun z => ?_) h))) rfl rfl
    rw [z, hp] at h
    cases h
    have pl' : (zipD kvs ds2).isEmpty = true := pl
    have l2 := t.len
    rw [List.length_map] at l2
    have := List.length_pos_of_mem hk
    have l3 : (zipD kvs ds2).length = 0 := by rw [List.isEmpty_iff.mp pl']; rfl
    unfold zipD at l3
    rw [List.length_zip, List.length_map] at l3
    omega
  | @lst a xs es cs ha t =>
    have nap : a ≠ p0 := fun z => by rw [z, hp] at ha; cases ha
    have ha1 := old1 _ _ nap ha
    have ly' : es.all lyE = true := ly
    have pl' : es.all plE = true := pl
    have l := t.len
    have hlg : lgD (.list es) = (decide (es.length ≤ 60) && es.all entD) := rfl
    refine q_if (b := !nmD (keyD k) || decide ((xs.length : Int) > 60)) (et_or en (fun _ => et_is (et_or (a := false) (b := decide ((xs.length : Int) > 60)) (et_not (a := true) (et_B (ev_isI rfl (ty_lst (Or.inl ha1)) rfl))) (fun _ => et_test (ev_op (ev_lenA (ev_var rfl) (Or.inl (sq_of ha1))) ev_c rv_I0))) (by rw [Bool.false_or]))) (fun hb H2 e2 => s_ret (v := .bl false) ev_c fun H3 e3 => ?_) (fun hb H2 e2 => ?_)
    · refine out ?_ H3 ((old1.ex e2).ex e3) (e3 _ _ (e2 _ _ hf1))
      rw [hlg]
      rw [Bool.or_eq_true, Bool.not_eq_true'] at hb
      rcases hb with hb | hb
      · rw [hb]; rfl
      · have := of_decide_eq_true hb
        rw [decide_eq_false (show ¬ es.length ≤ 60 by omega), Bool.false_and, Bool.and_false]
    · rw [Bool.or_eq_false_iff, Bool.not_eq_false'] at hb
      have x60 : xs.length ≤ 60 := by have := of_decide_eq_false hb.2; omega
      have old2 := old1.ex e2
      have hf2 := e2 _ _ hf1
      have ha2 := e2 _ _ ha1
      have tz : ∀ H3, Ex H2 H3 → DzA H3 xs es cs := fun H3 e3 => t.lay hp (old2.ex e3) (lay_all ly').1
      have zl : (xs.zip es).length = xs.length := by rw [List.length_zip]; omega
      have bl : EvL (tLc (iList K (tVar 3)) (gName 6) (tNot (tB (tCall (spEL K) [] E0 (tCons (tVar 6) tNil)))) (tVar 6) [6]) [some (.ref p0), some (.ref r), some (kV k), some (.ref a), none, none, none, none, none, none, none] H2 (((xs.zip es).filter fun z => !entD z.2).map (·.1)) := by
        rw [← given_list (xs.zip es) (V.non, PyData.none) (fun z => !entD z.2) (fun z => z.1), zl]
        refine el_lcL _ _ (ev_var rfl) (sq_of ha2) (by omega) (fun _ => rfl) (fun j x H3 e3 hj => ?_) (fun j x H3 e3 hj hfj => ?_)
        · obtain ⟨dj, bj, g1, g2⟩ := (tz H3 e3).get hj
          have gz : (xs.zip es).getD j (V.non, PyData.none) = (x, dj) := getD_at (List.getElem?_zip_eq_some.mpr ⟨hj, g1⟩)
          rw [gz]
          exact et_not (et_B (ev_call (ea_cons (ev_var rfl) ea_nil) fun H4 e4 Q4 q4 E4 => ⟨x, dj, bj, rfl, g2.ex e4, List.all_eq_true.mp pl' dj (List.mem_of_getElem? g1), q4⟩))
        · obtain ⟨dj, bj, g1, g2⟩ := (tz H3 e3).get hj
          have gz : (xs.zip es).getD j (V.non, PyData.none) = (x, dj) := getD_at (List.getElem?_zip_eq_some.mpr ⟨hj, g1⟩)
          rw [gz]
          exact ev_var rfl
      have fl : (es.filter fun d => !entD d).all lyE = true := List.all_eq_true.mpr fun d hd => List.all_eq_true.mp ly' d (List.mem_filter.mp hd).1
      refine q_if (b := !(es.filter fun d => !entD d).isEmpty) (et_test (ev_neNil bl (fun H3 e3 => dp_filter (p := fun d => !entD d) ((tz H3 e3).dp (lay_all ly').1)) (shaped_all fl))) (fun hc H3 e3 => s_ret (v := .bl false) ev_c fun H4 e4 => ?_) (fun hc H3 e3 => ?_)
      · refine out ?_ H4 ((old2.ex e3).ex e4) (e4 _ _ (e3 _ _ hf2))
        rw [Bool.not_eq_true', isEmpty_not] at hc
        rw [hlg, hc, Bool.and_false, Bool.and_false]
      · rw [Bool.not_eq_false', isEmpty_not] at hc
        have old3 := old2.ex e3
        have hf3 := e3 _ _ hf2
        have ha3 := e3 _ _ ha2
        have hr3 := e3 _ _ (e2 _ _ (e1 _ _ hr))
        have ok : (nmD (keyD k) && lgD (.list es)) = true := by rw [hb.1, hlg, hc, decide_eq_true (by omega)]; rfl
        obtain ⟨⟨qs, hq, hpr⟩, _⟩ := log_tl ha3 (tz H3 e3) hc
        have hxq : xs = qs.map V.ref := by
          rw [ha3] at hq
          injection Option.some.inj hq
        obtain ⟨w, hw, _⟩ := nmD_eq hb.1
        have hkw : kV k = .str w := by
          cases k with
          | inl j => cases hw
          | inr y =>
            cases hw
            rfl
        have rl : (tr1 (strOf (keyD k), (lstOf (.list es)).map entOf)).length = xs.length := by
          rw [tr1_len]
          show (es.map entOf).length = _
          rw [List.length_map]
          omega
        refine ⟨.ref r, rfl, Or.inl ⟨rfl, vs, sq_of hr3⟩, ?_⟩
        refine elp_lcR (n := xs.length) (fun j u H4 => ∃ b, u = .ref b ∧ H4 b = some (.tup [kV k, .int (j : Int), xs.getD j .non])) (ea_cons (ev_lenA (ev_var rfl) (Or.inl (sq_of ha3))) ea_nil) (by omega) (fun _ => rfl) (fun j hj => ?_) H3 (Ex.refl H3) _ fun p ys H4 hp4 e4 h4 kn => ?_
        · have hxj : xs[j]? = some (xs.getD j .non) := by
            rw [List.getD_eq_getElem?_getD, List.getElem?_eq_getElem hj]
            rfl
          refine fun H5 e5 Q5 q5 => eu_tup (vs := [kV k, .int (j : Int), xs.getD j .non]) (ea_cons (ev_var rfl) (ea_cons (ev_var rfl) (ea_cons (ev_op (ev_var rfl) (ev_var rfl) (rv_ixL (sq_of (e5 _ _ ha3)) (atI_nat hxj))) ea_nil))) (by show 3 ≤ 100000; decide) H5 (Ex.refl H5) _ fun b H6 nb e6 h6 => q5 _ H6 e6 fun H7 a7 b7 => ⟨b, rfl, b7 b _ nb h6⟩
        · obtain ⟨yl, yk⟩ := kn.kn.now (Ex.refl H3) e4
          have nrp : r ≠ p := ne_of_none hr3 hp4
          refine ⟨r, p, vs, ys, rfl, rfl, e4 _ _ hr3, h4, sz_of (by omega), ?_⟩
          have nr : ∀ b u, b ≠ r → H4 b = some u → (upd H4 r (.lst (vs ++ ys))) b = some u := fun b u n h => by rw [upd_ne n]; exact h
          have tupk : ∀ b zs, H4 b = some (.tup zs) → (upd H4 r (.lst (vs ++ ys))) b = some (.tup zs) := fun b zs h => nr b _ (fun z => by rw [z, e4 _ _ hr3] at h; cases h) h
          have olds : But p0 H0 (upd H4 r (.lst (vs ++ ys))) := fun b u n h => nr b u (fun z => by rw [z, hr0] at h; cases h) (e4 _ _ (old3 b u n h))
          refine next _ (vs ++ ys) _ ok olds (nr _ _ (fun z => by rw [z, hr0] at hp; cases hp) (e4 _ _ hf3)) upd_same (RowsA.app ((rows.keep fun b zs h => e4 _ _ (e3 _ _ (e2 _ _ (e1 _ _ h)))).keep tupk) ⟨by rw [yl, rl], fun j u tt hu ht => ?_⟩) (by rw [List.length_append]; omega)
          obtain ⟨b, rfl, hbt⟩ := yk j u hu
          have hj : j < xs.length := by rw [← yl]; exact (List.getElem?_eq_some_iff.mp hu).1
          have hej : ((es.map entOf))[j]? = some (entOf (es.getD j .none)) := by
            rw [List.getElem?_map, List.getD_eq_getElem?_getD, List.getElem?_eq_getElem (by omega)]
            rfl
          have ht2 := tr1_at (z := (strOf (keyD k), (lstOf (.list es)).map entOf)) (i := j) hej
          rw [ht2] at ht
          cases ht
          have hqj : j < qs.length := by rw [hxq, List.length_map] at hj; exact hj
          have hc4 : H3 qs[j] = some (.tup (entOf (es.getD j .none)).vs) := by
            obtain ⟨y, h1, h2⟩ := paired_get hpr (i := j) (by rw [List.getElem?_map, hej]; rfl)
            rw [List.getElem?_eq_getElem hqj] at h1
            cases h1
            exact h2
          refine ⟨b, qs[j], rfl, tupk _ _ ?_, tupk _ _ (e4 _ _ hc4)⟩
          rw [hbt, hkw]
          have : xs.getD j .non = .ref qs[j] := getD_at (by rw [hxq, List.getElem?_map, List.getElem?_eq_getElem hqj]; rfl)
          rw [this, show strOf (keyD k) = w by rw [hw]; rfl]
end Vx

set_option Elab.async false
set_option linter.all false
set_option maxRecDepth 100000
set_option maxHeartbeats 8000000
namespace Vx
open PySem PySem.Spec PyProof.Rows L2 Evl
theorem g_tup3 {K : PySem.W.Frag} {n i j l : Nat} {a : Addr} {x y z : V} {σ : L2.St} {H : Hp} {Q : L2.St → Hp → Prop} (hn : n = 3) (h : H a = some (.tup [x, y, z])) (q : Q (((σ.set i (some x)).set j (some y)).set l (some z)) H) : gTup K n (gCons (gName i) (gCons (gName j) (gCons (gName l) gNil))) (.ref a) σ H Q :=
  ⟨a, _, rfl, st_of h, hn.symm, x, _, rfl, y, _, rfl, z, _, rfl, rfl, q⟩
theorem g_tup2 {K : PySem.W.Frag} {n i j : Nat} {a : Addr} {x y : V} {σ : L2.St} {H : Hp} {Q : L2.St → Hp → Prop} (hn : n = 2) (h : H a = some (.tup [x, y])) (q : Q ((σ.set i (some x)).set j (some y)) H) : gTup K n (gCons (gName i) (gCons (gName j) gNil)) (.ref a) σ H Q :=
  ⟨a, _, rfl, st_of h, hn.symm, x, _, rfl, y, _, rfl, rfl, q⟩
theorem tl_one {te : TE} {σ : L2.St} {H : Hp} {vs : List V} {Q : VK} (h : EvU te σ H vs) (k : ∀ t m H1, Ex H H1 → H1 t = some (.tup vs) → H1 m = some (.lst [.ref t]) → Q (.ref m) H1) : tLst (tCons te tNil) σ H Q := h H (Ex.refl H) _ fun t H4 nt e4 h4 => ⟨(by show 1 ≤ sizeLine; decide), fun m hm => k t m _ (e4.trans (Ex.new hm)) ((Ex.new hm) _ _ h4) upd_same⟩
/-! the dict of pushes -/
def PuV (H : Hp) (o : Option V) (pls : List (Str × Nat)) : Prop := (o = none ∧ pls = []) ∨ ∃ q vs, o = some (.ref q) ∧ H q = some (.lst vs) ∧ pls ≠ [] ∧ vs.length = pls.length ∧ ∀ (i : Nat) v z, vs[i]? = some v → pls[i]? = some z → ∃ a, v = .ref a ∧ H a = some (.tup [.str z.1, .int (z.2 : Int)])
structure PuD (H : Hp) (pd : Addr) (ts : List Tri) (kvs : List (Key × V)) (ks : List Str) : Prop where
  dk : H pd = some (.dK kvs)
  ke : kvs.map (·.1) = ks.map Sum.inr
  le : ks.length ≤ ts.length
  nm : ∀ x ∈ ks, IsNm x
  vl : ∀ x, PuV H (valV kvs (.inr x)) (plsOf ts x)
theorem PuV.keep {H H' : Hp} {o : Option V} {pls : List (Str × Nat)} (h : PuV H o pls) (k : ∀ a u, H a = some u → (∃ xs, u = .lst xs ∨ u = .tup xs) → H' a = some u) : PuV H' o pls := by
  rcases h with h | ⟨q, vs, h1, h2, h3, h4, h5⟩
  · exact Or.inl h
  · refine Or.inr ⟨q, vs, h1, k _ _ h2 ⟨_, Or.inl rfl⟩, h3, h4, fun i v z a b => ?_⟩
    obtain ⟨c, rfl, hc⟩ := h5 i v z a b
    exact ⟨c, rfl, k _ _ hc ⟨_, Or.inr rfl⟩⟩
theorem PuD.ex {H H' : Hp} {pd : Addr} {ts : List Tri} {kvs : List (Key × V)} {ks : List Str} (h : PuD H pd ts kvs ks) (e : Ex H H') : PuD H' pd ts kvs ks := ⟨e _ _ h.dk, h.ke, h.le, h.nm, fun x => (h.vl x).keep fun a u g _ => e _ _ g⟩
theorem key_mem {kvs : List (Key × V)} {ks : List Str} (h : kvs.map (·.1) = ks.map Sum.inr) (x : Str) : (kvs.any fun kv => decide (kv.1 = .inr x)) = decide (x ∈ ks) := by
  have e : (kvs.any fun kv => decide (kv.1 = .inr x)) = (kvs.map (·.1)).any fun k => decide (k = .inr x) := by rw [List.any_map]; rfl
  rw [e, h, List.any_map]
  by_cases hx : x ∈ ks
  · rw [decide_eq_true hx]
    exact List.any_eq_true.mpr ⟨x, hx, decide_eq_true rfl⟩
  · rw [decide_eq_false hx, Bool.eq_false_iff]
    intro z
    obtain ⟨y, hy, e⟩ := List.any_eq_true.mp z
    have := Sum.inr.inj (of_decide_eq_true e)
    rw [this] at hy
    exact hx hy
theorem key_some {kvs : List (Key × V)} {ks : List Str} (h : kvs.map (·.1) = ks.map Sum.inr) (x : Str) : (valV kvs (.inr x)).isSome = decide (x ∈ ks) := by
  rw [← key_mem h, ← valV_any]
theorem put_keys {kvs : List (Key × V)} {ks : List Str} {x : Str} {v : V} (h : kvs.map (·.1) = ks.map Sum.inr) : (putK kvs (.inr x) v).map (·.1) = (if x ∈ ks then ks else ks ++ [x]).map Sum.inr := by
  unfold putK
  rw [key_mem h]
  by_cases hx : x ∈ ks
  · rw [if_pos (decide_eq_true hx), if_pos hx, List.map_map, ← h]
    refine List.map_congr_left fun kv _ => ?_
    show (if kv.1 = .inr x then (kv.1, v) else kv).1 = kv.1
    split <;> rfl
  · rw [if_neg (by rw [decide_eq_false hx]; decide), if_neg hx, List.map_append, List.map_append, h]
    rfl
abbrev tB2 (K : PySem.W.Frag) : TS := tIfS (tTest (tOp rEq (tOp (rIxT K) (tVar 6) (tC (V.int 0))) (tC (V.str "push"))))
  (sDPut (tVar 4) (tOp (rIxT K) (tVar 6) (tC (V.int 1))) (tOp rCat (tDGet2 (tVar 4) (tOp (rIxT K) (tVar 6) (tC (V.int 1))) (tLst tNil)) (tLst (tCons (tTup (tCons (tVar 2) (tCons (tVar 5) tNil))) tNil)))) tNext
theorem s_body2 {K : PySem.W.Frag} {D : Ends} {H : Hp} {pd c : Addr} {s0 s1 s3 : Option V} {rest : List (Option V)} {w : Str} {i : Nat} {e : En} {ts : List Tri} {kvs : List (Key × V)} {ks : List Str}
    (pu : PuD H pd ts kvs ks) (hc : H c = some (.tup e.vs)) (ok : e.ok) (tl : ts.length ≤ 400)
    (next : ∀ kvs2 ks2 H2, (∀ a u, a ≠ pd → H a = some u → H2 a = some u) → PuD H2 pd (ts ++ [(w, i, e)]) kvs2 ks2 → D.nx (s0 :: s1 :: some (.str w) :: s3 :: some (.ref pd) :: some (.int (i : Int)) :: some (.ref c) :: rest) H2) :
    tB2 K D (s0 :: s1 :: some (.str w) :: s3 :: some (.ref pd) :: some (.int (i : Int)) :: some (.ref c) :: rest) H := by
  refine s_if (b := e.isPu) (et_is (et_test (ev_op (ev_op (ev_var rfl) ev_c (rv_ixT (st_of hc) e.at0)) ev_c (rv_eq rfl))) e.isPu_eq) (fun hb H1 e1 => ?_) (fun hb H1 e1 => ?_)
  · have pu1 := pu.ex e1
    have hc1 := e1 _ _ hc
    have nx : IsNm e.it := by cases e <;> first | exact ok | cases hb
    have ix : ∀ H2, Ex H1 H2 → Ev (tOp (rIxT K) (tVar 6) (tC (V.int 1))) (s0 :: s1 :: some (.str w) :: s3 :: some (.ref pd) :: some (.int (i : Int)) :: some (.ref c) :: rest) H2 (.str e.it) := fun H2 e2 => ev_op (ev_var rfl) ev_c (rv_ixT (st_of (e2 _ _ hc1)) (En.at1 hb))
    refine ⟨.ref pd, rfl, pd, rfl, Or.inl ⟨kvs, Or.inl pu1.dk⟩, ix H1 (Ex.refl H1) H1 (Ex.refl H1) _ fun H2 e2 => ⟨(by show 0 ≤ sizeLine; decide), fun n0 hn0 => ?_⟩⟩
    have e3 : Ex H2 (upd H2 n0 (.lst [])) := Ex.new hn0
    have h0 : (upd H2 n0 (.lst [])) n0 = some (.lst []) := upd_same
    generalize upd H2 n0 (.lst []) = H3 at e3 h0 ⊢
    have E3 := e2.trans e3
    refine ⟨valV kvs (.inr e.it), DGet.k (k := .inr e.it) (E3 _ _ pu1.dk), ?_⟩
    have pv := (pu1.vl e.it).keep (H' := H3) fun a u g _ => E3 _ _ g
    have old : ∃ l vs, (valV kvs (.inr e.it)).getD (.ref n0) = .ref l ∧ H3 l = some (.lst vs) ∧ vs.length = (plsOf ts e.it).length ∧ ∀ (i : Nat) v z, vs[i]? = some v → (plsOf ts e.it)[i]? = some z → ∃ a, v = .ref a ∧ H3 a = some (.tup [.str z.1, .int (z.2 : Int)]) := by
      rcases pv with ⟨h1, h2⟩ | ⟨q, vs, h1, h2, h3, h4, h5⟩
      · exact ⟨n0, [], by rw [h1]; rfl, h0, by rw [h2]; rfl, fun i v z g _ => by simp at g⟩
      · exact ⟨q, vs, by rw [h1]; rfl, h2, h4, h5⟩
    obtain ⟨l, vs, hl, h3l, vlen, vat⟩ := old
    rw [hl]
    refine tl_one (vs := [.str w, .int (i : Int)]) (eu_tup (ea_cons (ev_var rfl) (ea_cons (ev_var rfl) ea_nil)) (by show 2 ≤ 100000; decide)) fun t m H5 e5 h5t h5m => ?_
    have lb : (plsOf ts e.it).length ≤ ts.length := by
      unfold plsOf
      rw [List.length_map]
      exact List.length_filter_le _ _
    refine ⟨l, m, vs, [.ref t], rfl, rfl, e5 _ _ h3l, h5m, sz_of (by show vs.length + 1 ≤ 100000; omega), fun g hg => ?_⟩
    have e6 : Ex H5 (upd H5 g (.lst (vs ++ [.ref t]))) := Ex.new hg
    have h6g : (upd H5 g (.lst (vs ++ [.ref t]))) g = some (.lst (vs ++ [.ref t])) := upd_same
    generalize upd H5 g (.lst (vs ++ [.ref t])) = H6 at e6 h6g ⊢
    have E6 : Ex H1 H6 := E3.trans (e5.trans e6)
    have h6t := e6 _ _ h5t
    refine ⟨.ref pd, rfl, ix H6 E6 H6 (Ex.refl H6) _ fun H7 e7 => ?_⟩
    have h7 := e7 _ _ (E6 _ _ pu1.dk)
    have kl : kvs.length = ks.length := by have := congrArg List.length pu1.ke; rw [List.length_map, List.length_map] at this; exact this
    have := pu1.le
    refine ⟨pd, _, rfl, DPut.k (k := .inr e.it) h7 (sz_lt (by omega)), next (putK kvs (.inr e.it) (.ref g)) (if e.it ∈ ks then ks else ks ++ [e.it]) _ (fun a u n h => by rw [upd_ne n]; exact e7 _ _ (E6 _ _ (e1 _ _ h))) ?_⟩
    have up : ∀ a u, H7 a = some u → (∃ xs, u = .lst xs ∨ u = .tup xs) → (upd H7 pd (.dK (putK kvs (.inr e.it) (.ref g)))) a = some u := fun a u h z => by
      rw [upd_ne (fun y => ?_)]
      · exact h
      · rw [y, h7] at h
        cases h
        obtain ⟨xs, z | z⟩ := z <;> cases z
    refine ⟨upd_same, put_keys pu1.ke, ?_, fun x hx => ?_, fun x => ?_⟩
    · rw [List.length_append]
      split
      · omega
      · rw [List.length_append]
        show ks.length + 1 ≤ ts.length + 1
        omega
    · split at hx
      · exact pu1.nm x hx
      · rcases List.mem_append.mp hx with hx | hx
        · exact pu1.nm x hx
        · rw [List.mem_singleton.mp hx]
          exact nx
    · rw [valV_put, plsOf_app]
      by_cases hx : x = e.it
      · subst hx
        rw [if_pos rfl, plsOf_yes (t := (w, i, e)) (by show (e.isPu && decide (e.it = e.it)) = true; rw [hb, decide_eq_true rfl]; rfl)]
        refine Or.inr ⟨g, vs ++ [.ref t], rfl, up _ _ (e7 _ _ h6g) ⟨_, Or.inl rfl⟩, by simp, by rw [List.length_append, List.length_append, vlen]; rfl, fun j v z a b => ?_⟩
        by_cases hj : j < vs.length
        · rw [List.getElem?_append_left hj] at a
          rw [List.getElem?_append_left (by omega)] at b
          obtain ⟨y, rfl, hy⟩ := vat j v z a b
          exact ⟨y, rfl, up _ _ (e7 _ _ (e6 _ _ (e5 _ _ hy))) ⟨_, Or.inr rfl⟩⟩
        · rw [List.getElem?_append_right (by omega)] at a
          rw [List.getElem?_append_right (by omega), ← vlen] at b
          have hz : j - vs.length = 0 := by
            have := (List.getElem?_eq_some_iff.mp a).1
            simp at this
            omega
          rw [hz] at a b
          cases a
          cases b
          exact ⟨t, rfl, up _ _ (e7 _ _ h6t) ⟨_, Or.inr rfl⟩⟩
      · rw [if_neg (fun z => hx (Sum.inr.inj z)), plsOf_no (t := (w, i, e)) (by show (e.isPu && decide (e.it = x)) = false; rw [decide_eq_false (fun z => hx z.symm), Bool.and_false]), List.append_nil]
        exact (pu1.vl x).keep fun a u g z => up _ _ (e7 _ _ (E6 _ _ g)) z
  · refine next kvs ks H1 (fun a u _ h => e1 _ _ h) ⟨(pu.ex e1).dk, pu.ke, by rw [List.length_append]; have := pu.le; omega, pu.nm, fun x => ?_⟩
    rw [plsOf_app, plsOf_no (t := (w, i, e)) (by show (e.isPu && decide (e.it = x)) = false; rw [hb]; rfl), List.append_nil]
    exact (pu.ex e1).vl x
end Vx

set_option Elab.async false
set_option linter.all false
set_option maxRecDepth 100000
set_option maxHeartbeats 8000000
namespace Vx
open PySem PySem.Spec PyProof.Rows L2 Evl
theorem En.atE {e : En} (h : e.isRe = true) : atI e.vs ((e.vs.length : Int) - 1) = some (.str e.it) := by cases e <;> first | rfl | cases h
theorem ev_inL2 {K : PySem.W.Frag} {σ : L2.St} {H : Hp} {te : TE} {z a b : Str} (h : Ev te σ H (.str z)) : Ev (tOp (rIn K false) te (tLst (tCons (tC (.str a)) (tCons (tC (.str b)) tNil)))) σ H (.bl (inV (.str z) [.str a, .str b])) := fun H4 e4 Q4 q4 =>
  h H4 e4 _ fun H5 e5 => ⟨(by show 2 ≤ sizeLine; decide), fun p hp => ⟨p, _, rfl, Or.inl (sq_of upd_same), rfl, rfl, q4 _ (e5.trans (Ex.new hp))⟩⟩
def GoD (H : Hp) (g : Addr) (xs : List Str) : Prop := ∃ kvs, H g = some (.dK kvs) ∧ kvs.length ≤ xs.length ∧ ∀ x, (valV kvs (.inr x)).isSome = decide (x ∈ xs)
def En.isSt : En → Bool
  | .steal _ _ => true
  | _ => false
theorem hdS : ∀ a ∈ ([("push", false), ("pop", false), ("size", false), ("steal", true)] : List (Str × Bool)), decide (V.str a.1 = V.str "steal") = a.2 := by decide +kernel
theorem En.isSt_eq (e : En) : decide (V.str e.hd = V.str "steal") = e.isSt := by
  cases e
  · exact hdS ("push", false) (by simp)
  · exact hdS ("pop", false) (by simp)
  · exact hdS ("size", false) (by simp)
  · exact hdS ("steal", true) (by simp)
abbrev tB3r (K : PySem.W.Frag) (n : Nat) : TS := tSeq (sDPut (tVar 7) (tVar 8) (tC (V.bl true)))
  (tSeq (tAsg (tOp (rIxL K) (tDGet (tVar 4) (tVar 8)) (tC (V.int 0))) (gTup K n (gCons (gName 9) (gCons (gName 10) gNil))))
  (tSeq (tIfS (tAnd (tTest (tOp rEq (tOp (rIxT K) (tVar 6) (tC (V.int 0))) (tC (V.str "pop")))) (tOr (tTest (tOp rNe (tVar 9) (tVar 2))) (tTest (tOp (rI0 fun i j => V.bl (decide (j < i))) (tVar 10) (tVar 5))))) (tRet (tC (V.bl false))) tNext)
  (tIfS (tAnd (tTest (tOp rEq (tOp (rIxT K) (tVar 6) (tC (V.int 0))) (tC (V.str "steal")))) (tOr (tTest (tOp rNe (tVar 9) (tOp (rIxT K) (tVar 6) (tC (V.int 1))))) (tTest (tOp rEq (tVar 9) (tVar 2))))) (tRet (tC (V.bl false))) tNext)))
abbrev tB3 (K : PySem.W.Frag) (n : Nat) : TS := tIfS (tTest (tOp (rIn K false) (tOp (rIxT K) (tVar 6) (tC (V.int 0))) (tLst (tCons (tC (V.str "pop")) (tCons (tC (V.str "steal")) tNil)))))
  (tSeq (tAsg (tOp (rIxT K) (tVar 6) (tOp (rI0 fun i j => V.int (i - j)) (tCB (rLenS K) (tCons (tVar 6) tNil)) (tC (V.int 1)))) (gName 8))
  (tSeq (tIfS (tOr (tB (tDIn (tVar 8) (tVar 7))) (tB (tDNotIn (tVar 8) (tVar 4)))) (tRet (tC (V.bl false))) tNext) (tB3r K n))) tNext
theorem s_body3 {K : PySem.W.Frag} {D : Ends} {H : Hp} {pd g c : Addr} {s0 s1 s3 b8 b9 b10 : Option V} {n : Nat} {w : Str} {i : Nat} {e : En} {ws : List Str} {L : List (List En)} {j : Nat} {kvs : List (Key × V)} {ks : List Str} {ts : List Tri} (hn : n = 2)
    (hts : ts = Tr ws L) (nd : ws.Nodup) (ll : L.length = ws.length) (pu : PuD H pd ts kvs ks) (go : GoD H g (itR (ts.take j))) (hj : ts[j]? = some (w, i, e)) (F : Fine ws L j) (hc : H c = some (.tup e.vs)) (tl : ts.length ≤ 400)
    (next : ∀ c8 c9 c10 H2, Fine ws L (j + 1) → (∀ a u, a ≠ g → H a = some u → H2 a = some u) → GoD H2 g (itR (ts.take (j + 1))) → D.nx [s0, s1, some (.str w), s3, some (.ref pd), some (.int (i : Int)), some (.ref c), some (.ref g), c8, c9, c10] H2)
    (out : fitL ws L = false → ∀ H2, (∀ a u, a ≠ g → H a = some u → H2 a = some u) → D.rt (.bl false) H2) :
    tB3 K n D [s0, s1, some (.str w), s3, some (.ref pd), some (.int (i : Int)), some (.ref c), some (.ref g), b8, b9, b10] H := by
  subst hts
  obtain ⟨gk, hg, gl, gv⟩ := go
  have rl : (itR ((Tr ws L).take j)).length ≤ 400 := by
    unfold itR
    rw [List.length_map]
    have := List.length_filter_le (fun t : Tri => t.2.2.isRe) ((Tr ws L).take j)
    rw [List.length_take] at this
    omega
  refine s_if (b := e.isRe) (et_is (et_test (ev_inL2 (ev_op (ev_var rfl) ev_c (rv_ixT (st_of hc) e.at0)))) e.isRe_eq) (fun hb H1 e1 => ?_) (fun hb H1 e1 => ?_)
  · have hc1 := e1 _ _ hc
    have hg1 := e1 _ _ hg
    have pu1 := pu.ex e1
    refine q_asg (v := .str e.it) (ev_op (ev_var rfl) (ev_op (ev_lenA (ev_var rfl) (Or.inr (st_of hc1))) ev_c rv_I0) (rv_ixT (st_of hc1) (En.atE hb))) fun H2 e2 => ?_
    have hg2 := e2 _ _ hg1
    have pu2 := pu1.ex e2
    have E2 := e1.trans e2
    refine q_if (b := decide (e.it ∈ itR ((Tr ws L).take j)) || !(valV kvs (.inr e.it)).isSome) (et_or (et_B (fun H3 e3 Q3 q3 => ⟨.str e.it, rfl, .ref g, rfl, g, _, rfl, DGet.k (k := .inr e.it) (e3 _ _ hg2), ?_⟩)) (fun _ => et_B (fun H3 e3 Q3 q3 => ⟨.str e.it, rfl, .ref pd, rfl, pd, _, rfl, DGet.k (k := .inr e.it) (e3 _ _ pu2.dk), q3 H3 (Ex.refl H3)⟩))) (fun hx H3 e3 => s_ret (v := .bl false) ev_c fun H4 e4 => ?_) (fun hx H3 e3 => ?_)
    · rw [gv]
      exact q3 H3 (Ex.refl H3)
    · refine out ?_ H4 fun a u _ h => e4 _ _ (e3 _ _ (E2 _ _ h))
      rw [Bool.or_eq_true, Bool.not_eq_true'] at hx
      rcases hx with hx | hx
      · exact not_twice ll hj hb (of_decide_eq_true hx)
      · refine not_fit hj ?_
        show fitsB e w i (pushAt ws L e.it) = false
        have : pushAt ws L e.it = none := by
          rw [pushAt_eq]
          rcases pu2.vl e.it with ⟨_, h2⟩ | ⟨q, vs, h1, _⟩
          · rw [h2]; rfl
          · rw [h1] at hx; cases hx
        rw [this]
        exact fits_none hb
    · rw [Bool.or_eq_false_iff, Bool.not_eq_false'] at hx
      have hx1 := of_decide_eq_false hx.1
      have hg3 := e3 _ _ hg2
      have pu3 := pu2.ex e3
      have E3 := E2.trans e3
      refine ⟨.ref g, rfl, .str e.it, rfl, g, _, rfl, DPut.k (k := .inr e.it) hg3 (sz_lt (by omega)), ?_⟩
      have npg : pd ≠ g := fun z => by
        have := pu3.dk
        rw [z, hg3] at this
        injection Option.some.inj this with h1
        rcases pu3.vl e.it with ⟨h2, _⟩ | ⟨q, vs, h2, h3, _⟩
        · rw [h2] at hx; cases hx.2
        · have h4 := gv e.it
          rw [h1, h2, decide_eq_false hx1] at h4
          cases h4
      have but : ∀ a u, a ≠ g → H a = some u → (upd H3 g (.dK (putK gk (.inr e.it) (.bl true)))) a = some u := fun a u n h => by
        rw [upd_ne n]
        exact E3 _ _ h
      have upk : ∀ a u, H3 a = some u → (∃ xs, u = .lst xs ∨ u = .tup xs) → (upd H3 g (.dK (putK gk (.inr e.it) (.bl true)))) a = some u := fun a u h z => by
        rw [upd_ne (fun y => ?_)]
        · exact h
        · rw [y, hg3] at h
          cases h
          obtain ⟨xs, z | z⟩ := z <;> cases z
      have go2 : GoD (upd H3 g (.dK (putK gk (.inr e.it) (.bl true)))) g (itR ((Tr ws L).take (j + 1))) := by
        rw [take_snoc hj, itR_app, itR_yes (t := (w, i, e)) hb]
        refine ⟨_, upd_same, ?_, fun x => ?_⟩
        · have := length_putK gk (.inr e.it) (.bl true)
          rw [List.length_append]
          show _ ≤ _ + 1
          omega
        · rw [valV_put]
          by_cases hxe : x = e.it
          · subst hxe
            rw [if_pos rfl, decide_eq_true (by simp)]
            rfl
          · rw [if_neg (fun z => hxe (Sum.inr.inj z)), gv]
            exact decide_eq_decide.mpr ⟨fun h => List.mem_append_left _ h, fun h => (List.mem_append.mp h).resolve_right fun h => hxe (List.mem_singleton.mp h)⟩
      have hpd4 : (upd H3 g (.dK (putK gk (.inr e.it) (.bl true)))) pd = some (.dK kvs) := by rw [upd_ne npg]; exact pu3.dk
      have vl4 := (pu3.vl e.it).keep upk
      have hc4 := upk _ _ (e3 _ _ (e2 _ _ hc1)) ⟨_, Or.inr rfl⟩
      generalize upd H3 g (.dK (putK gk (.inr e.it) (.bl true))) = H4 at but go2 hpd4 vl4 hc4 ⊢
      rcases vl4 with ⟨h2, _⟩ | ⟨q, vs, hv, hq, hne, hvl, hvs⟩
      · rw [h2] at hx; cases hx.2
      · obtain ⟨z, hz⟩ : ∃ z, (plsOf (Tr ws L) e.it)[0]? = some z := by
          cases hpl : plsOf (Tr ws L) e.it with
          | nil => exact absurd hpl hne
          | cons z r => exact ⟨z, rfl⟩
        have hpz : pushAt ws L e.it = some z := by rw [pushAt_eq, ← hz, List.head?_eq_getElem?]
        have v0 : ∃ y, vs[0]? = some y := by
          have := (List.getElem?_eq_some_iff.mp hz).1
          exact ⟨_, List.getElem?_eq_getElem (by omega)⟩
        obtain ⟨y, hy⟩ := v0
        obtain ⟨a, rfl, ha⟩ := hvs 0 y z hy hz
        have ft := lawF_fits nd (List.mem_of_getElem? hj) (by exact hb) hpz
        have ft2 : fitsB e w i (pushAt ws L e.it) = lawF e w i z := ft
        refine (ev_op (x := .ref q) (y := .int 0) (z := .ref a) (fun H5 e5 Q5 q5 => ⟨.ref pd, rfl, .str e.it, rfl, pd, .ref q, rfl, ?_, q5 H5 (Ex.refl H5)⟩) ev_c (rv_ixL (sq_of hq) (atI_nat (j := 0) hy)) : Ev (tOp (rIxL K) (tDGet (tVar 4) (tVar 8)) (tC (V.int 0))) [s0, s1, some (.str w), s3, some (.ref pd), some (.int (i : Int)), some (.ref c), some (.ref g), some (.str e.it), b9, b10] H4 (.ref a)) H4 (Ex.refl H4) _ fun H5 e5 => g_tup2 hn (e5 _ _ ha) ?_
        · rw [← hv]
          exact DGet.k (k := .inr e.it) (e5 _ _ hpd4)
        have hc5 := e5 _ _ hc4
        have but5 : ∀ a u, a ≠ g → H a = some u → H5 a = some u := fun a u n h => e5 _ _ (but a u n h)
        have go5 : GoD H5 g (itR ((Tr ws L).take (j + 1))) := by
          obtain ⟨k2, h1, h2⟩ := go2
          exact ⟨k2, e5 _ _ h1, h2⟩
        have hd : ∀ {y1 z : Str} {k1 : Int} {H6 : Hp}, Ex H5 H6 → EvT (tTest (tOp rEq (tOp (rIxT K) (tVar 6) (tC (V.int 0))) (tC (V.str z)))) [s0, s1, some (.str w), s3, some (.ref pd), some (.int (i : Int)), some (.ref c), some (.ref g), some (.str e.it), some (.str y1), some (.int k1)] H6 (decide (V.str e.hd = V.str z)) := fun e6 => et_test (ev_op (ev_op (ev_var rfl) ev_c (rv_ixT (st_of (e6 _ _ hc5)) e.at0)) ev_c (rv_eq rfl))
        refine q_if (b := e.isPo && (!decide (V.str z.1 = V.str w) || decide ((z.2 : Int) > (i : Int)))) (et_and (et_is (hd (Ex.refl H5)) e.isPo_eq) (fun _ => et_or (et_test (ev_op (ev_var rfl) (ev_var rfl) (rv_ne rfl))) (fun _ => et_test (ev_op (ev_var rfl) (ev_var rfl) rv_I0)))) (fun hp H6 e6 => s_ret (v := .bl false) ev_c fun H7 e7 => ?_) (fun hp H6 e6 => ?_)
        · refine out (not_fit hj ?_) H7 fun a u n h => e7 _ _ (e6 _ _ (but5 a u n h))
          show fitsB e w i (pushAt ws L e.it) = false
          rw [ft2]
          rw [Bool.and_eq_true] at hp
          cases e with
          | pop x =>
            show (decide (z.1 = w) && decide (z.2 ≤ i)) = false
            rw [Bool.or_eq_true, Bool.not_eq_true'] at hp
            rcases hp.2 with hp | hp
            · rw [decide_eq_false (fun y => of_decide_eq_false hp (by rw [y]))]
              rfl
            · have := of_decide_eq_true hp
              rw [decide_eq_false (show ¬ z.2 ≤ i by omega), Bool.and_false]
          | push => cases hp.1
          | size => cases hp.1
          | steal => cases hp.1
        · have at1 : e.isSt = true → ∃ o, e = .steal o e.it := fun h => by
            cases e with
            | steal o x => exact ⟨o, rfl⟩
            | push => cases h
            | pop => cases h
            | size => cases h
          have hst : ∃ o : Str, (e.isSt = true → e = .steal o e.it) := by
            cases hs : e.isSt with
            | true =>
              obtain ⟨o, ho⟩ := at1 hs
              exact ⟨o, fun _ => ho⟩
            | false => exact ⟨Str.empty, fun z => nomatch z⟩
          obtain ⟨o, ho⟩ := hst
          refine s_if (b := e.isSt && (!decide (V.str z.1 = V.str o) || decide (V.str z.1 = V.str w))) (et_and (et_is (hd e6) e.isSt_eq) (fun hs => et_or (et_test (ev_op (ev_var rfl) (ev_op (ev_var rfl) ev_c (rv_ixT (st_of (e6 _ _ hc5)) ?_)) (rv_ne rfl))) (fun _ => et_test (ev_op (ev_var rfl) (ev_var rfl) (rv_eq rfl))))) (fun hp2 H7 e7 => s_ret (v := .bl false) ev_c fun H8 e8 => ?_) (fun hp2 H7 e7 => ?_)
          · rw [ho hs]
            rfl
          · refine out (not_fit hj ?_) H8 fun a u n h => e8 _ _ (e7 _ _ (e6 _ _ (but5 a u n h)))
            show fitsB e w i (pushAt ws L e.it) = false
            rw [ft2]
            rw [Bool.and_eq_true] at hp2
            have ho := ho hp2.1
            rw [ho]
            show (decide (z.1 = o) && !decide (z.1 = w)) = false
            rw [Bool.or_eq_true, Bool.not_eq_true'] at hp2
            rcases hp2.2 with hp2 | hp2
            · rw [decide_eq_false (fun y => of_decide_eq_false hp2 (by rw [y]))]
              rfl
            · rw [decide_eq_true (V.str.inj (of_decide_eq_true hp2)), Bool.not_true, Bool.and_false]
          · refine next _ _ _ H7 (F.step hj hb hx1 ?_) (fun a u n h => e7 _ _ (e6 _ _ (but5 a u n h))) ?_
            · show fitsB e w i (pushAt ws L e.it) = true
              rw [ft2]
              cases e with
              | pop x =>
                have hp : (true && (!decide (V.str z.1 = V.str w) || decide ((z.2 : Int) > (i : Int)))) = false := hp
                rw [Bool.true_and, Bool.or_eq_false_iff, Bool.not_eq_false'] at hp
                show (decide (z.1 = w) && decide (z.2 ≤ i)) = true
                have h2 := of_decide_eq_false hp.2
                rw [decide_eq_true (V.str.inj (of_decide_eq_true hp.1)), decide_eq_true (show z.2 ≤ i by omega)]
                rfl
              | steal o2 x =>
                have hp2 : (true && (!decide (V.str z.1 = V.str o) || decide (V.str z.1 = V.str w))) = false := hp2
                have ho := ho rfl
                injection ho with ho _
                subst ho
                rw [Bool.true_and, Bool.or_eq_false_iff, Bool.not_eq_false'] at hp2
                show (decide (z.1 = o2) && !decide (z.1 = w)) = true
                rw [decide_eq_true (V.str.inj (of_decide_eq_true hp2.1)), decide_eq_false (fun y => of_decide_eq_false hp2.2 (by rw [y]))]
                rfl
              | push => cases hb
              | size => cases hb
            · obtain ⟨k2, h1, h2⟩ := go5
              exact ⟨k2, e7 _ _ (e6 _ _ h1), h2⟩
  · refine next _ _ _ H1 (F.skip hj hb) (fun a u n h => e1 _ _ h) ?_
    rw [take_snoc hj, itR_app, itR_no (t := (w, i, e)) hb, List.append_nil]
    exact ⟨gk, e1 _ _ hg, gl, gv⟩
end Vx

set_option Elab.async false
set_option linter.all false
set_option maxRecDepth 100000
set_option maxHeartbeats 8000000
namespace Vx
open PySem PySem.Spec PyProof.Rows L2 Evl
theorem unlock_exY {H H' : Hp} {d : Addr} {od : Obj} {o : HO} (h : H d = some o) (e : Ex (upd H d (.frz od o)) H') : Ex H (upd H' d o) := fun b u g => by
  by_cases z : b = d
  · subst z
    rw [h] at g
    rw [upd_same]
    exact g
  · rw [upd_ne z]
    exact e _ _ (by rw [upd_ne z]; exact g)
/-- for k in d, some turns may return -/
theorem q_forDkR {te : TE} {tu : TS} {tz : TS} {D : Ends} {σ : L2.St} {H : Hp} {j : Nat} {d : Addr} {kvs : List (Key × V)} (hd : H d = some (.dK kvs)) (hte : ∀ H', Ev te σ H' (.ref d)) (Pv : Nat → L2.St → Hp → Prop) (h0 : ∀ od H1, Ex (upd H d (.frz od (.dK kvs))) H1 → Pv 0 σ H1)
    (hs : ∀ (od : Obj) (D' : Ends) (i : Nat) k v σ' H', kvs[i]? = some (k, v) → H' d = some (.frz od (.dK kvs)) → Pv i σ' H' → (∀ σ2 H2, H2 d = some (.frz od (.dK kvs)) → Pv (i + 1) σ2 H2 → D'.nx σ2 H2) → (∀ x H2, H2 d = some (.frz od (.dK kvs)) → D.rt x (upd H2 d (.dK kvs)) → D'.rt x H2) → tu D' (σ'.set j (some (kV k))) H')
    (hend : ∀ od σ' H', H' d = some (.frz od (.dK kvs)) → Pv kvs.length σ' H' → tz D σ' (upd H' d (.dK kvs))) : tSeq (tLock (tFor (iKeys te) (gName j) tu)) tz D σ H := by
  refine ⟨d, .dK kvs, hd, trivial, fun od => hte _ _ (Ex.refl _) _ fun H1 e1 => ⟨d, od, rfl, Or.inl ⟨kvs, e1 _ _ upd_same, ?_⟩⟩⟩
  refine ⟨fun i m σ' H' => m = kvs.length - i ∧ i ≤ kvs.length ∧ H' d = some (.frz od (.dK kvs)) ∧ Pv i σ' H', ⟨kvs.length, rfl, Nat.zero_le _, e1 _ _ upd_same, h0 od H1 e1⟩, ?_⟩
  rintro i m σ' H' ⟨rfl, hi, hf, p⟩
  rcases Nat.lt_or_ge i kvs.length with hlt | hge
  · refine .inr ⟨⟨hf, hlt⟩, fun σ2 H2 => H2 d = some (.frz od (.dK kvs)) ∧ Pv (i + 1) σ2 H2, fun σ2 H2 p2 => ⟨kvs.length - (i + 1), by omega, rfl, hlt, p2.1, p2.2⟩, fun x H2 y => ?_⟩
    obtain ⟨rfl, k, u, hku, rfl⟩ := y
    exact hs od _ i k u σ' H2 hku hf p (fun σ2 H3 a b => ⟨a, b⟩) (fun x H3 a b => ⟨a, b⟩)
  · have : i = kvs.length := by omega
    subst this
    exact .inl ⟨⟨hf, Nat.le_refl _⟩, hf, hend od σ' H' hf p⟩
theorem el_dup {K : PySem.W.Frag} {H : Hp} {pd : Addr} {ts : List Tri} {kvs : List (Key × V)} {ks : List Str} {s0 s1 s2 s3 s5 s6 s7 b8 s9 s10 : Option V} (pu : PuD H pd ts kvs ks) (tl : ts.length ≤ 400) :
    EvL (tLockE (tLc (iKeys (tVar 4)) (gName 8) (tTest (tOp (rI0 fun i j => V.bl (decide (j < i))) (tCB (rLenS K) (tCons (tDGet (tVar 4) (tVar 8)) tNil)) (tC (V.int 1)))) (tVar 8) [8])) [s0, s1, s2, s3, some (.ref pd), s5, s6, s7, b8, s9, s10] H ((ks.filter fun x => decide (1 < (plsOf ts x).length)).map V.str) := fun H1 e Q q => by
  have pu1 := pu.ex e
  have kl : kvs.length = ks.length := by have := congrArg List.length pu1.ke; rw [List.length_map, List.length_map] at this; exact this
  have := pu1.le
  refine ⟨pd, .dK kvs, pu1.dk, trivial, fun od => ⟨.ref pd, rfl, pd, od, rfl, Or.inl ⟨kvs, upd_same, fun Dl hD => ?_⟩⟩⟩
  have ndl : Dl ≠ pd := fun z => by rw [z, upd_same] at hD; cases hD
  have old : ∀ a u, H1 a = some u → (∃ xs, u = .lst xs ∨ u = .tup xs) → (upd H1 pd (.frz od (.dK kvs))) a = some u := fun a u h z => by
    rw [upd_ne (fun y => ?_)]
    · exact h
    · rw [y, pu1.dk] at h
      cases h
      obtain ⟨xs, z | z⟩ := z <;> cases z
  rw [← given_list ks Str.empty (fun x => decide (1 < (plsOf ts x).length)) V.str, ← kl] at q
  refine lc_F (J := Itk pd od kvs) (n := kvs.length) (fun i => decide (1 < (plsOf ts (ks.getD i Str.empty)).length)) (fun i => V.str (ks.getD i Str.empty)) (by omega) hD (fun i H2 hi e2 => ⟨e2 _ _ upd_same, hi⟩) (fun H2 e2 => ⟨e2 _ _ upd_same, Nat.le_refl _⟩) (fun i H2 x H' hi e2 y => ?_) (fun H2 e2 h2 => ⟨e2 _ _ upd_same, ?_⟩)
  · obtain ⟨rfl, k, u, hku, rfl⟩ := y
    have hki : ks[i]? = some (ks.getD i Str.empty) := by
      rw [List.getD_eq_getElem?_getD, List.getElem?_eq_getElem (by omega)]
      rfl
    generalize ks.getD i Str.empty = x at hki ⊢
    have hkx : k = .inr x := by
      have h1 : (kvs.map (·.1))[i]? = some k := by rw [List.getElem?_map, hku]; rfl
      rw [pu1.ke, List.getElem?_map, hki] at h1
      exact (Option.some.inj h1).symm
    subst hkx
    refine ⟨[s0, s1, s2, s3, some (.ref pd), s5, s6, s7, some (.str x), s9, s10], Ex.refl _, rfl, fun Q2 q2 => q2 _ (Ex.refl _), ?_, fun _ => ev_var rfl⟩
    have vx : (valV kvs (.inr x)).isSome = true := by rw [key_some pu1.ke]; exact decide_eq_true (List.mem_of_getElem? hki)
    rcases (pu1.vl x).keep old with ⟨h1, _⟩ | ⟨qa, vs, h1, h3, _, h5, _⟩
    · rw [h1] at vx; cases vx
    · refine et_is (et_test (ev_op (ev_lenA (p := qa) (xs := vs) (fun H3 e3 Q3 q3 => ⟨.ref pd, rfl, .str x, rfl, pd, .ref qa, rfl, Or.inl ⟨kvs, .inr x, Or.inr ⟨od, e3 _ _ upd_same⟩, rfl, h1.symm⟩, q3 H3 (Ex.refl H3)⟩) (Or.inl (sq_of h3))) ev_c rv_I0)) ?_
      rw [h5]
      exact decide_eq_decide.mpr ⟨fun h => by omega, fun h => by omega⟩
  · refine q Dl _ ?_ (unlock_exY pu1.dk e2) (by rw [upd_ne ndl]; exact h2)
    rw [upd_ne ndl] at hD
    exact hD
def spIL (K : PySem.W.Frag) : Sp := fun vs H Q _ => ∃ (v : V) (d : PyData) (as : List Addr), vs = [v] ∧ Dz H v d as ∧ plD d = true ∧ lyD d = true ∧ ∀ H', Ex H H' → Q (.bl (logsD fitL d)) H'
theorem dz_tyD {K : PySem.W.Frag} {H : Hp} {v : V} {d : PyData} {as : List Addr} (h : Dz H v d as) : (∃ n, TyN K H v n ∧ kitB n "dict" = some false ∧ ∀ F, logsD F d = false) ∨ ∃ (p : Addr) (kvs : List (Key × V)) (ds : List PyData) (bs : List Addr), v = .ref p ∧ d = .dict (zipD kvs ds) ∧ H p = some (.dK kvs) ∧ (kvs.map (·.1)).Nodup ∧ DzA H (kvs.map (·.2)) ds bs := by
  cases h with
  | non => exact Or.inl ⟨_, ty_non, rfl, fun _ => rfl⟩
  | bl b => exact Or.inl ⟨_, ty_bl, rfl, fun _ => rfl⟩
  | int i => exact Or.inl ⟨_, ty_int, rfl, fun _ => rfl⟩
  | str z => exact Or.inl ⟨_, ty_str, rfl, fun _ => rfl⟩
  | lst h t => exact Or.inl ⟨_, ty_lst (Or.inl h), rfl, fun _ => rfl⟩
  | tup h t => exact Or.inl ⟨_, ty_tup (Or.inl h), rfl, fun _ => rfl⟩
  | dict h n t => exact Or.inr ⟨_, _, _, _, rfl, rfl, h, n, t⟩
theorem logsK_all {F : List Str → List (List En) → Bool} {kds : List (PyData × PyData)} (h : (kds.all fun kd => nmD kd.1 && lgD kd.2) = false) : logsK F kds = false := by
  unfold logsK
  rw [h, Bool.false_and, Bool.and_false]
theorem all_false {α : Type} {f : α → Bool} {l : List α} {x : α} (m : x ∈ l) (h : f x = false) : l.all f = false := by
  rw [Bool.eq_false_iff]
  intro z
  rw [List.all_eq_true.mp z x m] at h
  cases h
section
variable {P : Program} {w : World} {K : PySem.W.Frag} {mg : Str → Option Value} {base : Heap}
theorem sc_law_is_logs : FnScope ["value", "rows", "name", "log", "pushed", "k", "one", "gone", "item", "owner", "place"] ["value"] (defScope s_law_is_logs) := ⟨rfl, rfl, rfl, by decide +kernel, rfl, by decide +kernel, by decide +kernel⟩
theorem ok_law_is_logs (D : Def K mg "_law_is_logs" s_law_is_logs ["value"]) (T : Bl mg) (G_law_is_name : Good P w K mg base 1 "_law_is_name" ["value"] (spNmL K)) (G_law_is_entry : Good P w K mg base 2 "_law_is_entry" ["value"] (spEL K)) : Good P w K mg base 3 "_law_is_logs" ["value"] (spIL K) := by
  refine D.good sc_law_is_logs (fun vs H Q E h => ?_) (fun f cdv A outer s H vs Q E hr h => ?_)
  · obtain ⟨v, d, as, rfl, _⟩ := h
    rfl
  · obtain ⟨v, d, as, rfl, hv, pl, ly, q⟩ := h
    have hu := hu_of hr
    refine ⟨_, (pss_cons (ps_if (pw_or (pt_not (pt_val (x_isi (K := K) "dict" T (pv 0) T.dict))) (pw_or (pt_cmpR op_lt (pe_callB call_lenD (by rfl) T.len PySem.boot_len (pa_cons (pv 0) pa_nil)) pe_int (nomark _)) (pw_or1 (pt_cmpR op_gt (pe_callB call_lenD (by rfl) T.len PySem.boot_len (pa_cons (pv 0) pa_nil)) pe_int (nomark _))))).pt (pss_one (ps_ret pe_bl)) pss_nil)
      (pss_cons (ps_set (i := 1) sc_law_is_logs.nd rfl (Or.inl rfl) (pe_lst pa_nil))
      (pss_cons (ps_lock (ps_for PassesOwn.never rfl (pi_keys (pv 0)) (pg_name (i := 2) sc_law_is_logs.nd rfl (Or.inr rfl)) (pss_cons (ps_set (i := 3) sc_law_is_logs.nd rfl (Or.inr rfl) (pe_dget hu (pv 0) (pv 2) (fun _ _ => rfl)))
      (pss_cons (ps_if (pw_or (pt_not (pt_val (pe_fn (G_law_is_name.mono (by decide)) hr (pa_cons (pv 2) pa_nil)))) (pw_or (pt_not (pt_val (x_isi (K := K) "list" T (pv 3) T.list))) (pw_or1 (pt_cmpR op_gt (x_len (K := K) T (pv 3)) pe_int (nomark _))))).pt (pss_one (ps_ret pe_bl)) pss_nil)
      (pss_cons (ps_if (pt_cmpR (x_neD (K := K) rfl hr.units) (pe_lc (own := [("one", 6)]) (g := (gName 6))  rfl sc_law_is_logs.nd (x_pil (K := K) (pv 3)) (blkOk_by (N := ["value", "rows", "name", "log", "pushed", "k", "one", "gone", "item", "owner", "place"]) (sc := (defScope s_law_is_logs)) (by decide +kernel)) (fun _ _ _ _ _ => (pg_name (i := 6) sc_law_is_logs.nd rfl (Or.inl rfl))) (fun _ _ _ _ _ => (pts_one (pt_not (pt_val (pe_fn (G_law_is_entry.mono (by decide)) hr (pa_cons (pv 6) pa_nil)))))) (fun _ _ _ _ _ => (pv 6))) (pe_lst pa_nil) (nomark _)) (pss_one (ps_ret pe_bl)) pss_nil)
      (pss_one (ps_expr (x_bm (K := K) PySem.F.plainAttrs_list PySem.F.slot_list_extend PySem.F.type_list_extend mt_extend (pv 1) (pa_cons (pe_lc (own := [("k", 5)]) (g := (gName 5)) (tt := tYes) rfl sc_law_is_logs.nd (x_rng T (pa_cons (x_len (K := K) T (pv 3)) pa_nil)) (blkOk_by (N := ["value", "rows", "name", "log", "pushed", "k", "one", "gone", "item", "owner", "place"]) (sc := (defScope s_law_is_logs)) (by decide +kernel)) (fun _ _ _ _ _ => (pg_name (i := 5) sc_law_is_logs.nd rfl (Or.inl rfl))) (fun _ _ _ _ _ => pts_nil) (fun _ _ _ _ _ => (pe_tup (pa_cons (pv 2) (pa_cons (pv 5) (pa_cons (x_ixl (K := K) (pv 3) (pv 5)) pa_nil)))))) pa_nil)))))))))
      (pss_cons (ps_set (i := 4) sc_law_is_logs.nd rfl (Or.inr rfl) pe_dnewK)
      (pss_cons (ps_for PassesOwn.never rfl (x_pil (K := K) (pv 1)) (x_gt (K := K) (pgs_cons (pg_name (i := 2) sc_law_is_logs.nd rfl (Or.inr rfl)) (pgs_cons (pg_name (i := 5) sc_law_is_logs.nd rfl (Or.inl rfl)) (pgs_cons (pg_name (i := 6) sc_law_is_logs.nd rfl (Or.inl rfl)) pgs_nil)))) (pss_one (ps_if (pt_cmpR op_eq (x_ixt (K := K) (pv 6) pe_int) pe_str (nomark _)) (pss_one (ps_dput hu (pv 4) (x_ixt (K := K) (pv 6) pe_int) (pe_op op_cat (pe_dget2 hu (pv 4) (x_ixt (K := K) (pv 6) pe_int) (pe_lst pa_nil) ⟨by rfl, by rfl, by rfl, by rfl⟩) (pe_lst (pa_cons (pe_tup (pa_cons (pv 2) (pa_cons (pv 5) pa_nil))) pa_nil))) rfl)) pss_nil)))
      (pss_cons (ps_set (i := 7) sc_law_is_logs.nd rfl (Or.inl rfl) pe_dnewK)
      (pss_cons (ps_for PassesOwn.never rfl (x_pil (K := K) (pv 1)) (x_gt (K := K) (pgs_cons (pg_name (i := 2) sc_law_is_logs.nd rfl (Or.inr rfl)) (pgs_cons (pg_name (i := 5) sc_law_is_logs.nd rfl (Or.inl rfl)) (pgs_cons (pg_name (i := 6) sc_law_is_logs.nd rfl (Or.inl rfl)) pgs_nil)))) (pss_one (ps_if (pt_cmpR (x_in (K := K) rfl) (x_ixt (K := K) (pv 6) pe_int) (pe_lst (pa_cons pe_str (pa_cons pe_str pa_nil))) (by rfl)) (pss_cons (ps_set (i := 8) sc_law_is_logs.nd rfl (Or.inl rfl) (x_ixt (K := K) (pv 6) (pe_op op_sub (x_len (K := K) T (pv 6)) pe_int)))
      (pss_cons (ps_if (pw_or (pt_cmp (pc_din hu (pv 8) (pv 7))) (pw_or1 (pt_cmp (pc_dnotin hu (pv 8) (pv 4))))).pt (pss_one (ps_ret pe_bl)) pss_nil)
      (pss_cons (ps_dput hu (pv 7) (pv 8) pe_bl rfl)
      (pss_cons (ps_asg (x_ixl (K := K) (pe_dget hu (pv 4) (pv 8) (fun _ _ => rfl)) pe_int) (x_gt (K := K) (pgs_cons (pg_name (i := 9) sc_law_is_logs.nd rfl (Or.inl rfl)) (pgs_cons (pg_name (i := 10) sc_law_is_logs.nd rfl (Or.inl rfl)) pgs_nil))))
      (pss_cons (ps_if (pw_and (pt_cmpR op_eq (x_ixt (K := K) (pv 6) pe_int) pe_str (nomark _)) (pw_and1 (pw_or (pt_cmpR op_ne (pv 9) (pv 2) (nomark _)) (pw_or1 (pt_cmpR op_gt (pv 10) (pv 5) (nomark _)))).pt)).pt (pss_one (ps_ret pe_bl)) pss_nil)
      (pss_one (ps_if (pw_and (pt_cmpR op_eq (x_ixt (K := K) (pv 6) pe_int) pe_str (nomark _)) (pw_and1 (pw_or (pt_cmpR op_ne (pv 9) (x_ixt (K := K) (pv 6) pe_int) (nomark _)) (pw_or1 (pt_cmpR op_eq (pv 9) (pv 2) (nomark _)))).pt)).pt (pss_one (ps_ret pe_bl)) pss_nil))))))) pss_nil)))
      (pss_one (ps_ret (pe_cmpR (op_eqDK (K := K) rfl hr.units) (pe_lock (pe_lc (own := [("item", 8)]) (g := (gName 8))  rfl sc_law_is_logs.nd (pi_keys (pv 4)) (blkOk_by (N := ["value", "rows", "name", "log", "pushed", "k", "one", "gone", "item", "owner", "place"]) (sc := (defScope s_law_is_logs)) (by decide +kernel)) (fun _ _ _ _ _ => (pg_name (i := 8) sc_law_is_logs.nd rfl (Or.inl rfl))) (fun _ _ _ _ _ => (pts_one (pt_cmpR op_gt (x_len (K := K) T (pe_dget hu (pv 4) (pv 8) (fun _ _ => rfl))) pe_int (nomark _)))) (fun _ _ _ _ _ => (pv 8)))) (pe_lst pa_nil) (nomark _))))))))))), ?_⟩
    rcases dz_tyD (K := K) hv with ⟨n, hn, hb, hl⟩ | ⟨p0, kvs, ds, bs, rfl, rfl, hp, nd, t⟩
    · refine q_if (b := true) (et_is (et_or (a := true) (b := true) (et_not (a := false) (et_B (ev_isI rfl hn hb))) (fun z => nomatch z)) rfl) (fun _ H1 e1 => s_ret (v := .bl false) ev_c fun H2 e2 => ?_) (fun z => nomatch z)
      have := q H2 (e1.trans e2)
      rw [hl] at this
      exact this
    · have kl : kvs.length = ds.length := by rw [← t.len, List.length_map]
      have lz : (zipD kvs ds).length = kvs.length := by
        unfold zipD
        rw [List.length_zip, List.length_map]
        omega
      have pl' : ((zipD kvs ds).all fun kd => plA kd.1 && plL kd.2) = true := pl
      have ly' : ((zipD kvs ds).all fun kd => lyL kd.2) = true := ly
      have q' : ∀ H', Ex H H' → Q (.bl (logsK fitL (zipD kvs ds))) H' := q
      have ln : Ev (tCB (fun xs H Q => ∃ a kvs, xs = [V.ref a] ∧ H a = some (HO.dK kvs) ∧ Q (V.int (kvs.length : Int)) H) (tCons (tVar 0) tNil)) [some (.ref p0), none, none, none, none, none, none, none, none, none, none] H (.int (kvs.length : Int)) := ev_cb (ea_cons (ev_var rfl) ea_nil) fun H1 e1 Q1 q1 => ⟨p0, kvs, rfl, e1 _ _ hp, q1 H1 (Ex.refl H1)⟩
      refine q_if (b := decide ((kvs.length : Int) < 1) || decide ((kvs.length : Int) > 6)) (et_is (et_or (a := false) (et_not (a := true) (et_B (ev_isI rfl (ty_dict (Or.inl hp)) rfl))) (fun _ => et_or (et_test (ev_op ln ev_c rv_I0)) (fun _ => et_test (ev_op ln ev_c rv_I0)))) (by rw [Bool.false_or])) (fun hb H1 e1 => s_ret (v := .bl false) ev_c fun H2 e2 => ?_) (fun hb H1 e1 => ?_)
      · have := q' H2 (e1.trans e2)
        have z : logsK fitL (zipD kvs ds) = false := by
          unfold logsK
          rw [lz]
          rw [Bool.or_eq_true] at hb
          rcases hb with hb | hb
          · have := of_decide_eq_true hb
            rw [decide_eq_false (show ¬ 1 ≤ kvs.length by omega), Bool.false_and, Bool.false_and]
          · have := of_decide_eq_true hb
            rw [decide_eq_false (show ¬ kvs.length ≤ 6 by omega), Bool.and_false, Bool.false_and]
        rw [z] at this
        exact this
      rw [Bool.or_eq_false_iff] at hb
      have k1 : 1 ≤ kvs.length := by have := of_decide_eq_false hb.1; omega
      have k6 : kvs.length ≤ 6 := by have := of_decide_eq_false hb.2; omega
      refine q_asgL (xs := []) (el_lst ea_nil (by decide)) fun r H2 nr e2 h2 => ?_
      have E2 := e1.trans e2
      have hr0 : H r = none := fresh_back e1 nr
      have hp2 := E2 _ _ hp
      have nrp : r ≠ p0 := fun z => by rw [z, hp] at hr0; cases hr0
      refine q_forDkR (kvs := kvs) hp2 (fun H' => ev_var rfl) (fun i σ' H' => (∃ b2 b3, σ' = [some (.ref p0), some (.ref r), b2, b3, none, none, none, none, none, none, none]) ∧ (∀ kd ∈ (zipD kvs ds).take i, (nmD kd.1 && lgD kd.2) = true) ∧ But p0 H H' ∧ ∃ vs, H' r = some (.lst vs) ∧ RowsA H' vs (trK ((zipD kvs ds).take i)) ∧ vs.length ≤ 60 * i)
        (fun od H3 e3 => ⟨⟨_, _, rfl⟩, fun kd hk => by rw [List.take_zero] at hk; (cases hk), fun a u n h => e3 _ _ (by rw [upd_ne n]; exact E2 _ _ h), [], e3 _ _ (by rw [upd_ne nrp]; exact h2), ⟨rfl, fun i v t h _ => by simp at h⟩, by simp⟩)
        (fun od D' i k v σ' H' hki hf p nx rt => ?_) (fun od σ' H' hf p => ?_)
      · obtain ⟨⟨b2, b3, rfl⟩, allk, old, vs, hr, rows, len⟩ := p
        obtain ⟨di, cs, g1, g2⟩ := t.get (i := i) (v := v) (by rw [List.getElem?_map, hki]; rfl)
        have gz : (zipD kvs ds)[i]? = some (keyD k, di) := by
          unfold zipD
          exact List.getElem?_zip_eq_some.mpr ⟨by rw [List.getElem?_map, hki]; rfl, g1⟩
        have mz := List.mem_of_getElem? gz
        have p1 := List.all_eq_true.mp pl' _ mz
        rw [Bool.and_eq_true] at p1
        have hik : i < kvs.length := (List.getElem?_eq_some_iff.mp hki).1
        refine s_body1 (K := K) (D := D') (H0 := H) (kvs := kvs) (od := od) (i := i) hp nd g2 p1.1 p1.2 (List.all_eq_true.mp ly' _ mz) (List.mem_of_getElem? hki) (by omega) old hf hr0 hr rows len (fun c3 us H3 ok o3 f3 r3 a3 l3 => nx _ H3 f3 ⟨⟨_, _, rfl⟩, fun kd hk => ?_, o3, us, r3, ?_, l3⟩) (fun no H3 o3 f3 => rt _ H3 f3 ?_)
        · rw [take_snoc gz] at hk
          rcases List.mem_append.mp hk with hk | hk
          · exact allk kd hk
          · rw [List.mem_singleton.mp hk]
            exact ok
        · rw [take_snoc gz, trK_snoc]
          exact a3
        · have := q' (upd H3 p0 (.dK kvs)) fun a u h => by
            by_cases z : a = p0
            · rw [z, upd_same]
              rw [z, hp] at h
              exact h
            · rw [upd_ne z]
              exact o3 a u z h
          rw [logsK_all (all_false mz no)] at this
          exact this
      · obtain ⟨⟨b2, b3, rfl⟩, allk, old, vs, hr, rows, len⟩ := p
        rw [← lz, List.take_length] at allk rows
        rw [trK_eq] at rows
        have hall : ((zipD kvs ds).all fun kd => nmD kd.1 && lgD kd.2) = true := List.all_eq_true.mpr allk
        obtain ⟨ws, ps, L, hkv, l1, l2, _, nmw, ens, ew, eL⟩ := fit_d t hall
        have ndw : ws.Nodup := by
          rw [hkv] at nd
          have e : (Dk ws ps).map (·.1) = ws.map Sum.inr := by
            unfold Dk
            rw [List.map_map]
            conv => rhs; rw [← List.map_fst_zip (l₁ := ws) (l₂ := ps) (by omega), List.map_map]
            rfl
          rw [e] at nd
          exact (List.pairwise_map.mp nd).imp fun h z => h (by rw [z])
        rw [← ew, ← eL] at rows
        have val : logsK fitL (zipD kvs ds) = fitL ws L := by
          unfold logsK
          rw [hall, lz, decide_eq_true k1, decide_eq_true k6, ← ew, ← eL]
          rfl
        rw [val] at q'
        have tl : (Tr ws L).length ≤ 360 := by rw [← rows.1]; omega
        have okt : ∀ t ∈ Tr ws L, t.2.2.ok := fun tt ht => by
          obtain ⟨k, es, _, h3, h4⟩ := tr_mem ht
          exact (ens es (List.mem_of_getElem? h3)).2 _ (List.mem_of_getElem? h4)
        have hru : (upd H' p0 (.dK kvs)) r = some (.lst vs) := by rw [upd_ne nrp]; exact hr
        have rowsu : RowsA (upd H' p0 (.dK kvs)) vs (Tr ws L) := rows.keep fun a xs h => by
          rw [upd_ne (fun z => by rw [z, hf] at h; cases h)]
          exact h
        have eu : Ex H (upd H' p0 (.dK kvs)) := fun a u h => by
          by_cases z : a = p0
          · rw [z, upd_same]
            rw [z, hp] at h
            exact h
          · rw [upd_ne z]
            exact old a u z h
        generalize upd H' p0 (.dK kvs) = Hu at hru rowsu eu ⊢
        refine fun pd hpd => ?_
        have e3 : Ex Hu (upd Hu pd (.dK [])) := Ex.new hpd
        refine q_forL (K := K) (xs := vs) (ev_var rfl) (sq_of (e3 _ _ hru)) (fun j σ' H' => (∃ b2 b5 b6, σ' = [some (.ref p0), some (.ref r), b2, b3, some (.ref pd), b5, b6, none, none, none, none]) ∧ Ex Hu H' ∧ ∃ kvs2 ks, PuD H' pd ((Tr ws L).take j) kvs2 ks)
          (fun H4 e4 => ⟨⟨_, _, _, rfl⟩, e3.trans e4, [], [], e4 _ _ upd_same, rfl, Nat.zero_le _, (fun x hx => nomatch hx), fun x => Or.inl ⟨rfl, by rw [List.take_zero]; rfl⟩⟩) (fun j σ' H4 _ p => sq_of (p.2.1 _ _ hru)) (fun j x σ' H4 hx p => ?_) (fun σ' H4 p => ?_)
        · obtain ⟨⟨b2, b5, b6, rfl⟩, e4, kvs2, ks, pu⟩ := p
          have hj : j < (Tr ws L).length := by rw [← rowsu.1]; exact (List.getElem?_eq_some_iff.mp hx).1
          have ht := List.getElem?_eq_getElem hj
          generalize (Tr ws L)[j] = tt at ht
          obtain ⟨a, c, rfl, ha, hc⟩ := rowsu.2 j x tt hx ht
          obtain ⟨tw, ti, te⟩ := tt
          refine g_tup3 rfl (e4 _ _ ha) (s_body2 (K := K) pu (e4 _ _ hc) (okt _ (List.mem_of_getElem? ht)) (by rw [List.length_take]; omega) fun kvs3 ks3 H5 b pu3 => ⟨⟨_, _, _, rfl⟩, fun b5 u5 h5 => b b5 u5 (ne_of_none h5 hpd) (e4 _ _ h5), kvs3, ks3, ?_⟩)
          rw [take_snoc ht]
          exact pu3
        · obtain ⟨⟨b2, b5, b6, rfl⟩, e4, kvs2, ks, pu⟩ := p
          rw [rowsu.1, List.take_length] at pu
          refine fun g hg => ?_
          have e5 : Ex H4 (upd H4 g (.dK [])) := Ex.new hg
          refine q_forL (K := K) (xs := vs) (ev_var rfl) (sq_of (e5 _ _ (e4 _ _ hru))) (fun j σ' H' => (∃ b2 b5 b6 b8 b9 b10, σ' = [some (.ref p0), some (.ref r), b2, b3, some (.ref pd), b5, b6, some (.ref g), b8, b9, b10]) ∧ Ex H4 H' ∧ Fine ws L j ∧ GoD H' g (itR ((Tr ws L).take j)))
            (fun H6 e6 => ⟨⟨_, _, _, _, _, _, rfl⟩, e5.trans e6, fine_zero, [], e6 _ _ upd_same, Nat.zero_le _, fun x => by rw [List.take_zero]; rfl⟩) (fun j σ' H6 _ p => sq_of (p.2.1 _ _ (e4 _ _ hru))) (fun j x σ' H6 hx p => ?_) (fun σ' H6 p => ?_)
          · obtain ⟨⟨b2, b5, b6, b8, b9, b10, rfl⟩, e6, F, go⟩ := p
            have hj : j < (Tr ws L).length := by rw [← rowsu.1]; exact (List.getElem?_eq_some_iff.mp hx).1
            have ht := List.getElem?_eq_getElem hj
            generalize (Tr ws L)[j] = tt at ht
            obtain ⟨a, c, rfl, ha, hc⟩ := rowsu.2 j x tt hx ht
            obtain ⟨tw, ti, te⟩ := tt
            refine g_tup3 rfl (e6 _ _ (e4 _ _ ha)) (s_body3 (K := K) (ws := ws) (L := L) (j := j) (ts := Tr ws L) rfl rfl ndw l2 (pu.ex e6) go ht F (e6 _ _ (e4 _ _ hc)) (by omega) (fun c8 c9 c10 H7 F7 b go7 => ⟨⟨_, _, _, _, _, _, rfl⟩, fun b5 u5 h5 => b b5 u5 (ne_of_none h5 hg) (e6 _ _ h5), F7, go7⟩) (fun no H7 b => ?_))
            have := q' H7 fun a u h => b a u (ne_of_none (e4 _ _ (eu _ _ h)) hg) (e6 _ _ (e4 _ _ (eu _ _ h)))
            rw [no] at this
            exact this
          · obtain ⟨⟨b2, b5, b6, b8, b9, b10, rfl⟩, e6, F, go⟩ := p
            rw [rowsu.1] at F
            have pu6 := pu.ex e6
            have fnm : ∀ x ∈ ks.filter (fun x => decide (1 < (plsOf (Tr ws L) x).length)), IsNm x := fun x hx => pu6.nm x (List.mem_filter.mp hx).1
            refine s_ret (v := .bl (((ks.filter fun x => decide (1 < (plsOf (Tr ws L) x).length)).map PyData.str).isEmpty)) (ev_eqNil (K := K) (el_dup pu6 (by omega)) (fun H7 e7 => dp_strs _) (shaped_strs _ fnm)) fun H7 e7 => ?_
            have := q' H7 (((eu.trans e4).trans e6).trans e7)
            rw [all_fine l2 F] at this
            have z : ((ks.filter fun x => decide (1 < (plsOf (Tr ws L) x).length)).map PyData.str).isEmpty = decide (itP (Tr ws L)).Nodup := by
              rw [List.isEmpty_map]
              by_cases hnd : (itP (Tr ws L)).Nodup
              · rw [decide_eq_true hnd, List.isEmpty_iff, List.filter_eq_nil_iff]
                intro x _ hx
                have := nodup_itP.mp hnd x
                have := of_decide_eq_true hx
                omega
              · rw [decide_eq_false hnd, Bool.eq_false_iff]
                intro he
                rw [List.isEmpty_iff, List.filter_eq_nil_iff] at he
                refine hnd (nodup_itP.mpr fun x => ?_)
                by_cases hx : x ∈ ks
                · have := he x hx
                  rw [decide_eq_true_eq] at this
                  omega
                · have h1 := key_some pu6.ke x
                  rw [decide_eq_false hx] at h1
                  rcases pu6.vl x with ⟨_, h2⟩ | ⟨q1, v1, h2, _⟩
                  · rw [h2]
                    exact Nat.zero_le _
                  · rw [h2] at h1
                    cases h1
            rw [z]
            exact this
end
end Vx

set_option Elab.async false
set_option linter.all false
set_option maxRecDepth 100000
set_option maxHeartbeats 8000000
namespace Vx
open PySem PySem.Spec PyProof.Rows L2 Evl
/-! f(k = v) -/
structure GoodK (P : Program) (w : World) (K : PySem.W.Frag) (mg : Str → Option Value) (base : Heap) (k : Nat) (x p1 : Str) (sp : Sp) : Prop where
  ex : ∃ f fd, FnOk P w K mg base CX0 k f fd [p1] sp ∧ mg x = some (.ref f) ∧ PySem.W.keepIn K (.ref f) = true ∧ ∀ (s : Shared) (u : Value), BindsTo s fd ⟨[], [(p1, u)]⟩ [(p1, u)]
section
variable {X : Cx} {k : Nat} {x p1 : Str} {sp : Sp} {p pos : Pos} {kws : List Keyword} {te : TE}
theorem pe_fnK0 (g : GoodK X.prog X.w X.K X.mg X.base k x p1 sp) (room : Room k X.A) (hkw : PK X kws (tCons te tNil)) (hg : Gl X x := by rfl) (hd : (x == ("__debug__" : Str)) = false := by decide)
    (hall : (backToKw pos (keywordEach kws X.env)).all (·.1.isSome) = true := by rfl) (hks : (backToKw pos (keywordEach kws X.env)).filterMap (·.1) = [p1] := by rfl)
    (hpl : ((backTo pos (starEach [] X.env)).any (·.1) || (backToKw pos (keywordEach kws X.env)).any (·.1.isNone)) = false := by rfl) : PE X (.Call (.Name x p) [] kws pos) (tCall sp [] E0 (tCons te tNil)) := by
  obtain ⟨f, fd, F, m, kp, b⟩ := g.ex
  refine ⟨fun pins s σ H Q I h => wpAny_Call_Name_kw (ld_glob I hg m (PySem.W.callWith_KW0 (h₀ := X.base) I.ok.mod.kin kp hall (thn (hkw.run pos pins s σ H _ I h) fun us s1 ⟨vs, H1, I1, r, q⟩ => ⟨I1.kIn, ?_⟩) hpl) hd)⟩
  have q : sp (vs ++ []) H1 Q E0 := q
  rw [List.append_nil] at q
  rw [hks]
  have hl := F.len _ _ _ _ q
  obtain ⟨v, rfl⟩ : ∃ v, vs = [v] := by
    match vs, hl with
    | [v], _ => exact ⟨v, rfl⟩
  obtain ⟨u, rfl, _⟩ := vals1 r
  show wpAny (model X.prog X.w) X.A (call (.ref f) [] [(p1, u)]) (EP X pins σ Q) X.xe s1
  refine wpAny_call (codeAny_mono (F.run X.A X.stack s1 H1 ⟨[], [(p1, u)]⟩ [u] [v] Q E0 room I1.env0 (b s1 u) r q) fun r2 s2 z => ?_)
  rcases r2 with e2 | fl
  · exact pass0 (X := X) pins σ H1 s1 e2 s2 I1 z
  cases fl with
  | ret u => exact I1.after z
  | next => exact False.elim z
  | brk => exact False.elim z
  | cont => exact False.elim z
end
end Vx
namespace Vx
open PySem PySem.Spec PyProof.Rows L2 Evl
def leS (a b : Str) : Prop := ltCps b.cps.toList a.cps.toList = false
theorem leS_iff {a b : Str} : leS a b ↔ ¬ b.cps.toList < a.cps.toList := by
  unfold leS
  rw [ltCps_eq]
  simp
theorem leS_trans {a b c : Str} (h1 : leS a b) (h2 : leS b c) : leS a c := by
  rw [leS_iff, List.not_lt] at *
  exact List.le_trans h1 h2
theorem leS_anti {a b : Str} (h1 : leS a b) (h2 : leS b a) : a = b := by
  rw [leS_iff, List.not_lt] at *
  have := List.le_antisymm h1 h2
  cases a
  cases b
  congr 1
  exact Array.toList_inj.mp this
theorem rising_pw : ∀ (xs : List Str) (p : Str), risingS p xs = true → (p :: xs).Pairwise leS
  | [], p, _ => by simp
  | x :: xs, p, h => by
    unfold risingS at h
    rw [Bool.and_eq_true] at h
    have h1 : leS p x := by
      unfold leS
      simpa using h.1
    have ih := rising_pw xs x h.2
    refine List.pairwise_cons.mpr ⟨fun y hy => ?_, ih⟩
    rcases List.mem_cons.mp hy with rfl | hy
    · exact h1
    · exact leS_trans h1 ((List.pairwise_cons.mp ih).1 y hy)
theorem sorted_pw {xs : List Str} (h : sortedS xs = true) : xs.Pairwise leS := by
  cases xs with
  | nil => exact List.Pairwise.nil
  | cons x xs => exact rising_pw xs x h
theorem sorted_one {xs ys : List Str} (p : xs.Perm ys) (h1 : sortedS xs = true) (h2 : sortedS ys = true) : xs = ys :=
  p.eq_of_pairwise (fun _ _ _ _ a b => leS_anti a b) (sorted_pw h1) (sorted_pw h2)
theorem map_one {α β : Type} {f : α → β} : ∀ {xs ys T : List α}, (T.map f).Nodup → (∀ x ∈ xs, x ∈ T) → (∀ y ∈ ys, y ∈ T) → xs.map f = ys.map f → xs = ys
  | [], [], _, _, _, _, _ => rfl
  | [], _ :: _, _, _, _, _, h => by cases h
  | _ :: _, [], _, _, _, _, h => by cases h
  | x :: xs, y :: ys, T, nd, hx, hy, h => by
    rw [List.map_cons, List.map_cons] at h
    injection h with h1 h2
    have e : x = y := by
      have a := hx x (List.mem_cons_self ..)
      have b := hy y (List.mem_cons_self ..)
      obtain ⟨i, hi⟩ := List.mem_iff_getElem?.mp a
      obtain ⟨j, hj⟩ := List.mem_iff_getElem?.mp b
      have g1 : (T.map f)[i]? = some (f x) := by rw [List.getElem?_map, hi]; rfl
      have g2 : (T.map f)[j]? = some (f x) := by rw [List.getElem?_map, hj, h1]; rfl
      have := (List.getElem?_inj (List.getElem?_eq_some_iff.mp g1).1 nd).mp (g1.trans g2.symm)
      subst this
      rw [hi] at hj
      exact Option.some.inj hj
    rw [e, map_one nd (fun z hz => hx z (List.mem_cons_of_mem _ hz)) (fun z hz => hy z (List.mem_cons_of_mem _ hz)) h2]
/-- the sorted logs are one list -/
theorem lgs_one {ws : List Str} {ps : List Addr} {L : List (List En)} {zs ys : List Lg} (nd : ws.Nodup) (h1 : ps.length = ws.length) (h2 : L.length = ws.length) (pz : zs.Perm (lgs ws ps L)) (py : ys.Perm (lgs ws ps L)) (sz : sortedS (zs.map (·.1)) = true) (sy : sortedS (ys.map (·.1)) = true) : zs = ys := by
  have n1 := lgs_names h1 h2
  refine map_one (f := fun z : Lg => z.1) (T := lgs ws ps L) (by rw [n1]; exact nd) (fun z hz => pz.mem_iff.mp hz) (fun z hz => py.mem_iff.mp hz) ?_
  exact sorted_one ((pz.trans py.symm).map _) sz sy
end Vx
namespace Vx
open PySem PySem.Spec PyProof.Rows L2 Evl
theorem el_cat {ta tb : TE} {σ : L2.St} {H : Hp} {l : Addr} {xs ys : List V} (ha : Ev ta σ H (.ref l)) (hl : H l = some (.lst xs)) (hb : EvL tb σ H ys) (hz : xs.length + ys.length ≤ 100000) : EvL (tOp rCat ta tb) σ H (xs ++ ys) := fun H1 e Q q =>
  ha H1 e _ fun H2 e2 => hb H2 (e.trans e2) _ fun r H3 hr e3 h3 => ⟨l, r, xs, ys, rfl, rfl, e3 _ _ (e2 _ _ (e _ _ hl)), h3, sz_of hz, fun p hp => q p _ (fresh_back (e2.trans e3) hp) ((e2.trans e3).trans (Ex.new hp)) upd_same⟩
theorem rv_neS {K : PySem.W.Frag} {H : Hp} {p q : Addr} {xs : List Str} (hp : Rd H p (.lst (xs.map V.str))) (hq : Rd H q (.lst (xs.map V.str))) (hn : ∀ x ∈ xs, IsNm x) : RV (rNeD K) (.ref p) (.ref q) H (.bl false) := fun H1 e1 Q qq =>
  ⟨.list (xs.map PyData.str), .list (xs.map PyData.str), .lst (Or.inl (ex_rd e1 hp)) (dp_strs xs), .lst (Or.inl (ex_rd e1 hq)) (dp_strs xs), shaped_strs xs hn, shaped_strs xs hn, by
    rw [PySem.SeqAt.eqv_refl (.list (xs.map PyData.str)) (by simp only [PyData.canLay0]; exact lay_strs xs hn)]
    exact qq H1 (Ex.refl _)⟩
/-- [e for k in d if t], t never so -/
theorem el_keysNone {σ : L2.St} {H : Hp} {tl te : TE} {t : TT} {d : Addr} {kvs : List (Key × V)} {j : Nat} {vs : List Nat} (hl : ∀ H', Ev tl σ H' (.ref d)) (hd : H d = some (.dK kvs)) (hw : ∀ x, wipe ((wipe σ vs).set j (some x)) vs = wipe σ vs)
    (ht : ∀ H1, Ex H H1 → ∀ od (i : Nat) k v, kvs[i]? = some (k, v) → EvT t ((wipe σ vs).set j (some (kV k))) (upd H1 d (.frz od (.dK kvs))) false) : EvL (tLockE (tLc (iKeys tl) (gName j) t te vs)) σ H [] := fun H1 e1 Q q => by
  have hd1 := e1 _ _ hd
  refine ⟨d, .dK kvs, hd1, trivial, fun od => ?_⟩
  refine hl _ _ (Ex.refl _) _ fun H2 e2 => ⟨d, od, rfl, Or.inl ⟨kvs, e2 _ _ upd_same, fun Dl hD => ?_⟩⟩
  have hf2 : H2 d = some (.frz od (.dK kvs)) := e2 _ _ upd_same
  have nD : Dl ≠ d := fun z => by rw [z, hf2] at hD; cases hD
  refine ⟨fun i m H3 => m = kvs.length - i ∧ i ≤ kvs.length ∧ Ex H2 H3 ∧ H3 Dl = some (.lst []), ⟨kvs.length, rfl, Nat.zero_le _, Ex.new hD, upd_same⟩, ?_⟩
  rintro i m H3 ⟨rfl, hi, e3, h3⟩
  have hf3 := e3 _ _ hf2
  rcases Nat.lt_or_ge i kvs.length with hlt | hge
  · refine .inr ⟨⟨hf3, hlt⟩, fun H' => Ex H2 H' ∧ H' Dl = some (.lst []), fun H' p => ⟨kvs.length - (i + 1), by omega, rfl, hlt, p⟩, fun x H' y => ?_⟩
    obtain ⟨rfl, k, v, hkv, rfl⟩ := y
    refine ⟨hw _, ht H1 e1 od i k v hkv _ (e2.trans e3) _ fun H4 e4 => ?_⟩
    show Ex H2 H4 ∧ H4 Dl = some (.lst [])
    exact ⟨e3.trans e4, e4 _ _ h3⟩
  · refine .inl ⟨⟨hf3, hge⟩, hf3, q Dl _ ?_ (fun b o h => ?_) (by rw [upd_ne nD]; exact h3)⟩
    · have := fresh_back e2 hD
      rw [upd_ne nD] at this
      exact this
    · by_cases z : b = d
      · rw [z, hd1] at h
        rw [z, upd_same]
        exact h
      · rw [upd_ne z]
        exact e3 _ _ (e2 _ _ (by rw [upd_ne z]; exact h))
theorem same2 {H : Hp} {a b f g r s : Addr} (ha : H a = some (.lst [.ref f, .ref g])) (hb : H b = some (.lst [.ref r, .ref s])) (h1 : EqG H 2 (.ref f) (.ref r)) (h2 : EqG H 2 (.ref g) (.ref s)) : EqG H 3 (.ref a) (.ref b) :=
  Or.inr (Or.inl ⟨a, b, _, _, rfl, rfl, Or.inl ⟨Or.inl ha, Or.inl hb⟩, rfl, (by show 2 < 40000; decide), fun i x y hx hy => by
    rcases i with _ | _ | i
    · cases (Option.some.inj hx)
      cases (Option.some.inj hy)
      exact h1
    · cases (Option.some.inj hx)
      cases (Option.some.inj hy)
      exact h2
    · simp at hx⟩)
theorem eqd {H : Hp} {f r : Addr} {zs : List Lg} {qs dq : List Addr} {L : List (List En)} (nd : (zs.map (·.1)).Nodup) (zl : zs.length ≤ 6) (hf : H f = some (.dK (Dk (zs.map (·.1)) qs))) (hr : H r = some (.dK (Dk (zs.map (·.1)) dq))) (ql : qs.length = zs.length) (dl : dq.length = zs.length) (el : ∀ z ∈ zs, z.2.2.length ≤ 60)
    (hq : ∀ (i : Nat) z p, zs[i]? = some z → qs[i]? = some p → H p = some (.lst ((leftOf L z.2.2).map V.str))) (hd : ∀ (i : Nat) z p, zs[i]? = some z → dq[i]? = some p → H p = some (.lst ((leftOf L z.2.2).map V.str))) : EqG H 2 (.ref f) (.ref r) :=
  Or.inr (Or.inr ⟨f, r, _, qs, dq, rfl, rfl, hf, hr, by rw [List.length_map]; exact ql, by rw [List.length_map]; exact dl, nd, by rw [List.length_map]; omega, Nat.le_refl _, fun i u v a b => by
    have hi : i < zs.length := by rw [← ql]; exact (List.getElem?_eq_some_iff.mp a).1
    have hz := List.getElem?_eq_getElem hi
    refine eqs_strs (Or.inl (hq i _ u hz a)) (Or.inl (hd i _ v hz b)) ?_ (Nat.le_refl _)
    have h1 : (leftOf L zs[i].2.2).length ≤ (pus zs[i].2.2).length := List.length_filter_le _ _
    have h2 := pus_len zs[i].2.2
    have h3 := el _ (List.getElem_mem hi)
    omega⟩)
end Vx

set_option Elab.async false
set_option linter.all false
set_option maxRecDepth 100000
set_option maxHeartbeats 4000000
namespace Vx
open PySem PySem.Spec PyProof.Rows L2 Evl
def rReprY (K : PySem.W.Frag) : List V → Hp → VK → Prop := fun xs H Q => ∃ (v : V) (d : PyData) (as : List Addr), xs = [v] ∧ Dz H v d as ∧ Sz d 12 200000 ∧ Q (.str d.shown) H
theorem call_reprY {X : Cx} {K : PySem.W.Frag} (hK : X.K = K) (quiet : X.A.guards = some []) (room : X.A.units + 64 < cLine) (hs : ∃ o, X.base.get? sysModules = some o) : CallR X (.builtin "repr") (rReprY K) := by
  intro pins s σ H xs us Q I r h
  obtain ⟨v, d, as, rfl, hd, sm, q⟩ := h
  obtain ⟨u, rfl, ru⟩ := vals1 r
  have ln : d.shown.length ≤ sizeLine := by
    have := PyData.shown_le 70 (by decide) d sm.sl
    have := sm.wt
    rw [sizeLine_eq]
    omega
  have rd := reads_z I hd ru
  obtain ⟨o, ho⟩ := hs
  have off : H sysModules = none := (I.bs _ _ ho).2
  have dp := sm.dp
  have big : ∀ {p : Addr}, u = .ref p → wpAny (model X.prog X.w) X.A (call (.builtin "repr") [u]) (EP X pins σ Q) X.xe s := fun {p} e => by
    subst e
    exact repr_of_reads' (h₀ := s.heap) rd sm.sh (fun _ hm => hd.at _ hm off) quiet (by omega) (fun _ _ e => e) (fun h2 t tk kp => ⟨.str d.shown, H, I.kept kp, ⟨t, rfl⟩, q⟩) ln
  cases hd with
  | non =>
    cases (show u = Value.none from ru)
    exact PySem.P.repr_of_none ⟨.str _, H, I.tok _, ⟨_, rfl⟩, q⟩
  | bl b =>
    cases (show u = Value.bool b from ru)
    simp only [PyData.shown] at q
    exact PySem.P.repr_of_bool ⟨.str _, H, I.tok _, ⟨_, rfl⟩, q⟩
  | int i =>
    obtain ⟨t, rfl⟩ := ru
    have hz : i.natAbs.log2 < 1920 := by
      have := sm.sh
      simpa only [PyData.showable, decide_eq_true_eq] using this
    simp only [PyData.shown] at q
    exact PySem.P.repr_of_int hz ⟨.str _, H, I.tok _, ⟨_, rfl⟩, q⟩
  | str z =>
    obtain ⟨t, rfl⟩ := ru
    simp only [PyData.shown] at q ln
    exact PySem.P.repr_of_str ⟨.str _, H, I.tok _, ⟨_, rfl⟩, q⟩ ln
  | lst => exact big ru
  | tup => exact big ru
  | dict => exact big ru
theorem ev_reprY {K : PySem.W.Frag} {σ : L2.St} {H : Hp} {te : TE} {v : V} {d : PyData} {as : List Addr} (h : Ev te σ H v) (hd : Dz H v d as) (hz : Sz d 12 200000) : Ev (tCB (rReprY K) (tCons te tNil)) σ H (.str d.shown) := fun H1 e Q q =>
  h H1 e _ fun H2 e2 => ⟨v, d, as, rfl, hd.ex (e.trans e2), hz, q H2 e2⟩
theorem ev_reprL {K : PySem.W.Frag} {σ : L2.St} {H : Hp} {te : TE} {xs : List V} {ds : List PyData} (h : EvL te σ H xs) (hd : ∀ H', Ex H H' → ∃ as, DzA H' xs ds as) (hz : Sz (.list ds) 12 200000) : Ev (tCB (rReprY K) (tCons te tNil)) σ H (.str (PyData.list ds).shown) := fun H1 e Q q =>
  h H1 e _ fun p H2 n e2 h2 => by
    obtain ⟨as, z⟩ := hd H2 (e.trans e2)
    exact ⟨.ref p, _, _, rfl, .lst h2 z, hz, q H2 e2⟩
/-- a value that may be asked -/
structure GoV (d : PyData) : Prop where
  pl : plD d = true
  ly : lyD d = true
  sz : Sz d 12 200000
def spRightV (K : PySem.W.Frag) : Sp := fun vs H Q _ => ∃ (v : V) (d : PyData) (as : List Addr), vs = [v] ∧ Dz H v d as ∧ GoV d ∧ ∀ H', Ex H H' → Q (.bl true) H'
theorem dza_bools {H : Hp} (b c : Bool) : DzA H [.bl b, .bl c] [.bool b, .bool c] ([] ++ ([] ++ [])) := .cons (.bl b) (.cons (.bl c) .nil)
theorem sz_bools (b c : Bool) : Sz (.list [.bool b, .bool c]) 12 200000 := ((sza_cons (sz_bl b) ((sza_cons (sz_bl c) sza_nil))).list).le (by decide) (by decide)
section
variable {P : Program} {w : World} {K : PySem.W.Frag} {mg : Str → Option Value} {base : Heap}
theorem sc_law_right : FnScope ["value", "kept", "due"] ["value"] (defScope s_law_right) := ⟨rfl, rfl, rfl, by decide +kernel, rfl, by decide +kernel, by decide +kernel⟩
theorem ok_law_right (D : Def K mg "_law_right" s_law_right ["value"]) (T : Bl mg) (sm : ∃ o, base.get? sysModules = some o) (G_law_is_logs : Good P w K mg base 3 "_law_is_logs" ["value"] (spIL K)) (G_is_logs : Good P w K mg base 5 "is_logs" ["thing"] (spLB K fitL)) (GK : GoodK P w K mg base 5 "is_logs" "thing" (spLB K fitL)) : GoodG P w K mg base 6 "_law_right" ["value"] (spRightV K) := by
  refine D.goodG sc_law_right (fun vs H Q E h => ?_) (fun f cdv A outer s0 H vs Q E quiet hr h => ?_)
  · obtain ⟨v, d, as, rfl, _⟩ := h
    rfl
  · obtain ⟨v, d, as, rfl, hv, g, q⟩ := h
    have hu := hu_of hr
    refine ⟨_, (pss_cons (ps_set (i := 1) sc_law_right.nd rfl (Or.inl rfl) (pe_callB (call_reprY rfl quiet hr.units sm) (by rfl) T.repr (by decide +kernel) (pa_cons (pv 0) pa_nil)))
      (pss_cons (ps_set (i := 2) sc_law_right.nd rfl (Or.inl rfl) (pe_fn (G_law_is_logs.mono (by decide)) hr (pa_cons (pv 0) pa_nil)))
      (pss_one (ps_ret (pe_and (pe_cmpR op_eq (pe_callB (call_reprY rfl quiet hr.units sm) (by rfl) T.repr (by decide +kernel) (pa_cons (pe_lst (pa_cons (pe_fn (G_is_logs.mono (by decide)) hr (pa_cons (pv 0) pa_nil)) (pa_cons (pe_fnK0 GK hr (pk_cons (pv 0) pk_nil)) pa_nil))) pa_nil)) (pe_callB (call_reprY rfl quiet hr.units sm) (by rfl) T.repr (by decide +kernel) (pa_cons (pe_lst (pa_cons (pv 2) (pa_cons (pv 2) pa_nil))) pa_nil)) (nomark _)) (pe_one (pe_cmpR op_eq (pe_callB (call_reprY rfl quiet hr.units sm) (by rfl) T.repr (by decide +kernel) (pa_cons (pv 0) pa_nil)) (pv 1) (nomark _)))))))), ?_⟩
    refine q_asg (v := .str d.shown) (ev_reprY (K := K) (ev_var rfl) hv g.sz) fun H1 e1 => ?_
    have hv1 := hv.ex e1
    dsimp only [gName]
    refine q_asg (v := .bl (logsD fitL d)) (ev_call (ea_cons (ev_var rfl) ea_nil) fun H2 e2 Q2 y E => ⟨v, d, as, rfl, hv1.ex e2, g.pl, g.ly, y⟩) fun H2 e2 => ?_
    have hv2 := hv1.ex e2
    refine s_ret (v := .bl true) (Evl.ev_is (ev_andV (a := true) (b := true) (Evl.ev_is (ev_op (x := .str (PyData.list [.bool (logsD fitL d), .bool (logsD fitL d)]).shown) (y := .str (PyData.list [.bool (logsD fitL d), .bool (logsD fitL d)]).shown) (ev_reprL (K := K) (xs := [.bl (logsD fitL d), .bl (logsD fitL d)]) (el_lst (ea_cons (ev_call (ea_cons (ev_var rfl) ea_nil) fun H3 e3 Q3 y E => ⟨v, _, rfl, logsT_d (hv2.ex e3) g.pl, y⟩) (ea_cons (ev_call (ea_cons (ev_var rfl) ea_nil) fun H3 e3 Q3 y E => ⟨v, _, rfl, logsT_d (hv2.ex e3) g.pl, y⟩) ea_nil)) (by show 2 ≤ 100000; decide)) (fun H' _ => ⟨_, dza_bools _ _⟩) (sz_bools _ _))
      (ev_reprL (K := K) (xs := [.bl (logsD fitL d), .bl (logsD fitL d)]) (el_lst (ea_cons (ev_var rfl) (ea_cons (ev_var rfl) ea_nil)) (by show 2 ≤ 100000; decide)) (fun H' _ => ⟨_, dza_bools _ _⟩) (sz_bools _ _)) (rv_eq rfl)) (congrArg V.bl (decide_eq_true rfl)))
      (fun _ => Evl.ev_is (ev_op (ev_reprY (K := K) (ev_var rfl) hv2 g.sz) (ev_var rfl) (rv_eq rfl)) (congrArg V.bl (decide_eq_true rfl)))) rfl) fun H3 e3 => q H3 ((e1.trans e2).trans e3)
end
end Vx

set_option Elab.async false
set_option linter.all false
set_option maxRecDepth 100000
set_option maxHeartbeats 4000000
namespace Vx
open PySem PySem.Spec PyProof.Rows L2 Evl
/-! literals, read as data -/
def EvZ (te : TE) (σ : L2.St) (B : Hp) (d : PyData) : Prop := EvP te σ B (fun v H => ∃ as, Dz H v d as)
def EvZL (te : TE) (σ : L2.St) (B : Hp) (ds : List PyData) : Prop := EvLP te σ B (fun vs H => ∃ as, DzA H vs ds as)
def EvZA (ta : TA) (σ : L2.St) (B : Hp) (ds : List PyData) : Prop := ∀ H1, Ex B H1 → ∀ Q : List V → Hp → Prop, (∀ vs H2, Ex H1 H2 → Kn B H1 H2 (fun H' => ∃ as, DzA H' vs ds as) → Q vs H2) → ta σ H1 Q
section
variable {K : PySem.W.Frag} {σ : L2.St} {B : Hp} {te ti : TE} {ta : TA} {d e : PyData} {ds es : List PyData}
theorem ez_v {v : V} (h : Ev te σ B v) (hd : ∃ as, Dz B v d as) : EvZ te σ B d := evp_of h fun H' e => by
  obtain ⟨as, hd⟩ := hd
  exact ⟨as, hd.ex e⟩
theorem ez_str {z : Str} : EvZ (tC (.str z)) σ B (.str z) := ez_v ev_c ⟨_, .str z⟩
theorem ez_int {z : Int} : EvZ (tC (.int z)) σ B (.int z) := ez_v ev_c ⟨_, .int z⟩
theorem ez_bl {z : Bool} : EvZ (tC (.bl z)) σ B (.bool z) := ez_v ev_c ⟨_, .bl z⟩
theorem ez_non : EvZ (tC .non) σ B .none := ez_v ev_c ⟨_, .non⟩
theorem ez_neg {te : TE} {z : Int} (h : Ev te σ B (.int z)) : EvZ te σ B (.int z) := ez_v h ⟨_, .int z⟩
theorem eza_nil : EvZA tNil σ B [] := fun H1 _ _ q => q [] H1 (Ex.refl H1) fun _ _ _ => ⟨_, .nil⟩
theorem eza_cons (h : EvZ te σ B d) (hr : EvZA ta σ B ds) : EvZA (tCons te ta) σ B (d :: ds) := fun H1 e Q q =>
  h H1 e _ fun v H2 e2 k2 => hr H2 (e.trans e2) _ fun vs H3 e3 k3 => q _ H3 (e2.trans e3) fun H' a b => by
    obtain ⟨as, h1⟩ := (k2.ex e3) H' a b
    obtain ⟨bs, h2⟩ := (k3.pre e2) H' a b
    exact ⟨_, .cons h1 h2⟩
theorem ez_tup (h : EvZA ta σ B ds) (hz : ds.length ≤ 100000) : EvZ (tTup ta) σ B (.tuple ds) := fun H1 e Q q =>
  h H1 e _ fun vs H2 e2 k => ⟨sz_of (by obtain ⟨_, z⟩ := k.now e e2; rw [z.len]; exact hz), fun p hp => q (.ref p) _ (e2.trans (Ex.new hp)) fun H' a b => by
    obtain ⟨as, z⟩ := k H' a fun c o n h => b c o n (by rw [upd_ne (ne_of_none h hp)]; exact h)
    exact ⟨as, .tup (b p _ (fresh_back e2 hp) upd_same) z⟩⟩
theorem ezl_lst (h : EvZA ta σ B ds) (hz : ds.length ≤ 100000) : EvZL (tLst ta) σ B ds := fun H1 e Q q =>
  h H1 e _ fun vs H2 e2 k => ⟨sz_of (by obtain ⟨_, z⟩ := k.now e e2; rw [z.len]; exact hz), fun p hp => q p vs _ (fresh_back e2 hp) (e2.trans (Ex.new hp)) upd_same (k.out hp)⟩
theorem ez_ofL (h : EvZL te σ B ds) : EvZ te σ B (.list ds) := fun H1 e Q q => h H1 e Q fun p vs H2 n e2 h2 k => q _ H2 e2 fun H' a b => by
  obtain ⟨as, z⟩ := k.kn H' a b
  exact ⟨_, .lst (b p _ n h2) z⟩
theorem ez_lst (h : EvZA ta σ B ds) (hz : ds.length ≤ 100000) : EvZ (tLst ta) σ B (.list ds) := ez_ofL (ezl_lst h hz)
theorem dza_rep {H : Hp} {vs : List V} {ds : List PyData} {as : List Addr} (h : DzA H vs ds as) : ∀ n : Nat, ∃ bs, DzA H (List.replicate n vs).flatten (List.replicate n ds).flatten bs
  | 0 => ⟨_, .nil⟩
  | n + 1 => by
    obtain ⟨bs, hb⟩ := dza_rep h n
    rw [List.replicate_succ, List.replicate_succ, List.flatten_cons, List.flatten_cons]
    exact h.app hb
theorem ezl_rep {n : Nat} (h : EvZL te σ B ds) (hb : ∀ H', Ex B H' → Ev ti σ H' (.int (n : Int))) (hn : n ≤ 1000) (hz : ds.length * n ≤ 100000) : EvZL (tOp rRep te ti) σ B (List.replicate n ds).flatten := fun H1 e Q q =>
  h H1 e _ fun l vs H2 hl e2 h2 k => hb H2 (e.trans e2) H2 (Ex.refl H2) _ fun H3 e3 => ⟨l, (n : Int), vs, rfl, rfl, e3 _ _ h2, by omega, by omega, sz_of (by
      obtain ⟨_, z⟩ := k.kn.now e e2
      have := z.len
      rw [show (n : Int).toNat = n by omega, this]
      exact hz), fun p hp => by
    have : (n : Int).toNat = n := by omega
    rw [this]
    have hlp : l ≠ p := ne_of_none (e3 _ _ h2) hp
    exact q p _ _ (fresh_back (e2.trans e3) hp) ((e2.trans e3).trans (Ex.new hp)) upd_same fun H' a b => by
      obtain ⟨as, z⟩ := k.kn H' a fun c o n1 h3 => b c o (ne_of_none (e3 _ _ h3) hp) n1 (by rw [upd_ne (ne_of_none (e3 _ _ h3) hp)]; exact e3 _ _ h3)
      exact dza_rep z n⟩
/-- {} -/
theorem ez_disp0 : EvZ tDNewK σ B (.dict []) := fun H1 e Q q p hp => q (.ref p) _ (Ex.new hp) fun H' a b => ⟨_, .dict (kvs := []) (b p _ hp upd_same) List.nodup_nil .nil⟩
/-- {k: e} -/
theorem ez_disp1 {k : Str} (h : EvZ te σ B d) : EvZ (tDisp [(tC (.str k), te)]) σ B (.dict [(.str k, d)]) := fun H1 e Q q p hp => by
  have e0 : Ex H1 (upd H1 p (.dK [])) := Ex.new hp
  refine h _ (e.trans e0) _ fun v H3 e3 kn => ?_
  have h3 := e3 _ _ upd_same
  refine ⟨h3, [((.inr k : Key), v)], rfl, (by show 1 ≤ 15; decide), ?_⟩
  have em : mergeK [] [((.inr k : Key), v)] = [((.inr k : Key), v)] := (merge_new _ _ (by simp)).trans (List.nil_append _)
  rw [em]
  refine q (.ref p) _ (Ex.mut (e0.trans e3) hp) fun H' a b => ?_
  obtain ⟨as, z⟩ := kn H' a fun c o n h => by
    have nc : c ≠ p := fun w => by rw [w, upd_same] at n; cases n
    exact b c o (fresh_back e0 n) (by rw [upd_ne nc]; exact h)
  exact ⟨_, .dict (kvs := [((.inr k : Key), v)]) (b p _ hp upd_same) (by simp) (.cons z .nil)⟩
/-- {k1: e1, k2: e2} -/
theorem ez_disp2 {k1 k2 : Str} {t1 t2 : TE} (h1 : EvZ t1 σ B d) (h2 : EvZ t2 σ B e) (nk : k1 ≠ k2) : EvZ (tDisp [(tC (.str k1), t1), (tC (.str k2), t2)]) σ B (.dict [(.str k1, d), (.str k2, e)]) := fun H1 ee Q q p hp => by
  have e0 : Ex H1 (upd H1 p (.dK [])) := Ex.new hp
  refine h1 _ (ee.trans e0) _ fun v H3 e3 kn => ?_
  refine h2 _ ((ee.trans e0).trans e3) _ fun u H4 e4 kn4 => ?_
  have h4 := e4 _ _ (e3 _ _ upd_same)
  refine ⟨h4, [((.inr k1 : Key), v), ((.inr k2 : Key), u)], rfl, (by show 2 ≤ 15; decide), ?_⟩
  have nd : ([((.inr k1 : Key), v), ((.inr k2 : Key), u)].map (·.1)).Nodup := by simp [nk]
  have em : mergeK [] [((.inr k1 : Key), v), ((.inr k2 : Key), u)] = [((.inr k1 : Key), v), ((.inr k2 : Key), u)] := (merge_new _ _ (by simpa using nd)).trans (List.nil_append _)
  rw [em]
  refine q (.ref p) _ (Ex.mut ((e0.trans e3).trans e4) hp) fun H' a b => ?_
  have bb : ∀ c o, (upd H1 p (.dK [])) c = none → H4 c = some o → H' c = some o := fun c o n h => by
    have nc : c ≠ p := fun w => by rw [w, upd_same] at n; cases n
    exact b c o (fresh_back e0 n) (by rw [upd_ne nc]; exact h)
  obtain ⟨as, z⟩ := kn H' a fun c o n h => bb c o n (e4 _ _ h)
  obtain ⟨bs, y⟩ := kn4 H' a fun c o n h => bb c o (fresh_back e3 n) h
  exact ⟨_, .dict (kvs := [((.inr k1 : Key), v), ((.inr k2 : Key), u)]) (b p _ hp upd_same) nd (.cons z (.cons y .nil))⟩
end
/-! what is known of a part of the heap -/
/-- what B says, and what came between H and H', but for p -/
def mixX (p : Addr) (B H H' : Hp) : Hp := fun b => if b = p then none else mix B H H' b
theorem mixX_p {p : Addr} {B H H' : Hp} : mixX p B H H' p = none := if_pos rfl
theorem mixX_ne {p b : Addr} {B H H' : Hp} (h : b ≠ p) : mixX p B H H' b = mix B H H' b := if_neg h
theorem mix_hid {B H H' : Hp} {a : Addr} (h : B a = none) (h2 : H a ≠ none) : mix B H H' a = none := by
  unfold mix
  cases q : H a with
  | none => exact absurd q h2
  | some o => exact h
theorem mixX_hid {p : Addr} {B H H' : Hp} {a : Addr} (h : B a = none) (h2 : H a ≠ none) : mixX p B H H' a = none := by
  unfold mixX
  split
  · rfl
  · exact mix_hid h h2
theorem mixX_ex {p : Addr} {B H H' : Hp} (e : Ex B H) (hp : H p = none) : Ex B (mixX p B H H') := fun b o h => by
  rw [mixX_ne (ne_of_none (e _ _ h) hp)]
  exact mix_ex e b o h
theorem mixX_in {p : Addr} {B H H' : Hp} (e : Ex B H) (e1 : Ex H H') : Ex (mixX p B H H') H' := fun b o h => by
  unfold mixX at h
  split at h
  · cases h
  · exact mix_in e e1 b o h
theorem KnX.at_mix {p : Addr} {B H H' : Hp} {φ : Hp → Prop} (k : KnX p B H H' φ) (e : Ex B H) (hp : H p = none) : φ (mixX p B H H') := k _ (mixX_ex e hp) fun b o nb n h => by
  rw [mixX_ne nb]
  unfold mix
  rw [n]
  exact h
section
variable {D : Ends} {te tl : TE} {σ : L2.St} {H B : Hp} {ds : List PyData} {d : PyData} {i : Nat}
/-- x = [..] -/
theorem s_asgZL (eb : Ex B H) (h : EvZL te σ B ds) (k : ∀ p vs R H1, H p = none → Ex H H1 → H1 p = some (.lst vs) → Ex B R → Ex R H1 → R p = none → (∀ a, B a = none → H a ≠ none → R a = none) → (∃ as, DzA R vs ds as) → D.nx (σ.set i (some (.ref p))) H1) : tAsg te (gName i) D σ H :=
  h H eb _ fun p vs H1 n e h1 kn => k p vs (mixX p B H H1) H1 n e h1 (mixX_ex eb n) (mixX_in eb e) mixX_p (fun a ha hn => mixX_hid ha hn) (kn.at_mix eb n)
/-- x = x + [..] -/
theorem s_catZL {l : Addr} {xs : List V} (eb : Ex B H) (hl : H l = some (.lst xs)) (ha : Ev tl σ H (.ref l)) (h : EvZL te σ B ds) (hz : xs.length + ds.length ≤ 100000)
    (k : ∀ p vs R H1, H p = none → Ex H H1 → H1 p = some (.lst (xs ++ vs)) → Ex B R → Ex R H1 → R p = none → (∀ a, B a = none → H a ≠ none → R a = none) → (∃ as, DzA R vs ds as) → D.nx (σ.set i (some (.ref p))) H1) : tAsg (tOp rCat tl te) (gName i) D σ H :=
  ha H (Ex.refl H) _ fun H2 e2 => h H2 (eb.trans e2) _ fun r ys H3 hr e3 h3 kn => by
    have E := e2.trans e3
    have dl : ys.length = ds.length := by
      obtain ⟨_, z⟩ := kn.kn.now (eb.trans e2) e3
      exact z.len
    refine ⟨l, r, xs, ys, rfl, rfl, E _ _ hl, h3, sz_of (by rw [dl]; exact hz), fun p hp => ?_⟩
    have hpH := fresh_back E hp
    have hp2 := fresh_back e3 hp
    have nrp : r ≠ p := ne_of_none h3 hp
    have kn' : KnX p B H (upd H3 p (.lst (xs ++ ys))) (fun H' => ∃ as, DzA H' ys ds as) := (kn.kn.pre e2).out hp
    exact k p ys (mixX p B H (upd H3 p (.lst (xs ++ ys)))) _ hpH (E.trans (Ex.new hp)) upd_same (mixX_ex eb hpH) (mixX_in eb (E.trans (Ex.new hp))) mixX_p (fun a ha hn => mixX_hid ha hn) (kn'.at_mix eb hpH)
/-- l.append(e) -/
theorem s_appZ {K : PySem.W.Frag} {l : Addr} {xs : List V} (eb : Ex B H) (hB : B l = none) (hl : H l = some (.lst xs)) (ha : Ev tl σ H (.ref l)) (h : EvZ te σ B d) (hz : xs.length < 100000)
    (k : ∀ v R H1, KB l H H1 → H1 l = some (.lst (xs ++ [v])) → Ex B R → Ex R H1 → R l = none → (∀ a, B a = none → H a ≠ none → R a = none) → (∃ as, Dz R v d as) → D.nx σ H1) : tDrop (tBM K "list" rAppend tl (tCons te tNil)) D σ H := ha H (Ex.refl H) _ fun H1 e1 =>
  ⟨Or.inl ⟨rfl, xs, sq_of (e1 l _ hl)⟩, h H1 (eb.trans e1) _ fun v H2 e2 kn => ⟨l, xs, v, rfl, rfl, e2 l _ (e1 l _ hl), sz_lt hz, by
    have E := e1.trans e2
    have kn' := kn.pre e1
    have hl2 : mix B H H2 l = none := mix_hid hB (by rw [hl]; exact fun z => nomatch z)
    refine k v (mix B H H2) _ (fun b o nb hb => by rw [upd_ne nb]; exact E _ _ hb) upd_same (mix_ex eb) (fun b o hb => ?_) hl2 (fun a ha hn => mix_hid ha hn) (kn'.at_mix eb)
    have nb : b ≠ l := fun z => by rw [z, hl2] at hb; cases hb
    rw [upd_ne nb]
    exact mix_in eb E b o hb⟩⟩
end
end Vx

set_option Elab.async false
set_option linter.all false
set_option maxRecDepth 100000
set_option maxHeartbeats 4000000
namespace Vx
open PySem PySem.Spec PyProof.Rows L2
/-- sorted(d), the keys texts, any number of them -/
abbrev rSortDk : List V → Hp → VK → Prop := fun vs H Q => ∃ (d : Addr) (kvs : List (Key × V)) (ks : List Str), vs = [.ref d] ∧ Rd H d (.dK kvs) ∧ kvs.map (·.1) = ks.map Sum.inr ∧ ks.length ≤ 1000 ∧
  ∀ ys p, ys.Perm ks → sortedS ys = true → H p = none → Q (.ref p) (upd H p (.lst (ys.map V.str)))
theorem thousand {n : Nat} (h : n ≤ 1000) : n ≤ sizeLine := Nat.le_trans h (by decide)
theorem call_sortDk {X : Cx} (calm : X.calm = true) : CallR X (.builtin "sorted") rSortDk := fun pins s σ H vs us Q I rel ⟨d, kvs, ks, ev, hd, hks, hn, q⟩ => by
  subst ev
  obtain ⟨u0, eu, ru⟩ := vals1 rel
  subst eu
  cases ru
  obtain ⟨zz, lay, its, rkv, dd⟩ := dk_rd I.hok hd
  obtain ⟨ep, at0⟩ := dd.dictAt
  have keys : its.map (·.1) = ks.map Sum.inr := by rw [← hks]; exact rkv.keys.symm
  have len : its.length = ks.length := by
    have := congrArg List.length keys
    simpa using this
  refine Calls.call_function_entry PyProof.Rows.kind_sorted PyProof.Rows.plain_sorted PyProof.Rows.entry_sorted (PyProof.Rows.args_sorted1 _) (show wpAny _ _ (Builtin.«sorted» _) _ _ _ from ?_)
  unfold Builtin.«sorted»
  refine wpAny_bind (m := checkCount "sorted" 1 1 _) (wpAny_pure (wpAny_bind (PySem.W.kdu_collect (A := X.A.in1) (PySem.W.kdl_dict (knd := mixKind X.prog X.w) (kvs := its) (ep := ep) lay) (I.ok.hd calm) at0 (by rw [len]; exact thousand hn) fun h1 tk got kept hgot => ?_)))
  have alen : got.toList.length = ks.length := by rw [Array.length_toList, hgot.1, len]
  have sks : StrsAre got.toList ks := strs_at alen fun j v e => by
    obtain ⟨k, x, e1, e2⟩ := hgot.2 j v (by rw [← Array.getElem?_toList]; exact e)
    have e3 : (its.map (·.1))[j]? = some k := by rw [List.getElem?_map, e1]; rfl
    rw [keys, List.getElem?_map] at e3
    obtain ⟨y, e4, e5⟩ := Option.map_eq_some_iff.mp e3
    subst e5
    obtain ⟨t, hv⟩ := Value.isStrOf_shape (x := y) (v := v) e2
    exact ⟨y, t, e4, hv⟩
  have I1 : Inv X pins σ H { s with heap := h1, toks := tk } := I.kept kept
  refine wpAny_bind (wpAny_newList ?_ (by rw [alen]; exact thousand hn))
  have new1 : (h1.push (seqObj "list" got.toList.toArray 0)).get? h1.objs.size = some (seqObj "list" got.toList.toArray 0) := Heap.get?_push_size _ rfl
  show wpAny _ _ _ _ _ { s with heap := h1.push (seqObj "list" got.toList.toArray 0), toks := tk }
  refine wpAny_bind (wpAny_holding (wpAny_call_entry PyProof.Rows.slot_list_sort ⟨_, new1, rfl⟩ PyProof.Rows.entry_list_sort (list_sort_treeKAny strKind_oneLt new1 sks.keysOf (fun a b r e => keyKind_strs (by rw [← e]; exact sks)) (by rw [alen]; exact thousand hn) fun st hp hs => ⟨_, rfl, ?_⟩) (PyProof.Rows.args_list_sort _)))
  obtain ⟨ys, g1, g2, g3⟩ := sorted_out_str sks hp hs
  obtain ⟨ep2, at2⟩ := PyProof.Rows.sortedHeap_at (vs := got.toList) (out := (arrOf st).map (·.2)) new1
  have small : (ys.map V.str).length ≤ sizeLine := by rw [List.length_map, g2.length_eq]; exact thousand hn
  refine wpAny_pure ⟨_, rfl, .ref h1.objs.size, upd H h1.objs.size (.lst (ys.map V.str)), I1.laid (t' := tk) (fun b u e => ?_) (Nat.le_refl _)
    (by show ObjOk X.prog X.w _ _ _ (.lst (ys.map V.str)); exact ⟨small, ((arrOf st).map (·.2)).toList, ep2, vals_of_strs g1, by rw [Array.toArray_toList]; exact at2⟩), rfl, q ys _ g2 g3 (I1.hok.fresh (Nat.le_refl _))⟩
  have hlt : b < h1.objs.size := Heap.lt_size e
  rw [PyProof.Rows.sortedHeap_old (Nat.ne_of_lt hlt) (by rw [size_push']; exact Nat.lt_succ_of_lt hlt)]
  exact Heap.get?_push_of_some _ e
end Vx

set_option Elab.async false
set_option linter.all false
set_option maxRecDepth 100000
set_option maxHeartbeats 4000000
namespace Vx
open PySem PySem.Spec PyProof.Rows L2 Evl
open PySem.W in
section
variable {prog : Program} {w : World} {A : Around} {E : Value → Shared → Prop} {s : Shared} {T : String} {r d : Addr} {n : Nat} {P : Nat → Value → Prop} {OK : Heap → Prop}
/-- what a source gives, gathered -/
theorem gather_src {Q : List Value → Shared → Prop} (K : KdlSrc prog w T r d n P OK) (hh : A.handled = none) (hok : OK s.heap) (hn : n ≤ sizeLine)
    (hQ : ∀ (h' : Heap) (tk : Nat) (acc : Array Value), (∀ b o, s.heap.get? b = some o → h'.get? b = some o) → ItemsOf P acc n → Q acc.toList { s with heap := h', toks := tk }) : wpAny (model prog w) A (collect (.ref r)) Q E s := by
  have at_ := K.there _ hok
  have hS : (s.heap.push { cls := .type "list", data := .seq ([] : List Value).toArray }).get? s.heap.objs.size = some { cls := .type "list", data := .seq #[] 0 } := Heap.get?_push_size _ rfl
  have ok2 : OK (s.heap.push { cls := .type "list", data := .seq ([] : List Value).toArray }) := K.keep _ _ hok fun b _ o e => Heap.get?_push_of_some _ e
  have key := kdl_extend (A := A) (s := { s with heap := s.heap.push { cls := .type "list", data := .seq ([] : List Value).toArray } })
    (R := fun rr s' => rr = .ok (.ret (.ref s.heap.objs.size)) ∧ ∃ (h' : Heap) (tk : Nat) (acc : Array Value) (c' : Nat), s' = { s with heap := h', toks := tk } ∧
      (∀ b o, s.heap.get? b = some o → h'.get? b = some o) ∧ h'.get? s.heap.objs.size = some { cls := .type "list", dict := none, data := .seq acc c', slots := #[] } ∧ ItemsOf P acc n)
    K hh ok2 s.heap.objs.size (Nat.ne_of_gt at_.1) (Nat.ne_of_gt at_.2) (.ref s.heap.objs.size) 0 hS
    (fun h' tk acc c' hk e hi => ⟨rfl, h', tk, acc, c', rfl, fun b o q => hk b o (Nat.ne_of_lt (Heap.lt_size q)) (Heap.get?_push_of_some _ q), e, hi⟩) hn
  unfold collect
  refine wpAny_bind (wpAny_runValue (codeAny_builtin F.entry_proto_collect ?_))
  rw [Around.under_plainId F.plain_proto_collect _]
  show wpAny _ A.in1 (newList [] >>= fun l => again (.builtin "list.__iadd__" ⟨[l, .ref r], []⟩)) _ _ s
  refine wpAny_bind (wpAny_newObj_type ?_)
  refine wpAny_pure ⟨plainId_quiet F.plain_list_iadd _, codeAny_builtin F.entry_list_iadd ?_⟩
  rw [Around.under_plainId F.plain_list_iadd _]
  show wpAny _ A.in1 (Builtin.List.listExtendWith (.ref s.heap.objs.size) (.ref r) (.ref s.heap.objs.size)) _ _ _
  refine wpAny_mono key (fun fin s' h => ?_) (fun e s' h => absurd h.1 (by simp))
  cases fin with
  | done f =>
    obtain ⟨e, h', tk, acc, c', rfl, hk, hS', hi⟩ := h
    cases e
    show wpAny _ A (load s.heap.objs.size >>= _) _ _ _
    exact wpAny_bind (wpAny_load hS' (wpAny_pure (hQ h' tk acc hk hi)))
  | again c' =>
    refine ⟨h.1, codeAny_mono h.2 fun rr s'' hr' => ?_⟩
    obtain ⟨rfl, h', tk, acc, c', rfl, hk, hS', hi⟩ := hr'
    show wpAny _ A (load s.heap.objs.size >>= _) _ _ _
    exact wpAny_bind (wpAny_load hS' (wpAny_pure (hQ h' tk acc hk hi)))
theorem tupnew_src {Q₁ : Value → Shared → Prop} (K : KdlSrc prog w "dict" r d n P OK) (hh : A.handled = none) (hok : OK s.heap) (hn : n ≤ 100000)
    (h : ∀ (h' : Heap) (tk : Nat) (acc : Array Value), (∀ b o, s.heap.get? b = some o → h'.get? b = some o) → ItemsOf P acc n → Q₁ (.ref h'.objs.size) { s with heap := h'.push { cls := .type "tuple", data := .seq acc }, toks := tk }) :
    codeAny (model prog w) A (.call (.builtin "tuple.__new__") ⟨[.type "tuple", .ref r], []⟩) (wants Q₁ E) s := by
  refine codeAny_of_tree ?_
  show wpAny _ A.in1 (do checkBuiltinCall "tuple.__new__" ⟨[.type "tuple", .ref r], []⟩; again (.builtin "tuple.__new__" ⟨[.type "tuple", .ref r], []⟩)) _ _ s
  refine wpAny_bind (wpAny_of_eq (F.newCall_tuple_1 _) (wpAny_pure ⟨plainId_quiet F.plain_tuple_new _, codeAny_builtin F.entry_tuple_new ?_⟩))
  rw [Around.under_plainId F.plain_tuple_new _]
  have hsub := sub_tuple_self
  have hinit := init_tuple_lookup
  have hmh := madeHere_tuple
  have hTI : s.TypeIs (.ref r) "dict" := K.type s hok
  have hh1 : A.in1.handled = none := hh
  have hn' : n ≤ sizeLine := sz_of hn
  wp_walk using wpAny_typeOf hTI, gather_src (A := A.in1) K hh1 hok hn'
  intro h' tk acc hk hacc
  show wpAny _ _ (Builtin.Tuple.tupleExact acc.toList.toArray >>= fun v => ret v) _ _ _
  unfold Builtin.Tuple.tupleExact
  refine wpAny_bind (wpAny_newObj_type ?_ (by show acc.toList.toArray.size ≤ sizeLine; simp only [Array.toArray_toList]; rw [hacc.1]; exact hn'))
  refine wpAny_pure ?_
  have e : acc.toList.toArray = acc := by simp
  rw [e]
  exact h h' tk acc hk hacc
end
/-- tuple(d) of a dict: its keys -/
theorem call_tupD {X : Cx} (hcalm : X.calm = true) : CallR X (.type "tuple") (fun xs H Q => ∃ (a : Addr) (kvs : List (Key × V)), xs = [.ref a] ∧ Rd H a (.dK kvs) ∧ kvs.length ≤ 100000 ∧ ∀ p, H p = none → Q (.ref p) (upd H p (.tup (kvs.map fun kv => kV kv.1)))) := by
  intro pins s σ H xs us Q I r q
  obtain ⟨a, kvs, rfl, hd, hz, q⟩ := q
  obtain ⟨u, rfl, rx⟩ := vals1 r
  cases rx
  obtain ⟨z, lo, vs, rel, dd⟩ := dk_rd I.hok hd
  obtain ⟨ep, hat⟩ := dd.dictAt
  have ek : (kvs.map fun kv => kV kv.1) = vs.map fun p => kV p.1 := by
    have e := congrArg (List.map kV) rel.keys
    rw [List.map_map, List.map_map] at e
    exact e
  refine callType_codes (Q₁ := fun obj s₁ => s₁.TypeIs obj "tuple" ∧ EP X pins σ Q obj s₁) F.called_tuple (F.typeCall_tuple_1 _) F.entry_object_init
    (tupnew_src (A := X.A.in1) (PySem.W.kdl_dict (knd := mixKind X.prog X.w) (kvs := vs) (ep := ep) lo) (I.ok.hd hcalm) hat (by rw [← rel.length]; exact hz) fun h' tk acc hk hacc => ⟨⟨_, Heap.get?_push_size _ rfl, rfl⟩, ?_⟩) fun obj s₁ h₁ => ?_
  · have hv : Vals (vs.map fun p => kV p.1) acc.toList := keys_at (by rw [Array.length_toList]; exact hacc.1) fun j v e => hacc.2 j v (by rw [← Array.getElem?_toList]; exact e)
    have I1 : Inv X pins σ H { s with heap := h', toks := tk } := I.kept (t' := tk) hk
    have I2 : Inv X pins σ (upd H h'.objs.size (.tup (kvs.map fun kv => kV kv.1))) { s with heap := h'.push { cls := .type "tuple", data := .seq acc }, toks := tk } :=
      I1.laid (t' := tk) (fun b o e => Heap.get?_push_of_some _ e) (Nat.le_refl _) (show ObjOk X.prog X.w _ _ _ (.tup (kvs.map fun kv => kV kv.1)) from ⟨by rw [List.length_map]; exact z, acc.toList, by rw [ek]; exact hv, by
        have e : acc.toList.toArray = acc := by simp
        rw [e]
        exact IsTup.new _ _⟩)
    exact ⟨.ref h'.objs.size, _, I2, rfl, q _ (I1.hok.fresh (Nat.le_refl _))⟩
  · exact ⟨h₁.1, F.args_object_init_2 obj _, object_init_meets F.called_tuple.init.lookup F.called_tuple.made (by decide) X.prog X.w X.A.in1 _ s₁ ⟨h₁.1, rfl, h₁.2⟩⟩
end Vx

set_option Elab.async false
set_option linter.all false
set_option maxRecDepth 100000
set_option maxHeartbeats 4000000
namespace Vx
open PySem PySem.Spec PyProof.Rows L2 Evl
/-! literals: more -/
theorem mix_le {B H H1 H' : Hp} (a : Ex B H') (b : ∀ c o, H c = none → H1 c = some o → H' c = some o) : Ex (mix B H H1) H' := fun c o h => by
  unfold mix at h
  cases q : H c with
  | none => rw [q] at h; exact b c o q h
  | some u => rw [q] at h; exact a _ _ h
section
variable {K : PySem.W.Frag} {σ : L2.St} {B : Hp} {te tl : TE}
/-- list(d.items()) -/
theorem ezl_items {d : Addr} {kvs : List (Key × V)} {ds : List PyData} {as : List Addr} (h : Ev te σ B (.ref d)) (hd : B d = some (.dK kvs)) (ha : DzA B (kvs.map (·.2)) ds as) : EvZL (LiI.tListItems te) σ B ((zipD kvs ds).map fun kd => .tuple [kd.1, kd.2]) := fun H1 e Q q => h H1 e _ fun H2 e2 =>
  ⟨d, kvs, rfl, e2 _ _ (e _ _ hd), fun H' p ts E hp hts hpt w pr => by
    refine q p _ H' (fresh_back e2 hp) (e2.trans E) w fun H'' a b => ?_
    have l : kvs.length = ds.length := by rw [← ha.len, List.length_map]
    have tl : ts.length = kvs.length := pr.length
    refine DzA.of ?_ fun i v dd hv hdd => ?_
    · rw [List.length_map, List.length_map]
      unfold zipD
      rw [List.length_zip, List.length_map]
      omega
    · rw [List.getElem?_map] at hv hdd
      obtain ⟨t, ht, rfl⟩ := Option.map_eq_some_iff.mp hv
      obtain ⟨kd, hkd, rfl⟩ := Option.map_eq_some_iff.mp hdd
      obtain ⟨kv, hkv, hat⟩ := LiI.paired_get pr ht
      have tm := List.mem_of_getElem? ht
      have h2 := b t _ (ne_of_none (H := fun x => if x = p then none else some (HO.lst [])) (by rw [if_neg (fun z => hpt (by rw [← z]; exact tm))]) (if_pos rfl)) (fresh_back e2 (hts t tm)) hat
      unfold zipD at hkd
      rw [List.getElem?_zip_eq_some, List.getElem?_map, hkv] at hkd
      obtain ⟨x1, x2⟩ := hkd
      have x1 : keyD kv.1 = kd.1 := Option.some.inj x1
      obtain ⟨du, bs, g1, g2⟩ := ha.get (i := i) (v := kv.2) (by rw [List.getElem?_map, hkv]; rfl)
      rw [x2] at g1
      cases g1
      rw [← x1]
      have hk : Dz H'' (kV kv.1) (keyD kv.1) [] := by
        cases kv.1 with
        | inl i => exact .int i
        | inr z => exact .str z
      exact ⟨_, .tup h2 (.cons hk (.cons (g2.ex a) .nil))⟩⟩
/-- dict(pairs) -/
theorem ez_dict {prs : List (Str × PyData)} (h : EvZL tl σ B (prs.map fun q => .tuple [.str q.1, q.2])) (nd : (prs.map (·.1)).Nodup) : EvZ (tCB (rDictP K) (tCons tl tNil)) σ B (.dict (prs.map fun q => (.str q.1, q.2))) := fun H1 e Q q =>
  h H1 e _ fun p vs H2 n e2 h2 kn => by
    have all : ∀ {vs : List V} {prs : List (Str × PyData)} {H' : Hp}, (∃ as, DzA H' vs (prs.map fun q => .tuple [.str q.1, q.2]) as) → ∃ (ps : List Addr) (kvs : List (Key × V)), vs = ps.map V.ref ∧ Paired (fun p kv => H' p = some (.tup [kV kv.1, kv.2])) ps kvs ∧ kvs.map (·.1) = prs.map (fun q => Sum.inr q.1) ∧ ∃ bs, DzA H' (kvs.map (·.2)) (prs.map (·.2)) bs := by
      intro vs prs H' h
      induction prs generalizing vs with
      | nil =>
        obtain ⟨as, h⟩ := h
        cases h
        exact ⟨[], [], rfl, .nil, rfl, _, .nil⟩
      | cons x prs ih =>
        obtain ⟨as, h⟩ := h
        cases h with
        | cons a t =>
          obtain ⟨ps, kvs, rfl, pr, kk, bs, hb⟩ := ih ⟨_, t⟩
          cases a with
          | @tup t ws _ _ ht hw =>
            cases hw with
            | cons w1 w2 =>
              cases w1
              cases w2 with
              | @cons u _ _ _ _ _ w2 w3 =>
                cases w3
                exact ⟨t :: ps, (Sum.inr x.1, u) :: kvs, rfl, .cons ht pr, by rw [List.map_cons, List.map_cons, kk], _, .cons w2 hb⟩
    obtain ⟨ps, kvs, rfl, pr, kk, bs, hb⟩ := all (kn.kn.at_mix e)
    have ndk : (kvs.map (·.1)).Nodup := by
      rw [kk]
      have e1 : (prs.map fun q => (Sum.inr q.1 : Key)) = (prs.map (·.1)).map Sum.inr := by rw [List.map_map]; rfl
      rw [e1]
      unfold List.Nodup at nd ⊢
      rw [List.pairwise_map]
      exact nd.imp fun h e => h (Sum.inr.inj e)
    have em : mergeK [] kvs = kvs := (merge_new _ _ (by rw [List.nil_append]; exact ndk)).trans (List.nil_append _)
    refine ⟨p, ps, kvs, rfl, sq_of h2, paired_imp (fun a b z => st_of (mix_in e e2 _ _ z)) pr, fun r hr => ?_⟩
    rw [em]
    refine q (.ref r) _ (e2.trans (Ex.new hr)) fun H' a b => ?_
    have d := Dz.dict (H := H') (b r _ (fresh_back e2 hr) upd_same) ndk (DzA.ex (mix_le a fun c o n1 h3 => b c o n1 (by rw [upd_ne (ne_of_none h3 hr)]; exact h3)) hb)
    have ez : zipD kvs (prs.map (·.2)) = prs.map fun q => (.str q.1, q.2) := by
      unfold zipD
      have e1 : (kvs.map fun kv => keyD kv.1) = prs.map fun q => .str q.1 := by
        have := congrArg (List.map keyD) kk
        rw [List.map_map, List.map_map] at this
        exact this
      rw [e1, List.zip_map']
    rw [ez] at d
    exact ⟨_, d⟩
/-- [e for x in texts] -/
theorem ezl_lcN {xs : List Str} {j : Nat} {vs : List Nat} (f : Str → PyData) (h : EvL tl σ B (xs.map V.str)) (hz : xs.length < 50000) (hw : ∀ x, wipe ((wipe σ vs).set j (some x)) vs = wipe σ vs) (he : ∀ B', Ex B B' → ∀ x ∈ xs, EvZ te ((wipe σ vs).set j (some (.str x))) B' (f x)) : EvZL (tLc (iList K tl) (gName j) tYes te vs) σ B (xs.map f) := by
  refine (elp_lcN (P := fun ys _ => ys = xs.map V.str) (fun ys i v H' => ∃ x as, xs[i]? = some x ∧ Dz H' v (f x) as) (elp_of h fun _ _ => rfl) (fun ys H' e => by rw [e, List.length_map]; exact hz) hw (fun ys B' eB e i y hy => ?_)).imp fun ys H' eH hyp => ?_
  · rw [e, List.getElem?_map] at hy
    obtain ⟨x, hx, rfl⟩ := Option.map_eq_some_iff.mp hy
    exact (he B' eB x (List.mem_of_getElem? hx)).imp fun v H' _ ⟨as, z⟩ => ⟨x, as, hx, z⟩
  · obtain ⟨zs, rfl, l, hv⟩ := hyp
    refine DzA.of (by rw [l, List.length_map, List.length_map]) fun i v d h1 h2 => ?_
    obtain ⟨x, as, hx, z⟩ := hv i v h1
    rw [List.getElem?_map, hx] at h2
    cases h2
    exact ⟨as, z⟩
end
/-! what is no logs: facts of data -/
mutual
def okD : PyData → Bool
  | .none => true
  | .bool _ => true
  | .int i => decide (i.natAbs < 10 ^ 60)
  | .str z => z.cps.toList.all fun c => decide (c < 16 ^ 8)
  | .list xs => okDA xs
  | .tuple xs => okDA xs
  | .dict kvs => okDK kvs
def okDA : List PyData → Bool
  | [] => true
  | x :: xs => okD x && okDA xs
def okDK : List (PyData × PyData) → Bool
  | [] => true
  | (k, v) :: r => (okD k && okD v) && okDK r
end
mutual
theorem okD_sz : ∀ {d : PyData}, okD d = true → d.showable = true ∧ PyData.leavesShort 70 d = true
  | .none, _ => ⟨rfl, rfl⟩
  | .bool _, _ => ⟨rfl, rfl⟩
  | .int i, h => by
    have z := sz_int (i := i) (of_decide_eq_true (by simpa only [okD] using h))
    exact ⟨z.sh, z.sl⟩
  | .str z, h => by
    have h' : (z.cps.toList.all fun c => decide (c < 16 ^ 8)) = true := by simpa only [okD] using h
    exact ⟨by simp only [PyData.showable], by simp only [PyData.leavesShort]; exact h'⟩
  | .list xs, h => by
    obtain ⟨a, b⟩ := okDA_sz (xs := xs) (by simpa only [okD] using h)
    exact ⟨by simp only [PyData.showable]; exact a, by simp only [PyData.leavesShort]; exact b⟩
  | .tuple xs, h => by
    obtain ⟨a, b⟩ := okDA_sz (xs := xs) (by simpa only [okD] using h)
    exact ⟨by simp only [PyData.showable]; exact a, by simp only [PyData.leavesShort]; exact b⟩
  | .dict kvs, h => by
    obtain ⟨a, b⟩ := okDK_sz (kvs := kvs) (by simpa only [okD] using h)
    exact ⟨by simp only [PyData.showable]; exact a, by simp only [PyData.leavesShort]; exact b⟩
theorem okDA_sz : ∀ {xs : List PyData}, okDA xs = true → PyData.showableAll xs = true ∧ PyData.leavesShortAll 70 xs = true
  | [], _ => ⟨rfl, rfl⟩
  | x :: xs, h => by
    have h' : (okD x && okDA xs) = true := by simpa only [okDA] using h
    rw [Bool.and_eq_true] at h'
    obtain ⟨a, b⟩ := okD_sz h'.1
    obtain ⟨c, d⟩ := okDA_sz h'.2
    exact ⟨by simp only [PyData.showableAll, a, c, Bool.and_self], by simp only [PyData.leavesShortAll, b, d, Bool.and_self]⟩
theorem okDK_sz : ∀ {kvs : List (PyData × PyData)}, okDK kvs = true → PyData.showableKv kvs = true ∧ PyData.leavesShortKv 70 kvs = true
  | [], _ => ⟨rfl, rfl⟩
  | (k, v) :: kvs, h => by
    have h' : ((okD k && okD v) && okDK kvs) = true := by simpa only [okDK] using h
    rw [Bool.and_eq_true, Bool.and_eq_true] at h'
    obtain ⟨a, b⟩ := okD_sz h'.1.1
    obtain ⟨a2, b2⟩ := okD_sz h'.1.2
    obtain ⟨c, d⟩ := okDK_sz h'.2
    exact ⟨by simp only [PyData.showableKv, a, a2, c, Bool.and_self], by simp only [PyData.leavesShortKv, b, b2, d, Bool.and_self]⟩
end
theorem sz_of_ok {d : PyData} {dp wt : Nat} (h : (okD d && (decide (d.depth ≤ dp) && decide (d.weight ≤ wt))) = true) : Sz d dp wt := by
  rw [Bool.and_eq_true, Bool.and_eq_true] at h
  obtain ⟨a, b⟩ := okD_sz h.1
  exact ⟨a, b, of_decide_eq_true h.2.1, of_decide_eq_true h.2.2⟩
theorem sz_int60 {i : Int} (h0 : 0 ≤ i) (h1 : i ≤ 60) : Sz (.int i) 0 8 := by
  have z := sz_int (i := i) (Nat.lt_of_le_of_lt (show i.natAbs ≤ 60 by omega) (by decide))
  exact ⟨z.sh, z.sl, z.dp, (small_int h0 h1).wt⟩
theorem sz_en {e : En} (h : e.ok) : Sz e.data 1 30 := by
  cases e with
  | push x => exact ((sza_cons (sz_nm nmP) (sza_cons (sz_nm (show IsNm x from h)) sza_nil)).tuple).le (Nat.le_refl _) (by decide)
  | pop x => exact ((sza_cons (sz_nm nmO) (sza_cons (sz_nm (show IsNm x from h)) sza_nil)).tuple).le (Nat.le_refl _) (by decide)
  | size k => exact ((sza_cons (sz_nm nmS) (sza_cons (sz_int60 h.1 h.2) sza_nil)).tuple).le (Nat.le_refl _) (by decide)
  | steal o x => exact ((sza_cons (sz_nm nmT) (sza_cons (sz_nm h.1) (sza_cons (sz_nm h.2) sza_nil))).tuple).le (Nat.le_refl _) (by decide)
def kdsOf (ws : List Str) (Ds : List PyData) : List (PyData × PyData) := (ws.map PyData.str).zip Ds
theorem kds_dk {ws : List Str} {ps : List Addr} {Ds : List PyData} (h : ps.length = ws.length) : zipD (Dk ws ps) Ds = kdsOf ws Ds := by
  unfold zipD kdsOf
  have : (Dk ws ps).map (fun kv => keyD kv.1) = ws.map PyData.str := by
    have := congrArg (List.map keyD) (dk_keys h)
    rw [List.map_map, List.map_map] at this
    exact this
  rw [this]
theorem kds_mem {ws : List Str} {Ds : List PyData} {kd : PyData × PyData} (h : kd ∈ kdsOf ws Ds) : ∃ w ∈ ws, kd.1 = .str w ∧ kd.2 ∈ Ds := by
  have := List.of_mem_zip h
  obtain ⟨w, hw, e⟩ := List.mem_map.mp this.1
  exact ⟨w, hw, e.symm, this.2⟩
theorem all_n {α : Type} {P : α → Prop} : ∀ y ∈ ([] : List α), P y := fun _ z => nomatch z
theorem all_c {α : Type} {P : α → Prop} {x : α} {xs : List α} (h : P x) (t : ∀ y ∈ xs, P y) : ∀ y ∈ x :: xs, P y := fun y hy => by
  rcases List.mem_cons.mp hy with rfl | hy
  · exact h
  · exact t y hy
theorem ex_kb {s : Addr} {R H H' : Hp} (e : Ex R H) (h : R s = none) (k : KB s H H') : Ex R H' := fun b o hb => k b o (ne_of_none hb h) (e b o hb)
/-! values that are known data, in a part of the heap that avoids S -/
def HasD (G : PyData → Prop) (S : List Addr) (H : Hp) (v : V) : Prop := ∃ R d as, Ex R H ∧ (∀ a ∈ S, R a = none) ∧ Dz R v d as ∧ G d
section
variable {G : PyData → Prop} {S : List Addr} {H H' : Hp} {v : V} {p : Addr}
theorem HasD.ex (b : HasD G S H v) (e : Ex H H') : HasD G S H' v := by
  obtain ⟨R, d, as, e0, h, z, bd⟩ := b
  exact ⟨R, d, as, e0.trans e, h, z, bd⟩
theorem HasD.kb (b : HasD G S H v) (hp : p ∈ S) (k : KB p H H') : HasD G S H' v := by
  obtain ⟨R, d, as, e0, h, z, bd⟩ := b
  exact ⟨R, d, as, ex_kb e0 (h p hp) k, h, z, bd⟩
theorem HasD.new (b : HasD G S H v) (hp : H p = none) : HasD G (p :: S) H v := by
  obtain ⟨R, d, as, e0, h, z, bd⟩ := b
  exact ⟨R, d, as, e0, all_c (fresh_back e0 hp) h, z, bd⟩
theorem HasD.sub {S' : List Addr} (b : HasD G S H v) (h : ∀ a ∈ S', a ∈ S) : HasD G S' H v := by
  obtain ⟨R, d, as, e0, h0, z, bd⟩ := b
  exact ⟨R, d, as, e0, fun a ha => h0 a (h a ha), z, bd⟩
theorem HasD.imp {G' : PyData → Prop} (b : HasD G S H v) (h : ∀ d, G d → G' d) : HasD G' S H v := by
  obtain ⟨R, d, as, e0, h0, z, bd⟩ := b
  exact ⟨R, d, as, e0, h0, z, h d bd⟩
theorem has_all {R : Hp} {vs : List V} {ds : List PyData} (e : Ex R H) (h : ∀ a ∈ S, R a = none) (z : ∃ as, DzA R vs ds as) (b : ∀ d ∈ ds, G d) : ∀ v ∈ vs, HasD G S H v := fun v hv => by
  obtain ⟨as, z⟩ := z
  obtain ⟨d, bs, m, hd⟩ := dza_mem z hv
  exact ⟨R, d, bs, e, h, hd, b d m⟩
end
theorem app_all {α : Type} {P : α → Prop} {xs ys : List α} (a : ∀ x ∈ xs, P x) (b : ∀ y ∈ ys, P y) : ∀ z ∈ xs ++ ys, P z := fun z hz => by
  rcases List.mem_append.mp hz with h | h
  · exact a z h
  · exact b z h
/-! logs as data -/
section
variable {R : Hp}
theorem dza_flat : ∀ {xs : List V}, (∀ x ∈ xs, flat2 x) → DzA R xs (xs.map vD) []
  | [], _ => .nil
  | x :: xs, h => DzA.cons (as := []) (bs := []) (by
      have := h x (List.mem_cons_self ..)
      cases x with
      | str z => exact .str z
      | int z => exact .int z
      | _ => exact absurd this (by simp [flat2])) (dza_flat fun y hy => h y (List.mem_cons_of_mem _ hy))
theorem en_dz {a : Addr} {e : En} (h : R a = some (.tup e.vs)) : Dz R (.ref a) e.data [] := .tup h (dza_flat (en_flat e))
theorem ens_dz : ∀ {as : List Addr} {es : List En}, Paired (fun a t => R a = some (.tup t)) as (es.map En.vs) → ∃ bs, DzA R (as.map V.ref) (es.map En.data) bs
  | _, [], .nil => ⟨_, .nil⟩
  | _, e :: es, .cons a t => by
    obtain ⟨bs, h⟩ := ens_dz t
    exact ⟨_, .cons (en_dz a) h⟩
theorem tl_dz {p : Addr} {es : List En} (h : TL R p (es.map En.vs)) : ∃ bs, Dz R (.ref p) (logD es) bs := by
  obtain ⟨as, h1, h2⟩ := h
  obtain ⟨bs, h3⟩ := ens_dz h2
  exact ⟨_, .lst h1 h3⟩
theorem dk_vals : ∀ {ws : List Str} {ps : List Addr}, ps.length = ws.length → (Dk ws ps).map (·.2) = ps.map V.ref
  | [], [], _ => rfl
  | [], _ :: _, h => by cases h
  | _ :: _, [], h => by cases h
  | w :: ws, p :: ps, h => by
    show V.ref p :: (Dk ws ps).map (·.2) = V.ref p :: ps.map V.ref
    rw [dk_vals (by simpa using h)]
theorem hl_dza {d : Addr} {ws : List Str} {ps : List Addr} {L : List (List En)} (h : HL R d ws ps L) (l : L.length = ws.length) : ∃ bs, DzA R ((Dk ws ps).map (·.2)) (L.map logD) bs := by
  rw [dk_vals h.pl]
  refine DzA.of (by rw [List.length_map, List.length_map, h.pl, l]) fun i v dd h1 h2 => ?_
  rw [List.getElem?_map] at h1 h2
  obtain ⟨p, hp, rfl⟩ := Option.map_eq_some_iff.mp h1
  obtain ⟨es, hes, rfl⟩ := Option.map_eq_some_iff.mp h2
  exact tl_dz (h.lg i p es hp hes)
theorem hl_dz {d : Addr} {ws : List Str} {ps : List Addr} {L : List (List En)} (h : HL R d ws ps L) (l : L.length = ws.length) (nd : ws.Nodup) : ∃ bs, Dz R (.ref d) (.dict (kdsOf ws (L.map logD))) bs := by
  obtain ⟨bs, hb⟩ := hl_dza h l
  have := Dz.dict h.dk (by
    rw [dk_keys h.pl]
    unfold List.Nodup at nd ⊢
    rw [List.pairwise_map]
    exact nd.imp fun h e => h (Sum.inr.inj e)) hb
  rw [kds_dk h.pl] at this
  exact ⟨_, this⟩
theorem hl_hid {s d : Addr} {H : Hp} {ws : List Str} {ps : List Addr} {L : List (List En)} {xs : List V} (h : HL H d ws ps L) (hs : H s = some (.lst xs)) (n : s ∉ ps) : HL (hid s H) d ws ps L := by
  have tk : TK H (hid s H) := fun a x w => by rw [hid_ne (fun e => by rw [e, hs] at w; cases w)]; exact w
  refine ⟨by rw [hid_ne (fun e => by have := h.dk; rw [e, hs] at this; cases this)]; exact h.dk, h.pl, fun i p es h1 h2 => (h.lg i p es h1 h2).keep tk (hid_ne fun e => n (by rw [← e]; exact List.mem_of_getElem? h1))⟩
end
theorem dk_memB {ws : List Str} {ps : List Addr} {kv : Key × V} (h : kv ∈ Dk ws ps) : ∃ w ∈ ws, kv.1 = .inr w := by
  unfold Dk at h
  obtain ⟨z, hz, rfl⟩ := List.mem_map.mp h
  exact ⟨z.1, (List.of_mem_zip hz).1, rfl⟩
theorem map_away {ws : List Str} {ps : List Addr} {y : Str} {v : V} (h : y ∉ ws) : (Dk ws ps).map (fun kv => if kv.1 = (.inr y : Key) then (kv.1, v) else kv) = Dk ws ps := by
  have : ∀ kv ∈ Dk ws ps, (fun kv : Key × V => if kv.1 = (.inr y : Key) then (kv.1, v) else kv) kv = kv := fun kv hk => by
    obtain ⟨x, h1, e⟩ := dk_memB hk
    refine if_neg fun z => h ?_
    rw [e] at z
    rw [← Sum.inr.inj z]
    exact h1
  rw [List.map_congr_left this, List.map_id']
theorem map_put : ∀ {ws : List Str} {ps : List Addr} {k : Nat} {y : Str} {r : Addr}, ws.Nodup → ws[k]? = some y → ps.length = ws.length → (Dk ws ps).map (fun kv => if kv.1 = (.inr y : Key) then (kv.1, V.ref r) else kv) = Dk ws (ps.set k r)
  | [], _, k, y, r, _, h, _ => by simp at h
  | w :: ws, [], k, y, r, _, _, h => by cases h
  | w :: ws, p :: ps, 0, y, r, nd, h, hl => by
    have e : w = y := by simpa using h
    subst e
    have n := (List.nodup_cons.mp nd).1
    show (if (.inr w : Key) = .inr w then ((.inr w : Key), V.ref r) else (.inr w, .ref p)) :: (Dk ws ps).map _ = (.inr w, .ref r) :: Dk ws ps
    rw [if_pos rfl, map_away n]
  | w :: ws, p :: ps, k + 1, y, r, nd, h, hl => by
    have h' : ws[k]? = some y := by simpa using h
    have n : ¬ (.inr w : Key) = .inr y := fun e => (List.nodup_cons.mp nd).1 (by rw [Sum.inr.inj e]; exact List.mem_of_getElem? h')
    show (if (.inr w : Key) = .inr y then ((.inr w : Key), V.ref r) else (.inr w, .ref p)) :: (Dk ws ps).map _ = (.inr w, .ref p) :: Dk ws (ps.set k r)
    rw [if_neg n, map_put (List.nodup_cons.mp nd).2 h' (by simpa using hl)]
theorem putK_dk {ws : List Str} {ps : List Addr} {k : Nat} {y : Str} {r : Addr} (nd : ws.Nodup) (hk : ws[k]? = some y) (hl : ps.length = ws.length) : putK (Dk ws ps) (.inr y) (.ref r) = Dk ws (ps.set k r) := by
  unfold putK
  obtain ⟨p, hp⟩ : ∃ p, ps[k]? = some p := ⟨_, List.getElem?_eq_getElem (by rw [hl]; exact (List.getElem?_eq_some_iff.mp hk).1)⟩
  have hm : ((.inr y : Key), V.ref p) ∈ Dk ws ps := List.mem_map.mpr ⟨(y, p), List.mem_of_getElem? (i := k) (by rw [List.getElem?_zip_eq_some]; exact ⟨hk, hp⟩), rfl⟩
  rw [if_pos (List.any_eq_true.mpr ⟨_, hm, decide_eq_true rfl⟩)]
  exact map_put nd hk hl
theorem sz_rows {ws : List Str} {L : List (List En)} (v : Vlog 60 ws L) : Sz (.dict (kdsOf ws (L.map logD))) 3 22400 ∧ ∀ kd ∈ kdsOf ws (L.map logD), Sz kd.1 2 1860 ∧ Sz kd.2 2 1860 := by
  have h : ∀ kd ∈ kdsOf ws (L.map logD), Sz kd.1 2 1860 ∧ Sz kd.2 2 1860 := fun kd hkd => by
    obtain ⟨w, h1, h2, h3⟩ := kds_mem hkd
    refine ⟨by rw [h2]; exact (sz_nm (v.wk.2.2.2 w h1)).le (by decide) (by decide), ?_⟩
    obtain ⟨es, h4, e⟩ := List.mem_map.mp h3
    rw [← e]
    refine ((sza_all (dp := 1) (w := 30) fun x hx => ?_).list).le (Nat.le_refl _) ?_
    · obtain ⟨y, hy, rfl⟩ := List.mem_map.mp hx
      exact sz_en ((v.ent _ h4).2 y hy)
    · rw [List.length_map]
      have := (v.ent _ h4).1
      omega
  refine ⟨(sz_dict h).le (by decide) ?_, h⟩
  have := v.wk.2.1
  unfold kdsOf
  rw [List.length_zip, List.length_map]
  omega
end Vx

set_option Elab.async false
set_option linter.all false
set_option maxRecDepth 100000
set_option maxHeartbeats 8000000
namespace Vx
open PySem PySem.Spec PyProof.Rows L2 Evl
/-! data of entries -/
structure FlOk (d : PyData) : Prop where
  pl : (plA d && ndD d) = true
  fl : flatD d = true
  ly : PyData.canLay0 d = true
  dp : PyData.depth d = 0
  sz : Sz d 0 200
theorem flOk_of {d : PyData} (h : ((((plA d && ndD d) && flatD d) && (PyData.canLay0 d && decide (PyData.depth d = 0))) && (okD d && (decide (d.depth ≤ 0) && decide (d.weight ≤ 200)))) = true) : FlOk d := by
  obtain ⟨h1, h2⟩ := (Bool.and_eq_true _ _).mp h
  obtain ⟨h3, h4⟩ := (Bool.and_eq_true _ _).mp h1
  obtain ⟨h5, h6⟩ := (Bool.and_eq_true _ _).mp h3
  obtain ⟨h7, h8⟩ := (Bool.and_eq_true _ _).mp h4
  exact ⟨h5, h6, h7, of_decide_eq_true h8, sz_of_ok h2⟩
theorem chOk_nm {z : Str} (h : IsNm z) : chOk z = true := List.all_eq_true.mpr fun c hc => decide_eq_true (by have := (h.2.2 c hc).2; omega)
theorem plA_nm {z : Str} (h : IsNm z) : plA (.str z) = true := by
  show (decide (z.length < 40000) && chOk z) = true
  rw [chOk_nm h, Bool.and_true]
  have := h.2.1
  exact decide_eq_true (by omega)
theorem flOk_nm {z : Str} (h : IsNm z) : FlOk (.str z) := ⟨by rw [plA_nm h]; rfl, rfl, by show PyData.strOk z = true; exact h.strOk, by simp only [PyData.depth], (sz_nm h).le (Nat.le_refl _) (by decide)⟩
theorem flOk_int {k : Int} (h0 : 0 ≤ k) (h1 : k ≤ 60) : FlOk (.int k) := ⟨rfl, rfl, by simp only [PyData.canLay0], by simp only [PyData.depth], (sz_int60 h0 h1).le (Nat.le_refl _) (by decide)⟩
theorem fl_all : ∀ {xs : List PyData}, (∀ x ∈ xs, FlOk x) → PyData.canLayAll0 xs = true ∧ PyData.depthAll xs = 0
  | [], _ => ⟨by simp only [PyData.canLayAll0], by simp only [PyData.depthAll]⟩
  | x :: xs, h => by
    obtain ⟨a, b⟩ := fl_all (xs := xs) fun y hy => h y (List.mem_cons_of_mem _ hy)
    have hx := h x (List.mem_cons_self ..)
    refine ⟨by simp only [PyData.canLayAll0, hx.ly, a, Bool.and_self], ?_⟩
    simp only [PyData.depthAll, hx.dp, b]
    rfl
structure GoE (d : PyData) : Prop where
  pl : plE d = true
  ly : lyE d = true
  sz : Sz d 3 700
theorem sz_fl {xs : List PyData} (h : ∀ x ∈ xs, FlOk x) (l : xs.length ≤ 3) : SzA xs 0 603 := (sza_all fun x hx => (h x hx).sz).le (Nat.le_refl _) (by omega)
theorem goE_tup {xs : List PyData} (h : ∀ x ∈ xs, FlOk x) (l : xs.length ≤ 3) : GoE (.tuple xs) := by
  obtain ⟨a, b⟩ := fl_all h
  refine ⟨?_, ?_, ((sz_fl h l).tuple).le (by decide) (by decide)⟩
  · show ((decide (xs.length ≤ 40000) && (xs.all (fun x => plA x && ndD x) && hdF xs)) || hdTup xs) = true
    rw [decide_eq_true (show xs.length ≤ 40000 by omega), List.all_eq_true.mpr fun x hx => (h x hx).pl]
    cases xs with
    | nil => rfl
    | cons x r =>
      show (true && (true && flatD x) || _) = true
      rw [(h x (List.mem_cons_self ..)).fl]
      rfl
  · show (PyData.canLay0 _ && decide (PyData.depth _ ≤ 8)) = true
    simp only [PyData.canLay0, PyData.depth, a, b]
    decide
theorem goE_lst {xs : List PyData} (h : ∀ x ∈ xs, FlOk x) (l : xs.length ≤ 3) : GoE (.list xs) := by
  obtain ⟨a, b⟩ := fl_all h
  refine ⟨rfl, ?_, ((sz_fl h l).list).le (by decide) (by decide)⟩
  show (PyData.canLay0 _ && decide (PyData.depth _ ≤ 8)) = true
  simp only [PyData.canLay0, PyData.depth, a, b]
  decide
theorem goE_fl {d : PyData} (h : FlOk d) : GoE d := by
  refine ⟨?_, by show (PyData.canLay0 _ && decide (PyData.depth _ ≤ 8)) = true; rw [h.ly, h.dp]; rfl, h.sz.le (by decide) (by decide)⟩
  have p := h.pl
  have f := h.fl
  cases d with
  | tuple => cases f
  | _ => exact p
theorem flOk_push : FlOk (.str "push") := flOk_of (by decide +kernel)
theorem goE_head {x : PyData} (h : FlOk x) : GoE (.tuple [.tuple [.str "push"], x]) := by
  have hp : FlOk (.str "push") := flOk_push
  have i1 : Sz (.tuple [.str "push"]) 1 201 := (sza_cons hp.sz sza_nil).tuple
  have i2 : SzA [x] 1 201 := sza_cons (h.sz.le (Nat.zero_le 1) (Nat.le_refl _)) (sza_nil.le (Nat.zero_le 1) (Nat.le_refl _))
  refine ⟨?_, ?_, ((sza_cons i1 i2).tuple).le (by decide) (by decide)⟩
  · show (_ || decide (("push" : Str) = "push")) = true
    rw [decide_eq_true rfl, Bool.or_true]
  · show (PyData.canLay0 _ && decide (PyData.depth _ ≤ 8)) = true
    simp only [PyData.canLay0, PyData.canLayAll0, PyData.depth, PyData.depthAll, h.ly, h.dp]
    decide +kernel
theorem en_fl {e : En} (h : e.ok) : (∀ x ∈ e.vs.map vD, FlOk x) ∧ (e.vs.map vD).length ≤ 3 := by
  have n1 : FlOk (.str "pop") := flOk_of (by decide +kernel)
  have n2 : FlOk (.str "size") := flOk_of (by decide +kernel)
  have n3 : FlOk (.str "steal") := flOk_of (by decide +kernel)
  cases e with
  | push x => exact ⟨all_c flOk_push (all_c (flOk_nm h) all_n), by show 2 ≤ 3; decide⟩
  | pop x => exact ⟨all_c n1 (all_c (flOk_nm h) all_n), by show 2 ≤ 3; decide⟩
  | size k => exact ⟨all_c n2 (all_c (flOk_int h.1 h.2) all_n), by show 2 ≤ 3; decide⟩
  | steal o x => exact ⟨all_c n3 (all_c (flOk_nm h.1) (all_c (flOk_nm h.2) all_n)), by show 3 ≤ 3; decide⟩
theorem goE_en {e : En} (h : e.ok) : GoE e.data := goE_tup (en_fl h).1 (en_fl h).2
def WordOk (v : V) : Prop := flat2 v ∧ FlOk (vD v)
theorem dz_flat2 {R : Hp} {v : V} (h : flat2 v) : Dz R v (vD v) [] := by
  cases v with
  | str z => exact .str z
  | int z => exact .int z
  | _ => exact absurd h (by simp [flat2])
theorem word_nm {z : Str} (h : IsNm z) : WordOk (.str z) := ⟨by simp [flat2], flOk_nm h⟩
theorem word_last {e : En} (h : e.ok) : ∃ v, atI e.vs ((e.vs.length : Int) - 1) = some v ∧ WordOk v := by
  cases e with
  | push x => exact ⟨_, rfl, word_nm h⟩
  | pop x => exact ⟨_, rfl, word_nm h⟩
  | size k => exact ⟨_, rfl, by simp [flat2], flOk_int h.1 h.2⟩
  | steal o x => exact ⟨_, rfl, word_nm h.2⟩
/-! lists of known data -/
section
variable {G : PyData → Prop} {D : Ends} {te tl : TE} {σ : L2.St} {H : Hp} {s : Addr} {ds : List PyData} {i : Nat} {ys : List V}
theorem s_asgHas (hs : H s = some (.lst ys)) (h : EvZL te σ (hid s H) ds) (g : ∀ d ∈ ds, G d) (k : ∀ p vs H1, H p = none → Ex H H1 → H1 p = some (.lst vs) → vs.length = ds.length → (∀ x ∈ vs, HasD G [p, s] H1 x) → D.nx (σ.set i (some (.ref p))) H1) : tAsg te (gName i) D σ H :=
  s_asgZL (hid_ex s H) h fun p vs R H1 n e h1 bR rH hp hR z => k p vs H1 n e h1 (by obtain ⟨_, z⟩ := z; exact z.len) (has_all rH (all_c hp (all_c (hR s (hid_s s H) (by rw [hs]; exact fun z => nomatch z)) all_n)) z g)
theorem s_catHas {l : Addr} {xs : List V} (hs : H s = some (.lst ys)) (hl : H l = some (.lst xs)) (ha : Ev tl σ H (.ref l)) (hx : ∀ x ∈ xs, HasD G [s] H x) (h : EvZL te σ (hid s H) ds) (g : ∀ d ∈ ds, G d) (hz : xs.length + ds.length ≤ 100000)
    (k : ∀ p vs H1, H p = none → Ex H H1 → H1 p = some (.lst vs) → vs.length = xs.length + ds.length → (∀ x ∈ vs, HasD G [p, s] H1 x) → D.nx (σ.set i (some (.ref p))) H1) : tAsg (tOp rCat tl te) (gName i) D σ H :=
  s_catZL (hid_ex s H) hl ha h hz fun p vs R H1 n e h1 bR rH hp hR z => k p (xs ++ vs) H1 n e h1 (by obtain ⟨_, z⟩ := z; rw [List.length_append, z.len]) (app_all (fun x hxx => ((hx x hxx).new n).ex e) (has_all rH (all_c hp (all_c (hR s (hid_s s H) (by rw [hs]; exact fun z => nomatch z)) all_n)) z g))
end
theorem has_s {G : PyData → Prop} {p s : Addr} {H : Hp} {vs : List V} (h : ∀ x ∈ vs, HasD G [p, s] H x) : ∀ x ∈ vs, HasD G [s] H x := fun x hx => (h x hx).sub (all_c (by simp) all_n)
/-- sorted(rows)[_law_pick(source, len(rows))] -/
theorem te_mate {K : PySem.W.Frag} {σ : L2.St} {H : Hp} {s d : Addr} {n : Nat} {ws : List Str} {ps : List Addr} {L : List (List En)} {Q : VK} {i j : Nat} (h0 : σ[j]? = some (some (.ref s))) (h1 : σ[i]? = some (some (.ref d))) (S : Src H s n) (hn : n + 1 ≤ 1000000000) (hl : HL H d ws ps L) (w1 : 1 ≤ ws.length) (w6 : ws.length ≤ 6)
    (k : ∀ name H2, name ∈ ws → KB s H H2 → Src H2 s (n + 1) → Q (.str name) H2) :
    tOp (rIxL K) (tCB rSortDk (tCons (tVar i) tNil)) (tCall spPick [] E0 (tCons (tVar j) (tCons (tCB (fun xs H Q => ∃ a kvs, xs = [V.ref a] ∧ H a = some (HO.dK kvs) ∧ Q (V.int (kvs.length : Int)) H) (tCons (tVar i) tNil)) tNil))) σ H Q := by
  refine ⟨_, h1, d, Dk ws ps, ws, rfl, Or.inl hl.dk, dk_keys hl.pl, by omega, fun ys p1 pm so hp1 => ?_⟩
  have E1 : Ex H (upd H p1 (.lst (ys.map V.str))) := Ex.new hp1
  have hp : (upd H p1 (.lst (ys.map V.str))) p1 = some (.lst (ys.map V.str)) := upd_same
  generalize upd H p1 (.lst (ys.map V.str)) = H1 at E1 hp ⊢
  have hl1 := hl.ex E1
  have S1 := S.ex E1
  obtain ⟨xs0, hs0⟩ := S.at_
  have n1s : p1 ≠ s := fun z => by rw [z, hs0] at hp1; cases hp1
  have dl : (Dk ws ps).length = ws.length := dk_len hl.pl
  refine ⟨_, h0, _, h1, d, _, rfl, hl1.dk, s, n, _, rfl, S1, by omega, by rw [dl]; omega, by rw [dl]; omega, fun r xs r0 r1 S2 => ?_⟩
  rw [dl] at r1
  obtain ⟨t, rfl⟩ : ∃ t : Nat, r = (t : Int) := ⟨r.toNat, by omega⟩
  have htl : t < ys.length := by rw [pm.length_eq]; omega
  have ht := List.getElem?_eq_getElem htl
  exact ⟨p1, ys.map V.str, (t : Int), .str ys[t], rfl, rfl, sq_of (by rw [upd_ne n1s]; exact hp), atI_nat (by rw [List.getElem?_map, ht]; rfl), k _ _ (pm.mem_iff.mp (List.mem_of_getElem? ht)) ((kb_ex E1).trans KB.upd) S2⟩
end Vx

set_option Elab.async false
set_option linter.all false
set_option maxRecDepth 100000
set_option maxHeartbeats 8000000
namespace Vx
open PySem PySem.Spec PyProof.Rows L2 Evl
/-- list(t) -/
theorem ezl_old {K : PySem.W.Frag} {σ : L2.St} {B : Hp} {te : TE} {a : Addr} {e : En} (h : Ev te σ B (.ref a)) (hB : B a = some (.tup e.vs)) : EvZL (tCB (rListS K) (tCons te tNil)) σ B (e.vs.map vD) := fun H1 e1 Q q =>
  h H1 e1 _ fun H2 e2 => ⟨a, e.vs, rfl, Or.inr (st_of (e2 _ _ (e1 _ _ hB))), fun l hl => q l e.vs _ (fresh_back e2 hl) (e2.trans (Ex.new hl)) upd_same fun H' _ _ => ⟨_, dza_flat (en_flat e)⟩⟩
def spLawE : Sp := fun vs H Q _ => ∃ (s d o : Addr) (n : Nat) (name : Str) (e : En) (ws : List Str) (ps : List Addr) (L : List (List En)), vs = [.ref s, .ref d, .str name, .ref o] ∧ Src H s n ∧ n + 10 ≤ 1000000000 ∧ HL H d ws ps L ∧ s ∉ ps ∧ Vlog 60 ws L ∧ name ∈ ws ∧ H o = some (.tup e.vs) ∧ e.ok ∧
  ∀ v H', KB s H H' → Src H' s (n + 3) → HasD GoE [s] H' v → Q v H'
section
variable {P : Program} {w : World} {K : PySem.W.Frag} {mg : Str → Option Value} {base : Heap}
theorem sc_law_entry : FnScope ["source", "rows", "name", "old", "word", "mate", "some"] ["source", "rows", "name", "old"] (defScope s_law_entry) := ⟨rfl, rfl, rfl, by decide +kernel, rfl, by decide +kernel, by decide +kernel⟩
theorem ok_law_entry (D : Def K mg "_law_entry" s_law_entry ["source", "rows", "name", "old"]) (T : Bl mg) (G_law_pick : Good P w K mg base 1 "_law_pick" ["source", "count"] spPick) : Good P w K mg base 2 "_law_entry" ["source", "rows", "name", "old"] spLawE := by
  refine D.good sc_law_entry (fun vs H Q E h => ?_) (fun f cdv A outer s0 H vs Q E hr h => ?_)
  · obtain ⟨s, d, o, n, name, e, ws, ps, L, rfl, _⟩ := h
    rfl
  · obtain ⟨s, d, o, n, name, e, ws, ps, L, rfl, hs, hn, hl, hsp, v, hname, ho, oke, q⟩ := h
    have hu := hu_of hr
    refine ⟨_, (pss_cons (ps_set (i := 4) sc_law_entry.nd rfl (Or.inl rfl) (x_ixl (K := K) (pe_lst (pa_cons pe_str (pa_cons pe_str (pa_cons pe_str (pa_cons pe_str (pa_cons (x_ixt (K := K) (pv 3) (pe_op op_sub (x_len (K := K) T (pv 3)) pe_int)) (pa_cons (pv 2) pa_nil))))))) (pe_fn (G_law_pick.mono (by decide)) hr (pa_cons (pv 0) (pa_cons pe_int pa_nil)))))
      (pss_cons (ps_set (i := 5) sc_law_entry.nd rfl (Or.inl rfl) (x_ixl (K := K) (pe_callB (call_sortDk rfl) (by rfl) T.sorted (by decide +kernel) (pa_cons (pv 1) pa_nil)) (pe_fn (G_law_pick.mono (by decide)) hr (pa_cons (pv 0) (pa_cons (pe_callB call_lenD (by rfl) T.len PySem.boot_len (pa_cons (pv 1) pa_nil)) pa_nil)))))
      (pss_cons (ps_set (i := 6) sc_law_entry.nd rfl (Or.inl rfl) (pe_lst (pa_cons (pe_tup (pa_cons pe_str (pa_cons (pv 4) pa_nil))) (pa_cons (pe_tup (pa_cons pe_str (pa_cons (pv 4) pa_nil))) (pa_cons (pe_tup (pa_cons pe_str (pa_cons (pv 5) (pa_cons (pv 4) pa_nil)))) (pa_cons (pe_tup (pa_cons pe_str (pa_cons pe_int pa_nil))) (pa_cons (pe_tup (pa_cons pe_str (pa_cons pe_int pa_nil))) (pa_cons (pe_tup (pa_cons pe_str (pa_cons (pe_un un_neg pe_int) pa_nil))) pa_nil))))))))
      (pss_cons (ps_set (i := 6) sc_law_entry.nd rfl (Or.inl rfl) (pe_op op_cat (pv 6) (pe_lst (pa_cons (pe_tup (pa_cons pe_str (pa_cons pe_bl pa_nil))) (pa_cons (pe_tup (pa_cons pe_str pa_nil)) (pa_cons (pe_tup (pa_cons pe_str pa_nil)) pa_nil))))))
      (pss_cons (ps_set (i := 6) sc_law_entry.nd rfl (Or.inl rfl) (pe_op op_cat (pv 6) (pe_lst (pa_cons (pe_tup (pa_cons pe_str (pa_cons (pv 4) pa_nil))) (pa_cons (pe_tup (pa_cons pe_str (pa_cons (pv 5) pa_nil))) (pa_cons (pe_tup (pa_cons pe_str (pa_cons (pv 4) (pa_cons (pv 4) pa_nil)))) (pa_cons (pe_tup (pa_cons pe_str pa_nil)) (pa_cons (pe_tup pa_nil) (pa_cons pe_non pa_nil)))))))))
      (pss_cons (ps_set (i := 6) sc_law_entry.nd rfl (Or.inl rfl) (pe_op op_cat (pv 6) (pe_lst (pa_cons (x_list (K := K) T (pv 3)) (pa_cons (pe_tup (pa_cons pe_str (pa_cons pe_str pa_nil))) (pa_cons (pe_tup (pa_cons pe_str (pa_cons pe_str pa_nil))) (pa_cons (pe_tup (pa_cons pe_str (pa_cons pe_str pa_nil))) (pa_cons (pe_tup (pa_cons pe_str (pa_cons pe_non pa_nil))) (pa_cons (pe_tup (pa_cons pe_str (pa_cons pe_str (pa_cons pe_str pa_nil)))) pa_nil)))))))))
      (pss_cons (ps_set (i := 6) sc_law_entry.nd rfl (Or.inl rfl) (pe_op op_cat (pv 6) (pe_lst (pa_cons (pe_tup (pa_cons pe_str (pa_cons pe_int pa_nil))) (pa_cons (pe_tup (pa_cons pe_int (pa_cons pe_str pa_nil))) (pa_cons (pe_tup (pa_cons pe_str (pa_cons (pv 4) pa_nil))) (pa_cons (pe_tup (pa_cons (pe_tup (pa_cons pe_str pa_nil)) (pa_cons (pv 4) pa_nil))) (pa_cons pe_str (pa_cons (pe_tup (pa_cons pe_str (pa_cons pe_str pa_nil))) (pa_cons (pe_tup (pa_cons pe_str (pa_cons (pe_op op_pw pe_int pe_int) pa_nil))) pa_nil))))))))))
      (pss_one (ps_ret (x_ixl (K := K) (pv 6) (pe_fn (G_law_pick.mono (by decide)) hr (pa_cons (pv 0) (pa_cons pe_int pa_nil))))))))))))), ?_⟩
    obtain ⟨xs0, hs0⟩ := hs.at_
    have nos : o ≠ s := fun z => by rw [z, hs0] at ho; cases ho
    have hB := hid_s s H
    have hnm : IsNm name := v.wk.2.2.2 name hname
    have wA : IsNm "q" := (by decide +kernel : ∀ z ∈ (["q"] : List Str), 1 ≤ z.length ∧ z.length ≤ 8 ∧ ∀ c ∈ z.cps.toList, 97 ≤ c ∧ c ≤ 122) _ (by simp)
    have wB : IsNm "a" := (by decide +kernel : ∀ z ∈ (["a"] : List Str), 1 ≤ z.length ∧ z.length ≤ 8 ∧ ∀ c ∈ z.cps.toList, 97 ≤ c ∧ c ≤ 122) _ (by simp)
    have wC : IsNm "aa" := (by decide +kernel : ∀ z ∈ (["aa"] : List Str), 1 ≤ z.length ∧ z.length ≤ 8 ∧ ∀ c ∈ z.cps.toList, 97 ≤ c ∧ c ≤ 122) _ (by simp)
    have wD : IsNm "abcdefaa" := (by decide +kernel : ∀ z ∈ (["abcdefaa"] : List Str), 1 ≤ z.length ∧ z.length ≤ 8 ∧ ∀ c ∈ z.cps.toList, 97 ≤ c ∧ c ≤ 122) _ (by simp)
    obtain ⟨lv, hlv, hlw⟩ := word_last oke
    have hoB : hid s H o = some (.tup e.vs) := by rw [hid_ne nos]; exact ho
    refine sk_asg (s := s) (n := n) (P := WordOk) hs (ek_ixL (PL := fun vs => Paired (fun v P => P v) vs [WordOk, WordOk, WordOk, WordOk, WordOk, WordOk]) (P' := fun v => ∃ r : Int, v = .int r ∧ 0 ≤ r ∧ r < 6) hB (ekl_lst hB (eka_cons hB (ek_of ev_c (word_nm wA)) (eka_cons hB (ek_of ev_c (word_nm wB)) (eka_cons hB (ek_of ev_c (word_nm wC)) (eka_cons hB (ek_of ev_c (word_nm wD)) (eka_cons hB (ek_of (ev_op (ev_var rfl) (ev_op (ev_lenA (ev_var rfl) (Or.inr (st_of hoB))) ev_c rv_I0) (rv_ixT (st_of hoB) hlv)) hlw) (eka_cons hB (ek_of (ev_var rfl) (word_nm hnm)) eka_nil)))))) (by show 6 ≤ 100000; decide)) (ek_pick (c := 0) (m := 6) hB rfl (ek_of ev_c rfl) (by decide) (by decide)) (fun xs y hxs hy => ?_)) (by omega) fun wv H1 k1 S1 hW => ?_
    · obtain ⟨r, rfl, r0, r1⟩ := hy
      obtain ⟨t, rfl⟩ : ∃ t : Nat, r = (t : Int) := ⟨r.toNat, by omega⟩
      have ht : ([WordOk, WordOk, WordOk, WordOk, WordOk, WordOk] : List (V → Prop))[t]? = some WordOk := by
        rw [show ([WordOk, WordOk, WordOk, WordOk, WordOk, WordOk] : List (V → Prop)) = List.replicate 6 WordOk from rfl, List.getElem?_replicate, if_pos (by omega)]
      obtain ⟨x, h1, h2⟩ := paired_get hxs ht
      exact ⟨_, x, rfl, atI_nat h1, h2⟩
    have S1 : Src H1 s (n + 1) := S1.le (by omega)
    have ho1 := k1 _ _ nos ho
    have hl1 := hl.kb k1 hs0 fun p hp z => hsp (by rw [← z]; exact hp)
    dsimp only [gName]
    refine te_mate (n := n + 1) rfl rfl S1 (by omega) hl1 v.wk.1 v.wk.2.1 fun mate H2 hM k2 S2 => ?_
    have hMn : IsNm mate := v.wk.2.2.2 mate hM
    have ho2 := k2 _ _ nos ho1
    obtain ⟨xs2, hs2⟩ := S2.at_
    dsimp only [gName]
    have hoB : hid s H2 o = some (.tup e.vs) := by rw [hid_ne nos]; exact ho2
    refine s_asgHas (G := GoE) (s := s) (ds := [.tuple [.str "push", vD wv], .tuple [.str "pop", vD wv], .tuple [.str "steal", .str mate, vD wv], .tuple [.str "size", .int 60], .tuple [.str "size", .int 61], .tuple [.str "size", .int (-1)]]) hs2 (ezl_lst (eza_cons (ez_tup (eza_cons ez_str (eza_cons (ez_v (ev_var rfl) ⟨_, dz_flat2 hW.1⟩) eza_nil)) (by show 2 ≤ 100000; decide)) (eza_cons (ez_tup (eza_cons ez_str (eza_cons (ez_v (ev_var rfl) ⟨_, dz_flat2 hW.1⟩) eza_nil)) (by show 2 ≤ 100000; decide)) (eza_cons (ez_tup (eza_cons ez_str (eza_cons (ez_v (ev_var rfl) ⟨_, .str mate⟩) (eza_cons (ez_v (ev_var rfl) ⟨_, dz_flat2 hW.1⟩) eza_nil))) (by show 3 ≤ 100000; decide)) (eza_cons (ez_tup (eza_cons ez_str (eza_cons ez_int eza_nil)) (by show 2 ≤ 100000; decide)) (eza_cons (ez_tup (eza_cons ez_str (eza_cons ez_int eza_nil)) (by show 2 ≤ 100000; decide)) (eza_cons (ez_tup (eza_cons ez_str (eza_cons (ez_neg (ev_un ev_c ru_neg)) eza_nil)) (by show 2 ≤ 100000; decide)) eza_nil)))))) (by show 6 ≤ 100000; decide)) ((all_c (goE_tup (all_c (flOk_of (by decide +kernel)) (all_c hW.2 all_n)) (by show 2 ≤ 3; decide)) (all_c (goE_tup (all_c (flOk_of (by decide +kernel)) (all_c hW.2 all_n)) (by show 2 ≤ 3; decide)) (all_c (goE_tup (all_c (flOk_of (by decide +kernel)) (all_c (flOk_nm hMn) (all_c hW.2 all_n))) (by show 3 ≤ 3; decide)) (all_c (goE_tup (all_c (flOk_of (by decide +kernel)) (all_c (flOk_of (by decide +kernel)) all_n)) (by show 2 ≤ 3; decide)) (all_c (goE_tup (all_c (flOk_of (by decide +kernel)) (all_c (flOk_of (by decide +kernel)) all_n)) (by show 2 ≤ 3; decide)) (all_c (goE_tup (all_c (flOk_of (by decide +kernel)) (all_c (flOk_of (by decide +kernel)) all_n)) (by show 2 ≤ 3; decide)) all_n))))))) fun p3 vs3 H3 n3 e3 h3 l3 g3 => ?_
    have l3 : vs3.length = 6 := l3
    have hs3 := e3 _ _ hs2
    have ho3 := e3 _ _ ho2
    dsimp only [gName]
    have hoB : hid s H3 o = some (.tup e.vs) := by rw [hid_ne nos]; exact ho3
    refine s_catHas (G := GoE) (s := s) (ds := [.tuple [.str "size", .bool true], .tuple [.str "size"], .tuple [.str "push"]]) hs3 h3 (ev_var rfl) (has_s g3) (ezl_lst (eza_cons (ez_tup (eza_cons ez_str (eza_cons ez_bl eza_nil)) (by show 2 ≤ 100000; decide)) (eza_cons (ez_tup (eza_cons ez_str eza_nil) (by show 1 ≤ 100000; decide)) (eza_cons (ez_tup (eza_cons ez_str eza_nil) (by show 1 ≤ 100000; decide)) eza_nil))) (by show 3 ≤ 100000; decide)) ((all_c (goE_tup (all_c (flOk_of (by decide +kernel)) (all_c (flOk_of (by decide +kernel)) all_n)) (by show 2 ≤ 3; decide)) (all_c (goE_tup (all_c (flOk_of (by decide +kernel)) all_n) (by show 1 ≤ 3; decide)) (all_c (goE_tup (all_c (flOk_of (by decide +kernel)) all_n) (by show 1 ≤ 3; decide)) all_n)))) (by rw [l3]; show 9 ≤ 100000; decide) fun p4 vs4 H4 n4 e4 h4 l4 g4 => ?_
    rw [l3] at l4
    have l4 : vs4.length = 9 := l4
    have hs4 := e4 _ _ hs3
    have ho4 := e4 _ _ ho3
    dsimp only [gName]
    have hoB : hid s H4 o = some (.tup e.vs) := by rw [hid_ne nos]; exact ho4
    refine s_catHas (G := GoE) (s := s) (ds := [.tuple [.str "steal", vD wv], .tuple [.str "steal", .str mate], .tuple [.str "push", vD wv, vD wv], .tuple [.str "empty"], .tuple [], .none]) hs4 h4 (ev_var rfl) (has_s g4) (ezl_lst (eza_cons (ez_tup (eza_cons ez_str (eza_cons (ez_v (ev_var rfl) ⟨_, dz_flat2 hW.1⟩) eza_nil)) (by show 2 ≤ 100000; decide)) (eza_cons (ez_tup (eza_cons ez_str (eza_cons (ez_v (ev_var rfl) ⟨_, .str mate⟩) eza_nil)) (by show 2 ≤ 100000; decide)) (eza_cons (ez_tup (eza_cons ez_str (eza_cons (ez_v (ev_var rfl) ⟨_, dz_flat2 hW.1⟩) (eza_cons (ez_v (ev_var rfl) ⟨_, dz_flat2 hW.1⟩) eza_nil))) (by show 3 ≤ 100000; decide)) (eza_cons (ez_tup (eza_cons ez_str eza_nil) (by show 1 ≤ 100000; decide)) (eza_cons (ez_tup eza_nil (by show 0 ≤ 100000; decide)) (eza_cons ez_non eza_nil)))))) (by show 6 ≤ 100000; decide)) ((all_c (goE_tup (all_c (flOk_of (by decide +kernel)) (all_c hW.2 all_n)) (by show 2 ≤ 3; decide)) (all_c (goE_tup (all_c (flOk_of (by decide +kernel)) (all_c (flOk_nm hMn) all_n)) (by show 2 ≤ 3; decide)) (all_c (goE_tup (all_c (flOk_of (by decide +kernel)) (all_c hW.2 (all_c hW.2 all_n))) (by show 3 ≤ 3; decide)) (all_c (goE_tup (all_c (flOk_of (by decide +kernel)) all_n) (by show 1 ≤ 3; decide)) (all_c (goE_tup all_n (by show 0 ≤ 3; decide)) (all_c (goE_fl (flOk_of (by decide +kernel))) all_n))))))) (by rw [l4]; show 15 ≤ 100000; decide) fun p5 vs5 H5 n5 e5 h5 l5 g5 => ?_
    rw [l4] at l5
    have l5 : vs5.length = 15 := l5
    have hs5 := e5 _ _ hs4
    have ho5 := e5 _ _ ho4
    dsimp only [gName]
    have hoB : hid s H5 o = some (.tup e.vs) := by rw [hid_ne nos]; exact ho5
    refine s_catHas (G := GoE) (s := s) (ds := [.list (e.vs.map vD), .tuple [.str "push", .str "A"], .tuple [.str "push", .str ""], .tuple [.str "push", .str "abcdefghi"], .tuple [.str "pop", .none], .tuple [.str "steal", .str "", .str "a"]]) hs5 h5 (ev_var rfl) (has_s g5) (ezl_lst (eza_cons (ez_ofL (ezl_old (ev_var rfl) hoB)) (eza_cons (ez_tup (eza_cons ez_str (eza_cons ez_str eza_nil)) (by show 2 ≤ 100000; decide)) (eza_cons (ez_tup (eza_cons ez_str (eza_cons ez_str eza_nil)) (by show 2 ≤ 100000; decide)) (eza_cons (ez_tup (eza_cons ez_str (eza_cons ez_str eza_nil)) (by show 2 ≤ 100000; decide)) (eza_cons (ez_tup (eza_cons ez_str (eza_cons ez_non eza_nil)) (by show 2 ≤ 100000; decide)) (eza_cons (ez_tup (eza_cons ez_str (eza_cons ez_str (eza_cons ez_str eza_nil))) (by show 3 ≤ 100000; decide)) eza_nil)))))) (by show 6 ≤ 100000; decide)) ((all_c (goE_lst (en_fl oke).1 (en_fl oke).2) (all_c (goE_tup (all_c (flOk_of (by decide +kernel)) (all_c (flOk_of (by decide +kernel)) all_n)) (by show 2 ≤ 3; decide)) (all_c (goE_tup (all_c (flOk_of (by decide +kernel)) (all_c (flOk_of (by decide +kernel)) all_n)) (by show 2 ≤ 3; decide)) (all_c (goE_tup (all_c (flOk_of (by decide +kernel)) (all_c (flOk_of (by decide +kernel)) all_n)) (by show 2 ≤ 3; decide)) (all_c (goE_tup (all_c (flOk_of (by decide +kernel)) (all_c (flOk_of (by decide +kernel)) all_n)) (by show 2 ≤ 3; decide)) (all_c (goE_tup (all_c (flOk_of (by decide +kernel)) (all_c (flOk_of (by decide +kernel)) (all_c (flOk_of (by decide +kernel)) all_n))) (by show 3 ≤ 3; decide)) all_n))))))) (by rw [l5]; show 21 ≤ 100000; decide) fun p6 vs6 H6 n6 e6 h6 l6 g6 => ?_
    rw [l5] at l6
    have l6 : vs6.length = 21 := l6
    have hs6 := e6 _ _ hs5
    have ho6 := e6 _ _ ho5
    dsimp only [gName]
    have hoB : hid s H6 o = some (.tup e.vs) := by rw [hid_ne nos]; exact ho6
    refine s_catHas (G := GoE) (s := s) (ds := [.tuple [.str "push", .int 0], .tuple [.int 0, .str "a"], .tuple [.str "Push", vD wv], .tuple [.tuple [.str "push"], vD wv], .str "push", .tuple [.str "size", .str "1"], .tuple [.str "size", .int (10 ^ 59)]]) hs6 h6 (ev_var rfl) (has_s g6) (ezl_lst (eza_cons (ez_tup (eza_cons ez_str (eza_cons ez_int eza_nil)) (by show 2 ≤ 100000; decide)) (eza_cons (ez_tup (eza_cons ez_int (eza_cons ez_str eza_nil)) (by show 2 ≤ 100000; decide)) (eza_cons (ez_tup (eza_cons ez_str (eza_cons (ez_v (ev_var rfl) ⟨_, dz_flat2 hW.1⟩) eza_nil)) (by show 2 ≤ 100000; decide)) (eza_cons (ez_tup (eza_cons (ez_tup (eza_cons ez_str eza_nil) (by show 1 ≤ 100000; decide)) (eza_cons (ez_v (ev_var rfl) ⟨_, dz_flat2 hW.1⟩) eza_nil)) (by show 2 ≤ 100000; decide)) (eza_cons ez_str (eza_cons (ez_tup (eza_cons ez_str (eza_cons ez_str eza_nil)) (by show 2 ≤ 100000; decide)) (eza_cons (ez_tup (eza_cons ez_str (eza_cons (ez_neg (Evl.ev_is (ev_op ev_c ev_c (rv_I ⟨by decide, by decide, by decide⟩)) rfl)) eza_nil)) (by show 2 ≤ 100000; decide)) eza_nil))))))) (by show 7 ≤ 100000; decide)) ((all_c (goE_tup (all_c (flOk_of (by decide +kernel)) (all_c (flOk_of (by decide +kernel)) all_n)) (by show 2 ≤ 3; decide)) (all_c (goE_tup (all_c (flOk_of (by decide +kernel)) (all_c (flOk_of (by decide +kernel)) all_n)) (by show 2 ≤ 3; decide)) (all_c (goE_tup (all_c (flOk_of (by decide +kernel)) (all_c hW.2 all_n)) (by show 2 ≤ 3; decide)) (all_c (goE_head hW.2) (all_c (goE_fl (flOk_of (by decide +kernel))) (all_c (goE_tup (all_c (flOk_of (by decide +kernel)) (all_c (flOk_of (by decide +kernel)) all_n)) (by show 2 ≤ 3; decide)) (all_c (goE_tup (all_c (flOk_of (by decide +kernel)) (all_c (flOk_of (by decide +kernel)) all_n)) (by show 2 ≤ 3; decide)) all_n)))))))) (by rw [l6]; show 28 ≤ 100000; decide) fun p7 vs7 H7 n7 e7 h7 l7 g7 => ?_
    rw [l6] at l7
    have l7 : vs7.length = 28 := l7
    have hs7 := e7 _ _ hs6
    have ho7 := e7 _ _ ho6
    dsimp only [gName]
    have E27 : Ex H2 H7 := e3.trans (e4.trans (e5.trans (e6.trans e7)))
    have S7 := S2.ex E27
    have n7s : p7 ≠ s := fun z => by rw [z, hs6] at n7; cases n7
    refine ⟨_, rfl, _, rfl, s, _, 28, rfl, S7, by omega, by decide, by decide, fun r xs r0 r1 S8 => ?_⟩
    obtain ⟨t, rfl⟩ : ∃ t : Nat, r = (t : Int) := ⟨r.toNat, by omega⟩
    have htl : t < vs7.length := by rw [l7]; omega
    have ht := List.getElem?_eq_getElem htl
    refine ⟨p7, vs7, (t : Int), _, rfl, rfl, sq_of (by rw [upd_ne n7s]; exact h7), atI_nat ht, q _ _ (((k1.trans k2).trans (kb_ex E27)).trans KB.upd) (S8.le (by omega)) ((has_s g7 _ (List.mem_of_getElem? ht)).kb (by simp) KB.upd)⟩
end
end Vx

set_option Elab.async false
set_option linter.all false
set_option maxRecDepth 100000
set_option maxHeartbeats 8000000
namespace Vx
open PySem PySem.Spec PyProof.Rows L2 Evl
theorem DzA.take {R : Hp} : ∀ {vs : List V} {ds : List PyData} {as : List Addr}, DzA R vs ds as → ∀ n : Nat, ∃ bs, DzA R (vs.take n) (ds.take n) bs
  | _, _, _, .nil, n => ⟨[], by rw [List.take_nil, List.take_nil]; exact .nil⟩
  | _, _, _, .cons a t, 0 => ⟨[], .nil⟩
  | _, _, _, .cons a t, n + 1 => by
    obtain ⟨bs, h⟩ := t.take n
    exact ⟨_, .cons a h⟩
theorem DzA.drop {R : Hp} : ∀ {vs : List V} {ds : List PyData} {as : List Addr}, DzA R vs ds as → ∀ n : Nat, ∃ bs, DzA R (vs.drop n) (ds.drop n) bs
  | _, _, _, .nil, n => ⟨[], by rw [List.drop_nil, List.drop_nil]; exact .nil⟩
  | _, _, _, .cons a t, 0 => ⟨_, .cons a t⟩
  | _, _, _, .cons a t, n + 1 => t.drop n
theorem DzA.rev {R : Hp} {vs : List V} {ds : List PyData} {as : List Addr} (h : DzA R vs ds as) : ∃ bs, DzA R vs.reverse ds.reverse bs := by
  have l := h.len
  refine DzA.of (by rw [List.length_reverse, List.length_reverse, l]) fun i v d h1 h2 => ?_
  have hi : i < vs.length := by rw [← List.length_reverse]; exact (List.getElem?_eq_some_iff.mp h1).1
  rw [List.getElem?_reverse hi] at h1
  rw [List.getElem?_reverse (by omega)] at h2
  obtain ⟨d', bs, g1, g2⟩ := h.get h1
  rw [l, h2] at g1
  cases g1
  exact ⟨bs, g2⟩
theorem DzA.set {R : Hp} {vs : List V} {ds : List PyData} {as : List Addr} {v : V} {d : PyData} {bs : List Addr} (h : DzA R vs ds as) (hv : Dz R v d bs) (k : Nat) : ∃ cs, DzA R (vs.set k v) (ds.set k d) cs := by
  have l := h.len
  refine DzA.of (by rw [List.length_set, List.length_set, l]) fun i u e h1 h2 => ?_
  rw [List.getElem?_set] at h1 h2
  by_cases hk : k = i
  · rw [if_pos hk] at h1 h2
    split at h1
    · rw [if_pos (by omega)] at h2
      cases h1
      cases h2
      exact ⟨_, hv⟩
    · cases h1
  · rw [if_neg hk] at h1 h2
    obtain ⟨d', bs, g1, g2⟩ := h.get h1
    rw [h2] at g1
    cases g1
    exact ⟨bs, g2⟩
theorem cut_take {xs : List V} {i : Nat} : cutV xs none (some (i : Int)) = xs.take i := by
  unfold cutV
  rw [HT.sIx_none, HT.sIx_nat, List.drop_zero, Nat.sub_zero]
  by_cases hz : i ≤ xs.length
  · rw [Nat.min_eq_left hz]
  · rw [Nat.min_eq_right (by omega), List.take_of_length_le (Nat.le_refl _), List.take_of_length_le (by omega)]
theorem cut_drop {xs : List V} {i : Nat} : cutV xs (some (i : Int)) none = xs.drop i := by
  unfold cutV
  rw [HT.sIx_none, HT.sIx_nat]
  by_cases hz : i ≤ xs.length
  · rw [Nat.min_eq_left hz, List.take_of_length_le (by rw [List.length_drop]; exact Nat.le_refl _)]
  · rw [Nat.min_eq_right (by omega), Nat.sub_self, List.take_zero, List.drop_eq_nil_of_le (by omega)]
section
variable {K : PySem.W.Frag} {σ : L2.St} {B : Hp} {te tl ta tb ti : TE} {a : Addr} {xs : List V} {ds es : List PyData} {as : List Addr}
theorem ezl_ofEl {xs : List V} (h : EvL te σ B xs) (hd : ∃ as, DzA B xs ds as) : EvZL te σ B ds := elp_of h fun H' e => by
  obtain ⟨as, z⟩ := hd
  exact ⟨as, z.ex e⟩
theorem ezl_take {i : Nat} (h : Ev te σ B (.ref a)) (hB : B a = some (.lst xs)) (hd : DzA B xs ds as) (hi : Ev ti σ B (.int (i : Int))) : EvZL (tSl (rSlL K) te tNoPart (tPart ti)) σ B (ds.take i) :=
  ezl_ofEl (by rw [← cut_take]; exact el_sl h eo_none (eo_some hi) (sq_of hB)) (hd.take i)
theorem ezl_drop {i : Nat} (h : Ev te σ B (.ref a)) (hB : B a = some (.lst xs)) (hd : DzA B xs ds as) (hi : Ev ti σ B (.int (i : Int))) : EvZL (tSl (rSlL K) te (tPart ti) tNoPart) σ B (ds.drop i) :=
  ezl_ofEl (by rw [← cut_drop]; exact el_sl h (eo_some hi) eo_none (sq_of hB)) (hd.drop i)
theorem ezl_cat (h1 : EvZL ta σ B ds) (h2 : EvZL tb σ B es) (hz : ds.length + es.length ≤ 100000) : EvZL (tOp rCat ta tb) σ B (ds ++ es) := fun H1 e Q q =>
  h1 H1 e _ fun l xs H2 nl e2 hl k1 => h2 H2 (e.trans e2) _ fun r ys H3 nr e3 hr k2 => by
    have lx : xs.length = ds.length := by obtain ⟨_, z⟩ := k1.kn.now e e2; exact z.len
    have ly : ys.length = es.length := by obtain ⟨_, z⟩ := k2.kn.now (e.trans e2) e3; exact z.len
    refine ⟨l, r, xs, ys, rfl, rfl, e3 _ _ hl, hr, sz_of (by omega), fun p hp => ?_⟩
    refine q p (xs ++ ys) _ (fresh_back (e2.trans e3) hp) ((e2.trans e3).trans (Ex.new hp)) upd_same fun H' a b => ?_
    obtain ⟨as, z1⟩ := k1.kn H' a fun c o n h => b c o (ne_of_none (e3 _ _ h) hp) n (by rw [upd_ne (ne_of_none (e3 _ _ h) hp)]; exact e3 _ _ h)
    obtain ⟨bs, z2⟩ := k2.kn H' a fun c o n h => b c o (ne_of_none h hp) (fresh_back e2 n) (by rw [upd_ne (ne_of_none h hp)]; exact h)
    exact z1.app z2
/-- tuple(xs) -/
theorem ez_tupL (h : Ev te σ B (.ref a)) (hB : B a = some (.lst xs)) (hd : DzA B xs ds as) : EvZ (tCB (fun zs H Q => ∃ p ys, zs = [V.ref p] ∧ ((SqL K H p ys ∧ ∀ l, H l = none → Q (V.ref l) (upd H l (HO.tup ys))) ∨ (SqT K H p ys ∧ Q (V.ref p) H))) (tCons te tNil)) σ B (.tuple ds) := fun H1 e Q q =>
  h H1 e _ fun H2 e2 => ⟨a, xs, rfl, Or.inl ⟨sq_of (e2 _ _ (e _ _ hB)), fun l hl => q (.ref l) _ (e2.trans (Ex.new hl)) fun H' x b => ⟨_, .tup (b l _ (fresh_back e2 hl) upd_same) (hd.ex x)⟩⟩⟩
/-- xs[::-1] -/
theorem ez_revL (h : Ev te σ B (.ref a)) (hB : B a = some (.lst xs)) (hd : DzA B xs ds as) : EvZ (tRevL K te) σ B (.list ds.reverse) := fun H1 e Q q =>
  h H1 e _ fun H2 e2 => ⟨a, xs, rfl, sq_of (e2 _ _ (e _ _ hB)), fun l hl => q (.ref l) _ (e2.trans (Ex.new hl)) fun H' x b => by
    obtain ⟨bs, z⟩ := hd.rev
    exact ⟨_, .lst (b l _ (fresh_back e2 hl) upd_same) (z.ex x)⟩⟩
/-- tuple(d) -/
theorem ez_tupD {kvs : List (Key × V)} (h : Ev te σ B (.ref a)) (hB : B a = some (.dK kvs)) (hz : kvs.length ≤ 100000) : EvZ (tCB (fun zs H Q => ∃ (p : Addr) (kvs : List (Key × V)), zs = [V.ref p] ∧ Rd H p (HO.dK kvs) ∧ kvs.length ≤ 100000 ∧ ∀ l, H l = none → Q (V.ref l) (upd H l (HO.tup (kvs.map fun kv => kV kv.1)))) (tCons te tNil)) σ B (.tuple (kvs.map fun kv => keyD kv.1)) := fun H1 e Q q =>
  h H1 e _ fun H2 e2 => ⟨a, kvs, rfl, Or.inl (e2 _ _ (e _ _ hB)), hz, fun l hl => q (.ref l) _ (e2.trans (Ex.new hl)) fun H' x b => by
    have all : ∀ kvs : List (Key × V), ∃ bs, DzA H' (kvs.map fun kv => kV kv.1) (kvs.map fun kv => keyD kv.1) bs := fun kvs => by
      induction kvs with
      | nil => exact ⟨_, .nil⟩
      | cons kv r ih =>
        obtain ⟨bs, z⟩ := ih
        have hk : Dz H' (kV kv.1) (keyD kv.1) [] := by
          cases kv.1 with
          | inl i => exact .int i
          | inr z => exact .str z
        exact ⟨_, .cons hk z⟩
    obtain ⟨bs, z⟩ := all kvs
    exact ⟨_, .tup (b l _ (fresh_back e2 hl) upd_same) z⟩⟩
end
theorem has_hid {G : PyData → Prop} {s : Addr} {H : Hp} {v : V} (h : HasD G [s] H v) : ∃ d as, Dz (hid s H) v d as ∧ G d := by
  obtain ⟨R, d, as, e, hn, z, g⟩ := h
  refine ⟨d, as, z.ex fun b o hb => ?_, g⟩
  rw [hid_ne (ne_of_none hb (hn s (by simp)))]
  exact e _ _ hb
theorem SzA.app {dp : Nat} : ∀ {xs ys : List PyData} {w1 w2 : Nat}, SzA xs dp w1 → SzA ys dp w2 → SzA (xs ++ ys) dp (w1 + w2)
  | [], ys, w1, w2, _, h => h.le (Nat.le_refl _) (by omega)
  | x :: xs, ys, w1, w2, h, g => by
    have h1 := h.sh
    have h2 := h.sl
    have h3 := h.dp
    have h4 := h.wt
    simp only [PyData.showableAll, Bool.and_eq_true] at h1
    simp only [PyData.leavesShortAll, Bool.and_eq_true] at h2
    simp only [PyData.depthAll] at h3
    simp only [PyData.weightAll] at h4
    have t : SzA xs dp (PyData.weightAll xs) := ⟨h1.2, h2.2, by omega, Nat.le_refl _⟩
    have ih := SzA.app t g
    have i3 := ih.dp
    have i4 := ih.wt
    refine ⟨by rw [List.cons_append]; simp only [PyData.showableAll, h1.1, ih.sh, Bool.and_self], by rw [List.cons_append]; simp only [PyData.leavesShortAll, h2.1, ih.sl, Bool.and_self], ?_, ?_⟩
    · rw [List.cons_append]
      simp only [PyData.depthAll]
      omega
    · rw [List.cons_append]
      simp only [PyData.weightAll]
      omega
/-! data of logs -/
structure GoL (d : PyData) : Prop where
  pl : plL d = true
  ly : lyL d = true
  sz : Sz d 5 5000
structure OldE (d : PyData) : Prop where
  e : GoE d
  sz : Sz d 1 30
theorem sz_old {xs : List PyData} (h : ∀ x ∈ xs, OldE x) (l : xs.length ≤ 61) : SzA xs 3 1891 := (sza_all fun x hx => (h x hx).sz).le (by decide) (by omega)
theorem goL_list {xs : List PyData} (h : ∀ x ∈ xs, GoE x) (hz : SzA xs 3 5000) : GoL (.list xs) := ⟨List.all_eq_true.mpr fun x hx => (h x hx).pl, List.all_eq_true.mpr fun x hx => (h x hx).ly, (hz.list).le (by decide) (Nat.le_refl _)⟩
theorem goL_mid {a b : List PyData} {d : PyData} (ha : ∀ x ∈ a, OldE x) (la : a.length ≤ 61) (hd : GoE d) (hb : ∀ x ∈ b, OldE x) (lb : b.length ≤ 61) : GoL (.list (a ++ [d] ++ b)) := by
  refine goL_list (app_all (app_all (fun x hx => (ha x hx).e) (all_c hd all_n)) (fun x hx => (hb x hx).e)) ?_
  exact (SzA.app (SzA.app (sz_old ha la) (sza_cons hd.sz (sza_nil.le (Nat.zero_le 3) (Nat.le_refl 0)))) (sz_old hb lb)).le (Nat.le_refl _) (by decide)
theorem goL_two {a b : List PyData} (ha : ∀ x ∈ a, OldE x) (la : a.length ≤ 61) (hb : ∀ x ∈ b, OldE x) (lb : b.length ≤ 61) : GoL (.list (a ++ b)) := by
  refine goL_list (app_all (fun x hx => (ha x hx).e) (fun x hx => (hb x hx).e)) ?_
  exact (SzA.app (sz_old ha la) (sz_old hb lb)).le (Nat.le_refl _) (by decide)
theorem goL_old {a : List PyData} (ha : ∀ x ∈ a, OldE x) (la : a.length ≤ 61) : GoL (.list a) := goL_list (fun x hx => (ha x hx).e) ((sz_old ha la).le (Nat.le_refl _) (by decide))
theorem old_en {es : List En} (h : ∀ e ∈ es, e.ok) : ∀ x ∈ es.map En.data, OldE x := fun x hx => by
  obtain ⟨e, he, rfl⟩ := List.mem_map.mp hx
  exact ⟨goE_en (h e he), sz_en (h e he)⟩
theorem goL_log {es : List En} (h : ∀ e ∈ es, e.ok) (l : es.length ≤ 61) : GoL (logD es) := goL_old (old_en h) (by rw [List.length_map]; exact l)
/-- a dict of logs -/
theorem goV_dict {kds : List (PyData × PyData)} (h : ∀ kd ∈ kds, plA kd.1 = true ∧ Sz kd.1 5 5000 ∧ GoL kd.2) (l : kds.length ≤ 18) : GoV (.dict kds) := by
  refine ⟨?_, ?_, ((sz_dict (dp := 5) (w := 5000) fun kd hk => ⟨(h kd hk).2.1, (h kd hk).2.2.sz⟩)).le (by decide) (by omega)⟩
  · show (kds.all fun kd => plA kd.1 && plL kd.2) = true
    exact List.all_eq_true.mpr fun kd hk => by rw [(h kd hk).1, (h kd hk).2.2.pl]; rfl
  · show (kds.all fun kd => lyL kd.2) = true
    exact List.all_eq_true.mpr fun kd hk => (h kd hk).2.2.ly
theorem putK_set {kvs : List (Key × V)} {k : Nat} {key : Key} {u v : V} (nd : (kvs.map (·.1)).Nodup) (h : kvs[k]? = some (key, u)) : putK kvs key v = kvs.set k (key, v) := by
  unfold putK
  rw [if_pos (List.any_eq_true.mpr ⟨_, List.mem_of_getElem? h, decide_eq_true rfl⟩)]
  refine List.ext_getElem? fun j => ?_
  rw [List.getElem?_map, List.getElem?_set]
  have hk := (List.getElem?_eq_some_iff.mp h).1
  by_cases hj : k = j
  · subst hj
    rw [if_pos rfl, if_pos hk, h]
    show some (if key = key then (key, v) else (key, u)) = _
    rw [if_pos rfl]
  · rw [if_neg hj]
    cases hx : kvs[j]? with
    | none => rfl
    | some kv =>
      show some (if kv.1 = key then (kv.1, v) else kv) = some kv
      rw [if_neg]
      intro z
      have h1 : (kvs.map (·.1))[k]? = some key := by rw [List.getElem?_map, h]; rfl
      have h2 : (kvs.map (·.1))[j]? = some key := by rw [List.getElem?_map, hx, ← z]; rfl
      exact hj ((List.getElem?_inj (by rw [List.length_map]; exact hk) nd (j := j)).mp (h1.trans h2.symm))
end Vx

set_option Elab.async false
set_option linter.all false
set_option maxRecDepth 100000
set_option maxHeartbeats 8000000
namespace Vx
open PySem PySem.Spec PyProof.Rows L2 Evl
theorem ekl_ofEl {s : Addr} {te : TE} {σ : L2.St} {B : Hp} {xs : List V} (h : EvL te σ B xs) : EvKL s 0 te σ B (fun vs => vs = xs) := fun H1 n e S b Q q => h H1 e Q fun p H2 np e2 h2 => q p xs H2 np (kb_ex e2) (S.ex e2) h2 rfl
theorem refs_inj : ∀ {as bs : List Addr}, as.map V.ref = bs.map V.ref → as = bs
  | [], [], _ => rfl
  | [], _ :: _, h => by cases h
  | _ :: _, [], h => by cases h
  | a :: as, b :: bs, h => by
    injection h with h1 h2
    rw [V.ref.inj h1, refs_inj h2]
theorem keys_set {kvs : List (Key × V)} {k : Nat} {key : Key} {u v : V} (h : kvs[k]? = some (key, u)) : (kvs.set k (key, v)).map (·.1) = kvs.map (·.1) := by
  rw [List.map_set]
  refine List.ext_getElem? fun j => ?_
  rw [List.getElem?_set]
  by_cases hj : k = j
  · subst hj
    have hk := (List.getElem?_eq_some_iff.mp h).1
    rw [if_pos rfl, if_pos (by rw [List.length_map]; exact hk), List.getElem?_map, h]
    rfl
  · rw [if_neg hj]
def choice : List Nat := [0, 0, 0, 1, 1, 2, 3, 4, 5, 6, 7, 8, 9, 10]
theorem choice_at {t : Nat} (h : t < 14) : ∃ j : Nat, j < 11 ∧ (choice.map fun j : Nat => V.int (j : Int))[t]? = some (.int (j : Int)) := by
  have hl : t < choice.length := h
  refine ⟨choice[t], ?_, by rw [List.getElem?_map, List.getElem?_eq_getElem hl]; rfl⟩
  exact (by decide : ∀ j ∈ choice, j < 11) _ (List.getElem_mem hl)
def spChanged : Sp := fun vs H Q _ => ∃ (s d : Addr) (n : Nat) (ws : List Str) (ps : List Addr) (L : List (List En)), vs = [.ref s, .ref d] ∧ Src H s n ∧ n + 20 ≤ 1000000000 ∧ HL H d ws ps L ∧ s ∉ ps ∧ Vlog 60 ws L ∧ (∀ w ∈ ws, w ∈ wk10) ∧
  ∀ v H', KB s H H' → Src H' s (n + 8) → HasD GoV [s] H' v → Q v H'
section
variable {P : Program} {w : World} {K : PySem.W.Frag} {mg : Str → Option Value} {base : Heap}
theorem sc_law_changed : FnScope ["source", "rows", "name", "log", "spot", "to", "old", "new", "new_logs", "found"] ["source", "rows"] (defScope s_law_changed) := ⟨rfl, rfl, rfl, by decide +kernel, rfl, by decide +kernel, by decide +kernel⟩
theorem ok_law_changed (D : Def K mg "_law_changed" s_law_changed ["source", "rows"]) (T : Bl mg) (G_law_pick : Good P w K mg base 1 "_law_pick" ["source", "count"] spPick) (G_law_entry : Good P w K mg base 2 "_law_entry" ["source", "rows", "name", "old"] spLawE) : Good P w K mg base 3 "_law_changed" ["source", "rows"] spChanged := by
  refine D.good sc_law_changed (fun vs H Q E h => ?_) (fun f cdv A outer s0 H vs Q E hr h => ?_)
  · obtain ⟨s, d, n, ws, ps, L, rfl, _⟩ := h
    rfl
  · obtain ⟨s, d, n, ws, ps, L, rfl, hs, hn, hl, hsp, v, hwk, q⟩ := h
    have hu := hu_of hr
    refine ⟨_, (pss_cons (ps_set (i := 2) sc_law_changed.nd rfl (Or.inl rfl) (x_ixl (K := K) (pe_callB (call_sortDk rfl) (by rfl) T.sorted (by decide +kernel) (pa_cons (pv 1) pa_nil)) (pe_fn (G_law_pick.mono (by decide)) hr (pa_cons (pv 0) (pa_cons (pe_callB call_lenD (by rfl) T.len PySem.boot_len (pa_cons (pv 1) pa_nil)) pa_nil)))))
      (pss_cons (ps_set (i := 3) sc_law_changed.nd rfl (Or.inl rfl) (pe_dget hu (pv 1) (pv 2) (fun _ _ => rfl)))
      (pss_cons (ps_par (i := 4) (j := 5) rfl sc_law_changed.nd rfl rfl (by decide) rfl rfl (pa_cons (pe_fn (G_law_pick.mono (by decide)) hr (pa_cons (pv 0) (pa_cons (pe_op op_add (x_len (K := K) T (pv 3)) pe_int) pa_nil))) (pa_cons (pe_fn (G_law_pick.mono (by decide)) hr (pa_cons (pv 0) (pa_cons (pe_op op_add (x_len (K := K) T (pv 3)) pe_int) pa_nil))) pa_nil)) (by rfl))
      (pss_cons (ps_set (i := 6) sc_law_changed.nd rfl (Or.inl rfl) (x_ixl (K := K) (pe_op op_cat (pv 3) (pe_lst (pa_cons (pe_tup (pa_cons pe_str (pa_cons pe_int pa_nil))) pa_nil))) (pv 4)))
      (pss_cons (ps_set (i := 7) sc_law_changed.nd rfl (Or.inl rfl) (pe_fn (G_law_entry.mono (by decide)) hr (pa_cons (pv 0) (pa_cons (pv 1) (pa_cons (pv 2) (pa_cons (pv 6) pa_nil))))))
      (pss_cons (ps_set (i := 8) sc_law_changed.nd rfl (Or.inl rfl) (pe_lst (pa_cons (pe_op op_cat (pe_op op_cat (pe_slice sl_list (pv 3) po_none (po_some (pv 4))) (pe_lst (pa_cons (pv 7) pa_nil))) (pe_slice sl_list (pv 3) (po_some (pe_op op_add (pv 4) pe_int)) po_none)) (pa_cons (pe_op op_cat (pe_op op_cat (pe_slice sl_list (pv 3) po_none (po_some (pv 4))) (pe_lst (pa_cons (pv 7) pa_nil))) (pe_slice sl_list (pv 3) (po_some (pv 4)) po_none)) (pa_cons (pe_op op_cat (pe_slice sl_list (pv 3) po_none (po_some (pv 4))) (pe_slice sl_list (pv 3) (po_some (pe_op op_add (pv 4) pe_int)) po_none)) pa_nil)))))
      (pss_cons (ps_set (i := 8) sc_law_changed.nd rfl (Or.inl rfl) (pe_op op_cat (pv 8) (pe_lst (pa_cons (pe_op op_cat (pe_op op_cat (pe_slice sl_list (pv 3) po_none (po_some (pv 5))) (pe_lst (pa_cons (pv 6) pa_nil))) (pe_slice sl_list (pv 3) (po_some (pv 5)) po_none)) (pa_cons (pe_callTy (hc := call_tuple_of) (hg := by rfl) (hm := T.tuple) (hv := by decide +kernel) (ha := pa_cons (pv 3) pa_nil)) (pa_cons (pe_revL (pv 3)) (pa_cons pe_non (pa_cons pe_str (pa_cons pe_dnewK (pa_cons (pe_lst (pa_cons (pv 3) pa_nil)) pa_nil))))))))))
      (pss_cons (ps_expr (x_bm (K := K) PySem.F.plainAttrs_list PySem.F.slot_list_append PySem.F.type_list_append mt_append (pv 8) (pa_cons (pe_op op_cat (pe_slice sl_list (pv 3) (po_some (pv 4)) po_none) (pe_slice sl_list (pv 3) po_none (po_some (pv 4)))) pa_nil)))
      (pss_cons (ps_set (i := 9) sc_law_changed.nd rfl (Or.inl rfl) (pe_callTy (hc := call_dictD) (hg := by rfl) (hm := T.dict) (hv := by decide +kernel) (ha := pa_cons (pv 1) pa_nil)))
      (pss_cons (ps_dput hu (pv 9) (pv 2) (x_ixl (K := K) (pv 8) (x_ixl (K := K) (pe_lst (pa_cons pe_int (pa_cons pe_int (pa_cons pe_int (pa_cons pe_int (pa_cons pe_int (pa_cons pe_int (pa_cons pe_int (pa_cons pe_int (pa_cons pe_int (pa_cons pe_int (pa_cons pe_int (pa_cons pe_int (pa_cons pe_int (pa_cons pe_int pa_nil))))))))))))))) (pe_fn (G_law_pick.mono (by decide)) hr (pa_cons (pv 0) (pa_cons pe_int pa_nil))))) rfl)
      (pss_one (ps_ret (pv 9))))))))))))), ?_⟩
    obtain ⟨xs0, hs0⟩ := hs.at_
    have nd := v.wk.2.2.1
    have pns : ∀ p ∈ ps, p ≠ s := fun p hp z => hsp (by rw [← z]; exact hp)
    -- the name
    refine te_mate (n := n) rfl rfl hs (by omega) hl v.wk.1 v.wk.2.1 fun name H1 hname k1 S1 => ?_
    have hnm : IsNm name := v.wk.2.2.2 name hname
    have hl1 := hl.kb k1 hs0 pns
    obtain ⟨xs1, hs1⟩ := S1.at_
    obtain ⟨k, hk⟩ := List.mem_iff_getElem?.mp hname
    have hkl := (List.getElem?_eq_some_iff.mp hk).1
    obtain ⟨pk, hpk⟩ : ∃ p, ps[k]? = some p := ⟨_, List.getElem?_eq_getElem (by rw [hl.pl]; exact hkl)⟩
    obtain ⟨es, hes⟩ : ∃ es, L[k]? = some es := ⟨_, List.getElem?_eq_getElem (by rw [v.len]; exact hkl)⟩
    have npk := pns pk (List.mem_of_getElem? hpk)
    have eok := v.ent _ (List.mem_of_getElem? hes)
    -- the log
    dsimp only [gName]
    refine q_asg (v := .ref pk) (ev_dgetQ (ev_var rfl) (ev_var rfl) hl1.r.rd (dk_get nd hk hpk)) fun H2 e2 => ?_
    have hl2 := hl1.ex e2
    have S2 := S1.ex e2
    have hs2 := e2 _ _ hs1
    obtain ⟨as, ha2, hpa2⟩ := hl2.lg k pk es hpk hes
    have al : as.length = es.length := by rw [hpa2.length, List.length_map]
    have lm : (as.map V.ref).length = es.length := by rw [List.length_map, al]
    have haB : hid s H2 pk = some (.lst (as.map V.ref)) := by rw [hid_ne npk]; exact ha2
    have hB := hid_s s H2
    have le : Ev (tOp (rI0 fun i j => V.int (i + j)) (tCB (rLenS K) (tCons (tVar 3) tNil)) (tC (V.int 1))) [some (.ref s), some (.ref d), some (.str name), some (.ref pk), none, none, none, none, none, none] (hid s H2) (.int ((es.length : Int) + 1)) := by
      have := ev_op (ev_lenA (K := K) (σ := [some (.ref s), some (.ref d), some (.str name), some (.ref pk), none, none, none, none, none, none]) (H := hid s H2) (ta := tVar 3) (p := pk) (xs := as.map V.ref) (ev_var rfl) (Or.inl (sq_of haB))) (ev_c (v := .int 1)) (rv_I0 (g := fun i j => V.int (i + j)))
      rw [lm] at this
      exact this
    -- the spots
    refine sk_par (D := ⟨_, Q, _, _⟩) (s := s) (n := n + 1) (P1 := fun v => ∃ r : Int, v = .int r ∧ 0 ≤ r ∧ r < (es.length : Int) + 1) (P2 := fun v => ∃ r : Int, v = .int r ∧ 0 ≤ r ∧ r < (es.length : Int) + 1) S2 (eka_cons hB (ek_pick (c := 0) (m := (es.length : Int) + 1) hB rfl (ek_of le rfl) (by omega) (by have := eok.1; omega)) (eka_cons hB (ek_pick (c := 0) (m := (es.length : Int) + 1) hB rfl (ek_of le rfl) (by omega) (by have := eok.1; omega)) eka_nil)) (by omega) fun x1 x2 H3 k3 S3 hx1 hx2 => ?_
    obtain ⟨spot, rfl, sp0, sp1⟩ := hx1
    obtain ⟨to, rfl, to0, to1⟩ := hx2
    obtain ⟨i, rfl⟩ : ∃ i : Nat, spot = (i : Int) := ⟨spot.toNat, by omega⟩
    obtain ⟨j, rfl⟩ : ∃ j : Nat, to = (j : Int) := ⟨to.toNat, by omega⟩
    have S3 : Src H3 s (n + 3) := S3.le (by omega)
    have hl3 := hl2.kb k3 hs2 pns
    obtain ⟨xs3, hs3⟩ := S3.at_
    have ha3 := k3 _ _ npk ha2
    have hpa3 : Paired (fun a t => H3 a = some (.tup t)) as (es.map En.vs) := paired_imp (fun a t z => k3 _ _ (fun y => by rw [y, hs2] at z; cases z) z) hpa2
    -- the old one
    have hpB : pk ≠ s := npk
    refine ⟨_, rfl, tl_one (vs := [.str "size", .int 0]) (eu_tup (ea_cons ev_c (ea_cons ev_c ea_nil)) (by show 2 ≤ 100000; decide)) fun t m H4 e4 h4t h4m => ⟨pk, m, as.map V.ref, [.ref t], rfl, rfl, e4 _ _ ha3, h4m, sz_of (by rw [lm]; have := eok.1; show es.length + 1 ≤ 100000; omega), fun g hg => ?_⟩⟩
    have e5 : Ex H4 (upd H4 g (.lst (as.map V.ref ++ [.ref t]))) := Ex.new hg
    have h5g : (upd H4 g (.lst (as.map V.ref ++ [.ref t]))) g = some (.lst (as.map V.ref ++ [.ref t])) := upd_same
    generalize upd H4 g (.lst (as.map V.ref ++ [.ref t])) = H5 at e5 h5g ⊢
    have E35 := e4.trans e5
    have hold : ∃ (o : Addr) (e : En), (as.map V.ref ++ [V.ref t])[i]? = some (.ref o) ∧ H5 o = some (.tup e.vs) ∧ e.ok := by
      by_cases hi : i < es.length
      · have h1 := List.getElem?_eq_getElem hi
        obtain ⟨o, h2, h3⟩ := paired_get hpa3 (i := i) (by rw [List.getElem?_map, h1]; rfl)
        refine ⟨o, es[i], ?_, E35 _ _ h3, eok.2 _ (List.getElem_mem hi)⟩
        rw [List.getElem?_append_left (by rw [lm]; exact hi), List.getElem?_map, h2]
        rfl
      · refine ⟨t, .size 0, ?_, e5 _ _ h4t, ⟨by decide, by decide⟩⟩
        rw [List.getElem?_append_right (by rw [lm]; omega), show i - (as.map V.ref).length = 0 by rw [lm]; omega]
        rfl
    obtain ⟨o, oe, ho1, ho5, oke⟩ := hold
    refine ⟨_, rfl, g, _, (i : Int), .ref o, rfl, rfl, sq_of h5g, atI_nat ho1, ?_⟩
    have S5 := S3.ex E35
    have hl5 := hl3.ex E35
    obtain ⟨xs5, hs5⟩ := S5.at_
    have ha5 := E35 _ _ ha3
    -- the new one
    dsimp only [gName]
    refine ⟨_, rfl, _, rfl, _, rfl, _, rfl, s, d, o, _, name, oe, ws, ps, L, rfl, S5, by omega, hl5, hsp, v, hname, ho5, oke, fun nv H6 k6 S6 hnv => ?_⟩
    have S6 : Src H6 s (n + 6) := S6.le (by omega)
    have hl6 := hl5.kb k6 hs5 pns
    obtain ⟨xs6, hs6⟩ := S6.at_
    have nos : o ≠ s := fun z => by rw [z, hs5] at ho5; cases ho5
    have ho6 := k6 _ _ nos ho5
    have ha6 := k6 _ _ npk ha5
    -- the lists
    obtain ⟨dn, ans, dzn, gn⟩ := has_hid hnv
    have hlB := hl_hid hl6 hs6 hsp
    have haB6 : hid s H6 pk = some (.lst (as.map V.ref)) := by rw [hid_ne npk]; exact ha6
    have hoB6 : hid s H6 o = some (.tup oe.vs) := by rw [hid_ne nos]; exact ho6
    obtain ⟨as', ha', hpa'⟩ := hlB.lg k pk es hpk hes
    have aeq : as' = as := by
      rw [ha'] at haB6
      injection Option.some.inj haB6 with h1
      exact refs_inj h1
    subst aeq
    obtain ⟨bs6, dz6⟩ := ens_dz hpa'
    obtain ⟨DD, hDD⟩ : ∃ DD, es.map En.data = DD := ⟨_, rfl⟩
    have oldD : ∀ x ∈ DD, OldE x := by rw [← hDD]; exact old_en eok.2
    have lD : DD.length ≤ 60 := by rw [← hDD, List.length_map]; exact eok.1
    rw [hDD] at dz6
    have oldT : ∀ c : Nat, (∀ x ∈ DD.take c, OldE x) ∧ (DD.take c).length ≤ 61 := fun c => ⟨fun x hx => oldD x (List.mem_of_mem_take hx), by rw [List.length_take]; omega⟩
    have oldR : ∀ c : Nat, (∀ x ∈ DD.drop c, OldE x) ∧ (DD.drop c).length ≤ 61 := fun c => ⟨fun x hx => oldD x (List.mem_of_mem_drop hx), by rw [List.length_drop]; omega⟩
    have ix1 : ∀ {B : Hp}, Ev (tOp (rI0 fun i j => V.int (i + j)) (tVar 4) (tC (V.int 1))) [some (.ref s), some (.ref d), some (.str name), some (.ref pk), some (.int (i : Int)), some (.int (j : Int)), some (.ref o), some nv, none, none] B (.int ((i + 1 : Nat) : Int)) := fun {B} => Evl.ev_is (ev_op (ev_var rfl) ev_c rv_I0) rfl
    dsimp only [gName]
    refine s_asgHas (G := GoL) (s := s) (ds := [.list (DD.take i ++ [dn] ++ DD.drop (i + 1)), .list (DD.take i ++ [dn] ++ DD.drop i), .list (DD.take i ++ DD.drop (i + 1))]) hs6 (ezl_lst (eza_cons (ez_ofL (ezl_cat (ezl_cat (ezl_take (ev_var rfl) ha' dz6 (ev_var rfl)) (ezl_lst (eza_cons (ez_v (ev_var rfl) ⟨_, dzn⟩) eza_nil) (by show 1 ≤ 100000; decide)) ?_) (ezl_drop (ev_var rfl) ha' dz6 ix1) ?_)) (eza_cons (ez_ofL (ezl_cat (ezl_cat (ezl_take (ev_var rfl) ha' dz6 (ev_var rfl)) (ezl_lst (eza_cons (ez_v (ev_var rfl) ⟨_, dzn⟩) eza_nil) (by show 1 ≤ 100000; decide)) ?_) (ezl_drop (ev_var rfl) ha' dz6 (ev_var rfl)) ?_)) (eza_cons (ez_ofL (ezl_cat (ezl_take (ev_var rfl) ha' dz6 (ev_var rfl)) (ezl_drop (ev_var rfl) ha' dz6 ix1) ?_)) eza_nil))) (by show 3 ≤ 100000; decide)) (all_c (goL_mid (oldT i).1 (oldT i).2 gn (oldR _).1 (oldR _).2) (all_c (goL_mid (oldT i).1 (oldT i).2 gn (oldR _).1 (oldR _).2) (all_c (goL_two (oldT i).1 (oldT i).2 (oldR _).1 (oldR _).2) all_n))) fun p7 vs7 H7 n7 e7 h7 l7 g7 => ?_
    · rw [List.length_take]; show min i DD.length + 1 ≤ 100000; omega
    · rw [List.length_append, List.length_take, List.length_drop]; show min i DD.length + 1 + _ ≤ 100000; omega
    · rw [List.length_take]; show min i DD.length + 1 ≤ 100000; omega
    · rw [List.length_append, List.length_take, List.length_drop]; show min i DD.length + 1 + _ ≤ 100000; omega
    · rw [List.length_take, List.length_drop]; omega
    have l7 : vs7.length = 3 := l7
    have hs7 := e7 _ _ hs6
    have ha7 := e7 _ _ ha6
    have ho7 := e7 _ _ ho6
    have dz7 : DzA (hid s H7) (as'.map V.ref) DD bs6 := dz6.ex (fun b u hb => by
      by_cases z : b = s
      · rw [z, hid_s] at hb; cases hb
      · rw [hid_ne z] at hb ⊢
        exact e7 _ _ hb)
    have haB7 : hid s H7 pk = some (.lst (as'.map V.ref)) := by rw [hid_ne npk]; exact ha7
    have hoB7 : hid s H7 o = some (.tup oe.vs) := by rw [hid_ne nos]; exact ho7
    have oldO : OldE oe.data := ⟨goE_en oke, sz_en oke⟩
    dsimp only [gName]
    refine s_catHas (G := GoL) (s := s) (ds := [.list (DD.take j ++ [oe.data] ++ DD.drop j), .tuple DD, .list DD.reverse, .none, .str "", .dict [], .list [.list DD]]) hs7 h7 (ev_var rfl) (has_s g7) (ezl_lst (eza_cons (ez_ofL (ezl_cat (ezl_cat (ezl_take (ev_var rfl) haB7 dz7 (ev_var rfl)) (ezl_lst (eza_cons (ez_v (ev_var rfl) ⟨_, en_dz hoB7⟩) eza_nil) (by show 1 ≤ 100000; decide)) ?_) (ezl_drop (ev_var rfl) haB7 dz7 (ev_var rfl)) ?_)) (eza_cons (ez_tupL (ev_var rfl) haB7 dz7) (eza_cons (ez_revL (ev_var rfl) haB7 dz7) (eza_cons ez_non (eza_cons ez_str (eza_cons ez_disp0 (eza_cons (ez_lst (eza_cons (ez_v (ev_var rfl) ⟨_, .lst haB7 dz7⟩) eza_nil) (by show 1 ≤ 100000; decide)) eza_nil))))))) (by show 7 ≤ 100000; decide)) (all_c (goL_mid (oldT j).1 (oldT j).2 oldO.e (oldR _).1 (oldR _).2) (all_c ⟨rfl, rfl, (((sz_old oldD (by omega)).tuple)).le (by decide) (by decide)⟩ (all_c (goL_old (fun x hx => oldD x (List.mem_reverse.mp hx)) (by rw [List.length_reverse]; omega)) (all_c ⟨rfl, rfl, sz_of_ok (by decide +kernel)⟩ (all_c ⟨by decide +kernel, rfl, sz_of_ok (by decide +kernel)⟩ (all_c ⟨rfl, rfl, sz_of_ok (by decide +kernel)⟩ (all_c ?_ all_n))))))) (by rw [l7]; show 3 + 7 ≤ 100000; decide) fun p8 vs8 H8 n8 e8 h8 l8 g8 => ?_
    · rw [List.length_take]; show min j DD.length + 1 ≤ 100000; omega
    · rw [List.length_append, List.length_take, List.length_drop]; show min j DD.length + 1 + _ ≤ 100000; omega
    · have ll : DD.all lyE = true := List.all_eq_true.mpr fun x hx => (oldD x hx).e.ly
      obtain ⟨la, lb⟩ := lay_all ll
      have dep : PyData.depthAll DD ≤ 3 := (sz_old oldD (by omega)).dp
      refine ⟨rfl, ?_, ((sza_cons (((sz_old oldD (by omega)).list)) (sza_nil.le (Nat.zero_le _) (Nat.le_refl 0))).list).le (by decide) (by decide)⟩
      show ((PyData.canLay0 _ && decide (PyData.depth _ ≤ 8)) && true) = true
      simp only [PyData.canLay0, PyData.depth, la, Bool.true_and, Bool.and_true]
      exact decide_eq_true (by omega)
    rw [l7] at l8
    have l8 : vs8.length = 10 := l8
    have hs8 := e8 _ _ hs7
    have ha8 := e8 _ _ ha7
    have dz8 : DzA (hid s H8) (as'.map V.ref) DD bs6 := dz7.ex (fun b u hb => by
      by_cases z : b = s
      · rw [z, hid_s] at hb; cases hb
      · rw [hid_ne z] at hb ⊢
        exact e8 _ _ hb)
    have n8s : p8 ≠ s := fun z => by rw [z, hs7] at n8; cases n8
    have n8p : pk ≠ p8 := fun z => by rw [← z, ha7] at n8; cases n8
    have g8s := has_s g8
    -- the last one
    have ex78 : Ex (hid s H7) (hid p8 (hid s H8)) := fun b u hb => by
      by_cases z : b = s
      · rw [z, hid_s] at hb; cases hb
      · rw [hid_ne z] at hb
        rw [hid_ne (ne_of_none hb n8), hid_ne z]
        exact e8 _ _ hb
    refine s_appZ (D := ⟨_, Q, _, _⟩) (B := hid p8 (hid s H8)) ((hid_ex p8 _).trans (hid_ex s H8)) (hid_s p8 _) h8 (ev_var rfl) (ez_ofL (ezl_cat (ezl_drop (ev_var rfl) (ex78 _ _ haB7) (dz7.ex ex78) (ev_var rfl)) (ezl_take (ev_var rfl) (ex78 _ _ haB7) (dz7.ex ex78) (ev_var rfl)) (by rw [List.length_take, List.length_drop]; omega))) (by rw [l8]; decide) fun v9 R9 H9 k9 h9 bR9 rH9 hp9 hR9 z9 => ?_
    have hS9 : R9 s = none := hR9 s (by rw [hid_ne n8s.symm]; exact hid_s s _) (by rw [hs8]; exact fun z => nomatch z)
    have g9 : ∀ x ∈ vs8 ++ [v9], HasD GoL [p8, s] H9 x := app_all (fun x hx => (g8 x hx).kb (by simp) k9) (all_c (by
      obtain ⟨as, z⟩ := z9
      exact ⟨R9, _, as, rH9, all_c hp9 (all_c hS9 all_n), z, goL_two (oldR i).1 (oldR i).2 (oldT i).1 (oldT i).2⟩) all_n)
    have l9 : (vs8 ++ [v9]).length = 11 := by
      rw [List.length_append, l8]
      rfl
    generalize vs8 ++ [v9] = vs9 at h9 g9 l9
    have e79 : Ex H7 H9 := fun b u hb => k9 b u (ne_of_none hb n8) (e8 _ _ hb)
    have hs9 := e79 _ _ hs7
    have hl9 := (hl6.ex e7).ex e79
    -- found
    refine ⟨_, rfl, d, Dk ws ps, rfl, Or.inl hl9.dk, fun f hf => ?_⟩
    have e10 : Ex H9 (upd H9 f (.dK (Dk ws ps))) := Ex.new hf
    have hf10 : (upd H9 f (.dK (Dk ws ps))) f = some (.dK (Dk ws ps)) := upd_same
    generalize upd H9 f (.dK (Dk ws ps)) = H10 at e10 hf10 ⊢
    have nfs : f ≠ s := fun z => by rw [z, hs9] at hf; cases hf
    have S10 : Src H10 s (n + 6) := S6.ex ((e7.trans e79).trans e10)
    have hs10 := e10 _ _ hs9
    dsimp only [gName]
    have tv : EvK s 1 (tOp (rIxL K) (tLst (tCons (tC (V.int 0)) (tCons (tC (V.int 0)) (tCons (tC (V.int 0)) (tCons (tC (V.int 1)) (tCons (tC (V.int 1)) (tCons (tC (V.int 2)) (tCons (tC (V.int 3)) (tCons (tC (V.int 4)) (tCons (tC (V.int 5)) (tCons (tC (V.int 6)) (tCons (tC (V.int 7)) (tCons (tC (V.int 8)) (tCons (tC (V.int 9)) (tCons (tC (V.int 10)) tNil))))))))))))))) (tCall spPick [] E0 (tCons (tVar 0) (tCons (tC (V.int 14)) tNil)))) [some (.ref s), some (.ref d), some (.str name), some (.ref pk), some (.int (i : Int)), some (.int (j : Int)), some (.ref o), some nv, some (.ref p8), some (.ref f)] (hid s H10) (fun v => ∃ jj : Nat, jj < 11 ∧ v = .int (jj : Int)) :=
      ek_ixL (c := 0) (d := 1) (PL := fun vs => vs = choice.map fun j : Nat => V.int (j : Int)) (P' := fun v => ∃ r : Int, v = .int r ∧ 0 ≤ r ∧ r < 14) (hid_s s H10) (ekl_ofEl (el_lst (ea_cons ev_c (ea_cons ev_c (ea_cons ev_c (ea_cons ev_c (ea_cons ev_c (ea_cons ev_c (ea_cons ev_c (ea_cons ev_c (ea_cons ev_c (ea_cons ev_c (ea_cons ev_c (ea_cons ev_c (ea_cons ev_c (ea_cons ev_c ea_nil)))))))))))))) (by show 14 ≤ 100000; decide))) (ek_pick (c := 0) (m := 14) (hid_s s H10) rfl (ek_of ev_c rfl) (by decide) (by decide)) (fun xs y hxs hy => by
        subst hxs
        obtain ⟨r, rfl, r0, r1⟩ := hy
        obtain ⟨t, rfl⟩ : ∃ t : Nat, r = (t : Int) := ⟨r.toNat, by omega⟩
        obtain ⟨jj, h1, h2⟩ := choice_at (t := t) (by omega)
        exact ⟨_, _, rfl, atI_nat h2, jj, h1, rfl⟩)
    refine ⟨.ref p8, rfl, tv H10 _ (hid_ex s H10) S10 (by omega) _ fun y H11 k11 S11 hy => ?_⟩
    obtain ⟨jj, hjj, rfl⟩ := hy
    have hjl : jj < vs9.length := by omega
    have hxj := List.getElem?_eq_getElem hjl
    generalize vs9[jj] = x at hxj
    have hx := g9 x (List.mem_of_getElem? hxj)
    have h11p := k11 _ _ n8s (e10 _ _ h9)
    have h11f := k11 _ _ nfs hf10
    have dkl : (Dk ws ps).length = ws.length := dk_len hl.pl
    have w6 := v.wk.2.1
    refine ⟨p8, vs9, (jj : Int), x, rfl, rfl, sq_of h11p, atI_nat hxj, .ref f, rfl, .str name, rfl, f, _, rfl, DPut.k (k := .inr name) h11f (sz_lt (by omega)), .ref f, rfl, ?_⟩
    have hat : (Dk ws ps)[k]? = some (.inr name, .ref pk) := by
      have hz : (ws.zip ps)[k]? = some (name, pk) := List.getElem?_zip_eq_some.mpr ⟨hk, hpk⟩
      unfold Dk
      rw [List.getElem?_map, hz]
      rfl
    have ndk : ((Dk ws ps).map (·.1)).Nodup := by
      rw [dk_keys hl.pl]
      unfold List.Nodup at nd ⊢
      rw [List.pairwise_map]
      exact nd.imp fun h e => h (Sum.inr.inj e)
    rw [putK_set ndk hat]
    have kF : KB s H9 (upd H11 f (.dK ((Dk ws ps).set k (.inr name, x)))) := fun b u n hb => by
      rw [upd_ne (ne_of_none hb hf)]
      exact k11 _ _ n (e10 _ _ hb)
    have hFf : (upd H11 f (.dK ((Dk ws ps).set k (.inr name, x)))) f = some (.dK ((Dk ws ps).set k (.inr name, x))) := upd_same
    have SF : Src (upd H11 f (.dK ((Dk ws ps).set k (.inr name, x)))) s (n + 8) := (S11.upd nfs.symm).le (by omega)
    generalize upd H11 f (.dK ((Dk ws ps).set k (.inr name, x))) = HF at kF hFf SF ⊢
    have exF : Ex (hid s H9) (hid s HF) := fun b u hb => by
      by_cases z : b = s
      · rw [z, hid_s] at hb; cases hb
      · rw [hid_ne z] at hb ⊢
        exact kF b u z hb
    obtain ⟨dx, ax, dzx, gx⟩ := has_hid (hx.sub (S' := [s]) (all_c (by simp) all_n))
    obtain ⟨bs9, dz9⟩ := hl_dza (hl_hid hl9 hs9 hsp) v.len
    obtain ⟨cs, dzs⟩ := (dz9.ex exF).set (dzx.ex exF) k
    have kk := keys_set (v := x) hat
    have dzF := Dz.dict (H := hid s HF) (p := f) (by rw [hid_ne nfs]; exact hFf) (by rw [kk]; exact ndk) (ds := (L.map logD).set k dx) (as := cs) (by rw [List.map_set]; exact dzs)
    have ez : zipD ((Dk ws ps).set k (.inr name, x)) ((L.map logD).set k dx) = kdsOf ws ((L.map logD).set k dx) := by
      rw [← kds_dk hl.pl]
      unfold zipD
      congr 1
      have := congrArg (List.map keyD) kk
      rw [List.map_map, List.map_map] at this
      exact this
    rw [ez] at dzF
    refine q (.ref f) HF (((((k1.trans (kb_ex e2)).trans k3).trans (kb_ex E35)).trans k6).trans ((kb_ex (e7.trans e79)).trans kF)) SF ⟨hid s HF, _, _, hid_ex s HF, all_c (hid_s s HF) all_n, dzF, goV_dict (fun kd hkd => ?_) ?_⟩
    · obtain ⟨w, h1, h2, h3⟩ := kds_mem hkd
      have wn := v.wk.2.2.2 w h1
      refine ⟨by rw [h2]; exact plA_nm wn, by rw [h2]; exact (sz_nm wn).le (by decide) (by decide), ?_⟩
      rcases List.mem_or_eq_of_mem_set h3 with h | h
      · obtain ⟨es', h4, e⟩ := List.mem_map.mp h
        rw [← e]
        have := v.ent _ h4
        exact goL_log this.2 (by omega)
      · rw [h]
        exact gx
    · unfold kdsOf
      rw [List.length_zip, List.length_map]
      omega
end
end Vx

set_option Elab.async false
set_option linter.all false
set_option maxRecDepth 100000
set_option maxHeartbeats 8000000
namespace Vx
open PySem PySem.Spec PyProof.Rows L2 Evl
theorem zip_dk {kvs : List (Key × V)} {ds : List PyData} : zipD kvs ds = ((kvs.map (·.1)).map keyD).zip ds := by
  unfold zipD
  rw [List.map_map]
  rfl
/-- d[k] = v, as data -/
theorem put_dz {R : Hp} {kvs : List (Key × V)} {ds : List PyData} {as bs : List Addr} {key : Key} {v : V} {d : PyData} (nd : (kvs.map (·.1)).Nodup) (hz : DzA R (kvs.map (·.2)) ds as) (hv : Dz R v d bs) :
    ∃ ds' cs, DzA R ((putK kvs key v).map (·.2)) ds' cs ∧ ((putK kvs key v).map (·.1)).Nodup ∧ (∀ kd ∈ zipD (putK kvs key v) ds', kd ∈ zipD kvs ds ∨ (kd.1 = keyD key ∧ kd.2 = d)) ∧ (zipD (putK kvs key v) ds').length ≤ kvs.length + 1 := by
  have l : kvs.length = ds.length := by rw [← hz.len, List.length_map]
  by_cases hk : key ∈ kvs.map (·.1)
  · obtain ⟨k, hk⟩ := List.mem_iff_getElem?.mp hk
    rw [List.getElem?_map] at hk
    obtain ⟨⟨key', u⟩, h1, h2⟩ := Option.map_eq_some_iff.mp hk
    have h2 : key' = key := h2
    subst h2
    rw [putK_set nd h1]
    obtain ⟨cs, hc⟩ := hz.set hv k
    refine ⟨ds.set k d, cs, by rw [List.map_set]; exact hc, by rw [keys_set h1]; exact nd, fun kd hkd => ?_, ?_⟩
    · rw [zip_dk, keys_set h1] at hkd
      obtain ⟨i, hi⟩ := List.mem_iff_getElem?.mp hkd
      obtain ⟨g1, g2⟩ := List.getElem?_zip_eq_some.mp hi
      rw [List.getElem?_set] at g2
      by_cases hki : k = i
      · subst hki
        rw [if_pos rfl] at g2
        split at g2
        · refine Or.inr ⟨?_, (Option.some.inj g2).symm⟩
          rw [List.getElem?_map, List.getElem?_map, h1] at g1
          exact (Option.some.inj g1).symm
        · cases g2
      · rw [if_neg hki] at g2
        refine Or.inl ?_
        rw [zip_dk]
        exact List.mem_of_getElem? (i := i) (List.getElem?_zip_eq_some.mpr ⟨g1, g2⟩)
    · rw [zip_dk, List.length_zip, List.length_map, List.length_map, List.length_set]
      omega
  · have hp : putK kvs key v = kvs ++ [(key, v)] := put_new fun p hp z => hk (by rw [← z]; exact List.mem_map.mpr ⟨p, hp, rfl⟩)
    rw [hp]
    obtain ⟨cs, hc⟩ := hz.app (DzA.cons hv .nil)
    refine ⟨ds ++ [d], cs, by rw [List.map_append]; exact hc, ?_, fun kd hkd => ?_, ?_⟩
    · rw [List.map_append]
      refine List.nodup_append.mpr ⟨nd, by simp, fun a ha b hb e => ?_⟩
      have hb : b = key := by simpa using hb
      rw [e, hb] at ha
      exact hk ha
    · rw [zip_dk, List.map_append, List.map_append, List.zip_append (by rw [List.length_map, List.length_map]; exact l)] at hkd
      rcases List.mem_append.mp hkd with h | h
      · exact Or.inl (by rw [zip_dk]; exact h)
      · have h : kd = (keyD key, d) := by simpa using h
        rw [h]
        exact Or.inr ⟨rfl, rfl⟩
    · rw [zip_dk, List.length_zip, List.length_map, List.length_map, List.length_append]
      show min (kvs.length + 1) _ ≤ _
      omega
theorem s_asgOne {G : PyData → Prop} {D : Ends} {te : TE} {σ : L2.St} {H : Hp} {s : Addr} {d : PyData} {i : Nat} {ys : List V} (hs : H s = some (.lst ys)) (h : EvZ te σ (hid s H) d) (g : G d) (k : ∀ v H1, Ex H H1 → HasD G [s] H1 v → D.nx (σ.set i (some v)) H1) : tAsg te (gName i) D σ H :=
  h H (hid_ex s H) _ fun v H1 e kn => k v H1 e (by
    obtain ⟨as, z⟩ := kn.at_mix (hid_ex s H)
    exact ⟨_, d, as, mix_in (hid_ex s H) e, all_c (mix_hid (hid_s s H) (by rw [hs]; exact fun z => nomatch z)) all_n, z, g⟩)
theorem goV_of {d : PyData} (h : ((plD d && lyD d) && (okD d && (decide (d.depth ≤ 12) && decide (d.weight ≤ 200000)))) = true) : GoV d := by
  obtain ⟨h1, h2⟩ := (Bool.and_eq_true _ _).mp h
  obtain ⟨h3, h4⟩ := (Bool.and_eq_true _ _).mp h1
  exact ⟨h3, h4, sz_of_ok h2⟩
def choice2 : List Nat := [0, 0, 1, 2, 3, 4, 5, 6, 7, 8, 9, 10, 11, 12]
theorem choice2_at {t : Nat} (h : t < 14) : ∃ j : Nat, j < 13 ∧ (choice2.map fun j : Nat => V.int (j : Int))[t]? = some (.int (j : Int)) := by
  have hl : t < choice2.length := h
  refine ⟨choice2[t], ?_, by rw [List.getElem?_map, List.getElem?_eq_getElem hl]; rfl⟩
  exact (by decide : ∀ j ∈ choice2, j < 13) _ (List.getElem_mem hl)
def keysO (z : Str) : List Str := ["A", "", "abcdefghi", "a b", "q", "steal", "zzzzzzzz", z ++ "z"]
def KeyO (z : Str) : Prop := plA (.str z) = true ∧ Sz (.str z) 5 5000
theorem keyO_all : ∀ z ∈ wk10, ∀ y ∈ keysO z, (plA (.str y) && (okD (.str y) && (decide ((PyData.str y).depth ≤ 5) && decide ((PyData.str y).weight ≤ 5000)))) = true := by decide +kernel
theorem keyO_of {z y : Str} (hz : z ∈ wk10) (hy : y ∈ keysO z) : KeyO y := by
  obtain ⟨h1, h2⟩ := (Bool.and_eq_true _ _).mp (keyO_all z hz y hy)
  exact ⟨h1, sz_of_ok h2⟩
def moreK : List Str := ["qa", "qb", "qc", "qd", "qe", "qf"]
theorem more_no : ∀ z ∈ wk10, z ∉ moreK := by decide +kernel
theorem more_ok : ∀ z ∈ moreK, (plA (.str z) && (okD (.str z) && (decide ((PyData.str z).depth ≤ 5) && decide ((PyData.str z).weight ≤ 5000)))) = true := by decide +kernel
theorem goL_nil : GoL (.list []) := ⟨rfl, rfl, sz_of_ok (by decide +kernel)⟩
theorem goV_rows {ws : List Str} {L : List (List En)} (v : Vlog 60 ws L) : ∀ kd ∈ kdsOf ws (L.map logD), plA kd.1 = true ∧ Sz kd.1 5 5000 ∧ GoL kd.2 := fun kd hkd => by
  obtain ⟨w, h1, h2, h3⟩ := kds_mem hkd
  have wn := v.wk.2.2.2 w h1
  obtain ⟨es, h4, e⟩ := List.mem_map.mp h3
  rw [← e]
  have := v.ent _ h4
  exact ⟨by rw [h2]; exact plA_nm wn, by rw [h2]; exact (sz_nm wn).le (by decide) (by decide), goL_log this.2 (by omega)⟩
def spOther : Sp := fun vs H Q _ => ∃ (s d : Addr) (n : Nat) (ws : List Str) (ps : List Addr) (L : List (List En)), vs = [.ref s, .ref d] ∧ Src H s n ∧ n + 20 ≤ 1000000000 ∧ HL H d ws ps L ∧ s ∉ ps ∧ Vlog 60 ws L ∧ (∀ w ∈ ws, w ∈ wk10) ∧
  ∀ v H', KB s H H' → Src H' s (n + 8) → HasD GoV [s] H' v → Q v H'
section
variable {P : Program} {w : World} {K : PySem.W.Frag} {mg : Str → Option Value} {base : Heap}
theorem sc_law_other : FnScope ["source", "rows", "name", "keys", "found", "more", "some", "key"] ["source", "rows"] (defScope s_law_other) := ⟨rfl, rfl, rfl, by decide +kernel, rfl, by decide +kernel, by decide +kernel⟩
theorem ok_law_other (D : Def K mg "_law_other" s_law_other ["source", "rows"]) (T : Bl mg) (G_law_pick : Good P w K mg base 1 "_law_pick" ["source", "count"] spPick) : Good P w K mg base 2 "_law_other" ["source", "rows"] spOther := by
  refine D.good sc_law_other (fun vs H Q E h => ?_) (fun f cdv A outer s0 H vs Q E hr h => ?_)
  · obtain ⟨s, d, n, ws, ps, L, rfl, _⟩ := h
    rfl
  · obtain ⟨s, d, n, ws, ps, L, rfl, hs, hn, hl, hsp, v, hwk, q⟩ := h
    have hu := hu_of hr
    refine ⟨_, (pss_cons (ps_set (i := 2) sc_law_other.nd rfl (Or.inl rfl) (x_ixl (K := K) (pe_callB (call_sortDk rfl) (by rfl) T.sorted (by decide +kernel) (pa_cons (pv 1) pa_nil)) (pe_fn (G_law_pick.mono (by decide)) hr (pa_cons (pv 0) (pa_cons (pe_callB call_lenD (by rfl) T.len PySem.boot_len (pa_cons (pv 1) pa_nil)) pa_nil)))))
      (pss_cons (ps_set (i := 3) sc_law_other.nd rfl (Or.inl rfl) (pe_lst (pa_cons pe_str (pa_cons pe_str (pa_cons pe_str (pa_cons pe_str (pa_cons pe_str (pa_cons pe_str (pa_cons pe_str (pa_cons (pe_op op_add_str (pv 2) pe_str) pa_nil))))))))))
      (pss_cons (ps_set (i := 4) sc_law_other.nd rfl (Or.inl rfl) (pe_callTy (hc := call_dictD) (hg := by rfl) (hm := T.dict) (hv := by decide +kernel) (ha := pa_cons (pv 1) pa_nil)))
      (pss_cons (ps_dput hu (pv 4) (x_ixl (K := K) (pv 3) (pe_fn (G_law_pick.mono (by decide)) hr (pa_cons (pv 0) (pa_cons pe_int pa_nil)))) (pe_dget hu (pv 1) (pv 2) (fun _ _ => rfl)) rfl)
      (pss_cons (ps_set (i := 5) sc_law_other.nd rfl (Or.inl rfl) (pe_callTy (hc := call_dictP rfl) (hg := rfl) (hm := T.dict) (hv := by decide +kernel) (ha := pa_cons (pe_op op_cat (LiI.pe_listItems rfl (pv 1) (by rfl) T.list (by decide +kernel)) (pe_lc (own := [("key", 7)]) (g := (gName 7)) (tt := tYes) rfl sc_law_other.nd (x_pil (K := K) (pe_lst (pa_cons pe_str (pa_cons pe_str (pa_cons pe_str (pa_cons pe_str (pa_cons pe_str (pa_cons pe_str pa_nil)))))))) (blkOk_by (N := ["source", "rows", "name", "keys", "found", "more", "some", "key"]) (sc := (defScope s_law_other)) (by decide +kernel)) (fun _ _ _ _ _ => (pg_name (i := 7) sc_law_other.nd rfl (Or.inl rfl))) (fun _ _ _ _ _ => pts_nil) (fun _ _ _ _ _ => (pe_tup (pa_cons (pv 7) (pa_cons (pe_lst pa_nil) pa_nil)))))) pa_nil)))
      (pss_cons (ps_set (i := 6) sc_law_other.nd rfl (Or.inl rfl) (pe_lst (pa_cons (pv 4) (pa_cons (pv 5) (pa_cons (LiI.pe_listItems rfl (pv 1) (by rfl) T.list (by decide +kernel)) (pa_cons (pe_lst (pa_cons (pv 1) pa_nil)) (pa_cons (pe_callTy (hc := call_tupD rfl) (hg := by rfl) (hm := T.tuple) (hv := by decide +kernel) (ha := pa_cons (pv 1) pa_nil)) (pa_cons pe_non (pa_cons pe_bl (pa_cons pe_int (pa_cons pe_str (pa_cons pe_dnewK (pa_cons (pe_lst pa_nil) (pa_cons (pe_disp (pps_cons pe_str (pe_lst pa_nil) (pps_cons pe_str (pe_tup pa_nil) pps_nil)) rfl rfl (by simp) (by decide)) pa_nil))))))))))))))
      (pss_cons (ps_expr (x_bm (K := K) PySem.F.plainAttrs_list PySem.F.slot_list_append PySem.F.type_list_append mt_append (pv 6) (pa_cons (pe_disp (pps_cons pe_str pe_dnewK pps_nil) rfl rfl (by simp) (by decide)) pa_nil)))
      (pss_one (ps_ret (x_ixl (K := K) (pv 6) (x_ixl (K := K) (pe_lst (pa_cons pe_int (pa_cons pe_int (pa_cons pe_int (pa_cons pe_int (pa_cons pe_int (pa_cons pe_int (pa_cons pe_int (pa_cons pe_int (pa_cons pe_int (pa_cons pe_int (pa_cons pe_int (pa_cons pe_int (pa_cons pe_int (pa_cons pe_int pa_nil))))))))))))))) (pe_fn (G_law_pick.mono (by decide)) hr (pa_cons (pv 0) (pa_cons pe_int pa_nil)))))))))))))), ?_⟩
    obtain ⟨xs0, hs0⟩ := hs.at_
    have nd := v.wk.2.2.1
    have w6 := v.wk.2.1
    have pns : ∀ p ∈ ps, p ≠ s := fun p hp z => hsp (by rw [← z]; exact hp)
    -- the name
    refine te_mate (n := n) rfl rfl hs (by omega) hl v.wk.1 v.wk.2.1 fun name H1 hname k1 S1 => ?_
    have hnm : IsNm name := v.wk.2.2.2 name hname
    have hl1 := hl.kb k1 hs0 pns
    obtain ⟨xs1, hs1⟩ := S1.at_
    obtain ⟨k, hk⟩ := List.mem_iff_getElem?.mp hname
    have hkl := (List.getElem?_eq_some_iff.mp hk).1
    obtain ⟨pk, hpk⟩ : ∃ p, ps[k]? = some p := ⟨_, List.getElem?_eq_getElem (by rw [hl.pl]; exact hkl)⟩
    obtain ⟨es, hes⟩ : ∃ es, L[k]? = some es := ⟨_, List.getElem?_eq_getElem (by rw [v.len]; exact hkl)⟩
    have npk := pns pk (List.mem_of_getElem? hpk)
    have eok := v.ent _ (List.mem_of_getElem? hes)
    -- the keys
    dsimp only [gName]
    refine q_asgL (xs := (keysO name).map V.str) (el_lst (ea_cons ev_c (ea_cons ev_c (ea_cons ev_c (ea_cons ev_c (ea_cons ev_c (ea_cons ev_c (ea_cons ev_c (ea_cons (ev_op (ev_var rfl) ev_c (rv_addS (by have := hnm.2.1; show name.length + 1 ≤ 100000; omega))) ea_nil)))))))) (by show 8 ≤ 100000; decide)) fun p3 H3 n3 e3 h3 => ?_
    have hl3 := hl1.ex e3
    have S3 := S1.ex e3
    have hs3 := e3 _ _ hs1
    have n3s : p3 ≠ s := fun z => by rw [z, hs1] at n3; cases n3
    -- found
    refine ⟨_, rfl, d, Dk ws ps, rfl, Or.inl hl3.dk, fun f hf => ?_⟩
    have e4 : Ex H3 (upd H3 f (.dK (Dk ws ps))) := Ex.new hf
    have hf4 : (upd H3 f (.dK (Dk ws ps))) f = some (.dK (Dk ws ps)) := upd_same
    generalize upd H3 f (.dK (Dk ws ps)) = H4 at e4 hf4 ⊢
    have nfs : f ≠ s := fun z => by rw [z, hs3] at hf; cases hf
    have hl4 := hl3.ex e4
    have S4 := S3.ex e4
    have hs4 := e4 _ _ hs3
    dsimp only [gName]
    refine ev_dgetQ (ev_var rfl) (ev_var rfl) hl4.r.rd (dk_get nd hk hpk) H4 (Ex.refl H4) _ fun H5 e5 => ?_
    have S5 := S4.ex e5
    have h5k := e5 _ _ (e4 _ _ h3)
    refine ⟨.ref f, rfl, .ref p3, rfl, .ref s, rfl, s, n + 1, 8, rfl, S5, by omega, by decide, by decide, fun r xs r0 r1 S6 => ?_⟩
    obtain ⟨t, rfl⟩ : ∃ t : Nat, r = (t : Int) := ⟨r.toNat, by omega⟩
    have k6 : KB s H5 (upd H5 s (.lst xs)) := KB.upd
    generalize upd H5 s (.lst xs) = H6 at S6 k6 ⊢
    have htl : t < (keysO name).length := by show t < 8; omega
    have ht := List.getElem?_eq_getElem htl
    generalize (keysO name)[t] = y at ht
    have hy : KeyO y := keyO_of (hwk _ hname) (List.mem_of_getElem? ht)
    have hf6 := k6 _ _ nfs (e5 _ _ hf4)
    have dkl : (Dk ws ps).length = ws.length := dk_len hl.pl
    refine ⟨p3, _, (t : Int), .str y, rfl, rfl, sq_of (k6 _ _ n3s h5k), atI_nat (by rw [List.getElem?_map, ht]; rfl), f, _, rfl, DPut.k (k := .inr y) hf6 (sz_lt (by omega)), ?_⟩
    have kF : KB s H3 (upd H6 f (.dK (putK (Dk ws ps) (.inr y) (.ref pk)))) := fun b u n hb => by
      rw [upd_ne (ne_of_none hb hf)]
      exact k6 _ _ n (e5 _ _ (e4 _ _ hb))
    have hFf : (upd H6 f (.dK (putK (Dk ws ps) (.inr y) (.ref pk)))) f = some (.dK (putK (Dk ws ps) (.inr y) (.ref pk))) := upd_same
    have SF : Src (upd H6 f (.dK (putK (Dk ws ps) (.inr y) (.ref pk)))) s (n + 2) := (S6.upd nfs.symm).le (by omega)
    generalize upd H6 f (.dK (putK (Dk ws ps) (.inr y) (.ref pk))) = HF at kF hFf SF ⊢
    have exF : Ex (hid s H3) (hid s HF) := fun b u hb => by
      by_cases z : b = s
      · rw [z, hid_s] at hb; cases hb
      · rw [hid_ne z] at hb ⊢
        exact kF b u z hb
    have hlF := hl3.kb kF hs3 pns
    obtain ⟨xsF, hsF⟩ := SF.at_
    obtain ⟨bs3, dz3⟩ := hl_dza (hl_hid hl3 hs3 hsp) v.len
    obtain ⟨bsk, dzk⟩ := tl_dz ((hl_hid hl3 hs3 hsp).lg k pk es hpk hes)
    have ndk : ((Dk ws ps).map (·.1)).Nodup := by
      rw [dk_keys hl.pl]
      unfold List.Nodup at nd ⊢
      rw [List.pairwise_map]
      exact nd.imp fun h e => h (Sum.inr.inj e)
    obtain ⟨dsF, csF, dzF, ndF, memF, lenF⟩ := put_dz (key := .inr y) ndk (dz3.ex exF) (dzk.ex exF)
    have dF := Dz.dict (H := hid s HF) (p := f) (by rw [hid_ne nfs]; exact hFf) ndF dzF
    rw [kds_dk hl.pl] at memF
    have gF : GoV (.dict (zipD (putK (Dk ws ps) (.inr y) (.ref pk)) dsF)) := goV_dict (fun kd hkd => by
      rcases memF kd hkd with h | ⟨h1, h2⟩
      · exact goV_rows v kd h
      · rw [h1, h2]
        exact ⟨hy.1, hy.2, goL_log eok.2 (by have := eok.1; omega)⟩) (by omega)
    generalize PyData.dict (zipD (putK (Dk ws ps) (.inr y) (.ref pk)) dsF) = dfd at dF gF
    -- more
    have hlB := hl_hid hlF hsF hsp
    obtain ⟨bsF, dzB⟩ := hl_dza hlB v.len
    have lds : ws.length = (L.map logD).length := by rw [List.length_map, v.len]
    have ezk : kdsOf ws (L.map logD) = (ws.zip (L.map logD)).map fun q => (.str q.1, q.2) := by
      unfold kdsOf
      rw [List.zip_map_left]
      rfl
    have zi : EvZL (LiI.tListItems (tVar 1)) [some (.ref s), some (.ref d), some (.str name), some (.ref p3), some (.ref f), none, none, none] (hid s HF) ((ws.zip (L.map logD)).map fun q => .tuple [.str q.1, q.2]) := by
      have := ezl_items (te := tVar 1) (σ := [some (.ref s), some (.ref d), some (.str name), some (.ref p3), some (.ref f), none, none, none]) (ev_var rfl) hlB.dk dzB
      rw [kds_dk hl.pl, ezk, List.map_map] at this
      exact this
    have zl : (ws.zip (L.map logD)).length ≤ 6 := by rw [List.length_zip]; omega
    dsimp only
    refine s_asgOne (D := ⟨_, Q, _, _⟩) (G := GoV) (s := s) hsF (ez_dict (prs := ws.zip (L.map logD) ++ moreK.map fun k => (k, PyData.list [])) (by
      rw [List.map_append]
      refine ezl_cat zi ?_ (by rw [List.length_map, List.length_map, List.length_map]; show _ + 6 ≤ 100000; omega)
      rw [List.map_map]
      exact ezl_lcN (xs := moreK) (fun k => .tuple [.str k, .list []]) (el_lst (ea_cons ev_c (ea_cons ev_c (ea_cons ev_c (ea_cons ev_c (ea_cons ev_c (ea_cons ev_c ea_nil)))))) (by show 6 ≤ 100000; decide)) (by show 6 < 50000; decide) (fun _ => rfl) (fun B' eB x hx => ez_tup (eza_cons (ez_v (ev_var rfl) ⟨_, .str x⟩) (eza_cons (ez_lst eza_nil (by show 0 ≤ 100000; decide)) eza_nil)) (by show 2 ≤ 100000; decide))) ?_) ?_ fun mv H7 e7 gm => ?_
    · rw [List.map_append, List.map_fst_zip (by omega), List.map_map]
      refine List.nodup_append.mpr ⟨nd, by decide +kernel, fun a ha b hb e => ?_⟩
      have hb : b ∈ moreK := by
        obtain ⟨z, hz, rfl⟩ := List.mem_map.mp hb
        exact hz
      rw [e] at ha
      exact more_no b (hwk b ha) hb
    · refine goV_dict (fun kd hkd => ?_) (by rw [List.length_map, List.length_append, List.length_map]; show _ + 6 ≤ 18; omega)
      obtain ⟨z, hz, rfl⟩ := List.mem_map.mp hkd
      rcases List.mem_append.mp hz with h | h
      · exact goV_rows v _ (by rw [ezk]; exact List.mem_map.mpr ⟨z, h, rfl⟩)
      · obtain ⟨x, hx, rfl⟩ := List.mem_map.mp h
        obtain ⟨h1, h2⟩ := (Bool.and_eq_true _ _).mp (more_ok x hx)
        exact ⟨h1, sz_of_ok h2, goL_nil⟩
    -- some
    have hs7 := e7 _ _ hsF
    have exB : Ex (hid s HF) (hid s H7) := fun b u hb => by
      by_cases z : b = s
      · rw [z, hid_s] at hb; cases hb
      · rw [hid_ne z] at hb ⊢
        exact e7 _ _ hb
    obtain ⟨dm, am, dzm, gdm⟩ := has_hid gm
    have hlB7 := hlB.ex exB
    have dz7 := dzB.ex exB
    obtain ⟨arz, drz⟩ := hl_dz hlB7 v.len nd
    have rsz := sz_rows v
    have zi7 : EvZL (LiI.tListItems (tVar 1)) [some (.ref s), some (.ref d), some (.str name), some (.ref p3), some (.ref f), some mv, none, none] (hid s H7) ((kdsOf ws (L.map logD)).map fun kd => .tuple [kd.1, kd.2]) := by
      have := ezl_items (te := tVar 1) (σ := [some (.ref s), some (.ref d), some (.str name), some (.ref p3), some (.ref f), some mv, none, none]) (ev_var rfl) hlB7.dk dz7
      rw [kds_dk hl.pl] at this
      exact this
    have kdl : (kdsOf ws (L.map logD)).length ≤ 6 := by
      unfold kdsOf
      rw [List.length_zip, List.length_map]
      omega
    have gItems : GoV (.list ((kdsOf ws (L.map logD)).map fun kd => .tuple [kd.1, kd.2])) := by
      refine ⟨rfl, rfl, ((sza_all (dp := 6) (w := 10002) fun x hx => ?_).list).le (by decide) ?_⟩
      · obtain ⟨kd, hkd, rfl⟩ := List.mem_map.mp hx
        obtain ⟨_, a, b⟩ := goV_rows v kd hkd
        exact ((sza_cons a (sza_cons b.sz (sza_nil.le (Nat.zero_le _) (Nat.le_refl 0)))).tuple).le (Nat.le_refl _) (by decide)
      · rw [List.length_map]
        omega
    have gRows : GoV (.list [.dict (kdsOf ws (L.map logD))]) := ⟨rfl, rfl, ((sza_cons rsz.1 (sza_nil.le (Nat.zero_le _) (Nat.le_refl 0))).list).le (by decide) (by decide)⟩
    have gTup : GoV (.tuple ((Dk ws ps).map fun kv => keyD kv.1)) := by
      have e : ((Dk ws ps).map fun kv => keyD kv.1) = ws.map PyData.str := by
        have := congrArg (List.map keyD) (dk_keys hl.pl)
        rw [List.map_map, List.map_map] at this
        exact this
      rw [e]
      refine ⟨rfl, rfl, ((sza_all (dp := 0) (w := 8) fun x hx => ?_).tuple).le (by decide) ?_⟩
      · obtain ⟨w, hw, rfl⟩ := List.mem_map.mp hx
        exact sz_nm (v.wk.2.2.2 w hw)
      · rw [List.length_map]
        omega
    dsimp only
    refine s_asgHas (D := ⟨_, Q, _, _⟩) (G := GoV) (s := s) (ds := [dfd, dm, .list ((kdsOf ws (L.map logD)).map fun kd : PyData × PyData => .tuple [kd.1, kd.2]), .list [.dict (kdsOf ws (L.map logD))], .tuple ((Dk ws ps).map fun kv : Key × V => keyD kv.1), .none, .bool true, .int 0, .str "", .dict [], .list [], .dict [(.str "a", .list []), (.str "b", .tuple [])]]) hs7 (ezl_lst (eza_cons (ez_v (ev_var rfl) ⟨_, dF.ex exB⟩) (eza_cons (ez_v (ev_var rfl) ⟨_, dzm⟩) (eza_cons (ez_ofL zi7) (eza_cons (ez_lst (eza_cons (ez_v (ev_var rfl) ⟨_, drz⟩) eza_nil) (by show 1 ≤ 100000; decide)) (eza_cons (ez_tupD (ev_var rfl) hlB7.dk (by omega)) (eza_cons ez_non (eza_cons ez_bl (eza_cons ez_int (eza_cons ez_str (eza_cons ez_disp0 (eza_cons (ez_lst eza_nil (by show 0 ≤ 100000; decide)) (eza_cons (ez_disp2 (ez_lst eza_nil (by show 0 ≤ 100000; decide)) (ez_tup eza_nil (by show 0 ≤ 100000; decide)) (by decide +kernel)) eza_nil)))))))))))) (by show 12 ≤ 100000; decide)) (all_c gF (all_c gdm (all_c gItems (all_c gRows (all_c gTup (all_c (goV_of (by decide +kernel)) (all_c (goV_of (by decide +kernel)) (all_c (goV_of (by decide +kernel)) (all_c (goV_of (by decide +kernel)) (all_c (goV_of (by decide +kernel)) (all_c (goV_of (by decide +kernel)) (all_c (goV_of (by decide +kernel)) all_n)))))))))))) fun p8 vs8 H8 n8 e8 h8 l8 g8 => ?_
    have l8 : vs8.length = 12 := l8
    have hs8 := e8 _ _ hs7
    have n8s : p8 ≠ s := fun z => by rw [z, hs7] at n8; cases n8
    dsimp only
    refine s_appZ (D := ⟨_, Q, _, _⟩) (B := hid p8 (hid s H8)) ((hid_ex p8 _).trans (hid_ex s H8)) (hid_s p8 _) h8 (ev_var rfl) (ez_disp1 ez_disp0) (by rw [l8]; decide) fun v9 R9 H9 k9 h9 bR9 rH9 hp9 hR9 z9 => ?_
    have hS9 : R9 s = none := hR9 s (by rw [hid_ne n8s.symm]; exact hid_s s _) (by rw [hs8]; exact fun z => nomatch z)
    have g9 : ∀ x ∈ vs8 ++ [v9], HasD GoV [p8, s] H9 x := app_all (fun x hx => (g8 x hx).kb (by simp) k9) (all_c (by
      obtain ⟨as, z⟩ := z9
      exact ⟨R9, _, as, rH9, all_c hp9 (all_c hS9 all_n), z, goV_of (by decide +kernel)⟩) all_n)
    have l9 : (vs8 ++ [v9]).length = 13 := by
      rw [List.length_append, l8]
      rfl
    generalize vs8 ++ [v9] = vs9 at h9 g9 l9
    have e79 : Ex H7 H9 := fun b u hb => k9 b u (ne_of_none hb n8) (e8 _ _ hb)
    have S9 : Src H9 s (n + 2) := SF.ex (e7.trans e79)
    dsimp only
    have tv : EvK s 1 (tOp (rIxL K) (tLst (tCons (tC (V.int 0)) (tCons (tC (V.int 0)) (tCons (tC (V.int 1)) (tCons (tC (V.int 2)) (tCons (tC (V.int 3)) (tCons (tC (V.int 4)) (tCons (tC (V.int 5)) (tCons (tC (V.int 6)) (tCons (tC (V.int 7)) (tCons (tC (V.int 8)) (tCons (tC (V.int 9)) (tCons (tC (V.int 10)) (tCons (tC (V.int 11)) (tCons (tC (V.int 12)) tNil))))))))))))))) (tCall spPick [] E0 (tCons (tVar 0) (tCons (tC (V.int 14)) tNil)))) [some (.ref s), some (.ref d), some (.str name), some (.ref p3), some (.ref f), some mv, some (.ref p8), none] (hid s H9) (fun v => ∃ jj : Nat, jj < 13 ∧ v = .int (jj : Int)) :=
      ek_ixL (c := 0) (d := 1) (PL := fun vs => vs = choice2.map fun j : Nat => V.int (j : Int)) (P' := fun v => ∃ r : Int, v = .int r ∧ 0 ≤ r ∧ r < 14) (hid_s s H9) (ekl_ofEl (el_lst (ea_cons ev_c (ea_cons ev_c (ea_cons ev_c (ea_cons ev_c (ea_cons ev_c (ea_cons ev_c (ea_cons ev_c (ea_cons ev_c (ea_cons ev_c (ea_cons ev_c (ea_cons ev_c (ea_cons ev_c (ea_cons ev_c (ea_cons ev_c ea_nil)))))))))))))) (by show 14 ≤ 100000; decide))) (ek_pick (c := 0) (m := 14) (hid_s s H9) rfl (ek_of ev_c rfl) (by decide) (by decide)) (fun xs y hxs hy => by
        subst hxs
        obtain ⟨r, rfl, r0, r1⟩ := hy
        obtain ⟨t, rfl⟩ : ∃ t : Nat, r = (t : Int) := ⟨r.toNat, by omega⟩
        obtain ⟨jj, h1, h2⟩ := choice2_at (t := t) (by omega)
        exact ⟨_, _, rfl, atI_nat h2, jj, h1, rfl⟩)
    refine ⟨.ref p8, rfl, tv H9 _ (hid_ex s H9) S9 (by omega) _ fun y2 H11 k11 S11 hy2 => ?_⟩
    obtain ⟨jj, hjj, rfl⟩ := hy2
    have hjl : jj < vs9.length := by omega
    have hxj := List.getElem?_eq_getElem hjl
    generalize vs9[jj] = x at hxj
    have hx := (g9 x (List.mem_of_getElem? hxj)).sub (S' := [s]) (all_c (by simp) all_n)
    exact ⟨p8, vs9, (jj : Int), x, rfl, rfl, sq_of (k11 _ _ n8s h9), atI_nat hxj, q x H11 ((((k1.trans (kb_ex e3)).trans kF).trans (kb_ex (e7.trans e79))).trans k11) (S11.le (by omega)) (hx.kb (by simp) k11)⟩
end
end Vx

set_option Elab.async false
set_option linter.all false
set_option maxRecDepth 100000
set_option maxHeartbeats 8000000
namespace Vx
open PySem PySem.Spec PyProof.Rows L2 Evl
theorem ev_dgetZ {σ : L2.St} {B : Hp} {te : TE} {v : V} {kds : List (PyData × PyData)} {as : List Addr} {k : Str} {d : PyData} {i : Nat} (h : Ev te σ B v) (hz : Dz B v (.dict kds) as) (hi : kds[i]? = some (.str k, d)) : ∃ u bs, Ev (tDGet te (tC (.str k))) σ B u ∧ Dz B u d bs := by
  cases hz with
  | @dict p kvs ds as hp nd t =>
    rw [zip_dk] at hi
    obtain ⟨g1, g2⟩ := List.getElem?_zip_eq_some.mp hi
    rw [List.getElem?_map, List.getElem?_map] at g1
    cases hk : kvs[i]? with
    | none => rw [hk] at g1; cases g1
    | some kv =>
      obtain ⟨key, u⟩ := kv
      rw [hk] at g1
      have g1 : keyD key = .str k := Option.some.inj g1
      have ek : key = .inr k := by
        cases key with
        | inl z => cases g1
        | inr z => cases g1; rfl
      subst ek
      obtain ⟨d', bs, h1, h2⟩ := t.get (i := i) (v := u) (by rw [List.getElem?_map, hk]; rfl)
      rw [g2] at h1
      cases h1
      exact ⟨u, bs, ev_dgetQ h ev_c (Or.inl hp) (valV_mem nd (List.mem_of_getElem? hk)), h2⟩
theorem ezl_itemsD {σ : L2.St} {B : Hp} {te : TE} {v : V} {kds : List (PyData × PyData)} {as : List Addr} (h : Ev te σ B v) (hz : Dz B v (.dict kds) as) : EvZL (LiI.tListItems te) σ B (kds.map fun kd : PyData × PyData => .tuple [kd.1, kd.2]) := by
  cases hz with
  | dict hp nd t => exact ezl_items h hp t
/-- [e for x in texts], the texts at hand -/
theorem ezl_lcK {K : PySem.W.Frag} {σ : L2.St} {B : Hp} {te tl : TE} {a : Addr} {xs : List Str} {j : Nat} {vs : List Nat} (f : Str → PyData) (h : Ev tl σ B (.ref a)) (hB : B a = some (.lst (xs.map V.str))) (hz : xs.length < 50000) (hw : ∀ x, wipe ((wipe σ vs).set j (some x)) vs = wipe σ vs) (he : ∀ x ∈ xs, EvZ te ((wipe σ vs).set j (some (.str x))) B (f x)) : EvZL (tLc (iList K tl) (gName j) tYes te vs) σ B (xs.map f) := by
  refine (elp_lcL (K := K) (fun i v H' => ∃ x as, xs[i]? = some x ∧ Dz H' v (f x) as) h (sq_of hB) (by rw [List.length_map]; exact hz) hw (fun i y hy => ?_)).imp fun ys H' _ hyp => ?_
  · rw [List.getElem?_map] at hy
    obtain ⟨x, hx, rfl⟩ := Option.map_eq_some_iff.mp hy
    exact (he x (List.mem_of_getElem? hx)).imp fun v H' _ ⟨as, z⟩ => ⟨x, as, hx, z⟩
  · obtain ⟨l, hv⟩ := hyp
    refine DzA.of (by rw [l, List.length_map, List.length_map]) fun i v d h1 h2 => ?_
    obtain ⟨x, as, hx, z⟩ := hv i v h1
    rw [List.getElem?_map, hx] at h2
    cases h2
    exact ⟨as, z⟩
/-- x + [..], as a value -/
theorem te_catHas {G : PyData → Prop} {te tl : TE} {σ : L2.St} {H : Hp} {s : Addr} {ds : List PyData} {ys : List V} {Q : VK} {l : Addr} {xs : List V} (hs : H s = some (.lst ys)) (hl : H l = some (.lst xs)) (ha : Ev tl σ H (.ref l)) (hx : ∀ x ∈ xs, HasD G [s] H x) (h : EvZL te σ (hid s H) ds) (g : ∀ d ∈ ds, G d) (hz : xs.length + ds.length ≤ 100000)
    (k : ∀ p vs H1, H p = none → Ex H H1 → H1 p = some (.lst vs) → vs.length = xs.length + ds.length → (∀ x ∈ vs, HasD G [s] H1 x) → Q (.ref p) H1) : tOp rCat tl te σ H Q :=
  ha H (Ex.refl H) _ fun H2 e2 => h H2 ((hid_ex s H).trans e2) _ fun r zs H3 hr e3 h3 kn => by
    have E := e2.trans e3
    have dl : zs.length = ds.length := by
      obtain ⟨_, z⟩ := kn.kn.now ((hid_ex s H).trans e2) e3
      exact z.len
    refine ⟨l, r, xs, zs, rfl, rfl, E _ _ hl, h3, sz_of (by rw [dl]; exact hz), fun p hp => ?_⟩
    have hpH := fresh_back E hp
    have kn' : KnX p (hid s H) H (upd H3 p (.lst (xs ++ zs))) (fun H' => ∃ as, DzA H' zs ds as) := (kn.kn.pre e2).out hp
    have z := kn'.at_mix (hid_ex s H) hpH
    have e4 := E.trans (Ex.new (o := .lst (xs ++ zs)) hp)
    refine k p (xs ++ zs) _ hpH e4 upd_same (by rw [List.length_append, dl]) (app_all (fun x hxx => (hx x hxx).ex e4) (has_all (mixX_in (hid_ex s H) e4) (all_c (mixX_hid (hid_s s H) (by rw [hs]; exact fun z => nomatch z)) all_n) z g))
def sixty (n : Nat) : List PyData := (List.replicate n [PyData.tuple [.str "size", .int 60]]).flatten
theorem sixty_old {n : Nat} : ∀ x ∈ sixty n, OldE x := fun x hx => by
  obtain ⟨l, hl, hm⟩ := List.mem_flatten.mp hx
  have hl := (List.mem_replicate.mp hl).2
  subst hl
  have hm : x = .tuple [.str "size", .int 60] := by simpa using hm
  subst hm
  exact (old_en (es := [.size 60]) (fun e he => by rw [List.mem_singleton.mp he]; exact ⟨by decide, by decide⟩)) _ (by simp [En.data, En.vs, vD])
theorem sixty_len (n : Nat) : (sixty n).length = n := by
  unfold sixty
  simp
def pushD (xs : List Str) : List PyData := xs.map fun w => .tuple [.str "push", .str w]
def stealD (xs : List Str) : List PyData := xs.map fun w => .tuple [.str "steal", .str "a", .str w]
theorem nm_a : IsNm "a" := (by decide +kernel : ∀ z ∈ (["a"] : List Str), 1 ≤ z.length ∧ z.length ≤ 8 ∧ ∀ c ∈ z.cps.toList, 97 ≤ c ∧ c ≤ 122) _ (by simp)
theorem push_old {xs : List Str} (h : ∀ x ∈ xs, IsNm x) : ∀ x ∈ pushD xs, OldE x := fun x hx => by
  obtain ⟨w, hw, rfl⟩ := List.mem_map.mp hx
  exact (old_en (es := [.push w]) (fun e he => by rw [List.mem_singleton.mp he]; exact h w hw)) _ (by simp [En.data, En.vs, vD])
theorem steal_old {xs : List Str} (h : ∀ x ∈ xs, IsNm x) : ∀ x ∈ stealD xs, OldE x := fun x hx => by
  obtain ⟨w, hw, rfl⟩ := List.mem_map.mp hx
  exact (old_en (es := [.steal "a" w]) (fun e he => by rw [List.mem_singleton.mp he]; exact ⟨nm_a, h w hw⟩)) _ (by simp [En.data, En.vs, vD])
def fullK : List Str := ["a", "b", "c", "d", "e", "f"]
theorem short_ok : ∀ z ∈ (["a", "b", "c", "d", "e", "f", "g"] : List Str), (plA (.str z) && (okD (.str z) && (decide ((PyData.str z).depth ≤ 5) && decide ((PyData.str z).weight ≤ 5000)))) = true := by decide +kernel
theorem short_go {z : Str} (h : z ∈ (["a", "b", "c", "d", "e", "f", "g"] : List Str)) : plA (.str z) = true ∧ Sz (.str z) 5 5000 := by
  obtain ⟨h1, h2⟩ := (Bool.and_eq_true _ _).mp (short_ok z h)
  exact ⟨h1, sz_of_ok h2⟩
theorem gL1 : GoL (.list (sixty 60)) := goL_old sixty_old (by rw [sixty_len]; decide)
theorem gL2 : GoL (.list (sixty 61)) := goL_old sixty_old (by rw [sixty_len]; decide)
def fullD : List (Str × PyData) := fullK.map fun k => (k, .list (sixty 60))
theorem go_two {k1 k2 : Str} {d1 d2 : PyData} (h1 : k1 ∈ (["a", "b", "c", "d", "e", "f", "g"] : List Str)) (h2 : k2 ∈ (["a", "b", "c", "d", "e", "f", "g"] : List Str)) (g1 : GoL d1) (g2 : GoL d2) : GoV (.dict [(.str k1, d1), (.str k2, d2)]) :=
  goV_dict (all_c ⟨(short_go h1).1, (short_go h1).2, g1⟩ (all_c ⟨(short_go h2).1, (short_go h2).2, g2⟩ all_n)) (by show 2 ≤ 18; decide)
theorem go_prs {prs : List (Str × PyData)} (h : ∀ q ∈ prs, q.1 ∈ (["a", "b", "c", "d", "e", "f", "g"] : List Str) ∧ GoL q.2) (l : prs.length ≤ 18) : GoV (.dict (prs.map fun q => (.str q.1, q.2))) := goV_dict (fun kd hkd => by
  obtain ⟨q, hq, rfl⟩ := List.mem_map.mp hkd
  exact ⟨(short_go (h q hq).1).1, (short_go (h q hq).1).2, (h q hq).2⟩) (by rw [List.length_map]; exact l)
def spBounds : Sp := fun vs H Q _ => ∃ (s : Addr) (n : Nat), vs = [.ref s] ∧ Src H s n ∧ n + 20 ≤ 1000000000 ∧ ∀ p vs H', KB s H H' → Src H' s (n + 8) → H' p = some (.lst vs) → p ≠ s → vs.length ≤ 100 → (∀ x ∈ vs, HasD GoV [s] H' x) → Q (.ref p) H'
section
variable {P : Program} {w : World} {K : PySem.W.Frag} {mg : Str → Option Value} {base : Heap}
theorem sc_law_at_bounds : FnScope ["source", "words", "names", "full", "wide", "wider", "found", "name", "word"] ["source"] (defScope s_law_at_bounds) := ⟨rfl, rfl, rfl, by decide +kernel, rfl, by decide +kernel, by decide +kernel⟩
theorem ok_law_at_bounds (D : Def K mg "_law_at_bounds" s_law_at_bounds ["source"]) (T : Bl mg) (G_law_words : Good P w K mg base 2 "_law_words" ["source", "size"] (spWords K)) : Good P w K mg base 3 "_law_at_bounds" ["source"] spBounds := by
  refine D.good sc_law_at_bounds (fun vs H Q E h => ?_) (fun f cdv A outer s0 H vs Q E hr h => ?_)
  · obtain ⟨s, n, rfl, _⟩ := h
    rfl
  · obtain ⟨s, n, rfl, hs, hn, q⟩ := h
    have hu := hu_of hr
    refine ⟨_, (pss_cons (ps_set (i := 1) sc_law_at_bounds.nd rfl (Or.inl rfl) (pe_fn (G_law_words.mono (by decide)) hr (pa_cons (pv 0) (pa_cons pe_int pa_nil))))
      (pss_cons (ps_set (i := 2) sc_law_at_bounds.nd rfl (Or.inl rfl) (pe_lst (pa_cons pe_str (pa_cons pe_str (pa_cons pe_str (pa_cons pe_str (pa_cons pe_str (pa_cons pe_str pa_nil))))))))
      (pss_cons (ps_set (i := 3) sc_law_at_bounds.nd rfl (Or.inl rfl) (pe_callTy (hc := call_dictP rfl) (hg := rfl) (hm := T.dict) (hv := by decide +kernel) (ha := pa_cons (pe_lc (own := [("name", 7)]) (g := (gName 7)) (tt := tYes) rfl sc_law_at_bounds.nd (x_pil (K := K) (pv 2)) (blkOk_by (N := ["source", "words", "names", "full", "wide", "wider", "found", "name", "word"]) (sc := (defScope s_law_at_bounds)) (by decide +kernel)) (fun _ _ _ _ _ => (pg_name (i := 7) sc_law_at_bounds.nd rfl (Or.inl rfl))) (fun _ _ _ _ _ => pts_nil) (fun _ _ _ _ _ => (pe_tup (pa_cons (pv 7) (pa_cons (pe_op op_rep (pe_lst (pa_cons (pe_tup (pa_cons pe_str (pa_cons pe_int pa_nil))) pa_nil)) pe_int) pa_nil))))) pa_nil)))
      (pss_cons (ps_set (i := 4) sc_law_at_bounds.nd rfl (Or.inl rfl) (pe_disp (pps_cons pe_str (pe_lc (own := [("word", 8)]) (g := (gName 8)) (tt := tYes) rfl sc_law_at_bounds.nd (x_pil (K := K) (pe_slice sl_list (pv 1) po_none (po_some pe_int))) (blkOk_by (N := ["source", "words", "names", "full", "wide", "wider", "found", "name", "word"]) (sc := (defScope s_law_at_bounds)) (by decide +kernel)) (fun _ _ _ _ _ => (pg_name (i := 8) sc_law_at_bounds.nd rfl (Or.inl rfl))) (fun _ _ _ _ _ => pts_nil) (fun _ _ _ _ _ => (pe_tup (pa_cons pe_str (pa_cons (pv 8) pa_nil))))) (pps_cons pe_str (pe_lc (own := [("word", 8)]) (g := (gName 8)) (tt := tYes) rfl sc_law_at_bounds.nd (x_pil (K := K) (pe_slice sl_list (pv 1) po_none (po_some pe_int))) (blkOk_by (N := ["source", "words", "names", "full", "wide", "wider", "found", "name", "word"]) (sc := (defScope s_law_at_bounds)) (by decide +kernel)) (fun _ _ _ _ _ => (pg_name (i := 8) sc_law_at_bounds.nd rfl (Or.inl rfl))) (fun _ _ _ _ _ => pts_nil) (fun _ _ _ _ _ => (pe_tup (pa_cons pe_str (pa_cons pe_str (pa_cons (pv 8) pa_nil)))))) pps_nil)) rfl rfl (by simp) (by decide)))
      (pss_cons (ps_set (i := 5) sc_law_at_bounds.nd rfl (Or.inl rfl) (pe_disp (pps_cons pe_str (pe_lc (own := [("word", 8)]) (g := (gName 8)) (tt := tYes) rfl sc_law_at_bounds.nd (x_pil (K := K) (pv 1)) (blkOk_by (N := ["source", "words", "names", "full", "wide", "wider", "found", "name", "word"]) (sc := (defScope s_law_at_bounds)) (by decide +kernel)) (fun _ _ _ _ _ => (pg_name (i := 8) sc_law_at_bounds.nd rfl (Or.inl rfl))) (fun _ _ _ _ _ => pts_nil) (fun _ _ _ _ _ => (pe_tup (pa_cons pe_str (pa_cons (pv 8) pa_nil))))) (pps_cons pe_str (pe_lst pa_nil) pps_nil)) rfl rfl (by simp) (by decide)))
      (pss_cons (ps_set (i := 6) sc_law_at_bounds.nd rfl (Or.inl rfl) (pe_lst (pa_cons (pv 3) (pa_cons (pe_callTy (hc := call_dictP rfl) (hg := rfl) (hm := T.dict) (hv := by decide +kernel) (ha := pa_cons (pe_op op_cat (LiI.pe_listItems rfl (pv 3) (by rfl) T.list (by decide +kernel)) (pe_lst (pa_cons (pe_tup (pa_cons pe_str (pa_cons (pe_lst pa_nil) pa_nil))) pa_nil))) pa_nil)) (pa_cons (pv 4) (pa_cons (pv 5) (pa_cons (pe_disp (pps_cons pe_str (pe_op op_rep (pe_lst (pa_cons (pe_tup (pa_cons pe_str (pa_cons pe_int pa_nil))) pa_nil)) pe_int) pps_nil) rfl rfl (by simp) (by decide)) pa_nil)))))))
      (pss_one (ps_ret (pe_op op_cat (pv 6) (pe_lst (pa_cons (pe_disp (pps_cons pe_str (pe_op op_rep (pe_lst (pa_cons (pe_tup (pa_cons pe_str (pa_cons pe_str pa_nil))) pa_nil)) pe_int) pps_nil) rfl rfl (by simp) (by decide)) (pa_cons (pe_disp (pps_cons pe_str (pe_lst (pa_cons (pe_tup (pa_cons pe_str (pa_cons pe_int pa_nil))) pa_nil)) pps_nil) rfl rfl (by simp) (by decide)) (pa_cons (pe_disp (pps_cons pe_str (pe_dget hu (pv 4) pe_str (fun _ _ => rfl)) (pps_cons pe_str (pe_slice sl_list (pe_dget hu (pv 4) pe_str (fun _ _ => rfl)) (po_some pe_int) po_none) pps_nil)) rfl rfl (by simp) (by decide)) pa_nil))))))))))))), ?_⟩
    refine ⟨_, rfl, s, n, 61, rfl, hs, by omega, by decide, fun p1 wl H1 np1 k1 S1 h1 l1 ndw hwl => ?_⟩
    obtain ⟨xs1, hs1⟩ := S1.at_
    have n1s : p1 ≠ s := fun z => by
      obtain ⟨xs0, hs0⟩ := hs.at_
      rw [z, hs0] at np1
      cases np1
    have wnm : ∀ x ∈ wl, IsNm x := fun x hx => (hwl x hx).1
    have wnm60 : ∀ x ∈ wl.take 60, IsNm x := fun x hx => wnm x (List.mem_of_mem_take hx)
    have l60 : (wl.take 60).length = 60 := by rw [List.length_take]; omega
    -- the names
    dsimp only [gName]
    refine q_asgL (xs := fullK.map V.str) (el_lst (ea_cons ev_c (ea_cons ev_c (ea_cons ev_c (ea_cons ev_c (ea_cons ev_c (ea_cons ev_c ea_nil)))))) (by show 6 ≤ 100000; decide)) fun p2 H2 n2 e2 h2 => ?_
    have hs2 := e2 _ _ hs1
    have h12 := e2 _ _ h1
    have n2s : p2 ≠ s := fun z => by rw [z, hs1] at n2; cases n2
    have sz1 : ∀ {σ : L2.St} {B : Hp}, EvZL (tLst (tCons (tTup (tCons (tC (V.str "size")) (tCons (tC (V.int 60)) tNil))) tNil)) σ B [.tuple [.str "size", .int 60]] := fun {σ B} => ezl_lst (eza_cons (ez_tup (eza_cons ez_str (eza_cons ez_int eza_nil)) (by show 2 ≤ 100000; decide)) eza_nil) (by show 1 ≤ 100000; decide)
    -- full
    refine s_asgOne (D := ⟨_, Q, _, _⟩) (G := fun d => d = .dict (fullD.map fun q => (.str q.1, q.2))) (s := s) hs2 (ez_dict (prs := fullD) (by
      unfold fullD
      rw [List.map_map]
      exact ezl_lcK (xs := fullK) (fun k => .tuple [.str k, .list (sixty 60)]) (ev_var rfl) (by rw [hid_ne n2s]; exact h2) (by show 6 < 50000; decide) (fun _ => rfl) (fun x hx => ez_tup (eza_cons (ez_v (ev_var rfl) ⟨_, .str x⟩) (eza_cons (ez_ofL (ezl_rep (n := 60) sz1 (fun _ _ => ev_c) (by decide) (by show 1 * 60 ≤ 100000; decide))) eza_nil)) (by show 2 ≤ 100000; decide))) (by decide +kernel)) rfl fun fv H3 e3 gf => ?_
    have hs3 := e3 _ _ hs2
    have h13 := e3 _ _ h12
    have hB13 : hid s H3 p1 = some (.lst (wl.map V.str)) := by rw [hid_ne n1s]; exact h13
    have sl3 : ∀ {σ : L2.St}, σ[1]? = some (some (.ref p1)) → EvL (tSl (rSlL K) (tVar 1) tNoPart (tPart (tC (V.int 60)))) σ (hid s H3) ((wl.take 60).map V.str) := fun {σ} h => by
      rw [List.map_take, ← cut_take]
      exact el_sl (ev_var h) eo_none (eo_some ev_c) (sq_of hB13)
    -- wide
    refine s_asgOne (D := ⟨_, Q, _, _⟩) (G := fun d => d = .dict [(.str "a", .list (pushD (wl.take 60))), (.str "b", .list (stealD (wl.take 60)))]) (s := s) hs3 (ez_disp2 (ez_ofL (ezl_lcN (xs := wl.take 60) (fun w => .tuple [.str "push", .str w]) (sl3 rfl) (by omega) (fun _ => rfl) (fun B' eB x hx => ez_tup (eza_cons ez_str (eza_cons (ez_v (ev_var rfl) ⟨_, .str x⟩) eza_nil)) (by show 2 ≤ 100000; decide)))) (ez_ofL (ezl_lcN (xs := wl.take 60) (fun w => .tuple [.str "steal", .str "a", .str w]) (sl3 rfl) (by omega) (fun _ => rfl) (fun B' eB x hx => ez_tup (eza_cons ez_str (eza_cons ez_str (eza_cons (ez_v (ev_var rfl) ⟨_, .str x⟩) eza_nil))) (by show 3 ≤ 100000; decide)))) (by decide +kernel)) rfl fun wv H4 e4 gw => ?_
    have hs4 := e4 _ _ hs3
    have h14 := e4 _ _ h13
    have hB14 : hid s H4 p1 = some (.lst (wl.map V.str)) := by rw [hid_ne n1s]; exact h14
    -- wider
    refine s_asgOne (D := ⟨_, Q, _, _⟩) (G := fun d => d = .dict [(.str "a", .list (pushD wl)), (.str "b", .list [])]) (s := s) hs4 (ez_disp2 (ez_ofL (ezl_lcK (xs := wl) (fun w => .tuple [.str "push", .str w]) (ev_var rfl) hB14 (by omega) (fun _ => rfl) (fun x hx => ez_tup (eza_cons ez_str (eza_cons (ez_v (ev_var rfl) ⟨_, .str x⟩) eza_nil)) (by show 2 ≤ 100000; decide)))) (ez_lst eza_nil (by show 0 ≤ 100000; decide)) (by decide +kernel)) rfl fun rv H5 e5 gr => ?_
    have hs5 := e5 _ _ hs4
    obtain ⟨_, af, zf, rfl⟩ := has_hid (gf.ex (e4.trans e5))
    obtain ⟨_, aw, zw, rfl⟩ := has_hid (gw.ex e5)
    obtain ⟨_, ar, zr, rfl⟩ := has_hid gr
    have gl60 : GoL (.list (pushD (wl.take 60))) := goL_old (push_old wnm60) (by unfold pushD; rw [List.length_map]; omega)
    have gs60 : GoL (.list (stealD (wl.take 60))) := goL_old (steal_old wnm60) (by unfold stealD; rw [List.length_map]; omega)
    have gl61 : GoL (.list (pushD wl)) := goL_old (push_old wnm) (by unfold pushD; rw [List.length_map]; omega)
    have fk : ∀ z ∈ fullK, z ∈ (["a", "b", "c", "d", "e", "f", "g"] : List Str) := by decide +kernel
    have fg : ∀ q ∈ fullD, q.1 ∈ (["a", "b", "c", "d", "e", "f", "g"] : List Str) ∧ GoL q.2 := fun q hq => by
      obtain ⟨z, hz, rfl⟩ := List.mem_map.mp hq
      exact ⟨fk z hz, gL1⟩
    have ga : ("a" : Str) ∈ (["a", "b", "c", "d", "e", "f", "g"] : List Str) := by decide +kernel
    have gb : ("b" : Str) ∈ (["a", "b", "c", "d", "e", "f", "g"] : List Str) := by decide +kernel
    have gg : ("g" : Str) ∈ (["a", "b", "c", "d", "e", "f", "g"] : List Str) := by decide +kernel
    -- found
    refine s_asgHas (D := ⟨_, Q, _, _⟩) (G := GoV) (s := s) (ds := [.dict (fullD.map fun q => (.str q.1, q.2)), .dict ((fullD ++ [(("g" : Str), PyData.list [])]).map fun q => (.str q.1, q.2)), .dict [(.str "a", .list (pushD (wl.take 60))), (.str "b", .list (stealD (wl.take 60)))], .dict [(.str "a", .list (pushD wl)), (.str "b", .list [])], .dict [(.str "a", .list (sixty 61))]]) hs5
      (ezl_lst (eza_cons (ez_v (ev_var rfl) ⟨_, zf⟩) (eza_cons (ez_dict (prs := fullD ++ [(("g" : Str), PyData.list [])]) (by
        rw [List.map_append]
        refine ezl_cat ?_ (ezl_lst (eza_cons (ez_tup (eza_cons ez_str (eza_cons (ez_lst eza_nil (by show 0 ≤ 100000; decide)) eza_nil)) (by show 2 ≤ 100000; decide)) eza_nil) (by show 1 ≤ 100000; decide)) (by show 6 + 1 ≤ 100000; decide)
        have := ezl_itemsD (te := tVar 3) (σ := [some (.ref s), some (.ref p1), some (.ref p2), some fv, some wv, some rv, none, none, none]) (ev_var rfl) zf
        rw [List.map_map] at this
        exact this) (by decide +kernel)) (eza_cons (ez_v (ev_var rfl) ⟨_, zw⟩) (eza_cons (ez_v (ev_var rfl) ⟨_, zr⟩) (eza_cons (ez_disp1 (ez_ofL (ezl_rep (n := 61) sz1 (fun _ _ => ev_c) (by decide) (by show 1 * 61 ≤ 100000; decide)))) eza_nil))))) (by show 5 ≤ 100000; decide))
      (all_c (go_prs fg (by show 6 ≤ 18; decide)) (all_c (go_prs (app_all fg (all_c ⟨gg, goL_nil⟩ all_n)) (by show 7 ≤ 18; decide)) (all_c (go_two ga gb gl60 gs60) (all_c (go_two ga gb gl61 goL_nil) (all_c (goV_dict (all_c ⟨(short_go ga).1, (short_go ga).2, gL2⟩ all_n) (by show 1 ≤ 18; decide)) all_n))))) fun p6 vs6 H6 n6 e6 h6 l6 g6 => ?_
    have l6 : vs6.length = 5 := l6
    have hs6 := e6 _ _ hs5
    obtain ⟨_, aw6, zw6, rfl⟩ := has_hid (gw.ex (e5.trans e6))
    -- the rest
    obtain ⟨ub, bb, evb, dzb⟩ := ev_dgetZ (te := tVar 4) (σ := [some (.ref s), some (.ref p1), some (.ref p2), some fv, some wv, some rv, some (.ref p6), none, none]) (ev_var rfl) zw6 (i := 1) (k := "b") (d := .list (stealD (wl.take 60))) rfl
    obtain ⟨ua, ba, eva, dza⟩ := ev_dgetZ (te := tVar 4) (σ := [some (.ref s), some (.ref p1), some (.ref p2), some fv, some wv, some rv, some (.ref p6), none, none]) (ev_var rfl) zw6 (i := 0) (k := "a") (d := .list (pushD (wl.take 60))) rfl
    cases dza with
    | @lst pa xa _ ca hpa hxa =>
      refine te_catHas (G := GoV) (s := s) (ds := [.dict [(.str "a", .list (List.replicate 2 [PyData.tuple [.str "push", .str "x"]]).flatten)], .dict [(.str "a", .list [.tuple [.str "size", .int 61]])], .dict [(.str "b", .list (stealD (wl.take 60))), (.str "a", .list ((pushD (wl.take 60)).drop 1))]]) hs6 h6 (ev_var rfl) (has_s g6)
        (ezl_lst (eza_cons (ez_disp1 (ez_ofL (ezl_rep (n := 2) (ezl_lst (eza_cons (ez_tup (eza_cons ez_str (eza_cons ez_str eza_nil)) (by show 2 ≤ 100000; decide)) eza_nil) (by show 1 ≤ 100000; decide)) (fun _ _ => ev_c) (by decide) (by show 1 * 2 ≤ 100000; decide)))) (eza_cons (ez_disp1 (ez_lst (eza_cons (ez_tup (eza_cons ez_str (eza_cons ez_int eza_nil)) (by show 2 ≤ 100000; decide)) eza_nil) (by show 1 ≤ 100000; decide))) (eza_cons (ez_disp2 (ez_v evb ⟨_, dzb⟩) (ez_ofL (ezl_drop (i := 1) eva hpa hxa ev_c)) (by decide +kernel)) eza_nil))) (by show 3 ≤ 100000; decide))
        (all_c (goV_of (by decide +kernel)) (all_c (goV_of (by decide +kernel)) (all_c (go_two gb ga gs60 (goL_old (fun x hx => push_old wnm60 x (List.mem_of_mem_drop hx)) (by rw [List.length_drop]; unfold pushD; rw [List.length_map]; omega))) all_n))) (by rw [l6]; show 5 + 3 ≤ 100000; decide) fun p7 vs7 H7 n7 e7 h7 l7 g7 => ?_
      rw [l6] at l7
      have l7 : vs7.length = 8 := l7
      refine q p7 vs7 H7 (k1.trans (kb_ex (e2.trans (e3.trans (e4.trans (e5.trans (e6.trans e7))))))) ((S1.ex (e2.trans (e3.trans (e4.trans (e5.trans (e6.trans e7)))))).le (by omega)) h7 (fun z => by rw [z, hs6] at n7; cases n7) (by omega) g7
end
end Vx

set_option Elab.async false
set_option linter.all false
set_option maxRecDepth 100000
set_option maxHeartbeats 8000000
namespace Vx
open PySem PySem.Spec PyProof.Rows L2 Evl
theorem entOf_en (e : En) : entOf e.data = e := by
  have n : ¬ (("pop" : Str) = "push") := by decide +kernel
  cases e with
  | push x =>
    show (if ("push" : Str) = "push" then En.push x else En.pop x) = _
    rw [if_pos rfl]
  | pop x =>
    show (if ("pop" : Str) = "push" then En.push x else En.pop x) = _
    rw [if_neg n]
  | size k => rfl
  | steal o x => rfl
theorem entD_en {e : En} (h : e.ok) : entD e.data = true := by
  have n1 : isS "push" (.str "size") = false := by decide +kernel
  have n2 : isS "pop" (.str "size") = false := by decide +kernel
  cases e with
  | push x =>
    show (if (isS "push" (.str "push") || isS "pop" (.str "push")) = true then nmD (.str x) else isS "size" (.str "push") && szD (.str x)) = true
    rw [isS_self, Bool.true_or, if_pos rfl]
    exact nameS_iff.mpr h
  | pop x =>
    show (if (isS "push" (.str "pop") || isS "pop" (.str "pop")) = true then nmD (.str x) else isS "size" (.str "pop") && szD (.str x)) = true
    rw [isS_self, Bool.or_true, if_pos rfl]
    exact nameS_iff.mpr h
  | size k =>
    show (if (isS "push" (.str "size") || isS "pop" (.str "size")) = true then nmD (.int k) else isS "size" (.str "size") && szD (.int k)) = true
    rw [n1, n2, Bool.or_false, if_neg (by decide), isS_self, Bool.true_and]
    show (decide (0 ≤ k) && decide (k ≤ 60)) = true
    rw [decide_eq_true h.1, decide_eq_true h.2]
    rfl
  | steal o x =>
    show (isS "steal" (.str "steal") && (nmD (.str o) && nmD (.str x))) = true
    rw [isS_self, show nmD (.str o) = true from nameS_iff.mpr h.1, show nmD (.str x) = true from nameS_iff.mpr h.2]
    rfl
theorem Tr_mem {ws : List Str} {L : List (List En)} {k i : Nat} {w : Str} {es : List En} {e : En} (hk : ws[k]? = some w) (hL : L[k]? = some es) (hi : es[i]? = some e) : (w, i, e) ∈ Tr ws L := by
  unfold Tr
  refine List.mem_flatMap.mpr ⟨(w, es), List.mem_of_getElem? (i := k) (by rw [List.getElem?_zip_eq_some]; exact ⟨hk, hL⟩), ?_⟩
  unfold tr1
  exact List.mem_map.mpr ⟨(e, i), List.mem_zipIdx_iff_getElem?.mpr hi, rfl⟩
/-! valid logs are logs -/
theorem push_at {ws : List Str} {L : List (List En)} {o x : Str} {j : Nat} (ll : L.length = ws.length) (nd : (L.flatMap pus).Nodup) (m : (o, j, En.push x) ∈ Tr ws L) : pushAt ws L x = some (o, j) := by
  rw [flat_itP ll] at nd
  have h1 := nodup_itP.mp nd x
  have h2 : (o, j) ∈ plsOf (Tr ws L) x := by
    unfold plsOf
    exact List.mem_map.mpr ⟨_, List.mem_filter.mpr ⟨m, by show (true && decide (x = x)) = true; rw [decide_eq_true rfl]; rfl⟩, rfl⟩
  rw [pushAt_eq]
  match hp : plsOf (Tr ws L) x, h1, h2 with
  | [z], _, h2 => rw [List.mem_singleton.mp h2]; rfl
  | [], _, h2 => cases h2
  | _ :: _ :: r, h1, _ =>
    rw [List.length_cons, List.length_cons] at h1
    omega
theorem fit_vlog {top : Nat} {ws : List Str} {L : List (List En)} (v : Vlog top ws L) : fitL ws L = true := by
  unfold fitL
  rw [decide_eq_true v.pu, decide_eq_true v.re, Bool.true_and, Bool.true_and, List.all_eq_true]
  rintro ⟨w, i, e⟩ ht
  obtain ⟨k, es, hw, hL, he⟩ := tr_mem ht
  show fitsB e w i (pushAt ws L e.it) = true
  cases e with
  | push x => exact fits_other rfl
  | size x => exact fits_other rfl
  | pop x =>
    obtain ⟨j, hj, hp⟩ := v.own k es i x hL he
    have m : (w, j, En.push x) ∈ Tr ws L := Tr_mem hw hL hp
    rw [show (En.pop x).it = x from rfl, push_at v.len v.pu m]
    show (decide (w = w) && decide (j < i)) = true
    rw [decide_eq_true rfl, decide_eq_true hj]
    rfl
  | steal o x =>
    obtain ⟨ne, i2, es2, h1, h2, h3⟩ := v.st k es w o x hL hw (List.mem_of_getElem? he)
    obtain ⟨j, hj⟩ := List.mem_iff_getElem?.mp h3
    have m : (o, j, En.push x) ∈ Tr ws L := Tr_mem h1 h2 hj
    rw [show (En.steal o x).it = x from rfl, push_at v.len v.pu m]
    show (decide (o = o) && !decide (o = w)) = true
    rw [decide_eq_true rfl, decide_eq_false ne]
    rfl
theorem kds_ws : ∀ {ws : List Str} {Ds : List PyData}, Ds.length = ws.length → wsOf (kdsOf ws Ds) = ws
  | [], [], _ => rfl
  | [], _ :: _, h => by cases h
  | _ :: _, [], h => by cases h
  | w :: ws, d :: Ds, h => by
    have ih := kds_ws (ws := ws) (Ds := Ds) (by simpa using h)
    show w :: wsOf (kdsOf ws Ds) = w :: ws
    rw [ih]
theorem kds_L : ∀ {ws : List Str} {L : List (List En)}, L.length = ws.length → LOf (kdsOf ws (L.map logD)) = L
  | [], [], _ => rfl
  | [], _ :: _, h => by cases h
  | _ :: _, [], h => by cases h
  | w :: ws, es :: L, h => by
    have ih := kds_L (ws := ws) (L := L) (by simpa using h)
    show (es.map En.data).map entOf :: LOf (kdsOf ws (L.map logD)) = es :: L
    rw [ih, List.map_map]
    congr 1
    conv => rhs; rw [← List.map_id es]
    exact List.map_congr_left fun e _ => entOf_en e
theorem logs_vlog {ws : List Str} {L : List (List En)} (v : Vlog 60 ws L) : logsD fitL (.dict (kdsOf ws (L.map logD))) = true := by
  show logsK fitL (kdsOf ws (L.map logD)) = true
  have ln : (kdsOf ws (L.map logD)).length = ws.length := by
    unfold kdsOf
    rw [List.length_zip, List.length_map, List.length_map, v.len, Nat.min_self]
  unfold logsK
  rw [ln, decide_eq_true v.wk.1, decide_eq_true v.wk.2.1, kds_ws (by rw [List.length_map, v.len]), kds_L v.len, fit_vlog v]
  rw [List.all_eq_true.mpr fun kd hkd => ?_]
  · rfl
  · obtain ⟨w, h1, h2, h3⟩ := kds_mem hkd
    obtain ⟨es, h4, e⟩ := List.mem_map.mp h3
    have ok := v.ent _ h4
    rw [h2, ← e]
    show (nameS w && (decide ((es.map En.data).length ≤ 60) && (es.map En.data).all entD)) = true
    rw [nameS_iff.mpr (v.wk.2.2.2 w h1), List.length_map, decide_eq_true ok.1, List.all_eq_true.mpr fun x hx => ?_]
    · rfl
    · obtain ⟨y, hy, rfl⟩ := List.mem_map.mp hx
      exact entD_en (ok.2 y hy)
/-- rows, some entries more -/
theorem goV_more {ws : List Str} {L : List (List En)} (w6 : ws.length ≤ 6) (nm : ∀ w ∈ ws, IsNm w) (h : ∀ es ∈ L, es.length ≤ 70 ∧ ∀ e ∈ es, e.ok) : GoV (.dict (kdsOf ws (L.map logD))) := by
  refine goV_dict (fun kd hkd => ?_) (by unfold kdsOf; rw [List.length_zip, List.length_map]; omega)
  obtain ⟨w, h1, h2, h3⟩ := kds_mem hkd
  have wn := nm w h1
  obtain ⟨es, h4, e⟩ := List.mem_map.mp h3
  rw [← e]
  have ok := h _ h4
  refine ⟨by rw [h2]; exact plA_nm wn, by rw [h2]; exact (sz_nm wn).le (by decide) (by decide), goL_list (fun x hx => (old_en ok.2 x hx).e) ((sza_all fun x hx => (old_en ok.2 x hx).sz).le (by decide) ?_)⟩
  rw [List.length_map]
  have := ok.1
  omega
end Vx

set_option Elab.async false
set_option linter.all false
set_option maxRecDepth 100000
set_option maxHeartbeats 8000000
namespace Vx
open PySem PySem.Spec PyProof.Rows L2 Evl
def spLaw (K : PySem.W.Frag) : Sp := fun vs H Q _ => ∃ (a : Addr) (ns : List Int), vs = [.ref a] ∧ SqL K H a (ns.map V.int) ∧ ns.length ≤ 63 ∧ ∀ H', Q (.bl true) H'
theorem ev_mn2 {ta tb : TE} {σ : L2.St} {H : Hp} {i j : Int} (ha : Ev ta σ H (.int i)) (hb : Ev tb σ H (.int j)) : Ev (tCB (fun xs H Q => ∃ i j, xs = [.int i, .int j] ∧ Q (.int (if j < i then j else i)) H) (tCons ta (tCons tb tNil))) σ H (.int (if j < i then j else i)) := fun H1 e Q q =>
  ha H1 e _ fun H2 e2 => hb H2 (e.trans e2) _ fun H3 e3 => ⟨i, j, rfl, q H3 (e2.trans e3)⟩
section
variable {s : Addr} {c d : Nat} {t u : TT} {σ : L2.St} {B : Hp}
theorem ekt_orF (hs : B s = none) (h1 : EvKT s c t σ B (fun b => b = false)) (h2 : EvKT s d u σ B (fun b => b = false)) : EvKT s (c + d) (tOr t u) σ B (fun b => b = false) := fun H1 n e S le Q q =>
  h1 H1 n e S (by omega) _ fun b H2 k S2 hb => by
    subst hb
    exact h2 H2 (n + c) (k.base e hs) S2 (by omega) _ fun b H3 k3 S3 hb => q b H3 (k.trans k3) (S3.le (by omega)) hb
theorem ekt_ask {K : PySem.W.Frag} {sp : Sp} {r : Addr} {i j : Nat} (hi : σ[i]? = some (some (.ref s))) (hj : σ[j]? = some (some (.ref r))) (hc : ∀ (H1 : Hp) (n : Nat), Ex B H1 → Src H1 s n → n + 20 ≤ 1000000000 → ∀ Q : VK, (∀ v H', KB s H1 H' → Src H' s (n + 8) → HasD GoV [s] H' v → Q v H') → sp [.ref s, .ref r] H1 Q E0) :
    EvKT s 20 (tNot (tB (tCall (spRightV K) [] E0 (tCons (tCall sp [] E0 (tCons (tVar i) (tCons (tVar j) tNil))) tNil)))) σ B (fun b => b = false) := fun H1 n e S le Q q =>
  ⟨.ref s, hi, .ref r, hj, hc H1 n e S le _ fun v H' k S' hv => by
    obtain ⟨R, dv, as, eR, _, z, g⟩ := hv
    exact ⟨v, dv, as, rfl, z.ex eR, g, fun H'' e'' => ⟨true, rfl, q false H'' (k.trans (kb_ex e'')) ((S'.ex e'').le (by omega)) rfl⟩⟩⟩
end
theorem ev_isl {K : PySem.W.Frag} {te : TE} {σ : L2.St} {B : Hp} {d : PyData} {b : Bool} (h : EvZ te σ B d) (pl : plD d = true) (hb : logsD fitL d = b) : Ev (tCall (spLB K fitL) [] E0 (tCons te tNil)) σ B (.bl b) := fun H1 e Q q =>
  h H1 e _ fun v H2 e2 kn => by
    obtain ⟨as, z⟩ := kn.now e e2
    exact ⟨v, b, rfl, by rw [← hb]; exact logsT_d z pl, fun H' e' => q H' (e2.trans e')⟩
def mores : List En := [.size 1, .push "qqqqqqqq", .pop "qqqqqqqq", .pop "qqqqqqqq"]
theorem nm_q : IsNm "qqqqqqqq" := (by decide +kernel : ∀ z ∈ (["qqqqqqqq"] : List Str), 1 ≤ z.length ∧ z.length ≤ 8 ∧ ∀ c ∈ z.cps.toList, 97 ≤ c ∧ c ≤ 122) _ (by simp)
theorem mores_ok : ∀ e ∈ mores, e.ok := all_c ⟨by decide, by decide⟩ (all_c nm_q (all_c nm_q (all_c nm_q all_n)))
theorem set_same {α : Type} {l : List α} {k : Nat} {x : α} (h : l[k]? = some x) : l.set k x = l := by
  refine List.ext_getElem? fun j => ?_
  rw [List.getElem?_set]
  by_cases hj : k = j
  · subst hj
    rw [if_pos rfl, if_pos (List.getElem?_eq_some_iff.mp h).1, h]
  · rw [if_neg hj]
theorem s_forZ {K : PySem.W.Frag} {te : TE} {g : TG} {tu : TS} {D : Ends} {σ : L2.St} {H : Hp} {ds : List PyData} (h : EvZL te σ H ds) (k : ∀ r vs H1, H r = none → Ex H H1 → H1 r = some (.lst vs) → KnX r H H H1 (fun H' => ∃ as, DzA H' vs ds as) → tFor (iList K (tC (.ref r))) g tu D σ H1) : tFor (iList K te) g tu D σ H :=
  h H (Ex.refl H) _ fun r vs H1 n e h1 kn => k r vs H1 n e h1 kn
abbrev tBm (K : PySem.W.Frag) : TS := tSeq (tDrop (tBM K "list" rAppend (tDGet (tVar 4) (tVar 6)) (tCons (tVar 7) tNil))) (tIfS (tNot (tB (tCall (spRightV K) [] E0 (tCons (tVar 4) tNil)))) (tRet (tC (V.bl false))) tNext)
section
variable {P : Program} {w : World} {K : PySem.W.Frag} {mg : Str → Option Value} {base : Heap}
theorem sc_law : FnScope ["script", "k", "source", "turn", "rows", "change", "name", "more", "value"] ["script"] (defScope s_law) := ⟨rfl, rfl, rfl, by decide +kernel, rfl, by decide +kernel, by decide +kernel⟩
theorem ok_law {f : Addr} {fd : FuncData} (F : Fun K "law" "law" s_law f fd) (T : Bl mg) (G_law_source : Good P w K mg base 1 "_law_source" ["script", "k"] (spSource K)) (G_law_logs : Good P w K mg base 4 "_law_logs" ["source", "top"] (spLogs K)) (G_law_is_logs : Good P w K mg base 3 "_law_is_logs" ["value"] (spIL K)) (G_law_right : GoodG P w K mg base 6 "_law_right" ["value"] (spRightV K)) (G_law_changed : Good P w K mg base 3 "_law_changed" ["source", "rows"] spChanged) (G_law_other : Good P w K mg base 2 "_law_other" ["source", "rows"] spOther) (G_law_at_bounds : Good P w K mg base 3 "_law_at_bounds" ["source"] spBounds) (G_is_logs : Good P w K mg base 5 "is_logs" ["thing"] (spLB K fitL)) : FnG P w K mg base 7 f fd ["script"] (spLaw K) := by
  refine fun_okG F sc_law (fun vs H Q E h => ?_) (fun cdv A outer s H vs Q E quiet hr h => ?_)
  · obtain ⟨a, ns, rfl, _⟩ := h
    rfl
  · obtain ⟨a, ns, rfl, hS, hlen, q⟩ := h
    have hu := hu_of hr
    refine ⟨_, (pss_cons (ps_for PassesOwn.never rfl (x_rng T (pa_cons (pe_callB (call_max2 rfl) (by rfl) T.max (by decide +kernel) (pa_cons pe_int (pa_cons (pe_callB (call_min2 rfl) (by rfl) T.min (by decide +kernel) (pa_cons pe_int (pa_cons (x_len (K := K) T (pv 0)) pa_nil))) pa_nil))) pa_nil)) (pg_name (i := 1) sc_law.nd rfl (Or.inl rfl)) (pss_cons (ps_set (i := 2) sc_law.nd rfl (Or.inl rfl) (pe_fn (G_law_source.mono (by decide)) hr (pa_cons (pv 0) (pa_cons (pv 1) pa_nil))))
      (pss_cons (ps_for PassesOwn.never rfl (x_rng T (pa_cons pe_int pa_nil)) (pg_name (i := 3) sc_law.nd rfl (Or.inl rfl)) (pss_cons (ps_set (i := 4) sc_law.nd rfl (Or.inl rfl) (pe_fn (G_law_logs.mono (by decide)) hr (pa_cons (pv 2) (pa_cons (x_ixl (K := K) (pe_lst (pa_cons pe_int (pa_cons pe_int pa_nil))) (pe_op op_mod (pv 3) pe_int)) pa_nil))))
      (pss_cons (ps_if (pw_or (pt_not (pt_val (pe_fn (G_law_is_logs.mono (by decide)) hr (pa_cons (pv 4) pa_nil)))) (pw_or1 (pt_not (pt_val (pe_fnG G_law_right quiet hr (pa_cons (pv 4) pa_nil)))))).pt (pss_one (ps_ret pe_bl)) pss_nil)
      (pss_cons (ps_for PassesOwn.never rfl (x_rng T (pa_cons pe_int pa_nil)) (pg_name (i := 5) sc_law.nd rfl (Or.inl rfl)) (pss_one (ps_if (pw_or (pt_not (pt_val (pe_fnG G_law_right quiet hr (pa_cons (pe_fn (G_law_changed.mono (by decide)) hr (pa_cons (pv 2) (pa_cons (pv 4) pa_nil))) pa_nil)))) (pw_or1 (pt_not (pt_val (pe_fnG G_law_right quiet hr (pa_cons (pe_fn (G_law_other.mono (by decide)) hr (pa_cons (pv 2) (pa_cons (pv 4) pa_nil))) pa_nil)))))).pt (pss_one (ps_ret pe_bl)) pss_nil)))
      (pss_cons (ps_set (i := 6) sc_law.nd rfl (Or.inl rfl) (x_ixl (K := K) (pe_callB (call_sortDk rfl) (by rfl) T.sorted (by decide +kernel) (pa_cons (pv 4) pa_nil)) pe_int))
      (pss_one (ps_for PassesOwn.never rfl (x_pil (K := K) (pe_lst (pa_cons (pe_tup (pa_cons pe_str (pa_cons pe_int pa_nil))) (pa_cons (pe_tup (pa_cons pe_str (pa_cons pe_str pa_nil))) (pa_cons (pe_tup (pa_cons pe_str (pa_cons pe_str pa_nil))) (pa_cons (pe_tup (pa_cons pe_str (pa_cons pe_str pa_nil))) pa_nil)))))) (pg_name (i := 7) sc_law.nd rfl (Or.inl rfl)) (pss_cons (ps_expr (x_bm (K := K) PySem.F.plainAttrs_list PySem.F.slot_list_append PySem.F.type_list_append mt_append (pe_dget hu (pv 4) (pv 6) (fun _ _ => rfl)) (pa_cons (pv 7) pa_nil)))
      (pss_one (ps_if (pt_not (pt_val (pe_fnG G_law_right quiet hr (pa_cons (pv 4) pa_nil)))) (pss_one (ps_ret pe_bl)) pss_nil))))))))))
      (pss_one (ps_if (pt_cmpR (x_neD (K := K) rfl hr.units) (pe_lc (own := [("value", 8)]) (g := (gName 8))  rfl sc_law.nd (x_pil (K := K) (pe_fn (G_law_at_bounds.mono (by decide)) hr (pa_cons (pv 2) pa_nil))) (blkOk_by (N := ["script", "k", "source", "turn", "rows", "change", "name", "more", "value"]) (sc := (defScope s_law)) (by decide +kernel)) (fun _ _ _ _ _ => (pg_name (i := 8) sc_law.nd rfl (Or.inl rfl))) (fun _ _ _ _ _ => (pts_one (pt_not (pt_val (pe_fnG G_law_right quiet hr (pa_cons (pv 8) pa_nil)))))) (fun _ _ _ _ _ => (pv 8))) (pe_lst pa_nil) (nomark _)) (pss_one (ps_ret pe_bl)) pss_nil)))))
      (pss_one (ps_ret (pe_and (pe_cmpR op_isBl (pe_fn (G_is_logs.mono (by decide)) hr (pa_cons (pe_disp (pps_cons pe_str (pe_lst (pa_cons (pe_tup (pa_cons pe_str (pa_cons pe_str pa_nil))) pa_nil)) pps_nil) rfl rfl (by simp) (by decide)) pa_nil)) pe_bl (nomark _)) (pe_one (pe_cmpR op_isBl (pe_fn (G_is_logs.mono (by decide)) hr (pa_cons (pe_disp (pps_cons pe_str (pe_lst pa_nil) pps_nil) rfl rfl (by simp) (by decide)) pa_nil)) pe_bl (nomark _))))))), ?_⟩
    refine q_forR1 (n := if (if (ns.length : Int) < 2 then (ns.length : Int) else 2) > 1 then (if (ns.length : Int) < 2 then (ns.length : Int) else 2) else 1) (ea_cons (ev_max2 ev_c (ev_mn2 ev_c (Evl.ev_is (ev_len (ev_var rfl) hS) (by rw [List.length_map])))) ea_nil) (by constructor <;> (split <;> (try split) <;> omega))
      (fun _ σ' H' => (∃ b1 b2 b3 b4 b5 b6 b7 b8, σ' = [some (.ref a), b1, b2, b3, b4, b5, b6, b7, b8]) ∧ Ex H H') (fun H1 e1 => ⟨⟨_, _, _, _, _, _, _, _, rfl⟩, e1⟩) (fun k σ' H2 hk p => ?_) (fun σ' H2 p => ?_)
    · obtain ⟨⟨b1, b2, b3, b4, b5, b6, b7, b8, rfl⟩, e2⟩ := p
      have hk3 : (k : Int) < 2 := by
        split at hk <;> (try split at hk) <;> omega
      refine ⟨_, rfl, _, rfl, a, ns, (k : Int), rfl, ex_l e2 hS, by omega, by omega, fun p x y hp x0 y0 y1 => ?_⟩
      have s0 : Src (upd H2 p (.lst [.int x, .int y, .int 0])) p 0 := ⟨x, y, 0, upd_same, x0, y0, y1, by decide, by decide⟩
      have e3 : Ex H2 (upd H2 p (.lst [.int x, .int y, .int 0])) := Ex.new hp
      generalize upd H2 p (.lst [.int x, .int y, .int 0]) = H3 at s0 e3
      dsimp only [gName]
      refine q_forR1 (n := 4) (ea_cons ev_c ea_nil) (by decide) (fun t σ' H' => (∃ b3 b4 b5 b6 b7 b8, σ' = [some (.ref a), some (.int (k : Int)), some (.ref p), b3, b4, b5, b6, b7, b8]) ∧ Ex H2 H' ∧ Src H' p (4300 * t)) (fun H4 e4 => ⟨⟨_, _, _, _, _, _, rfl⟩, e3.trans e4, s0.ex e4⟩) (fun t σ' H4 ht pp => ?_) (fun σ' H4 pp => ?_)
      · obtain ⟨⟨b3, b4, b5, b6, b7, b8, rfl⟩, e4, s4⟩ := pp
        have top : ∃ m : Nat, 1 ≤ m ∧ m ≤ 60 ∧ Ev (tOp (rIxL K) (tLst (tCons (tC (V.int 5)) (tCons (tC (V.int 60)) tNil))) (tOp (rI (fun _ j => 0 < j) fun i j => V.int (i % j)) (tVar 3) (tC (V.int 2)))) [some (.ref a), some (.int (k : Int)), some (.ref p), some (.int (t : Int)), b4, b5, b6, b7, b8] H4 (.int (m : Int)) := by
          have mo : ∀ H', Ev (tOp (rI (fun _ j => 0 < j) fun i j => V.int (i % j)) (tVar 3) (tC (V.int 2))) [some (.ref a), some (.int (k : Int)), some (.ref p), some (.int (t : Int)), b4, b5, b6, b7, b8] H' (.int ((t : Int) % 2)) := fun H' => ev_op (ev_var rfl) ev_c (rv_I (by decide))
          have hl : EvL (tLst (tCons (tC (V.int 5)) (tCons (tC (V.int 60)) tNil))) [some (.ref a), some (.int (k : Int)), some (.ref p), some (.int (t : Int)), b4, b5, b6, b7, b8] H4 [.int 5, .int 60] := el_lst (ea_cons ev_c (ea_cons ev_c ea_nil)) (by show 2 ≤ 100000; decide)
          rcases Int.emod_two_eq (t : Int) with h | h
          · exact ⟨5, by decide, by decide, ev_opL1 hl (fun H1 _ => Evl.ev_is (mo H1) (congrArg V.int h)) (fun r H1 h1 _ => rv_ixL (sq_of h1) rfl)⟩
          · exact ⟨60, by decide, by decide, ev_opL1 hl (fun H1 _ => Evl.ev_is (mo H1) (congrArg V.int h)) (fun r H1 h1 _ => rv_ixL (sq_of h1) rfl)⟩
        obtain ⟨m, hm1, hm60, hm⟩ := top
        refine ⟨_, rfl, hm H4 (Ex.refl H4) _ fun H5 e5 => ⟨p, 4300 * t, m, rfl, s4.ex e5, by omega, hm1, hm60, fun d ws ps L H6 hd6 k6 s6 hl hps ndp v0 hwf hwk => ?_⟩⟩
        have v : Vlog 60 ws L := ⟨v0.wk, v0.len, fun es he => ⟨Nat.le_trans (v0.ent es he).1 hm60, (v0.ent es he).2⟩, v0.pu, v0.re, v0.own, v0.st⟩
        have s5 := s4.ex e5
        obtain ⟨xs5, hs5⟩ := s5.at_
        obtain ⟨xs6, hs6⟩ := s6.at_
        have hpp : p ∉ ps := fun z => by have := hps p z; rw [hs5] at this; cases this
        have pns : ∀ q ∈ ps, q ≠ p := fun q hq z => hpp (by rw [← z]; exact hq)
        have nd := v.wk.2.2.1
        have w6 := v.wk.2.1
        obtain ⟨bz, dz⟩ := hl_dz hl v.len nd
        have gr : GoV (.dict (kdsOf ws (L.map logD))) := goV_more w6 v.wk.2.2.2 fun es he => ⟨Nat.le_trans (v.ent es he).1 (by decide), (v.ent es he).2⟩
        dsimp only [gName]
        refine q_if (b := false) (et_or (a := false) (b := false) (et_is (et_not (a := true) (et_B (Evl.ev_is (ev_call (ea_cons (ev_var rfl) ea_nil) fun H7 e7 Q7 y E => ⟨.ref d, _, _, rfl, dz.ex e7, gr.pl, gr.ly, y⟩) (congrArg V.bl (logs_vlog v))))) rfl) (fun _ => et_is (et_not (a := true) (et_B (ev_call (ea_cons (ev_var rfl) ea_nil) fun H7 e7 Q7 y E => ⟨.ref d, _, _, rfl, dz.ex e7, gr, y⟩))) rfl)) (fun z => nomatch z) fun _ H7 e7 => ?_
        have hl7 := hl.ex e7
        have s7 := s6.ex e7
        have hs7 := e7 _ _ hs6
        -- the changes
        refine q_forR1 (n := 6) (ea_cons ev_c ea_nil) (by decide) (fun c σ' H' => (∃ b5, σ' = [some (.ref a), some (.int (k : Int)), some (.ref p), some (.int (t : Int)), some (.ref d), b5, b6, b7, b8]) ∧ KB p H7 H' ∧ Src H' p (4300 * t + 4000 + 40 * c)) (fun H8 e8 => ⟨⟨_, rfl⟩, kb_ex e8, s7.ex e8⟩) (fun c σ' H8 hc pp => ?_) (fun σ' H8 pp => ?_)
        · obtain ⟨⟨b5', rfl⟩, k8, s8⟩ := pp
          have hl8 := hl7.kb k8 hs7 pns
          obtain ⟨xs8, hs8⟩ := s8.at_
          have hlB := hl_hid hl8 hs8 hpp
          refine sk_if (s := p) (n := 4300 * t + 4000 + 40 * c) (c := 40) (P1 := fun b => b = false) s8 (ekt_orF (c := 20) (d := 20) (hid_s p H8) (ekt_ask rfl rfl (fun H1 n e S le Q1 q1 => ⟨p, d, n, ws, ps, L, rfl, S, le, hlB.ex e, hpp, v, hwk, q1⟩)) (ekt_ask rfl rfl (fun H1 n e S le Q1 q1 => ⟨p, d, n, ws, ps, L, rfl, S, le, hlB.ex e, hpp, v, hwk, q1⟩))) (by omega) (fun H1 k1 S1 z => absurd z (by decide)) (fun H1 k1 S1 _ => ?_)
          exact ⟨⟨_, rfl⟩, k8.trans k1, S1.le (by omega)⟩
        obtain ⟨⟨b5', rfl⟩, k8, s8⟩ := pp
        have hl8 := hl7.kb k8 hs7 pns
        -- the name
        refine ⟨_, rfl, d, Dk ws ps, ws, rfl, Or.inl hl8.dk, dk_keys hl.pl, by omega, fun ys p1 pm so hp1 => ?_⟩
        obtain ⟨name, h0⟩ : ∃ y, ys[0]? = some y := ⟨_, List.getElem?_eq_getElem (by rw [pm.length_eq]; exact v.wk.1)⟩
        refine ⟨p1, ys.map V.str, 0, .str name, rfl, rfl, sq_of upd_same, atI_nat (j := 0) (by rw [List.getElem?_map, h0]; rfl), ?_⟩
        have hname : name ∈ ws := pm.mem_iff.mp (List.mem_of_getElem? h0)
        obtain ⟨kk, hk⟩ := List.mem_iff_getElem?.mp hname
        have hkl := (List.getElem?_eq_some_iff.mp hk).1
        obtain ⟨pk, hpk⟩ : ∃ q, ps[kk]? = some q := ⟨_, List.getElem?_eq_getElem (by rw [hl.pl]; exact hkl)⟩
        obtain ⟨es, hes⟩ : ∃ es, L[kk]? = some es := ⟨_, List.getElem?_eq_getElem (by rw [v.len]; exact hkl)⟩
        have eok := v.ent _ (List.mem_of_getElem? hes)
        have npk := pns pk (List.mem_of_getElem? hpk)
        have E9 : Ex H8 (upd H8 p1 (.lst (ys.map V.str))) := Ex.new hp1
        generalize upd H8 p1 (.lst (ys.map V.str)) = H9 at E9 ⊢
        have hl9 := hl8.ex E9
        have s9 := s8.ex E9
        -- more
        dsimp only [gName]
        have zl : EvZL (tLst (tCons (tTup (tCons (tC (V.str "size")) (tCons (tC (V.int 1)) tNil))) (tCons (tTup (tCons (tC (V.str "push")) (tCons (tC (V.str "qqqqqqqq")) tNil))) (tCons (tTup (tCons (tC (V.str "pop")) (tCons (tC (V.str "qqqqqqqq")) tNil))) (tCons (tTup (tCons (tC (V.str "pop")) (tCons (tC (V.str "qqqqqqqq")) tNil))) tNil))))) [some (.ref a), some (.int (k : Int)), some (.ref p), some (.int (t : Int)), some (.ref d), b5', some (.str name), b7, b8] H9 (mores.map En.data) := ezl_lst (eza_cons (ez_tup (eza_cons ez_str (eza_cons ez_int eza_nil)) (by show 2 ≤ 100000; decide)) (eza_cons (ez_tup (eza_cons ez_str (eza_cons ez_str eza_nil)) (by show 2 ≤ 100000; decide)) (eza_cons (ez_tup (eza_cons ez_str (eza_cons ez_str eza_nil)) (by show 2 ≤ 100000; decide)) (eza_cons (ez_tup (eza_cons ez_str (eza_cons ez_str eza_nil)) (by show 2 ≤ 100000; decide)) eza_nil)))) (by show 4 ≤ 100000; decide)
        refine s_forZ zl fun r vs H10 nr e10 h10 kn => ?_
        obtain ⟨az, zz⟩ := kn.kn.now (Ex.refl H9) e10
        have vl : vs.length = 4 := zz.len
        have hl10 := hl9.ex e10
        have s10 := s9.ex e10
        obtain ⟨as10, ha10, _⟩ := hl10.lg kk pk es hpk hes
        obtain ⟨as9, ha9, _⟩ := hl9.lg kk pk es hpk hes
        have nrk : r ≠ pk := fun z => by rw [z, ha9] at nr; cases nr
        show tFor (iList K (tC (.ref r))) (gName 7) (tBm K) _ _ H10
        refine s_forL (xs := vs) ev_c (sq_of h10) (fun j σ' H' => (∃ b7, σ' = [some (.ref a), some (.int (k : Int)), some (.ref p), some (.int (t : Int)), some (.ref d), b5', some (.str name), b7, b8]) ∧ KB pk H10 H' ∧ HL H' d ws ps (L.set kk (es ++ mores.take j)))
          (fun H11 e11 => ⟨⟨_, rfl⟩, kb_ex e11, by rw [List.take_zero, List.append_nil, set_same hes]; exact hl10.ex e11⟩) (fun j σ' H11 _ pp => sq_of (pp.2.1 _ _ nrk h10)) (fun j x σ' H11 hx pp => ?_) (fun σ' H11 pp => ?_)
        · obtain ⟨⟨b7', rfl⟩, k11, hl11⟩ := pp
          have hj : j < 4 := by rw [← vl]; exact (List.getElem?_eq_some_iff.mp hx).1
          have hme : mores[j]? = some (mores.getD j (.size 1)) := by
            rw [List.getD_eq_getElem?_getD, List.getElem?_eq_getElem (show j < mores.length from hj)]
            rfl
          generalize mores.getD j (.size 1) = e at hme
          have eok2 := mores_ok e (List.mem_of_getElem? hme)
          obtain ⟨dd, bd, g1, g2⟩ := zz.get hx
          rw [List.getElem?_map, hme] at g1
          cases g1
          obtain ⟨ai, rfl, hai, _⟩ := ent_en g2 (entD_en eok2)
          rw [entOf_en] at hai
          have nai : ai ≠ pk := fun z => by rw [z, ha10] at hai; cases hai
          have hset : (L.set kk (es ++ mores.take j))[kk]? = some (es ++ mores.take j) := by
            rw [List.getElem?_set, if_pos rfl, if_pos (by rw [v.len]; exact hkl)]
          refine ev_dgetQ (ev_var rfl) (ev_var rfl) hl11.r.rd (dk_get nd hk hpk) H11 (Ex.refl H11) _ fun H12 e12 => ?_
          have hl12 := hl11.ex e12
          have tl12 := hl12.lg kk pk _ hpk hset
          obtain ⟨vs0, hv0, lv0⟩ := tl12.at_
          have l64 : vs0.length ≤ 64 := by
            rw [lv0, List.length_map, List.length_append, List.length_take]
            have := eok.1
            have : mores.length = 4 := rfl
            omega
          refine ⟨Or.inl ⟨rfl, vs0, sq_of hv0⟩, .ref ai, rfl, pk, vs0, .ref ai, rfl, rfl, hv0, sz_lt (by omega), ?_⟩
          have hai12 := e12 _ _ (k11 _ _ nai hai)
          have k13 : KB pk H12 (upd H12 pk (.lst (vs0 ++ [.ref ai]))) := KB.upd
          have tk13 : TK H12 (upd H12 pk (.lst (vs0 ++ [.ref ai]))) := fun b y w => by
            rw [upd_ne (fun z => by rw [z, hv0] at w; cases w)]
            exact w
          have hl13 := hl12.set (k := kk) (e := e) ndp tk13 (by rw [upd_ne (fun z => by have := hl12.dk; rw [z, hv0] at this; cases this)]) hpk (fun q _ n => by rw [upd_ne n]) (by rw [List.map_append]; exact tl12.app tk13 hv0 upd_same (tk13 _ _ hai12))
          have eL : (L.set kk (es ++ mores.take j)).set kk (es ++ mores.take j ++ [e]) = L.set kk (es ++ mores.take (j + 1)) := by
            rw [List.set_set, take_snoc hme, List.append_assoc]
          rw [eL] at hl13
          generalize upd H12 pk (.lst (vs0 ++ [.ref ai])) = H13 at k13 hl13 ⊢
          obtain ⟨b13, dz13⟩ := hl_dz hl13 (by rw [List.length_set]; exact v.len) nd
          have g13 : GoV (.dict (kdsOf ws ((L.set kk (es ++ mores.take (j + 1))).map logD))) := goV_more w6 v.wk.2.2.2 fun es' he => by
            rcases List.mem_or_eq_of_mem_set he with h | h
            · exact ⟨Nat.le_trans (v.ent es' h).1 (by decide), (v.ent es' h).2⟩
            · rw [h]
              refine ⟨?_, fun e' he' => ?_⟩
              · rw [List.length_append, List.length_take]
                have := eok.1
                have : mores.length = 4 := rfl
                omega
              · rcases List.mem_append.mp he' with h | h
                · exact eok.2 e' h
                · exact mores_ok e' (List.mem_of_mem_take h)
          refine s_if (b := false) (et_is (et_not (a := true) (et_B (ev_call (ea_cons (ev_var rfl) ea_nil) fun H14 e14 Q14 y E => ⟨.ref d, _, _, rfl, dz13.ex e14, g13, y⟩))) rfl) (fun z => nomatch z) (fun _ H14 e14 => ?_)
          exact ⟨⟨_, rfl⟩, ((k11.trans (kb_ex e12)).trans k13).trans (kb_ex e14), hl13.ex e14⟩
        · obtain ⟨⟨b7', rfl⟩, k11, _⟩ := pp
          have e45 := e4.trans e5
          have x10 : Ex H2 H10 := ((((k6.trans (kb_ex e7)).trans k8).trans (kb_ex (E9.trans e10)))).base e45 hp
          exact ⟨⟨_, _, _, _, _, _, rfl⟩, k11.base x10 (fresh_back e45 (hps pk (List.mem_of_getElem? hpk))), (s10.kb k11 npk.symm).le (by omega)⟩
      · obtain ⟨⟨b3, b4, b5, b6, b7, b8, rfl⟩, e4, s4⟩ := pp
        refine ⟨_, rfl, p, _, rfl, s4, by show 4300 * 4 + 20 ≤ 1000000000; decide, fun r vs H5 k5 s5 hr5 nr5 lv gv => ?_⟩
        have bl : EvL (tLc (iList K (tC (.ref r))) (gName 8) (tNot (tB (tCall (spRightV K) [] E0 (tCons (tVar 8) tNil)))) (tVar 8) [8]) [some (.ref a), some (.int (k : Int)), some (.ref p), b3, b4, b5, b6, b7, b8] H5 [] := by
          have e0 : given vs.length (fun _ => false) (fun _ => V.non) = [] := by
            unfold given
            rw [List.filter_eq_nil_iff.mpr fun _ _ => by decide]
            rfl
          suffices bl0 : EvL (tLc (iList K (tC (.ref r))) (gName 8) (tNot (tB (tCall (spRightV K) [] E0 (tCons (tVar 8) tNil)))) (tVar 8) [8]) [some (.ref a), some (.int (k : Int)), some (.ref p), b3, b4, b5, b6, b7, b8] H5 (given vs.length (fun _ => false) (fun _ => V.non)) by
            rw [e0] at bl0
            exact bl0
          refine el_lcL _ _ ev_c (sq_of hr5) (by omega) (fun _ => rfl) (fun i x H6 e6 hx => et_is (et_not (a := true) (et_B (ev_call (ea_cons (ev_var rfl) ea_nil) fun H7 e7 Q7 y E => ?_))) rfl) (fun i x H6 e6 hx hf => by cases hf)
          obtain ⟨R, dv, av, eR, _, z, gd⟩ := gv x (List.mem_of_getElem? hx)
          exact ⟨x, dv, av, rfl, z.ex ((eR.trans e6).trans e7), gd, y⟩
        show tIfS (tTest (tOp (rNeD K) (tLc (iList K (tC (.ref r))) (gName 8) (tNot (tB (tCall (spRightV K) [] E0 (tCons (tVar 8) tNil)))) (tVar 8) [8]) (tLst tNil))) (tRet (tC (V.bl false))) tNext _ _ H5
        refine s_if (b := false) (et_test (ev_neNil (ds := []) bl (fun H6 e6 => .nil) (by decide +kernel))) (fun z => nomatch z) (fun _ H6 e6 => ?_)
        exact ⟨⟨_, _, _, _, _, _, _, _, rfl⟩, e2.trans ((k5.base e4 hp).trans e6)⟩
    · obtain ⟨⟨b1, b2, b3, b4, b5, b6, b7, b8, rfl⟩, e2⟩ := p
      have d1 : EvZ (tDisp [(tC (.str "a"), tLst (tCons (tTup (tCons (tC (.str "pop")) (tCons (tC (.str "x")) tNil))) tNil))]) [some (.ref a), b1, b2, b3, b4, b5, b6, b7, b8] H2 (.dict [(.str "a", .list [.tuple [.str "pop", .str "x"]])]) := ez_disp1 (ez_lst (eza_cons (ez_tup (eza_cons ez_str (eza_cons ez_str eza_nil)) (by show 2 ≤ 100000; decide)) eza_nil) (by show 1 ≤ 100000; decide))
      have d2 : EvZ (tDisp [(tC (.str "a"), tLst tNil)]) [some (.ref a), b1, b2, b3, b4, b5, b6, b7, b8] H2 (.dict [(.str "a", .list [])]) := ez_disp1 (ez_lst eza_nil (by show 0 ≤ 100000; decide))
      refine s_ret (v := .bl true) (Evl.ev_is (ev_andV (a := true) (b := true) (ev_op (ev_isl (b := false) d1 (by decide +kernel) (by decide +kernel)) ev_c (fun H3 e3 Q3 q3 => ⟨false, false, rfl, rfl, q3 H3 (Ex.refl H3)⟩)) (fun _ => ev_op (ev_isl (b := true) d2 (by decide +kernel) (by decide +kernel)) ev_c (fun H3 e3 Q3 q3 => ⟨true, true, rfl, rfl, q3 H3 (Ex.refl H3)⟩))) rfl) fun H6 e6 => q H6
end
end Vx

set_option Elab.async false
set_option linter.all false
set_option maxRecDepth 100000
set_option maxHeartbeats 8000000
namespace Vx
open PySem PySem.Spec PyProof.Rows L2 Evl
section
variable {P : Program} {w : World} {K : PySem.W.Frag} {mg : Str → Option Value} {base : Heap} {F : List Str → List (List En) → Bool}
theorem Def.goodK {x p1 : Str} {st : Stmt} {N : List Str} {k : Nat} {sp : Sp} (D : Def K mg x st [p1]) (hb : ∀ (kV doc pm : Value) (an : Option Addr) (cdv ct : Value) (s : Shared) (u : Value), BindsTo s (PySem.W.fnOf x x (defArgs st) (defBody st) (defScope st) .none kV doc pm an cdv ct) ⟨[], [(p1, u)]⟩ [(p1, u)])
    (S : FnScope N [p1] (defScope st)) (len : ∀ vs H Q E, sp vs H Q E → vs.length = [p1].length)
    (body : ∀ (f : Addr) (cdv : Value) (A : Around) (outer : List Env) (s : Shared) (H : Hp) (vs : List V) (Q : VK) (E : XK), Room k (A.deeper (envOfC x (defScope st) s.heap.objs.size f cdv)) → sp vs H Q E →
      ∃ t, PSs (cxOf CX0 P w K mg base N x (defScope st) f cdv A outer s H E).nox (defBody st) t ∧ t { nx := fun _ H' => Q .non H', rt := Q } (start N vs) H) : GoodK P w K mg base (k + 1) x p1 sp := by
  obtain ⟨f, fd, F, m, b⟩ := D.ex
  obtain ⟨oc, od, kV, doc, pm, an, cdv, ct, osl, e, _⟩ := F.ex
  refine ⟨f, fd, F.ok S len (fun cdv A outer s H vs Q E hr h => body f cdv A outer s H vs Q E hr h), m, F.kp, fun s u => ?_⟩
  rw [e]
  exact hb kV doc pm an cdv ct s u
theorem okB_is_logsK (D : Def K mg "is_logs" s_is_logs ["thing"]) (T : Bl mg) (C : Cs mg) (G_is_name : Good P w K mg base 1 "is_name" ["thing"] (spB K nmB)) (G_is_log : Good P w K mg base 4 "is_log" ["thing"] (spG K)) (G_items_fit : Good P w K mg base 3 "items_fit" ["logs"] (spFB F)) : GoodK P w K mg base 5 "is_logs" "thing" (spLB K F) := by
  refine D.goodK (fun _ _ _ _ _ _ _ _ => .of_eq rfl) sc_is_logs (fun vs H Q E h => ?_) (fun f cdv A outer s H vs Q E hr h => ?_)
  · obtain ⟨v, b, rfl, _⟩ := h
    rfl
  · obtain ⟨v, b, rfl, hv, q⟩ := h
    have hu := hu_of hr
    refine ⟨_, (pss_cons (ps_if (pw_or (pt_not (pt_val (x_isi (K := K) "dict" T (pv 0) T.dict))) (pw_or1 (pt_not (pt_chain op_le op_le pe_int (pe_callB call_lenR (by rfl) T.len PySem.boot_len (pa_cons (pv 0) pa_nil)) (x_gint C.MOST_WORKERS))))).pt (pss_one (ps_ret pe_bl)) pss_nil)
      (pss_cons (ps_if (pt_not (pt_val (x_all (K := K) T (pe_lock (pe_lc (own := [("worker", 1), ("log", 2)]) (g := (gTup K 2 (gCons (gName 1) (gCons (gName 2) gNil)))) (tt := tYes) rfl sc_is_logs.nd (pi_items (pv 0)) (blkOk_by (N := ["thing", "worker", "log"]) (sc := (defScope s_is_logs)) (by decide +kernel)) (fun _ _ _ _ _ => (x_gt (K := K) (pgs_cons (pg_name (i := 1) sc_is_logs.nd rfl (Or.inl rfl)) (pgs_cons (pg_name (i := 2) sc_is_logs.nd rfl (Or.inl rfl)) pgs_nil)))) (fun _ _ _ _ _ => pts_nil) (fun _ _ _ _ _ => (pe_and (pe_fn (G_is_name.mono (by decide)) hr (pa_cons (pv 1) pa_nil)) (pe_one (pe_fn (G_is_log.mono (by decide)) hr (pa_cons (pv 2) pa_nil)))))))))) (pss_one (ps_ret pe_bl)) pss_nil)
      (pss_one (ps_ret (pe_fn (G_items_fit.mono (by decide)) hr (pa_cons (pv 0) pa_nil)))))), ?_⟩
    have lenD : ∀ {σ : L2.St} {H2 : Hp} {d : Addr} {kvs : List (Key × V)}, H d = some (.dK kvs) → Ex H H2 → σ[0]? = some (some (.ref d)) → Ev (tCB (fun xs H Q => ∃ (a : Addr) (kvs : List (Key × V)), xs = [V.ref a] ∧ Rd H a (.dK kvs) ∧ Q (.int kvs.length) H) (tCons (tVar 0) tNil)) σ H2 (.int (kvs.length : Int)) := fun hd e2 h0 H3 e3 Q3 q3 =>
      ⟨_, h0, _, _, rfl, Or.inl (e3 _ _ (e2 _ _ hd)), q3 H3 (Ex.refl _)⟩
    have hall : ∀ {d : Addr} {kvs : List (Key × V)} {bs : List Bool} {H1 : Hp}, H d = some (.dK kvs) → Ex H H1 → kvs.length ≤ 6 → kvs.length = bs.length →
        (∀ (i : Nat) k u, kvs[i]? = some (k, u) → u ≠ .ref d ∧ ∃ (n : String) (b : Bool), Thing K H (kV k) n ∧ n ≠ "dict" ∧ LogT K H u b ∧ bs[i]? = some (nmB (kV k) && b)) →
        Ev (tCB (rAll K) (tCons (tLockE (tLc (iItems (tVar 0)) (gTup K 2 (gCons (gName 1) (gCons (gName 2) gNil))) tYes (tAndV (tCall (spB K nmB) [] E0 (tCons (tVar 1) tNil)) (tCall (spG K) [] E0 (tCons (tVar 2) tNil))) [1, 2])) tNil)) [some (.ref d), none, none] H1 (.bl (bs.all id)) := by
      intro d kvs bs H1 hd e1 l6 lb hx
      refine ev_allItemsB lb (fun _ => ev_var rfl) (e1 _ _ hd) (by omega) (fun _ _ => rfl) (fun _ => rfl) (fun H2 e2 od i k u hk => ?_)
      obtain ⟨nu, n, b, ht, nn, hg, hb⟩ := hx i k u hk
      have hd2 := (e1.trans e2) _ _ hd
      have nk := frz_nk (od := od) hd2
      refine ⟨_, hb, ev_andV (ev_call (ea_cons (ev_var rfl) ea_nil) (spv_b ((ht.ex (e1.trans e2)).nk nn nk))) (fun _ => ev_call (ea_cons (ev_var rfl) ea_nil) (spv_g ((hg.ex (e1.trans e2)).nk nk fun a o z h => ?_)))⟩
      rw [upd_ne (fun e => nu (by rw [z, e]))]
      exact h
    cases hv with
    | no t k =>
      refine s_if (b := true) (et_is (et_or (a := true) (b := true) (et_not (a := false) (et_B (ev_isI rfl t.ty k))) (fun z => nomatch z)) rfl) (fun _ H1 e1 => s_ret (v := .bl false) ev_c fun H2 e2 => ?_) (fun z => nomatch z)
      exact q H2 (e1.trans e2)
    | @few d kvs hd l =>
      refine s_if (b := true) (et_is (et_or (a := false) (b := true) (et_not (a := true) (et_B (ev_isI rfl (ty_dict (Or.inl hd)) rfl))) (fun _ => et_is (et_not (et_test (ev_chainB (b1 := decide (1 ≤ (kvs.length : Int))) (b2 := decide ((kvs.length : Int) ≤ 6)) ev_c (lenD hd (Ex.refl H) rfl) ev_c rv_I0 fun _ => rv_I0))) ?_)) rfl) (fun _ H1 e1 => s_ret (v := .bl false) ev_c fun H2 e2 => ?_) (fun z => nomatch z)
      · rcases l with l | l
        · rw [decide_eq_false (show ¬ (1 ≤ (kvs.length : Int)) by omega)]
          rfl
        · rw [decide_eq_false (show ¬ ((kvs.length : Int) ≤ 6) by omega), Bool.and_false]
          rfl
      · exact q H2 (e1.trans e2)
    | @bad d kvs bs hd l1 l6 lb hx hf =>
      refine s_if (b := false) (et_is (et_or (a := false) (b := false) (et_not (a := true) (et_B (ev_isI rfl (ty_dict (Or.inl hd)) rfl))) (fun _ => et_is (et_not (et_test (ev_chainB (b1 := decide (1 ≤ (kvs.length : Int))) (b2 := decide ((kvs.length : Int) ≤ 6)) ev_c (lenD hd (Ex.refl H) rfl) ev_c rv_I0 fun _ => rv_I0))) ?_)) rfl) (fun z => nomatch z) (fun _ H1 e1 => ?_)
      · rw [decide_eq_true (show (1 ≤ (kvs.length : Int)) by omega), decide_eq_true (show ((kvs.length : Int) ≤ 6) by omega)]
        rfl
      · refine s_if (b := true) (et_is (et_not (a := bs.all id) (et_B (hall hd e1 l6 lb hx))) (by rw [hf]; rfl)) (fun _ H2 e2 => s_ret (v := .bl false) ev_c fun H3 e3 => ?_) (fun z => nomatch z)
        exact q H3 ((e1.trans e2).trans e3)
    | @fit d ws ps L hl v =>
      have dl : (Dk ws ps).length = ws.length := dk_len hl.pl
      have w1 := v.wk.1
      have w6 := v.wk.2.1
      refine s_if (b := false) (et_is (et_or (a := false) (b := false) (et_not (a := true) (et_B (ev_isI rfl (ty_dict (Or.inl hl.dk)) rfl))) (fun _ => et_is (et_not (et_test (ev_chainB (b1 := decide (1 ≤ ((Dk ws ps).length : Int))) (b2 := decide (((Dk ws ps).length : Int) ≤ 6)) ev_c (lenD hl.dk (Ex.refl H) rfl) ev_c rv_I0 fun _ => rv_I0))) ?_)) rfl) (fun z => nomatch z) (fun _ H1 e1 => ?_)
      · rw [decide_eq_true (show (1 ≤ ((Dk ws ps).length : Int)) by omega), decide_eq_true (show (((Dk ws ps).length : Int) ≤ 6) by omega)]
        rfl
      · have ha := hall (bs := List.replicate ws.length true) hl.dk e1 (by omega) (by rw [List.length_replicate, dl]) fun i k u hk => ?_
        · rw [all_rep] at ha
          refine s_if (b := false) (et_not (a := true) (et_B ha)) (fun z => nomatch z) (fun _ H2 e2 => ?_)
          refine s_ret (v := .bl (F ws L)) (ev_call (ea_cons (ev_var rfl) ea_nil) (fun H3 e3 Q3 q3 E => ?_)) fun H3 e3 => ?_
          · exact ⟨d, ws, ps, L, rfl, hl.ex ((e1.trans e2).trans e3), v, q3⟩
          · exact q H3 ((e1.trans e2).trans e3)
        · obtain ⟨x, p, g1, g2, rfl, rfl⟩ := dk_at hk
          have hi : i < ws.length := (List.getElem?_eq_some_iff.mp g1).1
          have g3 := List.getElem?_eq_getElem (show i < L.length by rw [v.len]; exact hi)
          have tl := hl.lg i p _ g2 g3
          have en := v.ent _ (List.mem_of_getElem? g3)
          have nx := v.wk.2.2.2 x (List.mem_of_getElem? g1)
          refine ⟨fun z => ?_, _, true, .str _ (nm_short nx), by decide, tl_log tl en.1 en.2, ?_⟩
          · injection z with z
            obtain ⟨as, h1, _⟩ := tl
            rw [z, hl.dk] at h1
            cases h1
          · rw [List.getElem?_replicate, if_pos hi]
            show _ = some (nameS x && true)
            rw [nameS_iff.mpr nx]
            rfl
end
end Vx

set_option Elab.async false
set_option linter.all false
set_option maxRecDepth 100000
set_option maxHeartbeats 4000000
namespace Vx
open PySem PySem.Spec PyProof.Rows L2 Evl
def nbB (K : PySem.W.Frag) : Bool := (["len", "max", "min", "abs", "all", "zip", "list", "tuple", "dict", "bool", "int", "str", "range", "isinstance", "sorted", "set", "enumerate", "repr"] : List Str).all fun n => decide (PySem.W.nsIn K mainGlobals n = some none)
theorem bl_ok {K : PySem.W.Frag} {mg : Str → Option Value} {h : Heap} (X : K.In h) (G : h.Ns mainGlobals mg) (nb : nbB K = true) : Bl mg := by
  have nn : ∀ n ∈ (["len", "max", "min", "abs", "all", "zip", "list", "tuple", "dict", "bool", "int", "str", "range", "isinstance", "sorted", "set", "enumerate", "repr"] : List Str), PySem.W.nsIn K mainGlobals n = some none := fun n hn => of_decide_eq_true (List.all_eq_true.mp nb n hn)
  have mn : ∀ n ∈ (["len", "max", "min", "abs", "all", "zip", "list", "tuple", "dict", "bool", "int", "str", "range", "isinstance", "sorted", "set", "enumerate", "repr"] : List Str), mg n = none := fun n hn => PySem.W.mg_none_of X G (nn n hn)
  exact ⟨mn _ (by simp), mn _ (by simp), mn _ (by simp), mn _ (by simp), mn _ (by simp), mn _ (by simp), mn _ (by simp), mn _ (by simp), mn _ (by simp), mn _ (by simp), mn _ (by simp), mn _ (by simp), mn _ (by simp), mn _ (by simp), mn _ (by simp), mn _ (by simp), mn _ (by simp), mn _ (by simp)⟩
theorem all_mk {l : PySem.W.OpenLaw} {w : World} {K : PySem.W.Frag} {h : Heap} {mg : Str → Option Value} {fa : Addr} (X : K.In h) (G : h.Ns mainGlobals mg) (hfa : mg "law" = some (.ref fa)) (nb : nbB K = true)
    {f1 f2 f3 f4 f5 f6 f7 f8 f9 f10 f11 f12 f13 f14 f15 f16 f17 f18 f19 f20 f21 f22 f23 f24 f25 f26 : Addr}
    {od1 an1 : Option Addr} {sl1 : Array (Option Value)} {oc1 kV1 dc1 pm1 cd1 ct1 : Value}
    {od2 an2 : Option Addr} {sl2 : Array (Option Value)} {oc2 kV2 dc2 pm2 cd2 ct2 : Value}
    {od3 an3 : Option Addr} {sl3 : Array (Option Value)} {oc3 kV3 dc3 pm3 cd3 ct3 : Value}
    {od4 an4 : Option Addr} {sl4 : Array (Option Value)} {oc4 kV4 dc4 pm4 cd4 ct4 : Value}
    {od5 an5 : Option Addr} {sl5 : Array (Option Value)} {oc5 kV5 dc5 pm5 cd5 ct5 : Value}
    {od6 an6 : Option Addr} {sl6 : Array (Option Value)} {oc6 kV6 dc6 pm6 cd6 ct6 : Value}
    {od7 an7 : Option Addr} {sl7 : Array (Option Value)} {oc7 kV7 dc7 pm7 cd7 ct7 : Value}
    {od8 an8 : Option Addr} {sl8 : Array (Option Value)} {oc8 kV8 dc8 pm8 cd8 ct8 : Value}
    {od9 an9 : Option Addr} {sl9 : Array (Option Value)} {oc9 kV9 dc9 pm9 cd9 ct9 : Value}
    {od10 an10 : Option Addr} {sl10 : Array (Option Value)} {oc10 kV10 dc10 pm10 cd10 ct10 : Value}
    {od11 an11 : Option Addr} {sl11 : Array (Option Value)} {oc11 kV11 dc11 pm11 cd11 ct11 : Value}
    {od12 an12 : Option Addr} {sl12 : Array (Option Value)} {oc12 kV12 dc12 pm12 cd12 ct12 : Value}
    {od13 an13 : Option Addr} {sl13 : Array (Option Value)} {oc13 kV13 dc13 pm13 cd13 ct13 : Value}
    {od14 an14 : Option Addr} {sl14 : Array (Option Value)} {oc14 kV14 dc14 pm14 cd14 ct14 : Value}
    {od15 an15 : Option Addr} {sl15 : Array (Option Value)} {oc15 kV15 dc15 pm15 cd15 ct15 : Value}
    {od16 an16 : Option Addr} {sl16 : Array (Option Value)} {oc16 kV16 dc16 pm16 cd16 ct16 : Value}
    {od17 an17 : Option Addr} {sl17 : Array (Option Value)} {oc17 kV17 dc17 pm17 cd17 ct17 : Value}
    {od18 an18 : Option Addr} {sl18 : Array (Option Value)} {oc18 kV18 dc18 pm18 cd18 ct18 : Value}
    {od19 an19 : Option Addr} {sl19 : Array (Option Value)} {oc19 kV19 dc19 pm19 cd19 ct19 : Value}
    {od20 an20 : Option Addr} {sl20 : Array (Option Value)} {oc20 kV20 dc20 pm20 cd20 ct20 : Value}
    {od21 an21 : Option Addr} {sl21 : Array (Option Value)} {oc21 kV21 dc21 pm21 cd21 ct21 : Value}
    {od22 an22 : Option Addr} {sl22 : Array (Option Value)} {oc22 kV22 dc22 pm22 cd22 ct22 : Value}
    {od23 an23 : Option Addr} {sl23 : Array (Option Value)} {oc23 kV23 dc23 pm23 cd23 ct23 : Value}
    {od24 an24 : Option Addr} {sl24 : Array (Option Value)} {oc24 kV24 dc24 pm24 cd24 ct24 : Value}
    {od25 an25 : Option Addr} {sl25 : Array (Option Value)} {oc25 kV25 dc25 pm25 cd25 ct25 : Value}
    {od26 an26 : Option Addr} {sl26 : Array (Option Value)} {oc26 kV26 dc26 pm26 cd26 ct26 : Value}
    (m0 : ∃ t, PySem.W.nsIn K mainGlobals "MOST_LETTERS" = some (some (.int 8 t)))
    (m1 : ∃ t, PySem.W.nsIn K mainGlobals "MOST_ITEMS" = some (some (.int 60 t)))
    (m2 : ∃ t, PySem.W.nsIn K mainGlobals "MOST_WORKERS" = some (some (.int 6 t)))
    (m3 : ∃ t, PySem.W.nsIn K mainGlobals "MOST_ENTRIES" = some (some (.int 60 t)))
    (b1 : PySem.W.nsIn K mainGlobals "is_integer" = some (some (.ref f1))) (l1 : K.lookup f1 = some ⟨oc1, od1, .func (PySem.W.fnOf "is_integer" "is_integer" (defArgs s_is_integer) (defBody s_is_integer) (defScope s_is_integer) .none kV1 dc1 pm1 an1 cd1 ct1), sl1⟩) (e1 : PySem.W.codeIn K cd1 "is_integer" = true) (k1 : PySem.W.keepIn K (.ref f1) = true)
    (b2 : PySem.W.nsIn K mainGlobals "is_name" = some (some (.ref f2))) (l2 : K.lookup f2 = some ⟨oc2, od2, .func (PySem.W.fnOf "is_name" "is_name" (defArgs s_is_name) (defBody s_is_name) (defScope s_is_name) .none kV2 dc2 pm2 an2 cd2 ct2), sl2⟩) (e2 : PySem.W.codeIn K cd2 "is_name" = true) (k2 : PySem.W.keepIn K (.ref f2) = true)
    (b3 : PySem.W.nsIn K mainGlobals "is_size" = some (some (.ref f3))) (l3 : K.lookup f3 = some ⟨oc3, od3, .func (PySem.W.fnOf "is_size" "is_size" (defArgs s_is_size) (defBody s_is_size) (defScope s_is_size) .none kV3 dc3 pm3 an3 cd3 ct3), sl3⟩) (e3 : PySem.W.codeIn K cd3 "is_size" = true) (k3 : PySem.W.keepIn K (.ref f3) = true)
    (b4 : PySem.W.nsIn K mainGlobals "is_entry" = some (some (.ref f4))) (l4 : K.lookup f4 = some ⟨oc4, od4, .func (PySem.W.fnOf "is_entry" "is_entry" (defArgs s_is_entry) (defBody s_is_entry) (defScope s_is_entry) .none kV4 dc4 pm4 an4 cd4 ct4), sl4⟩) (e4 : PySem.W.codeIn K cd4 "is_entry" = true) (k4 : PySem.W.keepIn K (.ref f4) = true)
    (b5 : PySem.W.nsIn K mainGlobals "is_logs" = some (some (.ref f5))) (l5 : K.lookup f5 = some ⟨oc5, od5, .func (PySem.W.fnOf "is_logs" "is_logs" (defArgs s_is_logs) (defBody s_is_logs) (defScope s_is_logs) .none kV5 dc5 pm5 an5 cd5 ct5), sl5⟩) (e5 : PySem.W.codeIn K cd5 "is_logs" = true) (k5 : PySem.W.keepIn K (.ref f5) = true)
    (b6 : PySem.W.nsIn K mainGlobals "is_log" = some (some (.ref f6))) (l6 : K.lookup f6 = some ⟨oc6, od6, .func (PySem.W.fnOf "is_log" "is_log" (defArgs s_is_log) (defBody s_is_log) (defScope s_is_log) .none kV6 dc6 pm6 an6 cd6 ct6), sl6⟩) (e6 : PySem.W.codeIn K cd6 "is_log" = true) (k6 : PySem.W.keepIn K (.ref f6) = true)
    (b7 : PySem.W.nsIn K mainGlobals "items_fit" = some (some (.ref f7))) (l7 : K.lookup f7 = some ⟨oc7, od7, .func (PySem.W.fnOf "items_fit" "items_fit" (defArgs s_items_fit) (defBody s_items_fit) (defScope s_items_fit) .none kV7 dc7 pm7 an7 cd7 ct7), sl7⟩) (e7 : PySem.W.codeIn K cd7 "items_fit" = true) (k7 : PySem.W.keepIn K (.ref f7) = true)
    (b8 : PySem.W.nsIn K mainGlobals "removal_fits" = some (some (.ref f8))) (l8 : K.lookup f8 = some ⟨oc8, od8, .func (PySem.W.fnOf "removal_fits" "removal_fits" (defArgs s_removal_fits) (defBody s_removal_fits) (defScope s_removal_fits) .none kV8 dc8 pm8 an8 cd8 ct8), sl8⟩) (e8 : PySem.W.codeIn K cd8 "removal_fits" = true) (k8 : PySem.W.keepIn K (.ref f8) = true)
    (b9 : PySem.W.nsIn K mainGlobals "all_entries" = some (some (.ref f9))) (l9 : K.lookup f9 = some ⟨oc9, od9, .func (PySem.W.fnOf "all_entries" "all_entries" (defArgs s_all_entries) (defBody s_all_entries) (defScope s_all_entries) .none kV9 dc9 pm9 an9 cd9 ct9), sl9⟩) (e9 : PySem.W.codeIn K cd9 "all_entries" = true) (k9 : PySem.W.keepIn K (.ref f9) = true)
    (b10 : PySem.W.nsIn K mainGlobals "push_places" = some (some (.ref f10))) (l10 : K.lookup f10 = some ⟨oc10, od10, .func (PySem.W.fnOf "push_places" "push_places" (defArgs s_push_places) (defBody s_push_places) (defScope s_push_places) .none kV10 dc10 pm10 an10 cd10 ct10), sl10⟩) (e10 : PySem.W.codeIn K cd10 "push_places" = true) (k10 : PySem.W.keepIn K (.ref f10) = true)
    (b11 : PySem.W.nsIn K mainGlobals "_law_source" = some (some (.ref f11))) (l11 : K.lookup f11 = some ⟨oc11, od11, .func (PySem.W.fnOf "_law_source" "_law_source" (defArgs s_law_source) (defBody s_law_source) (defScope s_law_source) .none kV11 dc11 pm11 an11 cd11 ct11), sl11⟩) (e11 : PySem.W.codeIn K cd11 "_law_source" = true) (k11 : PySem.W.keepIn K (.ref f11) = true)
    (b12 : PySem.W.nsIn K mainGlobals "_law_pick" = some (some (.ref f12))) (l12 : K.lookup f12 = some ⟨oc12, od12, .func (PySem.W.fnOf "_law_pick" "_law_pick" (defArgs s_law_pick) (defBody s_law_pick) (defScope s_law_pick) .none kV12 dc12 pm12 an12 cd12 ct12), sl12⟩) (e12 : PySem.W.codeIn K cd12 "_law_pick" = true) (k12 : PySem.W.keepIn K (.ref f12) = true)
    (b13 : PySem.W.nsIn K mainGlobals "_law_shuffled" = some (some (.ref f13))) (l13 : K.lookup f13 = some ⟨oc13, od13, .func (PySem.W.fnOf "_law_shuffled" "_law_shuffled" (defArgs s_law_shuffled) (defBody s_law_shuffled) (defScope s_law_shuffled) .none kV13 dc13 pm13 an13 cd13 ct13), sl13⟩) (e13 : PySem.W.codeIn K cd13 "_law_shuffled" = true) (k13 : PySem.W.keepIn K (.ref f13) = true)
    (b14 : PySem.W.nsIn K mainGlobals "_law_words" = some (some (.ref f14))) (l14 : K.lookup f14 = some ⟨oc14, od14, .func (PySem.W.fnOf "_law_words" "_law_words" (defArgs s_law_words) (defBody s_law_words) (defScope s_law_words) .none kV14 dc14 pm14 an14 cd14 ct14), sl14⟩) (e14 : PySem.W.codeIn K cd14 "_law_words" = true) (k14 : PySem.W.keepIn K (.ref f14) = true)
    (b15 : PySem.W.nsIn K mainGlobals "_law_workers" = some (some (.ref f15))) (l15 : K.lookup f15 = some ⟨oc15, od15, .func (PySem.W.fnOf "_law_workers" "_law_workers" (defArgs s_law_workers) (defBody s_law_workers) (defScope s_law_workers) .none kV15 dc15 pm15 an15 cd15 ct15), sl15⟩) (e15 : PySem.W.codeIn K cd15 "_law_workers" = true) (k15 : PySem.W.keepIn K (.ref f15) = true)
    (b16 : PySem.W.nsIn K mainGlobals "_law_logs" = some (some (.ref f16))) (l16 : K.lookup f16 = some ⟨oc16, od16, .func (PySem.W.fnOf "_law_logs" "_law_logs" (defArgs s_law_logs) (defBody s_law_logs) (defScope s_law_logs) .none kV16 dc16 pm16 an16 cd16 ct16), sl16⟩) (e16 : PySem.W.codeIn K cd16 "_law_logs" = true) (k16 : PySem.W.keepIn K (.ref f16) = true)
    (b17 : PySem.W.nsIn K mainGlobals "_law_whole" = some (some (.ref f17))) (l17 : K.lookup f17 = some ⟨oc17, od17, .func (PySem.W.fnOf "_law_whole" "_law_whole" (defArgs s_law_whole) (defBody s_law_whole) (defScope s_law_whole) .none kV17 dc17 pm17 an17 cd17 ct17), sl17⟩) (e17 : PySem.W.codeIn K cd17 "_law_whole" = true) (k17 : PySem.W.keepIn K (.ref f17) = true)
    (b18 : PySem.W.nsIn K mainGlobals "_law_is_name" = some (some (.ref f18))) (l18 : K.lookup f18 = some ⟨oc18, od18, .func (PySem.W.fnOf "_law_is_name" "_law_is_name" (defArgs s_law_is_name) (defBody s_law_is_name) (defScope s_law_is_name) .none kV18 dc18 pm18 an18 cd18 ct18), sl18⟩) (e18 : PySem.W.codeIn K cd18 "_law_is_name" = true) (k18 : PySem.W.keepIn K (.ref f18) = true)
    (b19 : PySem.W.nsIn K mainGlobals "_law_is_entry" = some (some (.ref f19))) (l19 : K.lookup f19 = some ⟨oc19, od19, .func (PySem.W.fnOf "_law_is_entry" "_law_is_entry" (defArgs s_law_is_entry) (defBody s_law_is_entry) (defScope s_law_is_entry) .none kV19 dc19 pm19 an19 cd19 ct19), sl19⟩) (e19 : PySem.W.codeIn K cd19 "_law_is_entry" = true) (k19 : PySem.W.keepIn K (.ref f19) = true)
    (b20 : PySem.W.nsIn K mainGlobals "_law_is_logs" = some (some (.ref f20))) (l20 : K.lookup f20 = some ⟨oc20, od20, .func (PySem.W.fnOf "_law_is_logs" "_law_is_logs" (defArgs s_law_is_logs) (defBody s_law_is_logs) (defScope s_law_is_logs) .none kV20 dc20 pm20 an20 cd20 ct20), sl20⟩) (e20 : PySem.W.codeIn K cd20 "_law_is_logs" = true) (k20 : PySem.W.keepIn K (.ref f20) = true)
    (b21 : PySem.W.nsIn K mainGlobals "_law_entry" = some (some (.ref f21))) (l21 : K.lookup f21 = some ⟨oc21, od21, .func (PySem.W.fnOf "_law_entry" "_law_entry" (defArgs s_law_entry) (defBody s_law_entry) (defScope s_law_entry) .none kV21 dc21 pm21 an21 cd21 ct21), sl21⟩) (e21 : PySem.W.codeIn K cd21 "_law_entry" = true) (k21 : PySem.W.keepIn K (.ref f21) = true)
    (b22 : PySem.W.nsIn K mainGlobals "_law_changed" = some (some (.ref f22))) (l22 : K.lookup f22 = some ⟨oc22, od22, .func (PySem.W.fnOf "_law_changed" "_law_changed" (defArgs s_law_changed) (defBody s_law_changed) (defScope s_law_changed) .none kV22 dc22 pm22 an22 cd22 ct22), sl22⟩) (e22 : PySem.W.codeIn K cd22 "_law_changed" = true) (k22 : PySem.W.keepIn K (.ref f22) = true)
    (b23 : PySem.W.nsIn K mainGlobals "_law_other" = some (some (.ref f23))) (l23 : K.lookup f23 = some ⟨oc23, od23, .func (PySem.W.fnOf "_law_other" "_law_other" (defArgs s_law_other) (defBody s_law_other) (defScope s_law_other) .none kV23 dc23 pm23 an23 cd23 ct23), sl23⟩) (e23 : PySem.W.codeIn K cd23 "_law_other" = true) (k23 : PySem.W.keepIn K (.ref f23) = true)
    (b24 : PySem.W.nsIn K mainGlobals "_law_at_bounds" = some (some (.ref f24))) (l24 : K.lookup f24 = some ⟨oc24, od24, .func (PySem.W.fnOf "_law_at_bounds" "_law_at_bounds" (defArgs s_law_at_bounds) (defBody s_law_at_bounds) (defScope s_law_at_bounds) .none kV24 dc24 pm24 an24 cd24 ct24), sl24⟩) (e24 : PySem.W.codeIn K cd24 "_law_at_bounds" = true) (k24 : PySem.W.keepIn K (.ref f24) = true)
    (b25 : PySem.W.nsIn K mainGlobals "_law_right" = some (some (.ref f25))) (l25 : K.lookup f25 = some ⟨oc25, od25, .func (PySem.W.fnOf "_law_right" "_law_right" (defArgs s_law_right) (defBody s_law_right) (defScope s_law_right) .none kV25 dc25 pm25 an25 cd25 ct25), sl25⟩) (e25 : PySem.W.codeIn K cd25 "_law_right" = true) (k25 : PySem.W.keepIn K (.ref f25) = true)
    (b26 : PySem.W.nsIn K mainGlobals "law" = some (some (.ref f26))) (l26 : K.lookup f26 = some ⟨oc26, od26, .func (PySem.W.fnOf "law" "law" (defArgs s_law) (defBody s_law) (defScope s_law) .none kV26 dc26 pm26 an26 cd26 ct26), sl26⟩) (e26 : PySem.W.codeIn K cd26 "law" = true) (k26 : PySem.W.keepIn K (.ref f26) = true)
    : ∃ fd : FuncData, (∀ (s : Shared) (v : Value), BindsTo s fd ⟨[v], []⟩ [("script", v)]) ∧ ∀ base : Heap, K.In base → base.Ns mainGlobals mg → (∃ o, base.get? sysModules = some o) → FnG l.prog w K mg base 7 fa fd ["script"] (spLaw K) := by
  have e := hfa.symm.trans (PySem.W.mg_of X G b26)
  cases e
  have T := bl_ok X G nb
  have C : Cs mg := ⟨m0.imp fun _ z => PySem.W.mg_of X G z, m1.imp fun _ z => PySem.W.mg_of X G z, m2.imp fun _ z => PySem.W.mg_of X G z, m3.imp fun _ z => PySem.W.mg_of X G z⟩
  have F1 := fun_mk (st := s_is_integer) l1 e1 k1
  have D1 : Def K mg "is_integer" s_is_integer ["thing"] := ⟨_, _, F1, PySem.W.mg_of X G b1, F1.binds fun _ _ _ _ _ _ us hl => match us, hl with | [_], _ => rfl⟩
  have F2 := fun_mk (st := s_is_name) l2 e2 k2
  have D2 : Def K mg "is_name" s_is_name ["thing"] := ⟨_, _, F2, PySem.W.mg_of X G b2, F2.binds fun _ _ _ _ _ _ us hl => match us, hl with | [_], _ => rfl⟩
  have F3 := fun_mk (st := s_is_size) l3 e3 k3
  have D3 : Def K mg "is_size" s_is_size ["thing"] := ⟨_, _, F3, PySem.W.mg_of X G b3, F3.binds fun _ _ _ _ _ _ us hl => match us, hl with | [_], _ => rfl⟩
  have F4 := fun_mk (st := s_is_entry) l4 e4 k4
  have D4 : Def K mg "is_entry" s_is_entry ["thing"] := ⟨_, _, F4, PySem.W.mg_of X G b4, F4.binds fun _ _ _ _ _ _ us hl => match us, hl with | [_], _ => rfl⟩
  have F5 := fun_mk (st := s_is_logs) l5 e5 k5
  have D5 : Def K mg "is_logs" s_is_logs ["thing"] := ⟨_, _, F5, PySem.W.mg_of X G b5, F5.binds fun _ _ _ _ _ _ us hl => match us, hl with | [_], _ => rfl⟩
  have F6 := fun_mk (st := s_is_log) l6 e6 k6
  have D6 : Def K mg "is_log" s_is_log ["thing"] := ⟨_, _, F6, PySem.W.mg_of X G b6, F6.binds fun _ _ _ _ _ _ us hl => match us, hl with | [_], _ => rfl⟩
  have F7 := fun_mk (st := s_items_fit) l7 e7 k7
  have D7 : Def K mg "items_fit" s_items_fit ["logs"] := ⟨_, _, F7, PySem.W.mg_of X G b7, F7.binds fun _ _ _ _ _ _ us hl => match us, hl with | [_], _ => rfl⟩
  have F8 := fun_mk (st := s_removal_fits) l8 e8 k8
  have D8 : Def K mg "removal_fits" s_removal_fits ["places", "place", "entry"] := ⟨_, _, F8, PySem.W.mg_of X G b8, F8.binds fun _ _ _ _ _ _ us hl => match us, hl with | [_, _, _], _ => rfl⟩
  have F9 := fun_mk (st := s_all_entries) l9 e9 k9
  have D9 : Def K mg "all_entries" s_all_entries ["logs"] := ⟨_, _, F9, PySem.W.mg_of X G b9, F9.binds fun _ _ _ _ _ _ us hl => match us, hl with | [_], _ => rfl⟩
  have F10 := fun_mk (st := s_push_places) l10 e10 k10
  have D10 : Def K mg "push_places" s_push_places ["logs"] := ⟨_, _, F10, PySem.W.mg_of X G b10, F10.binds fun _ _ _ _ _ _ us hl => match us, hl with | [_], _ => rfl⟩
  have F11 := fun_mk (st := s_law_source) l11 e11 k11
  have D11 : Def K mg "_law_source" s_law_source ["script", "k"] := ⟨_, _, F11, PySem.W.mg_of X G b11, F11.binds fun _ _ _ _ _ _ us hl => match us, hl with | [_, _], _ => rfl⟩
  have F12 := fun_mk (st := s_law_pick) l12 e12 k12
  have D12 : Def K mg "_law_pick" s_law_pick ["source", "count"] := ⟨_, _, F12, PySem.W.mg_of X G b12, F12.binds fun _ _ _ _ _ _ us hl => match us, hl with | [_, _], _ => rfl⟩
  have F13 := fun_mk (st := s_law_shuffled) l13 e13 k13
  have D13 : Def K mg "_law_shuffled" s_law_shuffled ["source", "row"] := ⟨_, _, F13, PySem.W.mg_of X G b13, F13.binds fun _ _ _ _ _ _ us hl => match us, hl with | [_, _], _ => rfl⟩
  have F14 := fun_mk (st := s_law_words) l14 e14 k14
  have D14 : Def K mg "_law_words" s_law_words ["source", "size"] := ⟨_, _, F14, PySem.W.mg_of X G b14, F14.binds fun _ _ _ _ _ _ us hl => match us, hl with | [_, _], _ => rfl⟩
  have F15 := fun_mk (st := s_law_workers) l15 e15 k15
  have D15 : Def K mg "_law_workers" s_law_workers ["source"] := ⟨_, _, F15, PySem.W.mg_of X G b15, F15.binds fun _ _ _ _ _ _ us hl => match us, hl with | [_], _ => rfl⟩
  have F16 := fun_mk (st := s_law_logs) l16 e16 k16
  have D16 : Def K mg "_law_logs" s_law_logs ["source", "top"] := ⟨_, _, F16, PySem.W.mg_of X G b16, F16.binds fun _ _ _ _ _ _ us hl => match us, hl with | [_, _], _ => rfl⟩
  have F17 := fun_mk (st := s_law_whole) l17 e17 k17
  have D17 : Def K mg "_law_whole" s_law_whole ["value", "least", "most"] := ⟨_, _, F17, PySem.W.mg_of X G b17, F17.binds fun _ _ _ _ _ _ us hl => match us, hl with | [_, _, _], _ => rfl⟩
  have F18 := fun_mk (st := s_law_is_name) l18 e18 k18
  have D18 : Def K mg "_law_is_name" s_law_is_name ["value"] := ⟨_, _, F18, PySem.W.mg_of X G b18, F18.binds fun _ _ _ _ _ _ us hl => match us, hl with | [_], _ => rfl⟩
  have F19 := fun_mk (st := s_law_is_entry) l19 e19 k19
  have D19 : Def K mg "_law_is_entry" s_law_is_entry ["value"] := ⟨_, _, F19, PySem.W.mg_of X G b19, F19.binds fun _ _ _ _ _ _ us hl => match us, hl with | [_], _ => rfl⟩
  have F20 := fun_mk (st := s_law_is_logs) l20 e20 k20
  have D20 : Def K mg "_law_is_logs" s_law_is_logs ["value"] := ⟨_, _, F20, PySem.W.mg_of X G b20, F20.binds fun _ _ _ _ _ _ us hl => match us, hl with | [_], _ => rfl⟩
  have F21 := fun_mk (st := s_law_entry) l21 e21 k21
  have D21 : Def K mg "_law_entry" s_law_entry ["source", "rows", "name", "old"] := ⟨_, _, F21, PySem.W.mg_of X G b21, F21.binds fun _ _ _ _ _ _ us hl => match us, hl with | [_, _, _, _], _ => rfl⟩
  have F22 := fun_mk (st := s_law_changed) l22 e22 k22
  have D22 : Def K mg "_law_changed" s_law_changed ["source", "rows"] := ⟨_, _, F22, PySem.W.mg_of X G b22, F22.binds fun _ _ _ _ _ _ us hl => match us, hl with | [_, _], _ => rfl⟩
  have F23 := fun_mk (st := s_law_other) l23 e23 k23
  have D23 : Def K mg "_law_other" s_law_other ["source", "rows"] := ⟨_, _, F23, PySem.W.mg_of X G b23, F23.binds fun _ _ _ _ _ _ us hl => match us, hl with | [_, _], _ => rfl⟩
  have F24 := fun_mk (st := s_law_at_bounds) l24 e24 k24
  have D24 : Def K mg "_law_at_bounds" s_law_at_bounds ["source"] := ⟨_, _, F24, PySem.W.mg_of X G b24, F24.binds fun _ _ _ _ _ _ us hl => match us, hl with | [_], _ => rfl⟩
  have F25 := fun_mk (st := s_law_right) l25 e25 k25
  have D25 : Def K mg "_law_right" s_law_right ["value"] := ⟨_, _, F25, PySem.W.mg_of X G b25, F25.binds fun _ _ _ _ _ _ us hl => match us, hl with | [_], _ => rfl⟩
  have F26 := fun_mk (st := s_law) l26 e26 k26
  refine ⟨PySem.W.fnOf "law" "law" (defArgs s_law) (defBody s_law) (defScope s_law) .none kV26 dc26 pm26 an26 cd26 ct26, fun s v => .of_eq rfl, fun base _ _ sm => ?_⟩
  have pick := ok_law_pick (P := l.prog) (w := w) (base := base) D12
  have source := ok_law_source (P := l.prog) (w := w) (base := base) D11 T
  have shuf := ok_law_shuffled D13 T pick
  have words := ok_law_words D14 T pick
  have workers := ok_law_workers D15 T pick shuf
  have logs := ok_law_logs D16 T pick words workers
  have alle := ok_all_entries (P := l.prog) (w := w) (base := base) D9 T
  have pp := ok_push_places D10 T alle
  have bisi := okB_is_integer (P := l.prog) (w := w) (base := base) (K := K) D1 T
  have bisn := okB_is_name (P := l.prog) (w := w) (base := base) (K := K) D2 T C
  have biss := okB_is_size D3 T C bisi
  have bise := okB_is_entry D4 T C bisn biss
  have bisl := okB_is_log D6 T C bise
  have brf := okB_removal_fits (P := l.prog) (w := w) (base := base) D8 T
  have bitf := okB_items_fit D7 T alle pp brf
  have bislg := okB_is_logs D5 T C bisn bisl bitf
  have gk := okB_is_logsK D5 T C bisn bisl bitf
  have lwh := ok_law_whole (P := l.prog) (w := w) (base := base) (K := K) D17 T
  have lnm := ok_law_is_name (P := l.prog) (w := w) (base := base) (K := K) D18 T
  have len := ok_law_is_entry D19 T lnm lwh
  have llg := ok_law_is_logs D20 T lnm len
  have rgt := ok_law_right D25 T sm llg bislg gk
  have lent := ok_law_entry D21 T pick
  have chg := ok_law_changed D22 T pick lent
  have oth := ok_law_other D23 T pick
  have bnd := ok_law_at_bounds D24 T words
  exact ok_law F26 T source logs llg rgt chg oth bnd bislg
end Vx

open PySem PySem.W PyProof.Rows
set_option Elab.async false
set_option maxRecDepth 100000 in
set_option maxHeartbeats 0 in
theorem PySem.Challenge.cw_dequelogs_k01_logs_recognized_holds : PySem.Challenge.rw_dequelogs_k01_logs_recognized.Holds := by
  w_on; o_law; k_head; (case hw => w_witness2)
  k_fill
  refine Vx.walkG (l := PySem.Challenge.rw_dequelogs_k01_logs_recognized) (n := 63) (k := 7) (x := "script") (sp := Vx.spLaw) (by decide +kernel) rfl (by decide) rfl ⟨rfl, by decide, by decide⟩ (fun w h Y => PySem.W.kIn_of Y) ?F (fun _ _ a ns hl hS => ⟨a, ns, rfl, hS, hl, fun _ => rfl⟩)
  case F =>
    intro w mg fa h KX G hmg
    refine' Vx.all_mk KX G hmg ?nb ?m0 ?m1 ?m2 ?m3 ?b1 ?l1 ?e1 ?k1 ?b2 ?l2 ?e2 ?k2 ?b3 ?l3 ?e3 ?k3 ?b4 ?l4 ?e4 ?k4 ?b5 ?l5 ?e5 ?k5 ?b6 ?l6 ?e6 ?k6 ?b7 ?l7 ?e7 ?k7 ?b8 ?l8 ?e8 ?k8 ?b9 ?l9 ?e9 ?k9 ?b10 ?l10 ?e10 ?k10 ?b11 ?l11 ?e11 ?k11 ?b12 ?l12 ?e12 ?k12 ?b13 ?l13 ?e13 ?k13 ?b14 ?l14 ?e14 ?k14 ?b15 ?l15 ?e15 ?k15 ?b16 ?l16 ?e16 ?k16 ?b17 ?l17 ?e17 ?k17 ?b18 ?l18 ?e18 ?k18 ?b19 ?l19 ?e19 ?k19 ?b20 ?l20 ?e20 ?k20 ?b21 ?l21 ?e21 ?k21 ?b22 ?l22 ?e22 ?k22 ?b23 ?l23 ?e23 ?k23 ?b24 ?l24 ?e24 ?k24 ?b25 ?l25 ?e25 ?k25 ?b26 ?l26 ?e26 ?k26
    (case nb => kernel_rfl)
    (case m0 => exact ⟨_, by k_is⟩)
    (case m1 => exact ⟨_, by k_is⟩)
    (case m2 => exact ⟨_, by k_is⟩)
    (case m3 => exact ⟨_, by k_is⟩)
    (case b1 => k_is)
    (case l1 => k_is)
    (case e1 => k_is)
    (case k1 => k_is)
    (case b2 => k_is)
    (case l2 => k_is)
    (case e2 => k_is)
    (case k2 => k_is)
    (case b3 => k_is)
    (case l3 => k_is)
    (case e3 => k_is)
    (case k3 => k_is)
    (case b4 => k_is)
    (case l4 => k_is)
    (case e4 => k_is)
    (case k4 => k_is)
    (case b5 => k_is)
    (case l5 => k_is)
    (case e5 => k_is)
    (case k5 => k_is)
    (case b6 => k_is)
    (case l6 => k_is)
    (case e6 => k_is)
    (case k6 => k_is)
    (case b7 => k_is)
    (case l7 => k_is)
    (case e7 => k_is)
    (case k7 => k_is)
    (case b8 => k_is)
    (case l8 => k_is)
    (case e8 => k_is)
    (case k8 => k_is)
    (case b9 => k_is)
    (case l9 => k_is)
    (case e9 => k_is)
    (case k9 => k_is)
    (case b10 => k_is)
    (case l10 => k_is)
    (case e10 => k_is)
    (case k10 => k_is)
    (case b11 => k_is)
    (case l11 => k_is)
    (case e11 => k_is)
    (case k11 => k_is)
    (case b12 => k_is)
    (case l12 => k_is)
    (case e12 => k_is)
    (case k12 => k_is)
    (case b13 => k_is)
    (case l13 => k_is)
    (case e13 => k_is)
    (case k13 => k_is)
    (case b14 => k_is)
    (case l14 => k_is)
    (case e14 => k_is)
    (case k14 => k_is)
    (case b15 => k_is)
    (case l15 => k_is)
    (case e15 => k_is)
    (case k15 => k_is)
    (case b16 => k_is)
    (case l16 => k_is)
    (case e16 => k_is)
    (case k16 => k_is)
    (case b17 => k_is)
    (case l17 => k_is)
    (case e17 => k_is)
    (case k17 => k_is)
    (case b18 => k_is)
    (case l18 => k_is)
    (case e18 => k_is)
    (case k18 => k_is)
    (case b19 => k_is)
    (case l19 => k_is)
    (case e19 => k_is)
    (case k19 => k_is)
    (case b20 => k_is)
    (case l20 => k_is)
    (case e20 => k_is)
    (case k20 => k_is)
    (case b21 => k_is)
    (case l21 => k_is)
    (case e21 => k_is)
    (case k21 => k_is)
    (case b22 => k_is)
    (case l22 => k_is)
    (case e22 => k_is)
    (case k22 => k_is)
    (case b23 => k_is)
    (case l23 => k_is)
    (case e23 => k_is)
    (case k23 => k_is)
    (case b24 => k_is)
    (case l24 => k_is)
    (case e24 => k_is)
    (case k24 => k_is)
    (case b25 => k_is)
    (case l25 => k_is)
    (case e25 => k_is)
    (case k25 => k_is)
    (case b26 => k_is)
    (case l26 => k_is)
    (case e26 => k_is)
    (case k26 => k_is)
