import PyProof.Rows.All
import Wide.All
import OpenK.AllK
import Wide.FinOn
import HandS.ForMost
import HandS.Zip
import HandS.IsInst
import HandS.Defaults

import KE.KMinKey
import HandS.Style
import KE.KRevSl
import HandS.TupAny
import HandS.TupMul
import HandS.More
import HandS.Conv
import HandS.Zip0
import HandS.Walk
import HandS.DictComp
import HandS.Strs
import HandS.SetFor
import HandS.Star
import HandS.RevRange
import HandS.TupSets
import HandS.SortOrd
import PyProof.Rows.RegFStrParts
import HandS.Nested
import HandS.NestedK
import HandS.EndTab
import HandS.SortKw
import PySem.Challenge.RW_nearslot_k09_known_verdicts
set_option Elab.async false
set_option linter.all false
set_option maxRecDepth 100000
set_option maxHeartbeats 4000000
namespace NS
open PySem L2
/-! ### a def of the text, what it keeps -/
structure Df (K : PySem.W.Frag) (mg : Str → Option Value) (x : Str) (st : Stmt) (ps : List Str) (f : Addr) (fd : FuncData) : Prop where
  F : Fun K x x st f fd
  b : Binds K fd ps []
  g : mg x = some (.ref f)
structure Kn (P : Program) (w : World) (K : PySem.W.Frag) (mg : Str → Option Value) (base : Heap) (k : Nat) (x : Str) (st : Stmt) (ps : List Str) (sp : Sp) (f : Addr) (fd : FuncData) : Prop where
  D : Df K mg x st ps f fd
  G : FnOk P w K mg base CX0 k f fd ps sp
/-! ### a call by keywords alone -/
def tCallN0 (m : Nat) (sp : Sp) (gV : List V → List V → List V) (E : XK) (tk : TA) : TE := fun σ H Q => tk σ H fun zs H2 => zs.length = m ∧ sp (gV [] zs) H2 Q E
theorem pe_callN0 {X : Cx} {CX : CXT} {k : Nat} {f : Addr} {fd : FuncData} {ps ks : List Str} {sp : Sp} {E : XK} {x : Str} {p pos : Pos} {kws : List Keyword} {tk : TA} {g : List Value → List Value → List Value} {gV : List V → List V → List V}
    (F : FnOk X.prog X.w X.K X.mg X.base CX k f fd ps sp) (hr : Room k X.A) (hg : Gl X x) (hm : X.mg x = some (.ref f)) (hk : PySem.W.keepIn X.K (.ref f) = true) (hb : KBn X.K fd ps 0 ks g gV) (hx : Passes CX X E)
    (hkw : PK X kws tk) (hall : (backToKw pos (keywordEach kws X.env)).all (·.1.isSome) = true := by rfl) (hks : (backToKw pos (keywordEach kws X.env)).filterMap (·.1) = ks := by rfl)
    (hdb : (x == ("__debug__" : Str)) = false := by decide)
    (hpl : (backToKw pos (keywordEach kws X.env)).any (·.1.isNone) = false := by rfl) :
    PE X (.Call (.Name x p) [] kws pos) (tCallN0 ks.length sp gV E tk) := by
  refine ⟨fun pins s σ H Q I h => ?_⟩
  refine PySem.wpAny_Call_Name_kw (ld_glob I hg hm ?_ hdb)
  refine PySem.W.callWith_KW0 (h₀ := X.base) I.ok.mod.kin hk hall (thn (hkw.run pos pins s σ H _ I h) fun ws s2 ⟨zs, H2, I2, rz, l2, q2⟩ => ⟨I2.kIn, ?_⟩) hpl
  rw [hks]
  exact run_fnN F hr hb hx I2 .nil rz rfl l2 q2
/-! ### heaps -/
theorem same_upd {H : Hp} {p : Addr} {o : HO} (h : H p = none) : Same H (upd H p o) := fun b x e => by
  rw [upd_ne (ne_of_none e h)]
  exact e
theorem Same.tup {K : PySem.W.Frag} {H H' : Hp} {a : Addr} {xs : List V} (e : Same H H') (h : SqT K H a xs) : SqT K H' a xs := by
  rcases h with (h | ⟨o, h⟩) | h
  · exact .inl (.inl (e _ _ h))
  · exact .inl (.inr ⟨o, e _ _ h⟩)
  · exact .inr h
theorem sqT {K : PySem.W.Frag} {H : Hp} {a : Addr} {xs : List V} (h : H a = some (.tup xs)) : SqT K H a xs := .inl (.inl h)
theorem sqL {K : PySem.W.Frag} {H : Hp} {a : Addr} {xs : List V} (h : H a = some (.lst xs)) : SqL K H a xs := .inl (.inl h)
/-- a new object that changes later on -/
theorem Same.mut {H H' : Hp} {p : Addr} {o : HO} (e : Same H H') (h : H p = none) : Same H (upd H' p o) := fun a u ha => by
  rw [upd_ne (ne_of_none ha h)]
  exact e a u ha
mutual
theorem dp_same {K : PySem.W.Frag} {H H' : Hp} (e : Same H H') : ∀ {v : V} {d : PyData}, Dp K H v d → Dp K H' v d
  | _, _, .non => .non
  | _, _, .bl b => .bl b
  | _, _, .int i => .int i
  | _, _, .str x => .str x
  | _, _, .lst h a => .lst (e.seq h) (dp_sameA e a)
  | _, _, .tup h a => .tup (Same.tup e h) (dp_sameA e a)
theorem dp_sameA {K : PySem.W.Frag} {H H' : Hp} (e : Same H H') : ∀ {vs : List V} {ds : List PyData}, DpAll K H vs ds → DpAll K H' vs ds
  | _, _, .nil => .nil
  | _, _, .cons a b => .cons (dp_same e a) (dp_sameA e b)
end
theorem small {n : Nat} (h : n ≤ 1000) : n ≤ sizeLine := Nat.le_of_lt (small1000 h)
/-! ### types -/
theorem tyL {K : PySem.W.Frag} {H : Hp} {a : Addr} {xs : List V} (h : SqL K H a xs) : TyX K H (.ref a) (.type "list") := by
  rcases h with (h | ⟨o, h⟩) | ⟨o, its, n, h, c, _⟩
  · exact .base (.lst h)
  · exact .base (.frz h)
  · exact .kList h c
theorem tyT {K : PySem.W.Frag} {H : Hp} {a : Addr} {xs : List V} (h : SqT K H a xs) : TyX K H (.ref a) (.type "tuple") := by
  rcases h with (h | ⟨o, h⟩) | ⟨o, its, n, h, c, _⟩
  · exact .base (.tup h)
  · exact .fTuple h
  · exact .kTuple h c
theorem kit_y {K : PySem.W.Frag} {t : Value} {b : String} {cs : List Value} (h : PySem.W.kitOne K t (.type b) = some true) : PySem.W.kitAny K t (.type b :: cs) = some true := kitAny_cons h (fun z => nomatch z) fun _ => rfl
theorem kit_n {K : PySem.W.Frag} {t : Value} {b : String} {cs : List Value} {r : Bool} (h : PySem.W.kitOne K t (.type b) = some false) (hr : PySem.W.kitAny K t cs = some r) : PySem.W.kitAny K t (.type b :: cs) = some r := kitAny_cons h (fun _ => hr) fun z => nomatch z
theorem dec_t {p : Prop} [Decidable p] (h : p) {Q : Bool → Prop} (q : Q true) : Q (decide p) := by
  rw [decide_eq_true h]
  exact q
/-! ### comprehensions over zip -/
theorem lc_zipL {K : PySem.W.Frag} {a b : Addr} {xs ys : List V} {g : TG} {tt : TT} {te : TE} {vs : List Nat} {σ : L2.St} {H1 : Hp} {D : Addr} {Qd : Hp → Prop} (hl : xs.length = ys.length) (Pv : Nat → Hp → Prop) (h0 : Pv 0 (upd H1 D (.lst []))) (hq : ∀ i H, Pv i H → SqL K H a xs ∧ SqL K H b ys)
    (hs : ∀ (i : Nat) (x y : V) (T : Addr) (H : Hp), xs[i]? = some x → ys[i]? = some y → Pv i H → H T = none → g (.ref T) (wipe σ vs) (upd H T (.tup [x, y])) fun σ2 H2 => wipe σ2 vs = wipe σ vs ∧ tt σ2 H2 fun b H3 =>
      if b = true then te σ2 H3 fun y H4 => ∃ acc, H4 D = some (.lst acc) ∧ acc.length < sizeLine ∧ Pv (i + 1) (upd H4 D (.lst (acc ++ [y]))) else Pv (i + 1) H3) (hd : ∀ H, Pv xs.length H → Qd H) :
    ∃ W : Nat → Nat → Hp → Prop, (∃ m, W 0 m (upd H1 D (.lst []))) ∧ ∀ i m H, W i m H →
      ((Itz K a b).stop i H ∧ Qd H) ∨ ((Itz K a b).go i H ∧ ∃ Nx : Hp → Prop, (∀ H', Nx H' → ∃ m', m' < m ∧ W (i + 1) m' H') ∧ ∀ x H', (Itz K a b).yld i H x H' → g x (wipe σ vs) H' fun σ2 H2 => wipe σ2 vs = wipe σ vs ∧ tt σ2 H2 fun b H3 =>
        if b = true then te σ2 H3 fun y H4 => ∃ acc, H4 D = some (.lst acc) ∧ acc.length < sizeLine ∧ Nx (upd H4 D (.lst (acc ++ [y]))) else Nx H3) := by
  refine ⟨fun i m H => m = xs.length - i ∧ i ≤ xs.length ∧ Pv i H, ⟨xs.length, by simp, Nat.zero_le _, h0⟩, ?_⟩
  rintro i m H ⟨rfl, hi, p⟩
  obtain ⟨qx, qy⟩ := hq i H p
  by_cases hlt : i < xs.length
  · have hx : xs[i]? = some xs[i] := List.getElem?_eq_getElem hlt
    have hlt2 : i < ys.length := by omega
    have hy : ys[i]? = some ys[i] := List.getElem?_eq_getElem hlt2
    refine .inr ⟨⟨xs, ys, _, _, qx, qy, hx, hy⟩, Pv (i + 1), fun H' p' => ⟨xs.length - (i + 1), by omega, rfl, hlt, p'⟩, fun v H' y => ?_⟩
    obtain ⟨T, x', y', rfl, hT, rfl, f1, f2⟩ := y
    exact hs i x' y' T H (f1 xs qx) (f2 ys qy) p hT
  · have e : i = xs.length := by omega
    subst e
    exact .inl ⟨⟨xs, ys, qx, qy, Or.inl (Nat.le_refl _)⟩, hd H p⟩
theorem lc_zipT {K : PySem.W.Frag} {a b : Addr} {xs ys : List V} {g : TG} {tt : TT} {te : TE} {vs : List Nat} {σ : L2.St} {H1 : Hp} {D : Addr} {Qd : Hp → Prop} (hl : xs.length = ys.length) (Pv : Nat → Hp → Prop) (h0 : Pv 0 (upd H1 D (.lst []))) (hq : ∀ i H, Pv i H → SqT K H a xs ∧ SqT K H b ys)
    (hs : ∀ (i : Nat) (x y : V) (T : Addr) (H : Hp), xs[i]? = some x → ys[i]? = some y → Pv i H → H T = none → g (.ref T) (wipe σ vs) (upd H T (.tup [x, y])) fun σ2 H2 => wipe σ2 vs = wipe σ vs ∧ tt σ2 H2 fun b H3 =>
      if b = true then te σ2 H3 fun y H4 => ∃ acc, H4 D = some (.lst acc) ∧ acc.length < sizeLine ∧ Pv (i + 1) (upd H4 D (.lst (acc ++ [y]))) else Pv (i + 1) H3) (hd : ∀ H, Pv xs.length H → Qd H) :
    ∃ W : Nat → Nat → Hp → Prop, (∃ m, W 0 m (upd H1 D (.lst []))) ∧ ∀ i m H, W i m H →
      ((RZ.ItzT K a b).stop i H ∧ Qd H) ∨ ((RZ.ItzT K a b).go i H ∧ ∃ Nx : Hp → Prop, (∀ H', Nx H' → ∃ m', m' < m ∧ W (i + 1) m' H') ∧ ∀ x H', (RZ.ItzT K a b).yld i H x H' → g x (wipe σ vs) H' fun σ2 H2 => wipe σ2 vs = wipe σ vs ∧ tt σ2 H2 fun b H3 =>
        if b = true then te σ2 H3 fun y H4 => ∃ acc, H4 D = some (.lst acc) ∧ acc.length < sizeLine ∧ Nx (upd H4 D (.lst (acc ++ [y]))) else Nx H3) := by
  refine ⟨fun i m H => m = xs.length - i ∧ i ≤ xs.length ∧ Pv i H, ⟨xs.length, by simp, Nat.zero_le _, h0⟩, ?_⟩
  rintro i m H ⟨rfl, hi, p⟩
  obtain ⟨qx, qy⟩ := hq i H p
  by_cases hlt : i < xs.length
  · have hx : xs[i]? = some xs[i] := List.getElem?_eq_getElem hlt
    have hlt2 : i < ys.length := by omega
    have hy : ys[i]? = some ys[i] := List.getElem?_eq_getElem hlt2
    refine .inr ⟨⟨xs, ys, _, _, qx, qy, hx, hy⟩, Pv (i + 1), fun H' p' => ⟨xs.length - (i + 1), by omega, rfl, hlt, p'⟩, fun v H' y => ?_⟩
    obtain ⟨T, x', y', rfl, hT, rfl, f1, f2⟩ := y
    exact hs i x' y' T H (f1 xs qx) (f2 ys qy) p hT
  · have e : i = xs.length := by omega
    subst e
    exact .inl ⟨⟨xs, ys, qx, qy, Or.inl (Nat.le_refl _)⟩, hd H p⟩
/-! ### the source of draws -/
/-- the object of a source that may be drawn from n times more -/
def SrcO (n : Nat) (o : HO) : Prop := ∃ a b c : Int, o = .lst [.int a, .int b, .int c] ∧ 0 ≤ a ∧ 0 ≤ b ∧ b < 2147483648 ∧ 0 ≤ c ∧ c + (n : Int) ≤ 1000000000000
def Src (H : Hp) (s : Addr) (n : Nat) : Prop := ∃ o, H s = some o ∧ SrcO n o
theorem SrcO.mono {n m : Nat} {o : HO} (h : SrcO n o) (l : m ≤ n) : SrcO m o := by
  obtain ⟨a, b, c, e, h1, h2, h3, h4, h5⟩ := h
  exact ⟨a, b, c, e, h1, h2, h3, h4, by omega⟩
theorem Src.mono {H : Hp} {s : Addr} {n m : Nat} (h : Src H s n) (l : m ≤ n) : Src H s m := let ⟨o, e, q⟩ := h; ⟨o, e, q.mono l⟩
def dist (c w : Int) : Int := if c - w < 0 then -(c - w) else c - w
def near (w c x : Int) : Bool := HT.lexLt [dist x w, x] [dist c w, c]
/-- what an object in c with the wish w needs, of a row of n cells -/
def needsL (n : Nat) (c w : Int) : List Int := ((List.range n).map fun (i : Nat) => (i : Int)).filter (near w c)
theorem needsL_succ (n : Nat) (c w : Int) : needsL (n + 1) c w = needsL n c w ++ (if near w c (n : Int) = true then [(n : Int)] else []) := by
  unfold needsL
  rw [List.range_succ, List.map_append, List.filter_append]
  congr 1
  simp only [List.map_cons, List.map_nil, List.filter_cons, List.filter_nil]
theorem needsL_len (n : Nat) (c w : Int) : (needsL n c w).length ≤ n := by
  unfold needsL
  refine Nat.le_trans (List.length_filter_le _ _) ?_
  simp
theorem all_rep (n : Nat) : (List.replicate n true).all id = true := by simp
end NS
namespace NS
theorem src_a (z : Int) (k : Bool) : 0 ≤ (if z < 0 then -z else z) * (if k = true then 1 else 0) := by
  have h : 0 ≤ (if z < 0 then -z else z) := by split <;> omega
  generalize (if z < 0 then -z else z) = y at h
  cases k
  · rw [if_neg Bool.false_ne_true, Int.mul_zero]
    exact Int.le_refl 0
  · rw [if_pos rfl, Int.mul_one]
    exact h
theorem cmul_b (x : Int) (k : Bool) : L2.CMul x (if k = true then 1 else 0) := .inr (by cases k <;> exact ⟨by decide, by decide⟩)
section
open PySem L2
variable {X : Cx} {K : PySem.W.Frag}
theorem op_ltTK (e : X.K = K) (hu : X.A.units < cLine) : OpR X (compareOp .Lt) (rLtT K) := by subst e; exact op_ltT hu
theorem ix_listK (e : X.K = K) : IxR X (rIxL K) := by subst e; exact ix_list
theorem ix_tupK (e : X.K = K) : IxR X (rIxT K) := by subst e; exact ix_tup
theorem call_lenK (e : X.K = K) : CallR X (.builtin "len") (fun xs H Q => ∃ p ys, xs = [.ref p] ∧ (SqL K H p ys ∨ SqT K H p ys) ∧ Q (.int ys.length) H) := by subst e; exact call_len_seq
theorem call_isiKK (e : X.K = K) : CallR X (.builtin "isinstance") (rIsi K) := by subst e; exact call_isi
theorem call_isiTK (e : X.K = K) : CallR X (.builtin "isinstance") (rIsiT K) := by subst e; exact call_isiT
theorem op_inK (e : X.K = K) : OpR X (compareOp .In) (rIn K false) := by subst e; exact op_in_seq
theorem op_notInK (e : X.K = K) : OpR X (compareOp .NotIn) (rIn K true) := by subst e; exact op_notIn_seq
theorem cr_allK (e : X.K = K) (hc : X.calm = true) : CallR X (.builtin "all") (rAll K) := by subst e; exact cr_all hc
theorem cr_anyK (e : X.K = K) (hc : X.calm = true) : CallR X (.builtin "any") (rAny K) := by subst e; exact cr_any hc
theorem call_tupleK (e : X.K = K) : CallR X (.type "tuple") (fun xs H Q => ∃ p ys, xs = [.ref p] ∧ ((SqL K H p ys ∧ ∀ l, H l = none → Q (.ref l) (upd H l (.tup ys))) ∨ (SqT K H p ys ∧ Q (.ref p) H))) := by subst e; exact call_tuple_of
theorem call_listK (e : X.K = K) : CallR X (.type "list") (fun xs H Q => ∃ p ys, xs = [.ref p] ∧ (SqL K H p ys ∨ SqT K H p ys) ∧ ∀ l, H l = none → Q (.ref l) (upd H l (.lst ys))) := by subst e; exact call_list_of
theorem op_eqDK (e : X.K = K) (hu : X.A.units + 64 < cLine) : OpR X (compareOp .Eq) (rEqD K) := by subst e; exact op_eqD hu
theorem op_neDK (e : X.K = K) (hu : X.A.units + 64 < cLine) : OpR X (compareOp .NotEq) (rNeD K) := by subst e; exact op_neD hu
theorem pg_tupK {es : List Expr} {k : Nat} {pos : Pos} {t : TGs} {n : Nat} (e : X.K = K) (hc : X.calm = true) (h : PGs X es t)
    (hn : (assignEach es X.env).length = n := by rfl) (hst : (assignEach es X.env).findIdx? (·.1) = none := by rfl) : PG X (.Tuple es k pos) (gTup K n t) := by subst e; exact pg_tup hc h hn hst
end
end NS
namespace NS
open PySem L2
/-- all but s stays -/
def Stay (s : Addr) (H H' : Hp) : Prop := ∀ b o, b ≠ s → H b = some o → H' b = some o
theorem Stay.refl (s : Addr) (H : Hp) : Stay s H H := fun _ _ _ h => h
theorem Stay.trans {s : Addr} {H H1 H2 : Hp} (a : Stay s H H1) (b : Stay s H1 H2) : Stay s H H2 := fun c o n h => b c o n (a c o n h)
theorem stay_upd {s : Addr} {H : Hp} {o : HO} : Stay s H (upd H s o) := fun b x n e => by
  rw [upd_ne n]
  exact e
theorem Stay.of {s : Addr} {H H' : Hp} (e : Same H H') : Stay s H H' := fun b o _ h => e b o h
theorem same_stay {s : Addr} {H H' : Hp} {o : HO} (hn : H s = none) (e : Stay s (upd H s o) H') : Same H H' := fun b x h => by
  have nb : b ≠ s := ne_of_none h hn
  exact e b x nb (by rw [upd_ne nb]; exact h)
theorem Stay.mut {s : Addr} {H H' : Hp} {p : Addr} {o : HO} (e : Stay s H H') (h : H p = none) : Stay s H (upd H' p o) := fun a u n ha => by
  rw [upd_ne (ne_of_none ha h)]
  exact e a u n ha
theorem Stay.seq {K : PySem.W.Frag} {s : Addr} {H H' : Hp} {a : Addr} {xs : List V} (e : Stay s H H') (n : a ≠ s) (h : SqL K H a xs) : SqL K H' a xs := by
  rcases h with (h | ⟨o, h⟩) | h
  · exact .inl (.inl (e _ _ n h))
  · exact .inl (.inr ⟨o, e _ _ n h⟩)
  · exact .inr h
theorem Stay.tup {K : PySem.W.Frag} {s : Addr} {H H' : Hp} {a : Addr} {xs : List V} (e : Stay s H H') (n : a ≠ s) (h : SqT K H a xs) : SqT K H' a xs := by
  rcases h with (h | ⟨o, h⟩) | h
  · exact .inl (.inl (e _ _ n h))
  · exact .inl (.inr ⟨o, e _ _ n h⟩)
  · exact .inr h
/-! ### data -/
def dT (ns : List Int) : PyData := .tuple (ns.map PyData.int)
def dL (ns : List Int) : PyData := .list (ns.map PyData.int)
theorem dp_ints {K : PySem.W.Frag} {H : Hp} : ∀ ns : List Int, DpAll K H (ns.map V.int) (ns.map PyData.int)
  | [] => .nil
  | n :: ns => .cons (.int n) (dp_ints ns)
theorem dp_T {K : PySem.W.Frag} {H : Hp} {a : Addr} {ns : List Int} (h : SqT K H a (ns.map V.int)) : Dp K H (.ref a) (dT ns) := .tup h (dp_ints ns)
theorem dp_L {K : PySem.W.Frag} {H : Hp} {a : Addr} {ns : List Int} (h : SqL K H a (ns.map V.int)) : Dp K H (.ref a) (dL ns) := .lst h (dp_ints ns)
theorem atI_neg1 (x : Int) (r : List Int) : atI ((x :: r).map V.int) (-1) = some (.int ((x :: r).getLast (List.cons_ne_nil x r))) := by
  have hz : ((x :: r).map V.int) = ((x :: r).dropLast.map V.int) ++ [.int ((x :: r).getLast (List.cons_ne_nil _ _))] := by
    rw [← List.map_singleton, ← List.map_append, List.dropLast_concat_getLast]
  rw [hz]
  exact atI_last _ _
/-- the last and the first of what is needed lie beside the cell -/
def edgeB (n : Nat) (c w : Int) : Bool := match needsL n c w with
  | [] => true
  | x :: r => decide ((x :: r).getLast (List.cons_ne_nil x r) + 1 = c) || decide (x - 1 = c)
theorem edge_all : ((List.range 13).all fun n => (List.range n).all fun c => (List.range n).all fun w => edgeB n (c : Nat) (w : Nat)) = true := by decide +kernel
theorem edge {n c w : Nat} (hn : n ≤ 12) (hc : c < n) (hw : w < n) : edgeB n (c : Int) (w : Int) = true := by
  have h := edge_all
  rw [List.all_eq_true] at h
  have h1 := h n (List.mem_range.mpr (by omega))
  rw [List.all_eq_true] at h1
  have h2 := h1 c (List.mem_range.mpr hc)
  rw [List.all_eq_true] at h2
  exact h2 w (List.mem_range.mpr hw)
end NS
namespace NS
open PySem L2
theorem lay_ints : ∀ ns : List Int, PyData.canLayAll0 (ns.map PyData.int) = true
  | [] => rfl
  | _ :: r => by simp [PyData.canLayAll0, PyData.canLay0, lay_ints r]
theorem dep_ints : ∀ ns : List Int, PyData.depthAll (ns.map PyData.int) = 0
  | [] => rfl
  | _ :: r => by simp [PyData.depthAll, PyData.depth, dep_ints r]
theorem sh_T (ns : List Int) : SeqAt.shaped (dT ns) = true := by
  simp [SeqAt.shaped, dT, PyData.canLay0, PyData.depth, lay_ints, dep_ints]
theorem sh_L (ns : List Int) : SeqAt.shaped (dL ns) = true := by
  simp [SeqAt.shaped, dL, PyData.canLay0, PyData.depth, lay_ints, dep_ints]
end NS
namespace NS
open PySem L2
theorem nd_int {a b : Int} (h : a = b) (c : (!decide (V.int a = V.int b)) = true) : False := by
  rw [h, decide_eq_true rfl] at c
  cases c
end NS

/-! ### min of a list of tuples of ints -/
namespace NS
open PySem PySem.Spec PyProof.Rows L2
theorem lex_irr : ∀ a : List Int, HT.lexLt a a = false
  | [] => rfl
  | x :: xs => by rw [HT.lexLt_cons, if_pos rfl]; exact lex_irr xs
theorem lex_trans : ∀ {a b c : List Int}, HT.lexLt a b = true → HT.lexLt b c = true → HT.lexLt a c = true
  | [], [], _, h, _ => by cases h
  | [], _ :: _, [], _, h => by rw [HT.lexLt_cons_nil] at h; cases h
  | [], _ :: _, _ :: _, _, _ => rfl
  | _ :: _, [], _, h, _ => by rw [HT.lexLt_cons_nil] at h; cases h
  | _ :: _, _ :: _, [], _, h => by rw [HT.lexLt_cons_nil] at h; cases h
  | x :: xs, y :: ys, z :: zs, h1, h2 => by
    rw [HT.lexLt_cons] at h1 h2 ⊢
    by_cases e1 : x = y
    · rw [if_pos e1] at h1
      by_cases e2 : y = z
      · rw [if_pos e2] at h2
        rw [if_pos (e1.trans e2)]
        exact lex_trans h1 h2
      · rw [if_neg e2] at h2
        rw [if_neg (by omega), e1]
        exact h2
    · rw [if_neg e1] at h1
      have l1 : x < y := of_decide_eq_true h1
      by_cases e2 : y = z
      · rw [if_neg (by omega)]
        exact decide_eq_true (by omega)
      · rw [if_neg e2] at h2
        have l2 : y < z := of_decide_eq_true h2
        rw [if_neg (by omega)]
        exact decide_eq_true (by omega)
section
variable {prog : Program} {w : World} {A : Around} {E : Value → Shared → Prop} {s : Shared} {l S I : Addr} {vs : List Value} {R : Result → Shared → Prop} {Q : Value → Shared → Prop}
/-- the items' numbers, as they stand in h -/
def TupsAt (h : Heap) (vs : List Value) (nss : Nat → List Int) : Prop := ∀ (i : Nat) (v : Value), vs[i]? = some v → ∃ p items, v = .ref p ∧ IsTup h p items ∧ IntsAre items.toList (nss i)
theorem minT_loop {h₀ : Heap} (nss : Nat → List Int) (hh : A.handled = none) (hu : A.units + 1 < cLine) (hl : h₀.IsList l vs.toArray) (hT : TupsAt h₀ vs nss) (hlI : l ≠ I) (hSI : S ≠ I) (nS : h₀.get? S = none) (nI : h₀.get? I = none)
    (hR : ∀ i v h' tk', vs[i]? = some v → (∀ j, j < vs.length → HT.lexLt (nss j) (nss i) = false) → (∀ b o, h₀.get? b = some o → h'.get? b = some o) → R (.ok (.ret v)) { s with heap := h', toks := tk' }) :
    ∀ (r j i : Nat) (h : Heap) (tk : Nat) (vb : Value) (c : Nat), vs.length - (j + 1) = r → j + 1 ≤ vs.length → (∀ b o, h₀.get? b = some o → h.get? b = some o) →
      h.get? S = some (seqObj "list" #[vb, vb] c) → h.IsListIter I l (j + 1) → vs[i]? = some vb → i ≤ j → (∀ j', j' ≤ j → HT.lexLt (nss j') (nss i) = false) →
      codeAny (model prog w) A (.builtin "min.loop" ⟨[.ref I, .none, .ref S], []⟩) R { s with heap := h, toks := tk } := by
  have hname : (toString "min" ++ toString ".loop" : String) = "min.loop" := by decide
  have W := Walks.list (prog := prog) (w := w) (A := A.in1) hh I l hlI vs.toArray
  have hsz : vs.toArray.size = vs.length := List.size_toArray ..
  have listAt : ∀ h : Heap, (∀ b o, h₀.get? b = some o → h.get? b = some o) → h.IsList l vs.toArray := fun h k => hl.at fun o e => k l o e
  have neS : ∀ b o, h₀.get? b = some o → b ≠ S := fun b o e z => by rw [z, nS] at e; cases e
  have neI : ∀ b o, h₀.get? b = some o → b ≠ I := fun b o e z => by rw [z, nI] at e; cases e
  intro r
  induction r with
  | zero =>
    intro j i h tk vb c hr hj k gS hit hvb hij hbest
    have hin : j + 1 = vs.length := by omega
    refine codeAny_builtin PySem.F.entry_min_loop ?_
    rw [Around.under_plainId PySem.F.plain_min_loop _]
    show wpAny _ A.in1 (seqItems? (.ref S) >>= _) _ _ _
    refine wpAny_bind (wpAny_seqItems gS rfl ?_)
    show wpAny _ A.in1 (tryCatch (pyNext (.ref I)) _ >>= _) _ _ _
    refine wpAny_bind (wpAny_tryCatch (W.done _ _ _ ⟨by rw [hsz, ← hin]; exact hit, listAt h k⟩ fun h' tk' hk' => ?_))
    have hS' := hk' S _ (by simpa using hSI) gS
    have s1 := Heap.SameBut.update h' S (Obj.mapSeq fun _ => (#[] : Array Value))
    show wpAny _ A.in1 (updateSeq S (fun _ => #[]) >>= _) _ _ _
    refine wpAny_bind ?_
    refine wpAny_updateSeq hS' rfl (wpAny_bind (wpAny_letGo (wpAny_pure ?_)))
    exact hR i vb _ _ hvb (fun j' hj' => hbest j' (by omega)) fun b o e => (s1.2 b (neS b o e)).trans (hk' b o (by simpa using neI b o e) (k b o e))
  | succ r ih =>
    intro j i h tk vb c hr hj k gS hit hvb hij hbest
    have hlt : j + 1 < vs.length := by omega
    refine codeAny_builtin PySem.F.entry_min_loop ?_
    rw [Around.under_plainId PySem.F.plain_min_loop _]
    show wpAny _ A.in1 (seqItems? (.ref S) >>= _) _ _ _
    refine wpAny_bind (wpAny_seqItems gS rfl ?_)
    show wpAny _ A.in1 (tryCatch (pyNext (.ref I)) _ >>= _) _ _ _
    refine wpAny_bind (wpAny_tryCatch (W.item (j + 1) _ _ _ (by rw [hsz]; exact hlt) ⟨hit, listAt h k⟩ fun v h' tk' hP hst' hk' => ?_))
    have hv : vs[j + 1]? = some v := by simpa using hP
    have gS' := hk' S _ (by simpa using hSI) gS
    have k' : ∀ b o, h₀.get? b = some o → h'.get? b = some o := fun b o e => hk' b o (by simpa using neI b o e) (k b o e)
    obtain ⟨p1, it1, rfl, t1, i1⟩ := hT _ _ hv
    obtain ⟨p2, it2, rfl, t2, i2⟩ := hT _ _ hvb
    obtain ⟨⟨cls, dd, data, sl⟩, ho, hc, n, hd⟩ := id t1
    obtain ⟨⟨cls2, dd2, data2, sl2⟩, ho2, hc2, n2, hd2⟩ := id t2
    simp only at hc hd hc2 hd2
    subst hc hd hc2 hd2
    show wpAny _ A.in1 (pure (Value.ref p1) >>= _) _ _ _
    refine wpAny_bind (wpAny_pure ?_)
    show wpAny _ A.in1 (tryCatch (holding [.ref p1, .ref p1] (richCompare .Lt (.ref p1) (.ref p2) >>= _)) _ >>= _) _ _ _
    refine wpAny_bind (wpAny_tryCatch (wpAny_holding (wpAny_bind (richCompare_meets_room (op := .Lt) ⟨_, k' _ _ ho, rfl⟩ ⟨_, k' _ _ ho2, rfl⟩ PySem.F.slot_tuple_lt PySem.F.entry_tuple_lt (PySem.F.args_tuple_lt_2 _ _) (HT.tuple_lt_ints p1 p2 it1 it2 n n2 dd dd2 sl sl2 (nss (j + 1)) (nss i) i1 i2)
      ⟨k' _ _ ho, k' _ _ ho2, (fun x => nomatch x), ?_⟩ hu))))
    refine wpAny_bind (wpAny_holding (wpAny_truthy_bool ?_))
    refine wpAny_bind (wpAny_letGo (wpAny_pure ?_))
    by_cases hb' : HT.lexLt (nss (j + 1)) (nss i) = true
    · have s1 := Heap.SameBut.update h' S (Obj.mapSeq fun _ => #[Value.ref p1, Value.ref p1])
      obtain ⟨c2, hc2⟩ : ∃ c2, (h'.update S (Obj.mapSeq fun _ => #[Value.ref p1, Value.ref p1])).get? S = some (seqObj "list" #[Value.ref p1, Value.ref p1] c2) := ⟨_, get?_update_seq gS' fun _ => #[Value.ref p1, Value.ref p1]⟩
      simp only [hb', if_true]
      refine wpAny_bind ?_
      refine wpAny_updateSeq gS' rfl (wpAny_bind (wpAny_letGo ?_))
      rw [hname]
      refine wpAny_pure ⟨plainId_quiet PySem.F.plain_min_loop _, ih (j + 1) (j + 1) _ _ (.ref p1) c2 (by omega) hlt (fun b o e => (s1.2 b (neS b o e)).trans (k' b o e)) hc2 ?_ hv (Nat.le_refl _) fun j' hj' => ?_⟩
      · obtain ⟨oI', hoI', hoc, hod⟩ := hst'.1
        exact ⟨oI', (s1.2 I hSI.symm).trans hoI', hoc, hod⟩
      · by_cases e : j' = j + 1
        · subst e
          exact lex_irr _
        · have hb1 := hbest j' (by omega)
          cases q : HT.lexLt (nss j') (nss (j + 1)) with
          | false => rfl
          | true =>
            rw [lex_trans q hb'] at hb1
            cases hb1
    · have hb0 : HT.lexLt (nss (j + 1)) (nss i) = false := Bool.eq_false_iff.mpr hb'
      simp only [hb0, Bool.false_eq_true, if_false]
      refine wpAny_bind (wpAny_letGo ?_)
      rw [hname]
      refine wpAny_pure ⟨plainId_quiet PySem.F.plain_min_loop _, ih (j + 1) i _ _ (.ref p2) c (by omega) hlt k' gS' hst'.1 hvb (by omega) fun j' hj' => ?_⟩
      by_cases e : j' = j + 1
      · subst e
        exact hb0
      · exact hbest j' (by omega)
theorem min_tups (nss : Nat → List Int) (hh : A.handled = none) (hu : A.units + 1 < cLine) (hl : s.heap.IsList l vs.toArray) (hT : TupsAt s.heap vs nss) (hne : 0 < vs.length)
    (hQ : ∀ i v h' tk', vs[i]? = some v → (∀ j, j < vs.length → HT.lexLt (nss j) (nss i) = false) → (∀ b o, s.heap.get? b = some o → h'.get? b = some o) → Q v { s with heap := h', toks := tk' }) :
    wpAny (model prog w) A (call (.builtin "min") [.ref l]) Q E s := by
  have hname : (toString "min" ++ toString ".loop" : String) = "min.loop" := by decide
  obtain ⟨ol, hol, _⟩ := id hl
  have hll : l < s.heap.objs.size := Heap.lt_size hol
  refine call_function_tree PySem.F.kind_min PySem.F.plain_min PySem.F.entry_min (PySem.F.args_min1 _) ?_
  show wpAny _ A.in1 (Builtin.Builtins.bindParams "min" ["key", "default"] 0 ⟨[], []⟩ >>= _) _ _ s
  refine wpAny_bind (wpAny_of_eq (show Builtin.Builtins.bindParams "min" ["key", "default"] 0 ⟨[], []⟩ = pure [none, none] from rfl) ?_)
  refine wpAny_bind (wpAny_pure ?_)
  refine wpAny_bind (wpAny_pyIter_list hl ?_)
  refine wpAny_bind (wpAny_newList ?_ (Nat.zero_le _))
  rw [hname]
  have hS : (s.heap.push { cls := .type "list_iterator", data := .fields #[.ref l, .int 0 0] }).objs.size = s.heap.objs.size + 1 := size_push' ..
  have hlI : l ≠ s.heap.objs.size := Nat.ne_of_lt hll
  have hSI : (s.heap.push { cls := .type "list_iterator", data := .fields #[.ref l, .int 0 0] }).objs.size ≠ s.heap.objs.size := by rw [hS]; exact Nat.ne_of_gt (Nat.lt_succ_self _)
  have nI : s.heap.get? s.heap.objs.size = none := Heap.get?_none_of_le (Nat.le_refl _)
  have nS : s.heap.get? (s.heap.push { cls := .type "list_iterator", data := .fields #[.ref l, .int 0 0] }).objs.size = none := Heap.get?_none_of_le (by rw [hS]; exact Nat.le_succ _)
  refine wpAny_pure ⟨plainId_quiet PySem.F.plain_min_loop _, ?_⟩
  have gI : ((s.heap.push { cls := .type "list_iterator", data := .fields #[.ref l, .int 0 0] }).push (seqObj "list" #[] 0)).get? s.heap.objs.size = some { cls := .type "list_iterator", data := .fields #[.ref l, .int 0 0] } :=
    Heap.get?_push_of_some _ (Heap.get?_push_size _ rfl)
  have gS : ((s.heap.push { cls := .type "list_iterator", data := .fields #[.ref l, .int 0 0] }).push (seqObj "list" #[] 0)).get? (s.heap.push { cls := .type "list_iterator", data := .fields #[.ref l, .int 0 0] }).objs.size = some (seqObj "list" #[] 0) := Heap.get?_push_size _ rfl
  have k0 : ∀ b o, s.heap.get? b = some o → ((s.heap.push { cls := .type "list_iterator", data := .fields #[.ref l, .int 0 0] }).push (seqObj "list" #[] 0)).get? b = some o := fun b o e => Heap.get?_push_of_some _ (Heap.get?_push_of_some _ e)
  have neI : ∀ b o, s.heap.get? b = some o → b ≠ s.heap.objs.size := fun b o e => Nat.ne_of_lt (Heap.lt_size e)
  have W := Walks.list (prog := prog) (w := w) (A := A.in1) hh s.heap.objs.size l hlI vs.toArray
  have hsz : vs.toArray.size = vs.length := List.size_toArray ..
  refine codeAny_builtin PySem.F.entry_min_loop ?_
  rw [Around.under_plainId PySem.F.plain_min_loop _]
  show wpAny _ A.in1 (seqItems? (.ref _) >>= _) _ _ _
  refine wpAny_bind (wpAny_seqItems gS rfl ?_)
  show wpAny _ A.in1 (tryCatch (pyNext (.ref s.heap.objs.size)) _ >>= _) _ _ _
  refine wpAny_bind (wpAny_tryCatch (W.item 0 _ _ _ (by rw [hsz]; exact hne) ⟨⟨_, gI, rfl, rfl⟩, hl.at fun o e => k0 l o e⟩ fun v h' tk' hP hst' hk' => ?_))
  have hv : vs[0]? = some v := by simpa using hP
  have gS' := hk' _ _ (by simpa using hSI) gS
  show wpAny _ A.in1 (pure v >>= _) _ _ _
  refine wpAny_bind (wpAny_pure ?_)
  generalize hSd : (s.heap.push { cls := .type "list_iterator", data := .fields #[.ref l, .int 0 0] }).objs.size = S at *
  have s1 := Heap.SameBut.update h' S (Obj.mapSeq fun _ => #[v, v])
  obtain ⟨c2, hc2⟩ : ∃ c2, (h'.update S (Obj.mapSeq fun _ => #[v, v])).get? S = some (seqObj "list" #[v, v] c2) := ⟨_, get?_update_seq gS' fun _ => #[v, v]⟩
  show wpAny _ A.in1 (updateSeq S (fun _ => #[v, v]) >>= _) _ _ _
  refine wpAny_bind ?_
  refine wpAny_updateSeq gS' rfl ?_
  rw [hname]
  have neS : ∀ b o, s.heap.get? b = some o → b ≠ S := fun b o e z => by rw [z, nS] at e; cases e
  refine wpAny_pure ⟨plainId_quiet PySem.F.plain_min_loop _, minT_loop nss hh hu hl hT hlI hSI nS nI hQ _ 0 0 _ _ v c2 rfl hne (fun b o e => (s1.2 b (neS b o e)).trans (hk' b o (by simpa using neI b o e) (k0 b o e))) hc2 ?_ hv (Nat.le_refl _) fun j' hj' => ?_⟩
  · obtain ⟨oI', hoI', hoc, hod⟩ := hst'.1
    exact ⟨oI', (s1.2 _ hSI.symm).trans hoI', hoc, hod⟩
  · have e : j' = 0 := by omega
    subst e
    exact lex_irr _
end
/-- min(xs), xs a list of tuples of ints: one that no other is less than -/
def rMinT (K : PySem.W.Frag) : List V → Hp → VK → Prop := fun vs H Q => ∃ (a : Addr) (ps : List Addr) (nss : List (List Int)), vs = [V.ref a] ∧ SqL K H a (ps.map V.ref) ∧ ps.length = nss.length ∧ 0 < nss.length ∧
  (∀ (i : Nat) (p : Addr) (ns : List Int), ps[i]? = some p → nss[i]? = some ns → SqT K H p (ns.map V.int)) ∧ ∀ (i : Nat) (p : Addr) (ns : List Int), ps[i]? = some p → nss[i]? = some ns → (∀ ms ∈ nss, HT.lexLt ms ns = false) → Q (.ref p) H
theorem cr_minT {X : Cx} {K : PySem.W.Frag} (e : X.K = K) (hc : X.calm = true) (hu : X.A.units + 1 < cLine) : CallR X (.builtin "min") (rMinT K) := by
  subst e
  intro pins s σ H vs us Q I r h
  obtain ⟨a, ps, nss, rfl, hs, hlen, hne, hT, q⟩ := h
  obtain ⟨its, rv, hl, _⟩ := I.list hs
  rw [Vals.ref1 r]
  have hil : its.length = ps.length := by rw [← rv.length, List.length_map]
  have hget : ∀ (i : Nat) (v : Value), its[i]? = some v → ∃ (p : Addr) (ns : List Int), ps[i]? = some p ∧ nss[i]? = some ns ∧ v = Value.ref p := fun i v hv => by
    have h1 : i < its.length := (List.getElem?_eq_some_iff.mp hv).1
    have h2 : i < ps.length := by omega
    have h3 : i < nss.length := by omega
    obtain ⟨u, hu, ru⟩ := rv.get (i := i) (x := .ref ps[i]) (by rw [List.getElem?_map, List.getElem?_eq_getElem h2]; rfl)
    rw [hv] at hu
    cases hu
    exact ⟨ps[i], nss[i], List.getElem?_eq_getElem h2, List.getElem?_eq_getElem h3, ru⟩
  refine min_tups (fun i => nss.getD i []) (I.ok.hd hc) hu hl.isList (fun i v hv => ?_) (by omega) fun i v h' tk hv hb hk => ?_
  · obtain ⟨p, ns, e1, e2, rfl⟩ := hget i v hv
    obtain ⟨it2, r2, p2, _⟩ := I.tuple (hT i p ns e1 e2)
    refine ⟨p, it2.toArray, rfl, p2, ?_⟩
    have e3 : nss.getD i [] = ns := by rw [List.getD_eq_getElem?_getD, e2]; rfl
    show IntsAre it2.toArray.toList (nss.getD i [])
    rw [e3]
    exact intsAre_of r2
  · obtain ⟨p, ns, e1, e2, rfl⟩ := hget i v hv
    have e3 : nss.getD i [] = ns := by rw [List.getD_eq_getElem?_getD, e2]; rfl
    refine ⟨.ref p, H, I.kept hk, rfl, q i p ns e1 e2 fun ms hm => ?_⟩
    obtain ⟨j, hj, rfl⟩ := List.getElem_of_mem hm
    have hb2 : HT.lexLt (nss.getD j []) (nss.getD i []) = false := hb j (by omega)
    have e4 : nss.getD j [] = nss[j] := by
      rw [List.getD_eq_getElem?_getD, List.getElem?_eq_getElem hj]
      rfl
    rw [e3, e4] at hb2
    exact hb2
end NS

/-! ### own rules: numbers that may be bools, str, repr, t[::-1], xs[a:b] = ys -/
namespace NS
open PySem PySem.Spec PyProof.Rows L2
/-- an int, or a bool as one -/
inductive NumV : V → Int → Prop
  | int (i : Int) : NumV (.int i) i
  | bl (b : Bool) : NumV (.bl b) (if b = true then 1 else 0)
section
variable {X : Cx}
def rAddV : R2 := fun x y H Q => ∃ i j, NumV x i ∧ y = .int j ∧ Q (.int (i + j)) H
def rSubV : R2 := fun x y H Q => ∃ i j, NumV x i ∧ y = .int j ∧ Q (.int (i - j)) H
def rRsubV : R2 := fun x y H Q => ∃ i j, x = .int i ∧ NumV y j ∧ Q (.int (i - j)) H
theorem op_addV : OpR X (binaryOp .Add) rAddV := fun pins s σ H x y v u Q I rx ry h => by
  obtain ⟨i, j, nx, rfl, q⟩ := h
  obtain ⟨t, rfl⟩ := ry
  cases nx with
  | int i =>
    obtain ⟨t', rfl⟩ := rx
    exact add_int ⟨.int _, H, I.tok _, ⟨_, rfl⟩, q⟩
  | bl b =>
    cases rx
    exact PySem.IntBool.add_bool_int ⟨.int _, H, I.tok _, ⟨_, rfl⟩, q⟩
theorem op_subV : OpR X (binaryOp .Sub) rSubV := fun pins s σ H x y v u Q I rx ry h => by
  obtain ⟨i, j, nx, rfl, q⟩ := h
  obtain ⟨t, rfl⟩ := ry
  cases nx with
  | int i =>
    obtain ⟨t', rfl⟩ := rx
    exact sub_int ⟨.int _, H, I.tok _, ⟨_, rfl⟩, q⟩
  | bl b =>
    cases rx
    exact PySem.IntBool.sub_bool_int ⟨.int _, H, I.tok _, ⟨_, rfl⟩, q⟩
theorem op_rsubV : OpR X (binaryOp .Sub) rRsubV := fun pins s σ H x y v u Q I rx ry h => by
  obtain ⟨i, j, rfl, ny, q⟩ := h
  obtain ⟨t, rfl⟩ := rx
  cases ny with
  | int j =>
    obtain ⟨t', rfl⟩ := ry
    exact sub_int ⟨.int _, H, I.tok _, ⟨_, rfl⟩, q⟩
  | bl b =>
    cases ry
    exact PySem.IntBool.sub_int_bool ⟨.int _, H, I.tok _, ⟨_, rfl⟩, q⟩
/-- str of an int or of a bool: some text -/
def strV : V → Str
  | .int i => toString i
  | .bl b => if b then "True" else "False"
  | _ => ""
def rStrV : List V → Hp → VK → Prop := fun xs H Q => ∃ x, xs = [x] ∧ ((∃ i : Int, x = .int i ∧ i.natAbs.log2 < 1920) ∨ ∃ b, x = .bl b) ∧ Q (.str (strV x)) H
theorem call_strV : CallR X (.type "str") rStrV := fun pins s σ H xs us Q I r h => by
  obtain ⟨x, rfl, hx, q⟩ := h
  obtain ⟨u, rfl, rx⟩ := vals1 r
  rcases hx with ⟨i, rfl, hi⟩ | ⟨b, rfl⟩
  · obtain ⟨t, rfl⟩ := rx
    exact PySem.P.str_of_int hi ⟨.str _, H, I.tok _, ⟨_, rfl⟩, q⟩
  · cases rx
    exact PySem.P.str_of_bool ⟨.str _, H, I.tok _, ⟨_, rfl⟩, q⟩
/-- repr of data -/
theorem call_reprD {K : PySem.W.Frag} (e : X.K = K) (hg : X.A.guards = some []) (hu : X.A.units + 64 < cLine) : CallR X (.builtin "repr") (fun xs H Q => ∃ x d, xs = [x] ∧ Dp K H x d ∧ PyData.showable d = true ∧ d.hasDict = false ∧ d.depth ≤ 60 ∧ d.shown.length ≤ sizeLine ∧ Q (.str d.shown) H) := fun pins s σ H xs us Q I r h => by
  subst e
  obtain ⟨x, d, rfl, hd, hs, hn, hp, hz, q⟩ := h
  obtain ⟨u, rfl, rx⟩ := vals1 r
  obtain ⟨as, rd⟩ := Dp.reads I d x u hd rx
  cases hd with
  | non =>
    cases rx
    exact PySem.P.repr_of_none ⟨.str _, H, I.tok _, ⟨_, rfl⟩, q⟩
  | bl b =>
    cases rx
    exact PySem.P.repr_of_bool ⟨.str _, H, I.tok _, ⟨_, rfl⟩, q⟩
  | int i =>
    obtain ⟨t, rfl⟩ := rx
    exact PySem.P.repr_of_int (of_decide_eq_true hs) ⟨.str _, H, I.tok _, ⟨_, rfl⟩, q⟩
  | str z =>
    obtain ⟨t, rfl⟩ := rx
    exact PySem.P.repr_of_str ⟨.str _, H, I.tok _, ⟨_, rfl⟩, q⟩ hz
  | lst h1 h2 =>
    cases rx
    exact repr_of_reads' rd hs (PyData.noDict_hsm hn) hg (by omega) (fun b o z => z) (fun h' w tk hk => ⟨.str _, H, I.kept hk, ⟨_, rfl⟩, q⟩) hz
  | tup h1 h2 =>
    cases rx
    exact repr_of_reads' rd hs (PyData.noDict_hsm hn) hg (by omega) (fun b o z => z) (fun h' w tk hk => ⟨.str _, H, I.kept hk, ⟨_, rfl⟩, q⟩) hz
end
end NS

/-! ### t[::-1], xs[a:b] = ys -/
namespace NS
open PySem PySem.Spec PyProof.Rows L2
theorem rev_adj (n : Nat) : Builtin.Slice.sliceAdjust none none (-1) (n : Int) = ((n : Int) - 1, -1) := rfl
theorem rev_places (n : Nat) : Builtin.Slice.slicePlaces ((n : Int) - 1) (-1) (-1) = n := by
  unfold Builtin.Slice.slicePlaces
  rw [if_neg (by decide)]
  by_cases h : n = 0
  · subst h
    rfl
  · rw [if_pos (by omega), show (- -1 : Int) = 1 by decide, Int.ediv_one]
    omega
theorem fm_map {α β : Type} {f : α → Option β} {g : α → β} : ∀ {l : List α}, (∀ x ∈ l, f x = some (g x)) → l.filterMap f = l.map g
  | [], _ => rfl
  | x :: l, h => by
    rw [List.filterMap_cons_some (h x (List.mem_cons_self ..)), List.map_cons, fm_map fun y hy => h y (List.mem_cons_of_mem _ hy)]
theorem rev_pick (xs : List Value) : ((List.range xs.length).filterMap fun (k : Nat) => xs.toArray[(((xs.length : Int) - 1) + (k : Int) * (-1)).toNat]?) = xs.reverse := by
  apply List.ext_getElem?
  intro i
  have e : ((List.range xs.length).filterMap fun (k : Nat) => xs.toArray[(((xs.length : Int) - 1) + (k : Int) * (-1)).toNat]?) = (List.range xs.length).map fun k => xs.getD (xs.length - 1 - k) .none := by
    refine fm_map fun k hk => ?_
    have hk' := List.mem_range.mp hk
    have e1 : (((xs.length : Int) - 1) + (k : Int) * (-1)).toNat = xs.length - 1 - k := by omega
    rw [e1, List.getElem?_toArray, List.getElem?_eq_getElem (by omega)]
    show some _ = some (xs.getD (xs.length - 1 - k) .none)
    rw [List.getD_eq_getElem?_getD, List.getElem?_eq_getElem (by omega)]
    rfl
  rw [e, List.getElem?_map]
  by_cases hi : i < xs.length
  · rw [List.getElem?_range hi, List.getElem?_reverse hi]
    show some (xs.getD (xs.length - 1 - i) .none) = _
    rw [List.getD_eq_getElem?_getD, List.getElem?_eq_getElem (by omega)]
    rfl
  · rw [List.getElem?_eq_none (by rw [List.length_range]; omega), List.getElem?_eq_none (by rw [List.length_reverse]; omega)]
    rfl
section
variable {prog : Program} {w : World} {A : Around} {E : Value → Shared → Prop} {s : Shared}
theorem getItem_tup_rev {t sl : Addr} {xs : List Value} {vs : Value} {Q : Value → Shared → Prop} (ht : IsTup s.heap t xs.toArray) (hs : s.heap.IsSliceOf sl .none .none vs) (pv' : IsPart vs (some (-1)))
    (h : Q (.ref s.heap.objs.size) { s with heap := s.heap.push { cls := .type "tuple", data := .seq xs.reverse.toArray } })
    (hsz : xs.length ≤ sizeLine) : wpAny (model prog w) A (getItem (.ref t) (.ref sl)) Q E s := by
  have okSize : sizeOk (.seq xs.reverse.toArray) := by
    show xs.reverse.toArray.size ≤ sizeLine
    rw [List.size_toArray, List.length_reverse]
    exact hsz
  obtain ⟨os, hos, hcs, hds⟩ := id hs
  have tyS : s.TypeIs (.ref sl) "slice" := ⟨os, hos, hcs⟩
  have applied : ∀ {R : Int × Int × Nat → Shared → Prop}, R ((xs.length : Int) - 1, -1, xs.length) s → wpAny (model prog w) A.in1 (Builtin.Slice.sliceApplied (.ref sl) (pure ((xs.toArray.size : Nat) : Int))) R E s := fun {R} hR => by
    unfold Builtin.Slice.sliceApplied Builtin.Slice.sliceFields
    refine wpAny_bind (wpAny_bind (wpAny_field hos hds (x := .none) rfl (wpAny_bind (wpAny_field hos hds (x := .none) rfl (wpAny_bind (wpAny_field hos hds (x := vs) rfl (wpAny_pure ?_)))))))
    refine wpAny_bind (HT.slicePart_ pv' ?_)
    show wpAny _ _ (if ((-1 : Int) == 0) = true then _ else _) _ _ s
    rw [if_neg (by decide)]
    refine wpAny_bind (slicePart_none (wpAny_bind (slicePart_none (wpAny_bind (wpAny_pure ?_)))))
    show wpAny _ _ (match Builtin.Slice.sliceAdjust none none (-1) ((xs.toArray.size : Nat) : Int) with | (lo, hi) => pure (lo, (-1 : Int), Builtin.Slice.slicePlaces lo hi (-1))) _ _ s
    rw [List.size_toArray, rev_adj]
    show wpAny _ _ (pure ((xs.length : Int) - 1, (-1 : Int), Builtin.Slice.slicePlaces ((xs.length : Int) - 1) (-1) (-1))) _ _ s
    rw [rev_places]
    exact wpAny_pure hR
  unfold getItem
  try with_reducible refine wpAny_holding ?_
  first | refine wpAny_bind (wpAny_pure ?_) | skip
  refine wpAny_bind (wpAny_sequenceKey ht.typeIs (by decide) ?_)
  refine wpAny_bind (wpAny_callSpecial?_slot (name := Str.ofString "__getitem__") ht.typeIs PyProof.Rows.slot_tuple_getitem
    (wpAny_call_entry PyProof.Rows.slot_tuple_getitem ht.typeIs entry_tuple_getitem ?_ (args_tuple_getitem _ _)))
  show wpAny _ _ (Builtin.Tuple.tupleItemsOf (.ref t) >>= _) _ _ s
  refine wpAny_bind (tupleItemsOf_ ht (wpAny_bind (wpAny_typeOf tyS ?_)))
  rw [if_pos (by decide)]
  refine wpAny_bind (applied ?_)
  have notWhole : ¬ (((((xs.length : Int) - 1) == 0) && ((-1 : Int) == 1) && (xs.length == xs.toArray.size)) = true) := fun z => by
    rw [show ((-1 : Int) == 1) = false by decide, Bool.and_false, Bool.false_and] at z
    cases z
  show wpAny _ _ (if ((((xs.length : Int) - 1) == 0) && ((-1 : Int) == 1) && (xs.length == xs.toArray.size)) = true then _ else _) _ _ s
  rw [if_neg notWhole, rev_pick]
  first
    | exact wpAny_bind (m := Builtin.Tuple.tupleExact _) (wpAny_newObj_type (wpAny_pure ⟨_, rfl, wpAny_pure h⟩) okSize)
    | exact wpAny_bind (m := Builtin.Tuple.tupleExact _) (wpAny_newObj_type (wpAny_bind (wpAny_pure (wpAny_pure ⟨_, rfl, wpAny_pure h⟩))) okSize)
    | exact wpAny_bind (wpAny_bind (m := Builtin.Tuple.tupleExact _) (wpAny_newObj_type (wpAny_pure (wpAny_pure ⟨_, rfl, wpAny_pure h⟩)) okSize))
    | exact wpAny_bind (wpAny_bind (m := Builtin.Tuple.tupleExact _) (wpAny_newObj_type (wpAny_pure ⟨_, rfl, wpAny_pure h⟩) okSize))
end
section
variable {X : Cx}
def tRevT (K : PySem.W.Frag) (te : TE) : TE := fun σ H Q => te σ H fun x H1 => ∃ a xs, x = .ref a ∧ SqT K H1 a xs ∧ ∀ p, H1 p = none → Q (.ref p) (upd H1 p (.tup xs.reverse))
theorem pe_revT {e : Expr} {te : TE} {k : Nat} {p1 p2 p3 pos : Pos} (he : PE X e te) : PE X (.Subscript e (.Slice none none (some (.UnaryOp .USub (.Constant (.int 1) k p1) p2)) p3) pos) (tRevT X.K te) := by
  constructor
  intro pins s σ H Q I h
  refine Subscript_ (thn (he.run pins s σ H _ I h) fun v s1 ⟨x, H1, I1, r1, q1⟩ => ?_)
  obtain ⟨a, xs, ex, hx, q⟩ := q1
  subst ex
  cases r1
  have step : PO X (some (.UnaryOp .USub (.Constant (.int 1) k p1) p2)) (tPart (tUn (rU fun i => .int (-i)) (tC (.int 1)))) := po_some (pe_un un_neg pe_int)
  refine wpAny_Slice (thn (po_none.run pins s1 σ H1 (fun o H2 => o = none ∧ H2 = H1) I1 ⟨rfl, rfl⟩) fun vl s2 ⟨l, H2, I2, pl, el, e2⟩ => ?_)
  subst el e2
  cases pl
  refine thn (po_none.run pins s2 σ H2 (fun o H3 => o = none ∧ H3 = H2) I2 ⟨rfl, rfl⟩) fun vu s3 ⟨u, H3, I3, pu, eu, e3⟩ => ?_
  subst eu e3
  cases pu
  refine thn (step.run pins s3 σ H3 (fun o H4 => o = some (-1) ∧ H4 = H3) I3 ⟨1, rfl, -1, rfl, rfl, rfl⟩) fun vs s4 ⟨o, H4, I4, ps, eo, e4⟩ => ?_
  subst eo e4
  have I5 : L2.Inv X pins σ H4 { s4 with heap := s4.heap.push { cls := .type "slice", data := .fields #[.none, .none, vs] } } := I4.kept (t' := s4.toks) fun b ob z => Heap.get?_push_of_some _ z
  obtain ⟨its, r, ht, hz⟩ := I5.tuple hx
  have hlen := r.length
  show wpAny (model X.prog X.w) X.A (subscriptTail e (.Slice none none (some (.UnaryOp .USub (.Constant (.int 1) k p1) p2)) p3) (.ref a) (.ref s4.heap.objs.size)) (EP X pins σ Q) X.xe { s4 with heap := s4.heap.push { cls := .type "slice", data := .fields #[.none, .none, vs] } }
  refine tail_any (ops := [.ref a, .ref s4.heap.objs.size]) ht.typeIs (PyProof.Rows.slot_tuple_getitem.lookup) ?_ (by with_unfolding_all rfl)
  refine getItem_tup_rev ht (Heap.IsSliceOf.new _ .none .none vs) ps ?_ (by omega)
  refine ⟨.ref _, _, I5.laid (t' := s4.toks) (o := .tup xs.reverse) (fun b ob z => Heap.get?_push_of_some _ z) (Nat.le_refl _) ?_, rfl, q _ (I5.hok.fresh (Nat.le_refl _))⟩
  exact ⟨by rw [List.length_reverse]; exact hz, _, r.reverse, IsTup.new _ _⟩
end
section
variable {prog : Program} {w : World} {A : Around} {E : Value → Shared → Prop} {s : Shared}
theorem bounds_clip {a c n : Nat} (ha : a ≤ n) : sliceBounds (some (a : Int)) (some (c : Int)) none n = ((a : Int), ((min c n : Nat) : Int), 1) := by
  simp only [sliceBounds, Option.getD_none]
  have h1 : ¬ ((a : Int) < 0) := by omega
  have h2 : ¬ ((c : Int) < 0) := by omega
  simp only [h1, h2, if_false, show (1 : Int) > 0 by decide, if_true]
  refine Prod.ext ?_ (Prod.ext ?_ rfl)
  · show max 0 (min (a : Int) (n : Int)) = (a : Int)
    omega
  · show max 0 (min (c : Int) (n : Int)) = ((min c n : Nat) : Int)
    omega
theorem setItem_clip {l b sl : Addr} {items new : Array Value} {n n2 : Nat} {vl vu : Value} {a c : Nat} {Q : Unit → Shared → Prop}
    (e : s.heap.get? l = some { cls := .type "list", data := .seq items n }) (e2 : s.heap.get? b = some { cls := .type "list", data := .seq new n2 }) (hne : l ≠ b)
    (hs : s.heap.IsSliceOf sl vl vu .none) (pl : IsPart vl (some (a : Int))) (pu : IsPart vu (some (c : Int))) (hac : a ≤ c) (ha : a ≤ items.size)
    (hsz : items.size + new.size ≤ sizeLine) (h : Q () { s with heap := s.heap.update l (Obj.mapSeq fun xs => xs.extract 0 a ++ new ++ xs.extract (min c items.size) xs.size) }) :
    wpAny (model prog w) A (setItem (.ref l) (.ref sl) (.ref b)) Q E s := by
  have isl : s.heap.IsList l items := PySem.IsL.isList e
  have isb : s.heap.IsList b new := PySem.IsL.isList e2
  obtain ⟨os, hos, hcs, hds⟩ := id hs
  have tyS : s.TypeIs (.ref sl) "slice" := ⟨os, hos, hcs⟩
  have apart : Builtin.List.listSameRef (.ref l) (.ref b) = false := by
    unfold Builtin.List.listSameRef
    exact beq_eq_false_iff_ne.mpr hne
  have emax : (max (a : Int) ((min c items.size : Nat) : Int)).toNat = min c items.size := by omega
  have fits : ((fun xs : Array Value => xs.extract 0 a ++ new ++ xs.extract (min c items.size) xs.size) items).size ≤ sizeLine + 1 := by
    simp only [Array.size_append, Array.size_extract]
    omega
  unfold setItem
  try with_reducible refine wpAny_holding ?_
  first | refine wpAny_bind (wpAny_pure ?_) | skip
  refine wpAny_bind (wpAny_sequenceKey isl.typeIs (by decide) ?_)
  refine wpAny_bind (wpAny_callSpecial?_slot (name := Str.ofString "__setitem__") isl.typeIs slot_list_setitem
    (wpAny_call_entry slot_list_setitem isl.typeIs entry_list_setitem ?_ (args_list_setitem _ _ _)))
  show wpAny _ _ (Builtin.List.listSubscript? (.ref sl) >>= _) _ _ s
  refine wpAny_bind ?_
  unfold Builtin.List.listSubscript?
  refine wpAny_bind (wpAny_specialOf tyS slice_no_index ?_)
  simp only [Option.isNone_none, if_true]
  refine wpAny_pure ?_
  show wpAny _ _ (typeOf (.ref sl) >>= _) _ _ s
  refine wpAny_bind (wpAny_typeOf tyS ?_)
  first
    | rw [if_neg (by decide)]
    | refine PySem.W.KFB.if_not (by decide) ?_
  rw [listSliceParts_eq]
  refine wpAny_bind (wpAny_bind (wpAny_field hos hds (x := .none) rfl (wpAny_bind (wpAny_listPart .none ?_))))
  rw [if_neg (show ¬ ((rawPart none == rawInt 0) = true) from Bool.false_ne_true)]
  refine wpAny_bind (wpAny_field hos hds (x := vl) rfl (wpAny_bind (wpAny_listPart pl ?_)))
  refine wpAny_bind (wpAny_field hos hds (x := vu) rfl (wpAny_bind (wpAny_listPart pu (wpAny_pure ?_))))
  first
    | simp only [apart, Bool.false_eq_true, if_false]
    | refine PySem.W.KFB.if_not apart ?_
    | (dsimp only
       rw [if_neg (by rw [apart]; exact Bool.false_ne_true)])
  refine wpAny_bind (m := Builtin.List.listAllItems (.ref b) "must assign iterable to extended slice") ?_
  unfold Builtin.List.listAllItems
  refine wpAny_bind (wpAny_typeOf isb.typeIs ?_)
  first
    | refine PySem.W.KFB.if_so (by decide) ?_
    | rw [if_pos (by decide)]
    | simp only [beq_self_eq_true, Bool.true_or, if_true]
  unfold Builtin.List.listItems
  refine wpAny_bind (wpAny_seqItems e2 rfl (wpAny_pure ?_))
  refine wpAny_bind (wpAny_bind (wpAny_seqItems e rfl (wpAny_pure ?_)))
  refine wpAny_bind (wpAny_of_eq ((sliceIndices_raw (some (a : Int)) (some (c : Int)) none items.size (by simp)).trans (congrArg (pure : Int × Int × Int → Sem (Int × Int × Int)) (bounds_clip ha))) ?_)
  show wpAny _ _ (if ((1 : Int) == 1) = true then _ else _) _ _ s
  rw [if_pos (by decide)]
  refine wpAny_bind (wpAny_rule ?_)
  first
    | simp only [notLongL hsz, Bool.false_eq_true, if_false]
    | refine PySem.W.KFB.if_not (notLongL hsz) ?_
  first | refine wpAny_bind (wpAny_pure ?_) | skip
  show wpAny _ _ (updateSeq l (fun xs => xs.extract 0 ((a : Int)).toNat ++ new ++ xs.extract (max (a : Int) ((min c items.size : Nat) : Int)).toNat xs.size) >>= _) _ _ s
  rw [emax, Int.toNat_natCast]
  refine wpAny_bind (wpAny_updateSeq (hz := Nat.le_trans (Nat.le_add_right _ _) hsz) (_hz' := fits) e rfl ?_)
  refine wpAny_bind (wpAny_letGo ?_)
  first
    | exact wpAny_bind (wpAny_pure (wpAny_pure ⟨.none, rfl, wpAny_pure h⟩))
    | exact wpAny_pure ⟨.none, rfl, wpAny_pure h⟩
end
section
variable {X : Cx}
/-- xs[a:b] = ys, ys another list; b may lie beyond -/
def gSlL (to : TE) (tl th : TO) : TG := fun v σ H Q => to σ H fun o H1 => tl σ H1 fun lo H2 => th σ H2 fun hi H3 => ∃ (l b : Addr) (xs ys : List V) (a c : Nat), o = .ref l ∧ v = .ref b ∧ lo = some (a : Int) ∧ hi = some (c : Int) ∧
  H3 l = some (.lst xs) ∧ H3 b = some (.lst ys) ∧ l ≠ b ∧ a ≤ c ∧ a ≤ xs.length ∧ xs.length + ys.length ≤ sizeLine ∧ Q σ (upd H3 l (.lst (xs.take a ++ ys ++ xs.drop c)))
theorem pg_slc {o lo hi : Expr} {to : TE} {tl th : TO} {sp pos : Pos} (ho : PE X o to) (hlo : PO X (some lo) tl) (hhi : PO X (some hi) th)
    (ha : ∀ v, assign (.Subscript o (.Slice (some lo) (some hi) none sp) pos) X.env v = (do
      let ov ← holding [v] (eval o X.env)
      let iv ← holding [v, ov] (eval (.Slice (some lo) (some hi) none sp) X.env)
      standAt pos
      holding [v, ov, iv] (setItem ov iv v)
      release [iv, v, ov] []) := by intro _; rfl) : PG X (.Subscript o (.Slice (some lo) (some hi) none sp) pos) (gSlL to tl th) := by
  constructor
  intro pins s σ H v u Q I r h
  rw [ha]
  refine wpAny_bind (wpAny_holding (thn (ho.run pins s σ H _ I h) fun ov s1 ⟨x, H1, I1, r1, q1⟩ => wpAny_bind (wpAny_holding (wpAny_Slice ?_))))
  refine thn (hlo.run pins s1 σ H1 _ I1 q1) fun vl s2 ⟨oi, H2, I2, pl, q2⟩ => thn (hhi.run pins s2 σ H2 _ I2 q2) fun vu s3 ⟨oj, H3, I3, pu, q3⟩ => ?_
  refine thn (po_none.run pins s3 σ H3 (fun o H4 => o = none ∧ H4 = H3) I3 ⟨rfl, rfl⟩) fun vn s4 ⟨ok, H4, I4, pn, ek, e4⟩ => ?_
  subst ek e4
  cases pn
  obtain ⟨l, b, xs, ys, a, c, rfl, rfl, rfl, rfl, hl, hb, hne, hac, hax, hz, q⟩ := q3
  cases r1
  cases r
  have I5 : L2.Inv X pins σ H4 { s4 with heap := s4.heap.push { cls := .type "slice", data := .fields #[vl, vu, .none] } } := I4.kept (t' := s4.toks) fun b ob z => Heap.get?_push_of_some _ z
  obtain ⟨z, its, n, rel, hlen, e⟩ := I5.lstM hl
  obtain ⟨z2, its2, n2, rel2, hlen2, e2⟩ := I5.lstM hb
  refine wpAny_bind (wpAny_standAt (wpAny_bind (wpAny_holding ?_)))
  refine setItem_clip (a := a) (c := c) e e2 hne (Heap.IsSliceOf.new _ vl vu .none) pl pu hac (by rw [List.size_toArray]; omega) (by rw [List.size_toArray, List.size_toArray]; omega) ?_
  refine wpAny_release ?_
  refine ⟨_, _, I5.lset (its' := its.take a ++ its2 ++ its.drop c) (t' := s4.toks) hl e ?_ (Vals.append (Vals.append (rel.take _) rel2) (rel.drop _)) ?_, q⟩
  · show its.toArray.extract 0 a ++ its2.toArray ++ its.toArray.extract (min c its.toArray.size) its.toArray.size = (its.take a ++ its2 ++ its.drop c).toArray
    rw [splice_eq]
    congr 2
    rw [List.size_toArray]
    by_cases hc : c ≤ its.length
    · rw [Nat.min_eq_left hc]
    · rw [Nat.min_eq_right (by omega), List.drop_eq_nil_of_le (Nat.le_refl _), List.drop_eq_nil_of_le (by omega)]
  · rw [List.length_append, List.length_append, List.length_take, List.length_drop]
    omega
end
end NS

/-! ### defs that may ask for repr: promised where no repr is under way around them -/
namespace NS
open PySem PySem.Spec PyProof.Rows L2
structure FnOkG (P : Program) (w : World) (K : PySem.W.Frag) (mg : Str → Option Value) (base : Heap) (k : Nat) (f : Addr) (fd : FuncData) (ps : List Str) (sp : Sp) : Prop where
  len : ∀ vs H Q E, sp vs H Q E → vs.length = ps.length
  run : ∀ (A : Around) (outer : List Env) (s : Shared) (H : Hp) (args : Args) (us : List Value) (vs : List V) (Q : VK) (E : XK), A.guards = some [] → Room k A → Env0 P w K mg base A outer s H → BindsTo s fd args (ps.zip us) → Vals vs us → sp vs H Q E →
    codeAny (model P w) A (.call (.ref f) args) (CR CX0 outer P w H s Q E) s
theorem FnOkG.of {P : Program} {w : World} {K : PySem.W.Frag} {mg : Str → Option Value} {base : Heap} {k : Nat} {f : Addr} {fd : FuncData} {ps : List Str} {sp : Sp} (F : FnOk P w K mg base CX0 k f fd ps sp) : FnOkG P w K mg base k f fd ps sp :=
  ⟨F.len, fun A outer s H args us vs Q E _ => F.run A outer s H args us vs Q E⟩
section
variable {P : Program} {w : World} {K : PySem.W.Frag} {mg : Str → Option Value} {base : Heap}
theorem okG {x qual : Str} {st : Stmt} {f : Addr} {fd : FuncData} {N ps : List Str} {k : Nat} {sp : Sp} (F : Fun K x qual st f fd) (S : FnScope N ps (defScope st)) (len : ∀ vs H Q E, sp vs H Q E → vs.length = ps.length)
    (hbody : ∀ (cdv : Value) (A : Around) (outer : List Env) (s : Shared) (H : Hp) (vs : List V) (Q : VK) (E : XK), A.guards = some [] → Room k (A.deeper (envOfC qual (defScope st) s.heap.objs.size f cdv)) → sp vs H Q E →
      ∃ t, PSs (cxOf CX0 P w K mg base N qual (defScope st) f cdv A outer s H E).nox (defBody st) t ∧ t { nx := fun _ H' => Q .non H', rt := Q } (start N vs) H) : FnOkG P w K mg base (k + 1) f fd ps sp := by
  obtain ⟨oc, od, kV, doc, pm, an, cdv, ct, osl, efd, lk, hcd⟩ := F.ex
  subst efd
  refine ⟨len, fun A outer s H args us vs Q E hgd room en bnd rel promised => ?_⟩
  have lens := len _ _ _ _ promised
  have inK : K.In s.heap := en.mod.kin.keeps fun b o z => (en.bs b o z).1
  have lim : s.heap.NoLimit := en.mod.nolimit.keeps fun b o z => (en.bs b o z).1
  have kinds : ∀ y ∈ ps.zip us, (defScope st).names.lookup y.1 = some .local ∨ ((defScope st).names.lookup y.1 = some .cell ∧ ((cellsFrom (s.heap.objs.size + 1) (defScope st).names []).lookup y.1).isSome = true) := fun y hy => by
    rcases S.par y.1 (List.of_mem_zip hy).1 with z | z
    · exact .inl z
    · exact .inr ⟨z, PySem.W.cellsFrom_some _ _ _ (.inl z)⟩
  refine codeAny_call_function room.depth (inK _ _ lk) rfl S.co S.gen rfl (PySem.W.codeRec_of inK hcd) (bnd _ _ _ _ ?_)
  refine wpAny_newFunctionEnv_cells S.kind kinds fun env eenv s1 entered => ?_
  subst eenv
  refine ⟨lim.keeps entered.toInCall.keep, codeAny_func ?_⟩
  obtain ⟨t, der, rd⟩ := hbody cdv A outer s H vs Q E hgd (room.deeper _) promised
  have J0 : L2.Inv (cxOf CX0 P w K mg base N qual (defScope st) f cdv A outer s H E) [] (start N vs) H s1 := inv_start S room.hd en lens rel entered
  have done : ∀ {σ' : L2.St} {H' : Hp} {v : V} {u : Value} {s' : Shared}, L2.Inv (cxOf CX0 P w K mg base N qual (defScope st) f cdv A outer s H E) [] σ' H' s' → RelV v u → Q v H' → CE outer P w H s Q u s' :=
    fun {σ' H' v u s'} J rv q => ⟨v, H', J.os, J.bare, J.base, J.hok, rv, q⟩
  refine wpAny_mono (der.nox.run [] s1 (start N vs) H _ J0 rd) (fun fl s' out => ?_) fun ex s' out => out
  cases fl with
  | ret u =>
    obtain ⟨v, σ', H', J, rv, q⟩ := out
    exact done J rv q
  | next =>
    obtain ⟨σ', H', J, q⟩ := out
    exact done (v := V.non) (u := Value.none) J rfl q
  | brk => exact (out.elim fun _ z => z.elim fun _ z => z.2).elim
  | cont => exact (out.elim fun _ z => z.elim fun _ z => z.2).elim
end
section
variable {X : Cx} {k : Nat} {f : Addr} {fd : FuncData} {ps : List Str} {sp : Sp} {x : Str} {p pos : Pos} {e : Expr} {es : List Expr} {t : TA}
theorem pe_callG (hgd : X.A.guards = some []) (F : FnOkG X.prog X.w X.K X.mg X.base k f fd ps sp) (hr : Room k X.A) (hg : Gl X x) (hm : X.mg x = some (.ref f)) (hk : PySem.W.keepIn X.K (.ref f) = true) (hb : Binds X.K fd ps [])
    (ha : PA X (e :: es) t) (hdb : (x == ("__debug__" : Str)) = false := by decide) (he : starEach (e :: es) X.env = (false, eval e X.env) :: starEach es X.env := by rfl) (hpl : (backTo pos (starEach es X.env)).any (·.1) = false := by rfl) :
    PE X (.Call (.Name x p) (e :: es) [] pos) (tCall sp [] E0 t) := by
  constructor
  intro pins s σ H Q I h
  refine wpAny_Call_Name_kw (ld_glob I hg hm ?_ hdb)
  refine PySem.W.callWith_K (h₀ := X.base) I.ok.mod.kin hk (thn (ha.run pos pins s σ H _ I h) fun us s1 ⟨vs, H1, I1, r, q⟩ => ⟨I1.kIn, ?_⟩) he hpl
  have r2 : Vals (vs ++ []) (us ++ []) := r.append .nil
  have hl : (us ++ []).length = ps.length := r2.length.symm.trans (F.len _ _ _ _ q)
  refine wpAny_call (codeAny_mono (F.run X.A X.stack s1 H1 ⟨us, []⟩ (us ++ []) (vs ++ []) Q E0 hgd hr I1.env0 (hb s1 us I1.kIn hl) r2 q) fun res s' hq => ?_)
  cases res with
  | error ex => exact (show False from hq).elim
  | ok fl =>
    cases fl with
    | ret u => exact I1.after hq
    | next => exact False.elim hq
    | brk => exact False.elim hq
    | cont => exact False.elim hq
end
/-- the law's end, by a promise where no repr is under way -/
theorem lawG {P : Program} {w : World} {K : PySem.W.Frag} {mg mb : Str → Option Value} {k : Nat} {fa a : Addr} {fd : FuncData} {x : Str} {sp : Sp} {s₁ : Shared} {vs : List Value} {ns : List Int}
    (KX : K.In s₁.heap) (hns : s₁.heap.Ns mainGlobals mg) (hb : s₁.heap.Ns builtinsNs mb) (hbb : ∀ x : Str, x ≠ "__name__" → mb x = bootBuiltins x) (hlim : s₁.heap.NoLimit) (hgn : s₁.gens = #[])
    (ha : s₁.heap.get? a = some { cls := .type "list", data := .seq vs.toArray }) (hi : IntsAre vs ns) (hl : ns.length ≤ sizeLine) (room : Room k callerA)
    (F : ∀ base : Heap, K.In base → base.Ns mainGlobals mg → FnOkG P w K mg base k fa fd [x] sp) (hbind : ∀ (s : Shared) (u : Value), BindsTo s fd ⟨[u], []⟩ [(x, u)])
    (hsp : ∀ H : Hp, Only H → SqL K H a (ns.map V.int) → sp [.ref a] H (fun v _ => v = .bl true) fun _ _ _ => False) :
    codeAny (model P w) callerA (.call (.ref fa) ⟨[.ref a], []⟩) (fun r s' => r = .ok (.ret (.bool true)) ∧ OldK s₁.heap s'.heap ∧ s'.os = s₁.os ∧ AllBare s'.gens) s₁ := by
  have rv := vals_ints hi
  have lenV := hi.length
  have core : ∀ H : Hp, Only H → SqL K H a (ns.map V.int) → HOk P w H s₁.heap → (∀ b, H b ≠ none → b = a) → (H a ≠ none → K.lookup a = none) →
      codeAny (model P w) callerA (.call (.ref fa) ⟨[.ref a], []⟩) (fun r s' => r = .ok (.ret (.bool true)) ∧ OldK s₁.heap s'.heap ∧ s'.os = s₁.os ∧ AllBare s'.gens) s₁ := fun H hO hS hok hA hK => by
    have noA : ∀ {b : Addr} {o : Obj} {es : Array DictEntry} {ep : Nat}, s₁.heap.get? b = some o → o.data = .dict es ep → H b = none := fun {b o es ep} z d => by
      cases hq : H b with
      | none => rfl
      | some u =>
        have eb : b = a := hA b (by rw [hq]; exact fun z => nomatch z)
        subst eb
        rw [ha] at z
        cases z
        exact nomatch (show Data.seq vs.toArray _ = Data.dict es ep from d)
    have nsK : ∀ {b : Addr} {m : Str → Option Value}, s₁.heap.Ns b m → (hidT s₁.heap H).Ns b m := fun {b m} z => by
      obtain ⟨o, es, ep, g, d, r⟩ := z
      exact ⟨o, es, ep, hidT_get g (noA g d), d, r⟩
    have inB : K.In (hidT s₁.heap H) := fun b o z => hidT_get (KX b o z) (by
      cases hq : H b with
      | none => rfl
      | some u =>
        have eb : b = a := hA b (by rw [hq]; exact fun z => nomatch z)
        subst eb
        rw [hK (by rw [hq]; exact fun z => nomatch z)] at z
        cases z)
    have hM : Mod K mg (hidT s₁.heap H) := ⟨inB, nsK hns, ⟨mb, nsK hb, hbb⟩, hlim.elim fun mc z => ⟨mc, nsK z.1, z.2⟩⟩
    have en : Env0 P w K mg (hidT s₁.heap H) callerA [] s₁ H := ⟨rfl, hM, fun b o z => of_hidT z, Nat.le_of_eq (hidT_size _ _), trivial, fun b z => absurd (show b ∈ ([] : List Addr) from z) (by simp), hok, .of_eq hgn⟩
    refine codeAny_mono ((F _ inB (nsK hns)).run callerA [] s₁ H ⟨[.ref a], []⟩ [.ref a] [.ref a] _ _ rfl room en (hbind s₁ (.ref a)) (.cons rfl .nil) (hsp H hO hS)) fun res s' out => ?_
    cases res with
    | error ex => exact (show False from out).elim
    | ok fl =>
      cases fl with
      | next => exact False.elim out
      | brk => exact False.elim out
      | cont => exact False.elim out
      | ret u =>
        obtain ⟨v, H', os, bare, un, hok', rel, isT⟩ := out
        have isT' : v = .bl true := isT
        subst isT'
        obtain rfl : u = Value.bool true := rel
        refine ⟨rfl, OldK.of_keep fun b o z => ?_, os, bare⟩
        rcases hO b with hq | ⟨ob, xs, hq⟩
        · exact un.keep b o z hq (fun y => absurd (show b ∈ ([] : List Addr) from y) (by simp)) (by simp)
        · have z1 := (hok b _ hq).1
          have z2 := (hok' b _ (un.frzs b ob _ hq)).1
          rw [z] at z1
          cases z1
          exact z2
  cases hk : K.lookup a with
  | some o =>
    have z := KX a o hk
    rw [ha] at z
    cases z
    exact core (fun _ => none) (fun _ => .inl rfl) (.inr ⟨_, vs.toArray, _, hk, rfl, rfl, rfl, by rw [List.size_toArray, lenV]; exact hl, by simpa using rv⟩) (fun b u z => nomatch (show (none : Option HO) = some u from z)) (fun b z => absurd rfl z) fun z => absurd rfl z
  | none =>
    have fz : ∀ b, (if b = a then some (HO.frz { cls := .type "list", data := .seq vs.toArray } (.lst (ns.map V.int))) else none) ≠ none → b = a := fun b z => by
      by_cases hba : b = a
      · exact hba
      · exact absurd (if_neg hba) z
    refine core (fun b => if b = a then some (.frz { cls := .type "list", data := .seq vs.toArray } (.lst (ns.map V.int))) else none) (fun b => ?_) (.inl (.inr ⟨{ cls := .type "list", data := .seq vs.toArray }, if_pos rfl⟩)) (fun b u z => ?_) fz fun _ => hk
    · by_cases hba : b = a
      · exact .inr ⟨_, _, if_pos hba⟩
      · exact .inl (if_neg hba)
    · have hba : b = a := fz b (by rw [show (if b = a then some (HO.frz { cls := .type "list", data := .seq vs.toArray } (.lst (ns.map V.int))) else none) = some u from z]; exact fun y => nomatch y)
      have z' := (if_pos hba).symm.trans z
      cases z'
      subst hba
      exact ⟨ha, by rw [List.length_map]; exact hl, vs, _, rv, ha⟩
theorem walkG {l : PySem.W.OpenLaw} {n k : Nat} {q : Program} {loose : List Str} {XP : (Str → Option Value) → Heap → Prop} {YP : World → Heap → Prop} {d : DefRec} {K : Params → PySem.W.Frag} {sp : World → Sp} {x : Str}
    (hn : l.most = some n) (hn2 : n ≤ sizeLine) (hdf : d.params.defaults = []) (room : Room k callerA)
    (hY : ∀ (w : World) (h : Heap), YP w h → (K w.params).In h)
    (F : ∀ (w : World) (mg : Str → Option Value) (fa : Addr) (h : Heap), (K w.params).In h → h.Ns mainGlobals mg → mg d.name = some (.ref fa) →
      ∃ fd : FuncData, (∀ (s : Shared) (u : Value), BindsTo s fd ⟨[u], []⟩ [(x, u)]) ∧
        ∀ base : Heap, (K w.params).In base → base.Ns mainGlobals mg → FnOkG l.prog w (K w.params) mg base k fa fd [x] (sp w))
    (hsp : ∀ (w : World) (H : Hp) (a : Addr) (ns : List Int), ns.length ≤ n → Only H → SqL (K w.params) H a (ns.map V.int) → sp w [.ref a] H (fun v _ => v = .bl true) fun _ _ _ => False) :
    PySem.W.WalkO q loose XP YP l.row.toRowW d [] (fun f vs => PySem.call f vs) := by
  refine Att.attach_call hn hdf fun w s₀ s₁ mg mb fa o pm cd doc a vs ns G Y ho hd hcd hmg hobj hints hlen hgn => ?_
  obtain ⟨fd, bnd, kept⟩ := F w mg fa _ (hY w _ Y) G.T.g hmg
  exact lawG (hY w _ Y) G.T.g G.T.b G.T.builtins G.T.nolimit hgn hobj hints (Nat.le_trans hlen hn2) room kept bnd fun H hO hS => hsp w H a ns hlen hO hS
end NS
namespace NS
open PySem L2
structure KnG (P : Program) (w : World) (K : PySem.W.Frag) (mg : Str → Option Value) (base : Heap) (k : Nat) (x : Str) (st : Stmt) (ps : List Str) (sp : Sp) (f : Addr) (fd : FuncData) : Prop where
  D : Df K mg x st ps f fd
  G : FnOkG P w K mg base k f fd ps sp
end NS

namespace NS
open PySem L2
mutual
def depthD : PyData → Nat
  | .list ds => depthL ds + 1
  | .tuple ds => depthL ds + 1
  | _ => 0
def depthL : List PyData → Nat
  | [] => 0
  | d :: ds => max (depthD d) (depthL ds)
end
theorem depthL_get : ∀ {ds : List PyData} {d : PyData} {i : Nat}, ds[i]? = some d → depthD d ≤ depthL ds
  | [], d, i, h => by simp at h
  | e :: ds, d, 0, h => by
    have q : e = d := Option.some.inj h
    subst q
    unfold depthL
    exact Nat.le_max_left _ _
  | e :: ds, d, i + 1, h => by
    have q := depthL_get (ds := ds) (d := d) (i := i) (by simpa using h)
    unfold depthL
    exact Nat.le_trans q (Nat.le_max_right _ _)
theorem dpAll_len {K : PySem.W.Frag} {H : Hp} : ∀ {vs : List V} {ds : List PyData}, DpAll K H vs ds → vs.length = ds.length
  | _, _, .nil => rfl
  | _, _, .cons _ b => congrArg (· + 1) (dpAll_len b)
theorem dpAll_get {K : PySem.W.Frag} {H : Hp} : ∀ {vs : List V} {ds : List PyData} {i : Nat} {v : V}, DpAll K H vs ds → vs[i]? = some v → ∃ d, ds[i]? = some d ∧ Dp K H v d
  | _, _, _, _, .nil, h => by simp at h
  | _, _, 0, v, .cons a _, h => by
    have q := Option.some.inj h
    subst q
    exact ⟨_, rfl, a⟩
  | _, _, i + 1, v, .cons _ b, h => by
    obtain ⟨d, e, q⟩ := dpAll_get (i := i) (v := v) b (by simpa using h)
    exact ⟨d, by simpa using e, q⟩
mutual
def wideD : PyData → Nat
  | .list ds => max ds.length (wideL ds)
  | .tuple ds => max ds.length (wideL ds)
  | _ => 0
def wideL : List PyData → Nat
  | [] => 0
  | d :: ds => max (wideD d) (wideL ds)
end
theorem wideL_get : ∀ {ds : List PyData} {d : PyData} {i : Nat}, ds[i]? = some d → wideD d ≤ wideL ds
  | [], d, i, h => by simp at h
  | e :: ds, d, 0, h => by
    have q : e = d := Option.some.inj h
    subst q
    unfold wideL
    exact Nat.le_max_left _ _
  | e :: ds, d, i + 1, h => by
    have q := wideL_get (ds := ds) (d := d) (i := i) (by simpa using h)
    unfold wideL
    exact Nat.le_trans q (Nat.le_max_right _ _)
theorem depth_ints : ∀ ns : List Int, depthL (ns.map PyData.int) = 0
  | [] => by unfold depthL; rfl
  | n :: ns => by
    show depthL (PyData.int n :: ns.map PyData.int) = 0
    unfold depthL
    rw [depth_ints ns]
    unfold depthD
    rfl
theorem wide_ints : ∀ ns : List Int, wideL (ns.map PyData.int) = 0
  | [] => by unfold wideL; rfl
  | n :: ns => by
    show wideL (PyData.int n :: ns.map PyData.int) = 0
    unfold wideL
    rw [wide_ints ns]
    unfold wideD
    rfl
theorem depth_T (ns : List Int) : depthD (dT ns) = 1 := by
  unfold dT depthD
  rw [depth_ints]
theorem wide_T (ns : List Int) : wideD (dT ns) = ns.length := by
  unfold dT wideD
  rw [wide_ints, List.length_map]
  omega
theorem depth_L (ns : List Int) : depthD (dL ns) = 1 := by
  unfold dL depthD
  rw [depth_ints]
theorem wide_L (ns : List Int) : wideD (dL ns) = ns.length := by
  unfold dL wideD
  rw [wide_ints, List.length_map]
  omega
theorem depth_list (ds : List PyData) : depthD (.list ds) = depthL ds + 1 := by rw [depthD]
theorem depth_tuple (ds : List PyData) : depthD (.tuple ds) = depthL ds + 1 := by rw [depthD]
theorem depthL_nil : depthL [] = 0 := by rw [depthL]
theorem depthL_cons (d : PyData) (ds : List PyData) : depthL (d :: ds) = max (depthD d) (depthL ds) := by rw [depthL]
theorem wide_list (ds : List PyData) : wideD (.list ds) = max ds.length (wideL ds) := by rw [wideD]
theorem wide_tuple (ds : List PyData) : wideD (.tuple ds) = max ds.length (wideL ds) := by rw [wideD]
theorem wideL_nil : wideL [] = 0 := by rw [wideL]
theorem wideL_cons (d : PyData) (ds : List PyData) : wideL (d :: ds) = max (wideD d) (wideL ds) := by rw [wideL]
end NS

/-! ### the heap without s; what evaluates to which data -/
namespace NS
open PySem L2
def Hid (S : List Addr) (H : Hp) : Hp := fun b => if b ∈ S then none else H b
theorem nmem_ne {S : List Addr} {b s : Addr} (n : b ∉ S) (hs : s ∈ S) : b ≠ s := fun z => n (by rw [z]; exact hs)
theorem hid_ne {S : List Addr} {b : Addr} {H : Hp} (h : b ∉ S) : Hid S H b = H b := if_neg h
theorem hid_in {S : List Addr} {b : Addr} {H : Hp} (h : b ∈ S) : Hid S H b = none := if_pos h
theorem hid_some {S : List Addr} {b : Addr} {H : Hp} {o : HO} (h : Hid S H b = some o) : b ∉ S ∧ H b = some o := by
  by_cases e : b ∈ S
  · rw [hid_in e] at h
    cases h
  · rw [hid_ne e] at h
    exact ⟨e, h⟩
theorem same_hid {S : List Addr} {H : Hp} : Same (Hid S H) H := fun _ _ h => (hid_some h).2
theorem hid_mono {S : List Addr} {H H' : Hp} (e : Same H H') : Same (Hid S H) (Hid S H') := fun b o h => by
  obtain ⟨n, h⟩ := hid_some h
  rw [hid_ne n]
  exact e b o h
theorem hid_stay {S : List Addr} {s : Addr} {H H' : Hp} (hs : s ∈ S) (e : Stay s H H') : Same (Hid S H) (Hid S H') := fun b o h => by
  obtain ⟨n, h⟩ := hid_some h
  rw [hid_ne n]
  exact e b o (nmem_ne n hs) h
theorem hid_upd {S : List Addr} {s : Addr} {H : Hp} {o : HO} (hs : s ∈ S) : Hid S (upd H s o) = Hid S H := by
  funext b
  by_cases e : b ∈ S
  · rw [hid_in e, hid_in e]
  · rw [hid_ne e, hid_ne e, upd_ne (nmem_ne e hs)]
theorem hid_to {S : List Addr} {s : Addr} {H : Hp} {o : HO} (hs : s ∈ S) : Same (Hid S H) (upd H s o) := fun b x h => by
  obtain ⟨n, h⟩ := hid_some h
  rw [upd_ne (nmem_ne n hs)]
  exact h
/-- one more is hidden that was not there -/
theorem hid_more {S : List Addr} {p : Addr} {H H' : Hp} (hp : H p = none) (e : Same (Hid S H) (Hid S H')) : Same (Hid S H) (Hid (p :: S) H') := fun b o h => by
  obtain ⟨n, h'⟩ := hid_some h
  have nb : b ≠ p := ne_of_none h' hp
  rw [hid_ne (fun z => by
    rcases List.mem_cons.mp z with z | z
    · exact nb z
    · exact n z)]
  exact (hid_some (e b o h)).2
theorem hid_back {S : List Addr} {p : Addr} {H : Hp} {o : HO} : Same (Hid (p :: S) H) (Hid S (upd H p o)) := fun b x h => by
  obtain ⟨n, h'⟩ := hid_some h
  rw [hid_ne (fun z => n (List.mem_cons_of_mem _ z)), upd_ne (nmem_ne n (List.mem_cons_self ..))]
  exact h'
theorem hid_less {S : List Addr} {p : Addr} {H : Hp} : Same (Hid (p :: S) H) (Hid S H) := fun b x h => by
  obtain ⟨n, h'⟩ := hid_some h
  rw [hid_ne (fun z => n (List.mem_cons_of_mem _ z))]
  exact h'
/-- tracked -/
abbrev Has (H : Hp) (s : Addr) : Prop := ∃ o, H s = some o
abbrev HasA (H : Hp) (S : List Addr) : Prop := ∀ b ∈ S, Has H b
theorem has_same {H H' : Hp} {s : Addr} (h : Has H s) (e : Same H H') : Has H' s := h.elim fun o z => ⟨o, e s o z⟩
theorem hasA_same {H H' : Hp} {S : List Addr} (h : HasA H S) (e : Same H H') : HasA H' S := fun b hb => has_same (h b hb) e
theorem hasA_upd {H : Hp} {s : Addr} {S : List Addr} {o : HO} (h : HasA H S) : HasA (upd H s o) S := fun b hb => by
  by_cases e : b = s
  · rw [e]
    exact ⟨o, upd_same⟩
  · obtain ⟨x, z⟩ := h b hb
    exact ⟨x, by rw [upd_ne e]; exact z⟩
theorem hasA_stay {H H' : Hp} {s : Addr} {S : List Addr} (h : HasA H S) (e : Stay s H H') (hs : Has H' s) : HasA H' S := fun b hb => by
  by_cases z : b = s
  · rw [z]
    exact hs
  · obtain ⟨x, y⟩ := h b hb
    exact ⟨x, e b x z y⟩
theorem has_ne {H : Hp} {S : List Addr} {p : Addr} (h : HasA H S) (n : H p = none) : p ∉ S := fun e => by
  obtain ⟨o, z⟩ := h p e
  rw [n] at z
  cases z
theorem src_has {H : Hp} {s : Addr} {n : Nat} (h : Src H s n) : Has H s := h.elim fun o z => ⟨o, z.1⟩
section
variable {K : PySem.W.Frag} {S : List Addr} {σ : L2.St} {H : Hp} {te ta tb : TE} {d : PyData} {ds es : List PyData}
def EvE (K : PySem.W.Frag) (S : List Addr) (d : PyData) (te : TE) (σ : L2.St) (H : Hp) : Prop := ∀ H1, Same H H1 → ∀ Q : VK, (∀ v H2, Same H1 H2 → Dp K (Hid S H2) v d → Q v H2) → te σ H1 Q
def EvAx (K : PySem.W.Frag) (S : List Addr) (ds : List PyData) (ta : TA) (σ : L2.St) (H : Hp) : Prop := ∀ H1, Same H H1 → ∀ Q : List V → Hp → Prop, (∀ vs H2, Same H1 H2 → DpAll K (Hid S H2) vs ds → Q vs H2) → ta σ H1 Q
def EvLx (K : PySem.W.Frag) (S : List Addr) (ds : List PyData) (te : TE) (σ : L2.St) (H : Hp) : Prop := ∀ H1, Same H H1 → ∀ Q : VK, (∀ p xs H2, Same H1 H2 → p ∉ S → H2 p = some (.lst xs) → DpAll K (Hid S H2) xs ds → Q (.ref p) H2) → te σ H1 Q
theorem ee_non : EvE K S .none (tC .non) σ H := fun H1 _ _ q => q _ H1 (Same.refl _) .non
theorem ee_bl {b : Bool} : EvE K S (.bool b) (tC (.bl b)) σ H := fun H1 _ _ q => q _ H1 (Same.refl _) (.bl _)
theorem ee_int {i : Int} : EvE K S (.int i) (tC (.int i)) σ H := fun H1 _ _ q => q _ H1 (Same.refl _) (.int _)
theorem ee_str {x : Str} : EvE K S (.str x) (tC (.str x)) σ H := fun H1 _ _ q => q _ H1 (Same.refl _) (.str _)
theorem ee_neg {i : Int} : EvE K S (.int (-i)) (tUn (rU fun i => .int (-i)) (tC (.int i))) σ H := fun H1 _ _ q => ⟨i, rfl, q _ H1 (Same.refl _) (.int _)⟩
theorem ee_var {i : Nat} {v : V} (h : σ[i]? = some (some v)) (hd : Dp K (Hid S H) v d) : EvE K S d (tVar i) σ H := fun H1 e _ q => ⟨v, h, q _ H1 (Same.refl _) (dp_same (hid_mono e) hd)⟩
theorem el_var {i : Nat} {p : Addr} {xs : List V} (h : σ[i]? = some (some (.ref p))) (hp : p ∉ S) (hx : H p = some (.lst xs)) (hd : DpAll K (Hid S H) xs ds) : EvLx K S ds (tVar i) σ H := fun H1 e _ q => ⟨_, h, q p xs H1 (Same.refl _) hp (e _ _ hx) (dp_sameA (hid_mono e) hd)⟩
theorem ea_nil : EvAx K S [] tNil σ H := fun H1 _ _ q => q [] H1 (Same.refl _) .nil
theorem ea_cons {tr : TA} (h : EvE K S d te σ H) (hr : EvAx K S ds tr σ H) : EvAx K S (d :: ds) (tCons te tr) σ H := fun H1 e Q q =>
  h H1 e _ fun v H2 e2 hv => hr H2 (e.trans e2) _ fun vs H3 e3 hvs => q (v :: vs) H3 (e2.trans e3) (.cons (dp_same (hid_mono e3) hv) hvs)
theorem sqT_hid {p : Addr} {xs : List V} (hp : p ∉ S) (h : H p = some (.tup xs)) : SqT K (Hid S H) p xs := sqT (by rw [hid_ne hp]; exact h)
theorem sqL_hid {p : Addr} {xs : List V} (hp : p ∉ S) (h : H p = some (.lst xs)) : SqL K (Hid S H) p xs := sqL (by rw [hid_ne hp]; exact h)
theorem ee_tup {t : TA} (hs : HasA H S) (h : EvAx K S ds t σ H) (hz : ds.length ≤ 1000) : EvE K S (.tuple ds) (tTup t) σ H := fun H1 e Q q =>
  h H1 e _ fun vs H2 e2 hvs => ⟨small (by rw [dpAll_len hvs]; exact hz), fun p hp => by
    have np := has_ne (hasA_same hs (e.trans e2)) hp
    exact q _ _ (e2.trans (same_upd hp)) (.tup (sqT_hid np upd_same) (dp_sameA (hid_mono (same_upd hp)) hvs))⟩
theorem ee_lst {t : TA} (hs : HasA H S) (h : EvAx K S ds t σ H) (hz : ds.length ≤ 1000) : EvE K S (.list ds) (tLst t) σ H := fun H1 e Q q =>
  h H1 e _ fun vs H2 e2 hvs => ⟨small (by rw [dpAll_len hvs]; exact hz), fun p hp => by
    have np := has_ne (hasA_same hs (e.trans e2)) hp
    exact q _ _ (e2.trans (same_upd hp)) (.lst (sqL_hid np upd_same) (dp_sameA (hid_mono (same_upd hp)) hvs))⟩
theorem el_lst {t : TA} (hs : HasA H S) (h : EvAx K S ds t σ H) (hz : ds.length ≤ 1000) : EvLx K S ds (tLst t) σ H := fun H1 e Q q =>
  h H1 e _ fun vs H2 e2 hvs => ⟨small (by rw [dpAll_len hvs]; exact hz), fun p hp => by
    have np := has_ne (hasA_same hs (e.trans e2)) hp
    exact q _ _ _ (e2.trans (same_upd hp)) np upd_same (dp_sameA (hid_mono (same_upd hp)) hvs)⟩
theorem dpAll_app {H : Hp} : ∀ {xs ys : List V} {ds es : List PyData}, DpAll K H xs ds → DpAll K H ys es → DpAll K H (xs ++ ys) (ds ++ es)
  | _, _, _, _, .nil, h => h
  | _, _, _, _, .cons a b, h => .cons a (dpAll_app b h)
theorem el_cat (hs : HasA H S) (ha : EvLx K S ds ta σ H) (hb : EvLx K S es tb σ H) (hz : ds.length + es.length ≤ 1000) : EvLx K S (ds ++ es) (tOp rCat ta tb) σ H := fun H1 e Q q =>
  ha H1 e _ fun l xs H2 e2 nl hl hx => hb H2 (e.trans e2) _ fun b ys H3 e3 nb hb hy =>
    ⟨l, b, xs, ys, rfl, rfl, e3 _ _ hl, hb, small (by rw [dpAll_len hx, dpAll_len hy]; exact hz), fun p hp => by
      have np := has_ne (hasA_same hs ((e.trans e2).trans e3)) hp
      exact q p _ _ ((e2.trans e3).trans (same_upd hp)) np upd_same (dp_sameA (hid_mono (same_upd hp)) (dpAll_app (dp_sameA (hid_mono e3) hx) hy))⟩
theorem el_rep2 (hs : HasA H S) (ha : EvLx K S ds ta σ H) (hz : ds.length ≤ 500) : EvLx K S (ds ++ ds) (tOp rRep ta (tC (.int 2))) σ H := fun H1 e Q q =>
  ha H1 e _ fun l xs H2 e2 nl hl hx => ⟨l, 2, xs, rfl, rfl, hl, by decide, by decide, small (by rw [dpAll_len hx]; show ds.length * 2 ≤ 1000; omega), fun p hp => by
    have np := has_ne (hasA_same hs (e.trans e2)) hp
    refine q p _ _ (e2.trans (same_upd hp)) np upd_same (dp_sameA (hid_mono (same_upd hp)) ?_)
    have er : (List.replicate (2 : Int).toNat xs).flatten = xs ++ xs := by
      show (xs ++ (xs ++ [])) = xs ++ xs
      rw [List.append_nil]
    rw [er]
    exact dpAll_app hx hx⟩
/-- name = xs + ys: a new list, apart from what stands in it -/
theorem sl_catN {D : Ends} {i : Nat} (hs : HasA H S) (ha : EvLx K S ds ta σ H) (hb : EvLx K S es tb σ H) (hz : ds.length + es.length ≤ 1000)
    (k : ∀ p xs H2, Same H H2 → H p = none → p ∉ S → H2 p = some (.lst xs) → DpAll K (Hid (p :: S) H2) xs (ds ++ es) → D.nx (σ.set i (some (.ref p))) H2) : tAsg (tOp rCat ta tb) (gName i) D σ H :=
  ha H (Same.refl H) _ fun l xs H2 e2 nl hl hx => hb H2 e2 _ fun b ys H3 e3 nb hb hy =>
    ⟨l, b, xs, ys, rfl, rfl, e3 _ _ hl, hb, small (by rw [dpAll_len hx, dpAll_len hy]; exact hz), fun p hp => by
      have np := has_ne (hasA_same hs (e2.trans e3)) hp
      exact k p _ _ ((e2.trans e3).trans (same_upd hp)) (e2.free (e3.free hp)) np upd_same (dp_sameA (hid_more hp (hid_mono (same_upd hp))) (dpAll_app (dp_sameA (hid_mono e3) hx) hy))⟩
end
end NS

namespace NS
open PySem L2
def fitD (n : Int) : PyData → Bool
  | .none => true
  | .str x => decide (x = "?")
  | .int i => decide (0 ≤ i) && decide (i < n)
  | _ => false
def validD : PyData → Bool
  | .tuple ds => !ds.isEmpty && ds.all (fitD (ds.length : Int))
  | _ => false
def lenD : PyData → Nat
  | .tuple ds => ds.length
  | .list ds => ds.length
  | _ => 0
end NS
namespace NS
open PySem L2
def isIntD : PyData → Bool
  | .int _ => true
  | _ => false
theorem eqv_tup0 (ds : List PyData) : PyData.eqv (.tuple ds) (.tuple []) = ds.isEmpty := by
  cases ds with
  | nil => rfl
  | cons d r => rfl
theorem valid_ne {ds : List PyData} (h : ds ≠ []) : validD (.tuple ds) = ds.all (fitD (ds.length : Int)) := by
  cases ds with
  | nil => exact absurd rfl h
  | cons d r => rfl
theorem all_bad {f : PyData → Bool} : ∀ {ds : List PyData} {i : Nat} {d : PyData}, ds[i]? = some d → f d = false → ds.all f = false
  | [], _, _, h, _ => by simp at h
  | e :: ds, 0, d, h, hf => by
    have q : e = d := Option.some.inj h
    rw [List.all_cons, q, hf, Bool.false_and]
  | e :: ds, i + 1, d, h, hf => by
    rw [List.all_cons, all_bad (ds := ds) (i := i) (d := d) (by simpa using h) hf, Bool.and_false]
theorem all_more {f : PyData → Bool} {ds : List PyData} {i : Nat} {d : PyData} (h : ds[i]? = some d) (hf : f d = true) (hp : (ds.take i).all f = true) : (ds.take (i + 1)).all f = true := by
  rw [List.take_add_one, List.all_append, hp, h]
  show (true && (f d && true)) = true
  rw [hf]
  rfl
end NS
namespace NS
open PySem L2
def oddA : List PyData := [.none, .bool true, .bool false, .int 0, .int 1, .int (-1), .str "", .str "node", .tuple [], .list [], .tuple [.int 0], .list [.int 1], .tuple [.tuple []], .tuple [.tuple [], .tuple []], .tuple [.int 0, .int 1]]
def oddB : List PyData := [.tuple [.none, .int 0], .tuple [.none], .str "?", .int 2, .int 3]
/-- what is made of an int (or a bool as one) -/
def oddN (z : Int) (v : V) (d : PyData) : List PyData := [.int (z + 1), .int (z - 1), .int (0 - z), .str (strV v), .bool (PyData.eqv d (.int 1))]
/-- of a list's or tuple's items -/
def oddS (mk : List PyData → PyData) (ds : List PyData) : List PyData := [.list ds, .tuple ds, mk ds.reverse, mk (ds.drop 1), mk ds.dropLast]
def oddL : PyData → List PyData
  | .int i => (oddA ++ oddB) ++ (oddN i (.int i) (.int i) ++ oddN i (.int i) (.int i))
  | .bool b => (oddA ++ oddB) ++ (oddN (if b = true then 1 else 0) (.bl b) (.bool b) ++ oddN (if b = true then 1 else 0) (.bl b) (.bool b))
  | .list ds => (oddA ++ oddB) ++ (oddS .list ds ++ oddS .list ds)
  | .tuple ds => (oddA ++ oddB) ++ (oddS .tuple ds ++ oddS .tuple ds)
  | _ => oddA ++ oddB
def oddPre : PyData → Prop
  | .int i => i.natAbs.log2 < 1920
  | .list ds => ds.length ≤ 400
  | .tuple ds => ds.length ≤ 400
  | _ => True
theorem cut_from1 (xs : List V) : cutV xs (some 1) none = xs.drop 1 := by
  unfold cutV
  rw [show HT.sIx xs.length 0 (some 1) = min 1 xs.length from HT.sIx_nat xs.length 0 1, HT.sIx_none]
  by_cases h : 1 ≤ xs.length
  · rw [Nat.min_eq_left h]
    exact List.take_of_length_le (by rw [List.length_drop]; exact Nat.le_refl _)
  · have e : xs = [] := List.eq_nil_of_length_eq_zero (by omega)
    rw [e]
    rfl
theorem cut_butlast (xs : List V) : cutV xs none (some (-1)) = xs.dropLast := by
  unfold cutV
  rw [HT.sIx_none]
  have e : HT.sIx xs.length xs.length (some (-1)) = xs.length - 1 := by
    show (if (-1 : Int) < 0 then ((-1 : Int) + (xs.length : Int)).toNat else min (-1 : Int).toNat xs.length) = xs.length - 1
    rw [if_pos (by decide)]
    omega
  rw [e, Nat.sub_zero, List.dropLast_eq_take]
  rfl
theorem dpAll_rev {K : PySem.W.Frag} {H : Hp} : ∀ {xs : List V} {ds : List PyData}, DpAll K H xs ds → DpAll K H xs.reverse ds.reverse
  | _, _, .nil => .nil
  | _, _, .cons a b => by
    rw [List.reverse_cons, List.reverse_cons]
    exact dpAll_app (dpAll_rev b) (.cons a .nil)
theorem dpAll_take {K : PySem.W.Frag} {H : Hp} : ∀ {xs : List V} {ds : List PyData} (n : Nat), DpAll K H xs ds → DpAll K H (xs.take n) (ds.take n)
  | _, _, 0, _ => .nil
  | _, _, _ + 1, .nil => .nil
  | _, _, n + 1, .cons a b => .cons a (dpAll_take n b)
theorem dpAll_drop {K : PySem.W.Frag} {H : Hp} : ∀ {xs : List V} {ds : List PyData} (n : Nat), DpAll K H xs ds → DpAll K H (xs.drop n) (ds.drop n)
  | _, _, 0, h => h
  | _, _, _ + 1, .nil => .nil
  | _, _, n + 1, .cons _ b => dpAll_drop n b
theorem dpAll_dropLast {K : PySem.W.Frag} {H : Hp} {xs : List V} {ds : List PyData} (h : DpAll K H xs ds) : DpAll K H xs.dropLast ds.dropLast := by
  rw [List.dropLast_eq_take, List.dropLast_eq_take, dpAll_len h]
  exact dpAll_take _ h
theorem dpAll_set {K : PySem.W.Frag} {H : Hp} {v : V} {d : PyData} (hv : Dp K H v d) : ∀ {xs : List V} {ds : List PyData} (n : Nat), DpAll K H xs ds → DpAll K H (xs.set n v) (ds.set n d)
  | _, _, _, .nil => .nil
  | _, _, 0, .cons _ b => .cons hv b
  | _, _, n + 1, .cons a b => .cons a (dpAll_set hv n b)
theorem dpAll_erase {K : PySem.W.Frag} {H : Hp} : ∀ {xs : List V} {ds : List PyData} (n : Nat), DpAll K H xs ds → DpAll K H (xs.eraseIdx n) (ds.eraseIdx n)
  | _, _, _, .nil => .nil
  | _, _, 0, .cons _ b => b
  | _, _, n + 1, .cons a b => .cons a (dpAll_erase n b)
end NS

/-! ### small data -/
namespace NS
open PySem L2
mutual
def intsB (N : Nat) : PyData → Bool
  | .int i => decide (i.natAbs ≤ N)
  | .list ds => decide (ds.length ≤ N) && intsAll N ds
  | .tuple ds => decide (ds.length ≤ N) && intsAll N ds
  | .none => true
  | .bool _ => true
  | .str _ => true
  | .dict _ => true
def intsAll (N : Nat) : List PyData → Bool
  | [] => true
  | d :: ds => intsB N d && intsAll N ds
end
/-- items that fit: no sign of a text too high, not too deep, ints not too great, rows not too long -/
structure Itm (D N : Nat) (d : PyData) : Prop where
  lay : PyData.canLay0 d = true
  dep : PyData.depth d ≤ D
  num : intsB N d = true
structure Sm (D W N : Nat) (d : PyData) : Prop where
  itm : Itm D N d
  wt : PyData.weight d ≤ W
theorem layAll_iff : ∀ {ds : List PyData}, PyData.canLayAll0 ds = true ↔ ∀ x ∈ ds, PyData.canLay0 x = true
  | [] => ⟨(fun _ _ h => nomatch h), fun _ => rfl⟩
  | d :: ds => by
    rw [PyData.canLayAll0, Bool.and_eq_true, layAll_iff (ds := ds), List.forall_mem_cons]
theorem depAll_iff {D : Nat} : ∀ {ds : List PyData}, PyData.depthAll ds ≤ D ↔ ∀ x ∈ ds, PyData.depth x ≤ D
  | [] => ⟨(fun _ _ h => nomatch h), fun _ => Nat.zero_le _⟩
  | d :: ds => by
    rw [PyData.depthAll, Nat.max_le, depAll_iff (ds := ds), List.forall_mem_cons]
theorem intsAll_iff {N : Nat} : ∀ {ds : List PyData}, intsAll N ds = true ↔ ∀ x ∈ ds, intsB N x = true
  | [] => ⟨(fun _ _ h => nomatch h), fun _ => by rw [intsAll]⟩
  | d :: ds => by
    rw [intsAll, Bool.and_eq_true, intsAll_iff (ds := ds), List.forall_mem_cons]
theorem itm_list {D N : Nat} {ds : List PyData} : Itm (D + 1) N (.list ds) ↔ ds.length ≤ N ∧ ∀ x ∈ ds, Itm D N x := by
  constructor
  · intro h
    have h1 := h.lay
    have h2 := h.dep
    have h3 := h.num
    rw [PyData.canLay0, layAll_iff] at h1
    rw [PyData.depth] at h2
    have h2' := depAll_iff.mp (Nat.le_of_succ_le_succ h2)
    rw [intsB, Bool.and_eq_true, intsAll_iff, decide_eq_true_eq] at h3
    exact ⟨h3.1, fun x hx => ⟨h1 x hx, h2' x hx, h3.2 x hx⟩⟩
  · rintro ⟨hl, h⟩
    refine ⟨?_, ?_, ?_⟩
    · rw [PyData.canLay0, layAll_iff]
      exact fun x hx => (h x hx).lay
    · rw [PyData.depth]
      exact Nat.succ_le_succ (depAll_iff.mpr fun x hx => (h x hx).dep)
    · rw [intsB, Bool.and_eq_true, intsAll_iff, decide_eq_true_eq]
      exact ⟨hl, fun x hx => (h x hx).num⟩
theorem itm_tuple {D N : Nat} {ds : List PyData} : Itm (D + 1) N (.tuple ds) ↔ ds.length ≤ N ∧ ∀ x ∈ ds, Itm D N x := by
  constructor
  · intro h
    have h1 := h.lay
    have h2 := h.dep
    have h3 := h.num
    rw [PyData.canLay0, layAll_iff] at h1
    rw [PyData.depth] at h2
    have h2' := depAll_iff.mp (Nat.le_of_succ_le_succ h2)
    rw [intsB, Bool.and_eq_true, intsAll_iff, decide_eq_true_eq] at h3
    exact ⟨h3.1, fun x hx => ⟨h1 x hx, h2' x hx, h3.2 x hx⟩⟩
  · rintro ⟨hl, h⟩
    refine ⟨?_, ?_, ?_⟩
    · rw [PyData.canLay0, layAll_iff]
      exact fun x hx => (h x hx).lay
    · rw [PyData.depth]
      exact Nat.succ_le_succ (depAll_iff.mpr fun x hx => (h x hx).dep)
    · rw [intsB, Bool.and_eq_true, intsAll_iff, decide_eq_true_eq]
      exact ⟨hl, fun x hx => (h x hx).num⟩
mutual
theorem ints_mono {N M : Nat} (h : N ≤ M) : ∀ d : PyData, intsB N d = true → intsB M d = true
  | .int i, q => by
    rw [intsB, decide_eq_true_eq] at q ⊢
    omega
  | .list ds, q => by
    rw [intsB, Bool.and_eq_true, decide_eq_true_eq] at q ⊢
    exact ⟨Nat.le_trans q.1 h, ints_monoA h ds q.2⟩
  | .tuple ds, q => by
    rw [intsB, Bool.and_eq_true, decide_eq_true_eq] at q ⊢
    exact ⟨Nat.le_trans q.1 h, ints_monoA h ds q.2⟩
  | .none, _ => by rw [intsB]
  | .bool _, _ => by rw [intsB]
  | .str _, _ => by rw [intsB]
  | .dict _, _ => by rw [intsB]
theorem ints_monoA {N M : Nat} (h : N ≤ M) : ∀ ds : List PyData, intsAll N ds = true → intsAll M ds = true
  | [], _ => by rw [intsAll]
  | d :: ds, q => by
    rw [intsAll, Bool.and_eq_true] at q ⊢
    exact ⟨ints_mono h d q.1, ints_monoA h ds q.2⟩
end
theorem Itm.mono {D N D' N' : Nat} {d : PyData} (h : Itm D N d) (a : D ≤ D') (b : N ≤ N') : Itm D' N' d := ⟨h.lay, Nat.le_trans h.dep a, ints_mono b d h.num⟩
theorem Sm.mono {D W N D' W' N' : Nat} {d : PyData} (h : Sm D W N d) (a : D ≤ D') (w : W ≤ W') (b : N ≤ N') : Sm D' W' N' d := ⟨h.itm.mono a b, Nat.le_trans h.wt w⟩
/-- a test of it -/
def smB (D W N : Nat) (d : PyData) : Bool := PyData.canLay0 d && decide (PyData.depth d ≤ D) && decide (PyData.weight d ≤ W) && intsB N d
theorem sm_of {D W N : Nat} {d : PyData} (h : smB D W N d = true) : Sm D W N d := by
  unfold smB at h
  simp only [Bool.and_eq_true, decide_eq_true_eq] at h
  exact ⟨⟨h.1.1.1, h.1.1.2, h.2⟩, h.1.2⟩
/-! the weight of items -/
def wS (ds : List PyData) : Nat := (ds.map fun d => PyData.weight d + 1).sum
theorem wS_eq : ∀ ds : List PyData, PyData.weightAll ds = wS ds
  | [] => rfl
  | d :: ds => by
    rw [PyData.weightAll, wS_eq ds]
    show _ = ((PyData.weight d + 1) :: (ds.map fun d => PyData.weight d + 1)).sum
    rw [List.sum_cons]
    rfl
theorem wt_list (ds : List PyData) : PyData.weight (.list ds) = wS ds := by rw [PyData.weight, wS_eq]
theorem wt_tuple (ds : List PyData) : PyData.weight (.tuple ds) = wS ds := by rw [PyData.weight, wS_eq]
theorem wS_nil : wS [] = 0 := rfl
theorem wS_cons (d : PyData) (ds : List PyData) : wS (d :: ds) = PyData.weight d + 1 + wS ds := by
  show ((PyData.weight d + 1) :: (ds.map fun d => PyData.weight d + 1)).sum = _
  rw [List.sum_cons]
  rfl
theorem wS_app : ∀ (a b : List PyData), wS (a ++ b) = wS a + wS b
  | [], b => by rw [List.nil_append, wS_nil, Nat.zero_add]
  | d :: a, b => by
    rw [List.cons_append, wS_cons, wS_cons, wS_app a b]
    omega
theorem wS_rev : ∀ a : List PyData, wS a.reverse = wS a
  | [] => rfl
  | d :: a => by
    rw [List.reverse_cons, wS_app, wS_rev a, wS_cons, wS_cons, wS_nil]
    omega
theorem wS_td (a : List PyData) (n : Nat) : wS (a.take n) + wS (a.drop n) = wS a := by
  rw [← wS_app, List.take_append_drop]
theorem wS_len : ∀ a : List PyData, a.length ≤ wS a
  | [] => Nat.le_refl _
  | d :: a => by
    rw [wS_cons, List.length_cons]
    have := wS_len a
    omega
theorem wS_erase : ∀ (a : List PyData) (n : Nat), wS (a.eraseIdx n) ≤ wS a
  | [], _ => Nat.le_refl _
  | d :: a, 0 => by
    rw [List.eraseIdx_cons_zero, wS_cons]
    omega
  | d :: a, n + 1 => by
    rw [List.eraseIdx_cons_succ, wS_cons, wS_cons]
    have := wS_erase a n
    omega
theorem wS_set : ∀ (a : List PyData) (n : Nat) (x y : PyData), a[n]? = some x → wS (a.set n y) + PyData.weight x = wS a + PyData.weight y
  | [], _, _, _, h => by simp at h
  | d :: a, 0, x, y, h => by
    have e : d = x := Option.some.inj h
    rw [List.set_cons_zero, wS_cons, wS_cons, e]
    omega
  | d :: a, n + 1, x, y, h => by
    have ih := wS_set a n x y (by simpa using h)
    rw [List.set_cons_succ, wS_cons, wS_cons]
    omega
theorem wS_mem : ∀ {a : List PyData} {n : Nat} {x : PyData}, a[n]? = some x → PyData.weight x + 1 ≤ wS a
  | [], _, _, h => by simp at h
  | d :: a, 0, x, h => by
    have e : d = x := Option.some.inj h
    rw [wS_cons, e]
    omega
  | d :: a, n + 1, x, h => by
    have ih := wS_mem (a := a) (n := n) (x := x) (by simpa using h)
    rw [wS_cons]
    omega
theorem mem_erase {a : List PyData} {n : Nat} {x : PyData} (h : x ∈ a.eraseIdx n) : x ∈ a := List.mem_of_mem_eraseIdx h
theorem mem_set {a : List PyData} {n : Nat} {x y : PyData} (h : x ∈ a.set n y) : x ∈ a ∨ x = y := List.mem_or_eq_of_mem_set h
/-! texts of ints -/
theorem lay_int (i : Int) : PyData.canLay0 (.str (toString i : String)) = true := by
  rw [PyData.canLay0]
  unfold PyData.strOk
  rw [Array.all_eq_true]
  intro j hj
  have hm : ((toString i : String) : Str).cps[j] ∈ ((toString i : String) : Str).cps.toList := by simp
  have hf := PyProof.Rows.int_text_free' (((toString i : String) : Str).cps[j])
  refine decide_eq_true ?_
  by_cases h : ((toString i : String) : Str).cps[j] < 1114112
  · exact h
  · exact absurd hm (hf ⟨by omega, Or.inr (by omega)⟩ i)
theorem odd_const : ∀ d ∈ oddA ++ oddB, Sm 2 30 3 d := by
  have h : (oddA ++ oddB).all (smB 2 30 3) = true := by decide +kernel
  rw [List.all_eq_true] at h
  exact fun d hd => sm_of (h d hd)
theorem sm_int {i : Int} {N : Nat} (h : i.natAbs ≤ N) (hN : N ≤ 100000) : Sm 0 30 N (.int i) := by
  refine ⟨⟨by rw [PyData.canLay0], by rw [PyData.depth]; exact Nat.le_refl _, by rw [intsB]; exact decide_eq_true h⟩, ?_⟩
  rw [PyData.weight]
  split
  · exact Nat.zero_le _
  · have l : i.natAbs.log2 < 20 := by
      by_cases h0 : i.natAbs = 0
      · rw [h0]
        decide
      · exact (Nat.log2_lt h0).mpr (Nat.lt_of_le_of_lt (Nat.le_trans h hN) (by decide))
    omega
theorem sm_strI {i : Int} {N : Nat} (h : i.natAbs ≤ N) (hN : N ≤ 100000) : Sm 0 30 N (.str (toString i : String)) := by
  refine ⟨⟨lay_int i, by rw [PyData.depth]; exact Nat.le_refl _, by rw [intsB]⟩, ?_⟩
  rw [PyData.weight]
  show (Str.ofString (toString i)).length ≤ 30
  by_cases h0 : 0 ≤ i
  · have l := PyProof.Rows.toString_length_le (v := i) h0 (k := 6) (by decide) (by omega)
    omega
  · rw [PyProof.Rows.len_text_neg (by omega)]
    have l := PyProof.Rows.toString_length_le (v := 0 - i) (by omega) (k := 6) (by decide) (by omega)
    omega
theorem odd_num {D W N : Nat} {z : Int} {v : V} {d : PyData} (hz : z.natAbs ≤ N) (hN : N + 1 ≤ 100000) (hv : Sm 0 30 (N + 1) (.str (strV v))) : ∀ x ∈ oddN z v d, Sm (D + 2) (W + 30) (N + 1) x := by
  intro x hx
  have go : ∀ {y : PyData}, Sm 0 30 (N + 1) y → Sm (D + 2) (W + 30) (N + 1) y := fun h => h.mono (by omega) (by omega) (Nat.le_refl _)
  unfold oddN at hx
  simp only [List.mem_cons, List.not_mem_nil, or_false] at hx
  rcases hx with rfl | rfl | rfl | rfl | rfl
  · exact go (sm_int (by omega) hN)
  · exact go (sm_int (by omega) hN)
  · exact go (sm_int (by omega) hN)
  · exact go hv
  · exact go ⟨⟨by rw [PyData.canLay0], by rw [PyData.depth]; exact Nat.le_refl _, by rw [intsB]⟩, by rw [PyData.weight]; exact Nat.zero_le _⟩
theorem odd_seq {D W N : Nat} {ds : List PyData} (hl : ds.length ≤ N) (hi : ∀ x ∈ ds, Itm D N x) (hw : wS ds ≤ W) {mk : List PyData → PyData} (hm : mk = .list ∨ mk = .tuple) : ∀ x ∈ oddS mk ds, Sm (D + 1) W N x := by
  intro x hx
  have mkd : ∀ es : List PyData, es.length ≤ N → (∀ y ∈ es, Itm D N y) → wS es ≤ W → Sm (D + 1) W N (mk es) := fun es h0 h1 h2 => by
    rcases hm with rfl | rfl
    · exact ⟨itm_list.mpr ⟨h0, h1⟩, by rw [wt_list]; exact h2⟩
    · exact ⟨itm_tuple.mpr ⟨h0, h1⟩, by rw [wt_tuple]; exact h2⟩
  unfold oddS at hx
  simp only [List.mem_cons, List.not_mem_nil, or_false] at hx
  rcases hx with rfl | rfl | rfl | rfl | rfl
  · exact ⟨itm_list.mpr ⟨hl, hi⟩, by rw [wt_list]; exact hw⟩
  · exact ⟨itm_tuple.mpr ⟨hl, hi⟩, by rw [wt_tuple]; exact hw⟩
  · exact mkd _ (by rw [List.length_reverse]; exact hl) (fun y hy => hi y (List.mem_reverse.mp hy)) (by rw [wS_rev]; exact hw)
  · exact mkd _ (by rw [List.length_drop]; omega) (fun y hy => hi y (List.mem_of_mem_drop hy)) (by have := wS_td ds 1; omega)
  · refine mkd _ (by rw [List.length_dropLast]; omega) (fun y hy => hi y (List.dropLast_subset _ hy)) ?_
    rw [List.dropLast_eq_take]
    have := wS_td ds (ds.length - 1)
    omega
theorem itm_pred {D N : Nat} {ds : List PyData} (h : Itm D N (.list ds) ∨ Itm D N (.tuple ds)) : ∃ D', D = D' + 1 ∧ ds.length ≤ N ∧ ∀ x ∈ ds, Itm D' N x := by
  cases D with
  | zero =>
    rcases h with h | h
    · have := h.dep
      rw [PyData.depth] at this
      omega
    · have := h.dep
      rw [PyData.depth] at this
      omega
  | succ D' =>
    refine ⟨D', rfl, ?_⟩
    rcases h with h | h
    · exact itm_list.mp h
    · exact itm_tuple.mp h
theorem odd_sm {D W N : Nat} {d : PyData} (h : Sm D W N d) (h3 : 3 ≤ N) (hN : N + 1 ≤ 100000) : ∀ x ∈ oddL d, Sm (D + 2) (W + 30) (N + 1) x := by
  have base : ∀ x ∈ oddA ++ oddB, Sm (D + 2) (W + 30) (N + 1) x := fun x hx => (odd_const x hx).mono (by omega) (by omega) (by omega)
  intro x hx
  cases d with
  | none => exact base x hx
  | str z => exact base x hx
  | dict kvs => exact base x hx
  | int i =>
    have hi : i.natAbs ≤ N := by
      have := h.itm.num
      rw [intsB] at this
      exact of_decide_eq_true this
    have no := odd_num (D := D) (W := W) (v := .int i) (d := .int i) hi hN (sm_strI (by omega) hN)
    rcases List.mem_append.mp (show x ∈ (oddA ++ oddB) ++ (oddN i (.int i) (.int i) ++ oddN i (.int i) (.int i)) from hx) with q | q
    · exact base x q
    · rcases List.mem_append.mp q with q | q
      · exact no x q
      · exact no x q
  | bool b =>
    have no := odd_num (D := D) (W := W) (z := if b = true then 1 else 0) (v := .bl b) (d := .bool b) (by split <;> omega) hN ((sm_of (d := .str (strV (.bl b))) (D := 0) (W := 30) (N := 0) (by cases b <;> decide +kernel)).mono (Nat.le_refl _) (Nat.le_refl _) (Nat.zero_le _))
    rcases List.mem_append.mp (show x ∈ (oddA ++ oddB) ++ (oddN (if b = true then 1 else 0) (.bl b) (.bool b) ++ oddN (if b = true then 1 else 0) (.bl b) (.bool b)) from hx) with q | q
    · exact base x q
    · rcases List.mem_append.mp q with q | q
      · exact no x q
      · exact no x q
  | list ds =>
    obtain ⟨D', rfl, hl, hi⟩ := itm_pred (.inl h.itm)
    have hw := h.wt
    rw [wt_list] at hw
    have no := odd_seq hl hi hw (mk := .list) (.inl rfl)
    rcases List.mem_append.mp (show x ∈ (oddA ++ oddB) ++ (oddS .list ds ++ oddS .list ds) from hx) with q | q
    · exact base x q
    · rcases List.mem_append.mp q with q | q
      · exact (no x q).mono (by omega) (by omega) (by omega)
      · exact (no x q).mono (by omega) (by omega) (by omega)
  | tuple ds =>
    obtain ⟨D', rfl, hl, hi⟩ := itm_pred (.inr h.itm)
    have hw := h.wt
    rw [wt_tuple] at hw
    have no := odd_seq hl hi hw (mk := .tuple) (.inr rfl)
    rcases List.mem_append.mp (show x ∈ (oddA ++ oddB) ++ (oddS .tuple ds ++ oddS .tuple ds) from hx) with q | q
    · exact base x q
    · rcases List.mem_append.mp q with q | q
      · exact (no x q).mono (by omega) (by omega) (by omega)
      · exact (no x q).mono (by omega) (by omega) (by omega)
/-- what repr asks -/
theorem sm_show {D W N : Nat} {d : PyData} (h : Sm D W N d) (hD : D ≤ 60) (hW : W ≤ 1048576) (hN : N ≤ 100000) : SeqAt.shaped d = true ∧ PyData.depth d ≤ 60 := by
  have h1 := h.itm.lay
  have h2 := h.itm.dep
  unfold SeqAt.shaped
  rw [h1, Bool.true_and]
  exact ⟨decide_eq_true (by omega), by omega⟩
end NS
namespace NS
open PySem L2
theorem seqIx {a n : Nat} (h : a < n) : seqIndex? (a : Int) n = some a := by
  unfold seqIndex?
  simp
  omega
theorem ixn {a n : Nat} (h : a < n) : ixN n (a : Int) = some a := by
  unfold ixN
  rw [if_pos (by omega), if_pos (by omega)]
  simp
theorem cut_two {xs : List V} {a : Nat} (h : a < xs.length) : cutV xs (some (a : Int)) (some ((a : Int) + 2)) = (xs.drop a).take (min (a + 2) xs.length - a) := by
  unfold cutV
  have e : ((a : Int) + 2) = ((a + 2 : Nat) : Int) := by omega
  rw [e, HT.sIx_nat, HT.sIx_nat, Nat.min_eq_left (by omega : a ≤ xs.length)]
end NS
namespace NS
open PySem L2
theorem short_int {i : Int} (h : i.natAbs ≤ 100000) : (PyData.shown (.int i)).length ≤ 13 := by
  rw [PyData.shown]
  by_cases h0 : 0 ≤ i
  · have l := PyProof.Rows.toString_length_le (v := i) h0 (k := 6) (by decide) (by omega)
    omega
  · rw [PyProof.Rows.len_text_neg (by omega)]
    have l := PyProof.Rows.toString_length_le (v := 0 - i) (by omega) (k := 6) (by decide) (by omega)
    omega
mutual
theorem short_of {N : Nat} (hN : N ≤ 100000) : ∀ d : PyData, intsB N d = true → PyData.canLay0 d = true → PyData.intsShort 13 d = true ∧ PyData.showable d = true ∧ PyData.hasDict d = false
  | .int i, h, _ => by
    rw [intsB, decide_eq_true_eq] at h
    refine ⟨by rw [PyData.intsShort]; exact decide_eq_true (short_int (by omega)), ?_, by rw [PyData.hasDict]⟩
    rw [PyData.showable]
    refine decide_eq_true ?_
    by_cases h0 : i.natAbs = 0
    · rw [h0]
      decide
    · exact Nat.lt_of_lt_of_le ((Nat.log2_lt h0).mpr (Nat.lt_of_le_of_lt (Nat.le_trans h hN) (by decide : 100000 < 2 ^ 20))) (by decide)
  | .none, _, _ => ⟨by rw [PyData.intsShort], by rw [PyData.showable], by rw [PyData.hasDict]⟩
  | .bool _, _, _ => ⟨by rw [PyData.intsShort], by rw [PyData.showable], by rw [PyData.hasDict]⟩
  | .str _, _, _ => ⟨by rw [PyData.intsShort], by rw [PyData.showable], by rw [PyData.hasDict]⟩
  | .list ds, h, l => by
    rw [intsB, Bool.and_eq_true] at h
    rw [PyData.canLay0] at l
    rw [PyData.intsShort, PyData.showable, PyData.hasDict]
    exact short_ofA hN ds h.2 l
  | .tuple ds, h, l => by
    rw [intsB, Bool.and_eq_true] at h
    rw [PyData.canLay0] at l
    rw [PyData.intsShort, PyData.showable, PyData.hasDict]
    exact short_ofA hN ds h.2 l
  | .dict kvs, _, l => by
    rw [PyData.canLay0] at l
    cases l
theorem short_ofA {N : Nat} (hN : N ≤ 100000) : ∀ ds : List PyData, intsAll N ds = true → PyData.canLayAll0 ds = true → PyData.intsShortAll 13 ds = true ∧ PyData.showableAll ds = true ∧ PyData.hasDictAll ds = false
  | [], _, _ => ⟨by rw [PyData.intsShortAll], by rw [PyData.showableAll], by rw [PyData.hasDictAll]⟩
  | d :: ds, h, l => by
    rw [intsAll, Bool.and_eq_true] at h
    rw [PyData.canLayAll0, Bool.and_eq_true] at l
    obtain ⟨a1, a2, a3⟩ := short_of hN d h.1 l.1
    obtain ⟨b1, b2, b3⟩ := short_ofA hN ds h.2 l.2
    rw [PyData.intsShortAll, PyData.showableAll, PyData.hasDictAll, a1, a2, a3, b1, b2, b3]
    exact ⟨rfl, rfl, rfl⟩
end
theorem sm_repr {D W N : Nat} {d : PyData} (h : Sm D W N d) (hD : D ≤ 60) (hW : W ≤ 1048576) (hN : N ≤ 100000) : PyData.showable d = true ∧ d.hasDict = false ∧ d.depth ≤ 60 ∧ d.shown.length ≤ sizeLine := by
  obtain ⟨a1, a2, a3⟩ := short_of hN d h.itm.num h.itm.lay
  have hd := h.itm.dep
  have hw := h.wt
  have lay : PyData.layable0 d = true := by
    unfold PyData.layable0
    rw [h.itm.lay, decide_eq_true (by omega : PyData.depth d ≤ 64), decide_eq_true (Nat.le_trans hw (Nat.le_trans hW (by decide)) : PyData.weight d ≤ 2 ^ 20)]
    rfl
  exact ⟨a2, a3, by omega, Nat.le_trans (PyProof.Rows.shown_le13 lay a1) (by decide)⟩
end NS

/-! ### rows that are filled -/
namespace NS
open PySem L2
def oV : Option Int → V
  | none => .non
  | some h => .int h
/-- the free cells below i -/
def frees (sh : List (Option Int)) (i : Nat) : List Nat := (List.range i).filter fun x => (sh.getD x (some 0)).isNone
theorem frees_succ (sh : List (Option Int)) (i : Nat) : frees sh (i + 1) = frees sh i ++ (if (sh.getD i (some 0)).isNone = true then [i] else []) := by
  unfold frees
  rw [List.range_succ, List.filter_append]
  congr 1
  rw [List.filter_cons, List.filter_nil]
theorem frees_len (sh : List (Option Int)) (i : Nat) : (frees sh i).length ≤ i := by
  unfold frees
  refine Nat.le_trans (List.length_filter_le _ _) ?_
  rw [List.length_range]
  exact Nat.le_refl _
theorem mem_frees {sh : List (Option Int)} {i x : Nat} : x ∈ frees sh i ↔ x < i ∧ (sh.getD x (some 0)) = none := by
  unfold frees
  rw [List.mem_filter, List.mem_range, Option.isNone_iff_eq_none]
theorem getD_none {sh : List (Option Int)} {x : Nat} : sh.getD x (some 0) = none ↔ sh[x]? = some none := by
  rw [List.getD_eq_getElem?_getD]
  cases h : sh[x]? with
  | none => exact ⟨(fun z => nomatch z), (fun z => nomatch z)⟩
  | some o => exact ⟨fun z => congrArg some z, fun z => Option.some.inj z⟩
/-- the free cell that is nearest -/
structure Spot (n : Nat) (sh : List (Option Int)) (h : Int) (c : Nat) : Prop where
  lt : c < n
  free : sh[c]? = some none
  best : ∀ x : Nat, x < n → sh[x]? = some none → near h (c : Int) (x : Int) = false
inductive Fill (n : Nat) : List Int → List (Option Int) → List Int → Prop
  | nil : Fill n [] (List.replicate n none) []
  | snoc {hs : List Int} {sh : List (Option Int)} {qs : List Int} {h : Int} {c : Nat} : Fill n hs sh qs → Spot n sh h c → Fill n (hs ++ [h]) (sh.set c (some h)) (qs ++ [(c : Int)])
theorem Fill.len {n : Nat} {hs : List Int} {sh : List (Option Int)} {qs : List Int} (f : Fill n hs sh qs) : sh.length = n := by
  induction f with
  | nil => exact List.length_replicate
  | snoc _ _ ih => rw [List.length_set]; exact ih
def fr (sh : List (Option Int)) : Nat := (sh.filter Option.isNone).length
theorem fr_cons (o : Option Int) (sh : List (Option Int)) : fr (o :: sh) = (if o.isNone = true then 1 else 0) + fr sh := by
  unfold fr
  rw [List.filter_cons]
  split
  · rw [List.length_cons]
    omega
  · omega
theorem fr_set : ∀ {sh : List (Option Int)} {c : Nat} {h : Int}, sh[c]? = some none → fr (sh.set c (some h)) + 1 = fr sh
  | [], _, _, q => by simp at q
  | o :: sh, 0, h, q => by
    have e : o = none := Option.some.inj q
    subst e
    rw [List.set_cons_zero, fr_cons, fr_cons]
    show (0 + fr sh) + 1 = 1 + fr sh
    omega
  | o :: sh, c + 1, h, q => by
    have ih := fr_set (sh := sh) (c := c) (h := h) (by simpa using q)
    rw [List.set_cons_succ, fr_cons, fr_cons]
    omega
theorem fr_rep (n : Nat) : fr (List.replicate n none) = n := by
  induction n with
  | zero => rfl
  | succ n ih =>
    rw [List.replicate_succ, fr_cons, ih]
    show 1 + n = n + 1
    omega
theorem Fill.free {n : Nat} {hs : List Int} {sh : List (Option Int)} {qs : List Int} (f : Fill n hs sh qs) : fr sh + hs.length = n := by
  induction f with
  | nil => rw [fr_rep]; rfl
  | @snoc hs sh qs h c _ sp ih =>
    have e := fr_set (h := h) sp.free
    rw [List.length_append, List.length_singleton]
    omega
theorem fr_pos : ∀ {sh : List (Option Int)}, 0 < fr sh → ∃ c, c < sh.length ∧ sh[c]? = some none
  | [], h => absurd h (by decide)
  | none :: sh, _ => ⟨0, Nat.succ_pos _, rfl⟩
  | some z :: sh, h => by
    rw [fr_cons] at h
    obtain ⟨c, h1, h2⟩ := fr_pos (sh := sh) (by
      have e : (if (some z : Option Int).isNone = true then 1 else 0) = 0 := rfl
      omega)
    exact ⟨c + 1, Nat.succ_lt_succ h1, by simpa using h2⟩
theorem Fill.ent {n : Nat} {hs : List Int} {sh : List (Option Int)} {qs : List Int} (f : Fill n hs sh qs) : ∀ z : Int, some z ∈ sh → z ∈ hs := by
  induction f with
  | nil =>
    intro z hz
    have := List.eq_of_mem_replicate hz
    cases this
  | snoc _ _ ih =>
    intro z hz
    rcases List.mem_or_eq_of_mem_set hz with hz | hz
    · exact List.mem_append_left _ (ih z hz)
    · cases hz
      exact List.mem_append_right _ (List.mem_singleton.mpr rfl)
/-- some wishes are veiled -/
structure Veil (xs ys : List V) : Prop where
  len : ys.length = xs.length
  at_ : ∀ i : Nat, ys[i]? = xs[i]? ∨ (ys[i]? = some (.str "?") ∧ ∃ v, xs[i]? = some v ∧ v ≠ .non)
/-- an entry of a table of n cells -/
def TabV (n : Nat) (v : V) : Prop := v = .non ∨ v = .str "?" ∨ ∃ i : Nat, v = .int (i : Int) ∧ i < n
end NS
namespace NS
open PySem L2
theorem oV_isN (o : Option Int) : decide (oV o = V.non) = o.isNone := by
  cases o with
  | none => rfl
  | some h => exact decide_eq_false fun z => nomatch z
theorem oV_get {sh : List (Option Int)} {j : Nat} (h : j < sh.length) : (sh.map oV)[j]? = some (oV (sh.getD j (some 0))) := by
  rw [List.getElem?_map, List.getD_eq_getElem?_getD, List.getElem?_eq_getElem h]
  rfl
theorem spot_of {n : Nat} {sh : List (Option Int)} {h : Int} {i x : Nat} (hx : (frees sh n)[i]? = some x) (hb : ∀ ms ∈ (frees sh n).map (fun (x : Nat) => [dist (x : Int) h, (x : Int)]), HT.lexLt ms [dist (x : Int) h, (x : Int)] = false) : Spot n sh h x := by
  have hm := mem_frees.mp (List.mem_of_getElem? hx)
  refine ⟨hm.1, getD_none.mp hm.2, fun y hy hf => ?_⟩
  exact hb _ (List.mem_map.mpr ⟨y, mem_frees.mpr ⟨hy, getD_none.mpr hf⟩, rfl⟩)
theorem take_snoc {hs : List Int} {i : Nat} (h : i < hs.length) : hs.take (i + 1) = hs.take i ++ [hs[i]] := by
  rw [List.take_add_one, List.getElem?_eq_getElem h]
  rfl
end NS
namespace NS
open PySem L2
theorem ixn' {a n : Nat} (h : a < n) : ixN n (a : Int) = some a := by
  unfold ixN
  rw [if_pos (by omega), if_pos (by omega)]
  simp
theorem Fill.qlen {n : Nat} {hs : List Int} {sh : List (Option Int)} {qs : List Int} (f : Fill n hs sh qs) : qs.length = hs.length := by
  induction f with
  | nil => rfl
  | snoc _ _ ih => rw [List.length_append, List.length_append, ih]; rfl
theorem veil_tab {n : Nat} {hs : List Int} {sh : List (Option Int)} {qs : List Int} {ys : List V} (f : Fill n hs sh qs) (hr : ∀ h ∈ hs, 0 ≤ h ∧ h < (n : Int)) (v : Veil (sh.map oV) ys) : ys.length = n ∧ ∀ y ∈ ys, TabV n y := by
  have hl := v.len
  rw [List.length_map, f.len] at hl
  refine ⟨hl, fun y hy => ?_⟩
  obtain ⟨i, hi, rfl⟩ := List.getElem_of_mem hy
  have gi : ys[i]? = some ys[i] := List.getElem?_eq_getElem hi
  rcases v.at_ i with q | ⟨q, _⟩
  · rw [gi, List.getElem?_map] at q
    cases ho : sh[i]? with
    | none => rw [ho] at q; cases q
    | some o =>
      rw [ho] at q
      have e : ys[i] = oV o := Option.some.inj q
      rw [e]
      cases o with
      | none => exact .inl rfl
      | some z =>
        have := hr z (f.ent z (List.mem_of_getElem? ho))
        exact .inr (.inr ⟨z.toNat, by show V.int z = V.int ((z.toNat : Nat) : Int); congr 1; omega, by omega⟩)
  · rw [gi] at q
    exact .inr (.inl (Option.some.inj q))
end NS

/-! ### enumerate of a tuple -/
namespace NS
open PySem PySem.Spec PyProof.Rows L2
open AutoSeq1 (wpAny_loadPart')
section
variable {P : Program} {w : World} {A : Around} {E : Value → Shared → Prop} {s : Shared}
/-- the enumerate over the iterator at j, its number n; what it gave last -/
abbrev EnO (h : Heap) (c j : Addr) (n : Int) (v : Value) : Prop := IsEnum h c j n v
theorem en_new (t : Addr) (its : Array Value) (m : Nat) (dc : Option Addr) (sl : Array (Option Value)) :
    Meets (Builtin.«enumerate.__new__» ⟨[.type "enumerate", .ref t], []⟩) (fun _ R s => s.heap.get? t = some { cls := .type "tuple", dict := dc, data := .seq its m, slots := sl } ∧
      R (.ok (.ret (.ref (s.heap.push { cls := .type "tuple_iterator", data := .fields #[.ref t, .int 0 0] }).objs.size)))
        { s with heap := (s.heap.push { cls := .type "tuple_iterator", data := .fields #[.ref t, .int 0 0] }).push { cls := .type "enumerate", data := .fields #[.none, .bool false, .ref s.heap.objs.size, rawInt 0, .none, .none] } }) :=
  .of_wp fun P w A R s h => by
    obtain ⟨hp, g, dr, tk, os⟩ := s
    obtain ⟨ht, h⟩ := h
    have hs := sub_enumerate
    have hT : Heap.IsTuple (Shared.heap ⟨hp, g, dr, tk, os⟩) t its := ⟨_, ht, rfl, m, rfl⟩
    wp_walk using wpAny_loadPart' ht
    refine wpAny_stack_any fun st => wpAny_pure ?_
    split
    · rename_i c _ _ _ _ _
      cases (c == Value.type "enumerate") <;> (wp_walk using wpAny_loadPart' ht, wpAny_pyIter_tuple hT; exact ⟨_, rfl, h⟩)
    · (wp_walk using wpAny_loadPart' ht, wpAny_pyIter_tuple hT; exact ⟨_, rfl, h⟩)
theorem en_make {t : Addr} {its : Array Value} {Q : Value → Shared → Prop} (hT : s.heap.IsTuple t its)
    (h : ∀ h1, EnO h1 (s.heap.objs.size + 1) s.heap.objs.size 0 .none → h1.IsTupleIter s.heap.objs.size t 0 → (∀ b o, s.heap.get? b = some o → h1.get? b = some o) → Q (.ref (s.heap.objs.size + 1)) { s with heap := h1 }) :
    wpAny (model P w) A (call (.type "enumerate") [.ref t]) Q E s := by
  obtain ⟨⟨c, dc, dt, sl⟩, ht, hc, m, hd⟩ := hT
  cases (show c = .type "tuple" from hc)
  cases (show dt = .seq its m from hd)
  have z1 : (s.heap.push { cls := .type "tuple_iterator", data := .fields #[.ref t, .int 0 0] }).objs.size = s.heap.objs.size + 1 := Heap.size_push ..
  refine callType_new F.called_enumerate (by decide) (F.typeCall_enumerate_1 _) (F.newCall_enumerate_1 _) (fun o => F.args_object_init_2 o _) F.entry_enumerate_new (en_new t its m dc sl) ⟨ht, ?_⟩
  show _ ∧ _
  have hE : EnO ((s.heap.push { cls := .type "tuple_iterator", data := .fields #[.ref t, .int 0 0] }).push { cls := .type "enumerate", data := .fields #[.none, .bool false, .ref s.heap.objs.size, rawInt 0, .none, .none] }) (s.heap.objs.size + 1) s.heap.objs.size 0 .none := by
    rw [← z1]
    exact Heap.get?_push_size (s.heap.push { cls := .type "tuple_iterator", data := .fields #[.ref t, .int 0 0] }) (o := { cls := .type "enumerate", data := .fields #[.none, .bool false, .ref s.heap.objs.size, rawInt 0, .none, .none] }) rfl
  rw [z1]
  exact ⟨⟨_, hE, rfl⟩, h _ hE ⟨_, Heap.get?_push_of_some _ (Heap.get?_push_size _ rfl), rfl, rfl⟩ fun b o z => Heap.get?_push_of_some _ (Heap.get?_push_of_some _ z)⟩
/-- one more, whatever the iterator within is -/
theorem en_step {c j : Addr} {i : Nat} {x v0 : Value} {φ : Obj → Prop} {Q : Value → Shared → Prop} (he : EnO s.heap c j i v0) (hn : c ≠ j)
    (inner : ∀ Q1 : Value → Shared → Prop, (∀ h1, (∃ o, h1.get? j = some o ∧ φ o) → Heap.SameBut j s.heap h1 → Q1 x { s with heap := h1 }) → wpAny (model P w) A (Builtin.SmallTypes.nextOf (.ref j)) Q1 E s)
    (hQ : ∀ h1, IsEnumOut h1 c j ((i : Int) + 1) x s.heap.objs.size → (∃ o, h1.get? j = some o ∧ φ o) → h1.get? s.heap.objs.size = some { cls := .type "tuple", data := .seq #[.int i s.toks, x] } →
      (∀ b o, b ≠ c → b ≠ j → s.heap.get? b = some o → h1.get? b = some o) → Q (.ref s.heap.objs.size) { s with heap := h1, toks := s.toks + 1 }) :
    wpAny (model P w) A (Builtin.«enumerate.__next__» ⟨[.ref c], []⟩) (fun fin s' => ∃ v, fin = .done (.ret v) ∧ Q v s') E s := by
  obtain ⟨hp, g, dr, tk, os⟩ := s
  show wpAny _ _ (field (.ref c) 2 >>= _) _ _ _
  refine wpAny_bind (wpAny_field he rfl (x := .ref j) rfl (wpAny_bind (inner _ fun h1 gj1 s1 => ?_)))
  obtain ⟨oj, gj1, fj⟩ := gj1
  replace s1 : Heap.SameBut j hp h1 := s1
  have e1 : EnO h1 c j i v0 := (s1.2 c hn).trans he
  show wpAny _ _ (field (.ref c) 3 >>= _) _ _ ⟨h1, g, dr, tk, os⟩
  refine wpAny_bind (wpAny_field e1 rfl (x := rawInt i) rfl ?_)
  show wpAny _ _ (field (.ref c) 4 >>= _) _ _ ⟨h1, g, dr, tk, os⟩
  refine wpAny_bind (wpAny_field e1 rfl (x := .none) rfl ?_)
  show wpAny _ _ (mkInt i >>= _) _ _ ⟨h1, g, dr, tk, os⟩
  refine wpAny_bind (wpAny_mkInt ?_)
  show wpAny _ _ (setField (.ref c) 3 (rawInt ((i : Int) + 1)) >>= _) _ _ ⟨h1, g, dr, tk + 1, os⟩
  refine wpAny_bind (wpAny_setField_rec e1 (by simp) fun h2 e2 s2 => ?_)
  replace s2 : Heap.SameBut c h1 h2 := s2
  replace e2 : EnO h2 c j ((i : Int) + 1) v0 := e2
  show wpAny _ _ (setField (.ref c) 4 .none >>= _) _ _ ⟨h2, g, dr, tk + 1, os⟩
  refine wpAny_bind (wpAny_setField_rec e2 (by simp) fun h3 e3 s3 => ?_)
  replace s3 : Heap.SameBut c h2 h3 := s3
  replace e3 : EnO h3 c j ((i : Int) + 1) v0 := e3
  show wpAny _ _ (newTuple [.int i tk, x] >>= _) _ _ ⟨h3, g, dr, tk + 1, os⟩
  refine wpAny_bind (wpAny_newTuple ?_)
  have z3 : h3.objs.size = hp.objs.size := by rw [s3.1, s2.1, s1.1]
  have hc : c < hp.objs.size := Heap.lt_size he
  have e4 : EnO (h3.push { cls := .type "tuple", data := .seq #[.int i tk, x] }) c j ((i : Int) + 1) v0 := Heap.get?_push_of_some _ e3
  have t4 : (h3.push { cls := .type "tuple", data := .seq #[.int i tk, x] }).get? hp.objs.size = some { cls := .type "tuple", data := .seq #[.int i tk, x] } := by
    rw [← z3]
    exact Heap.get?_push_size _ rfl
  have j4 : (h3.push { cls := .type "tuple", data := .seq #[.int i tk, x] }).get? j = some oj := Heap.get?_push_of_some _ ((s3.2 j hn.symm).trans ((s2.2 j hn.symm).trans gj1))
  have k4 : ∀ b o, b ≠ c → b ≠ j → hp.get? b = some o → (h3.push { cls := .type "tuple", data := .seq #[.int i tk, x] }).get? b = some o := fun b o n1 n2 z =>
    Heap.get?_push_of_some _ ((s3.2 b n1).trans ((s2.2 b n1).trans ((s1.2 b n2).trans z)))
  generalize h3.push { cls := .type "tuple", data := .seq #[.int i tk, x] } = h4 at e4 t4 j4 k4
  show wpAny _ _ (Builtin.SmallTypes.ownedTupleIsFree (.ref c) >>= _) _ _ ⟨h4, g, dr, tk + 1, os⟩
  rw [z3]
  refine wpAny_bind ?_
  unfold Builtin.SmallTypes.ownedTupleIsFree
  refine wpAny_bind (wpAny_field e4 rfl (x := .none) rfl (wpAny_pure ?_))
  simp only [if_true]
  refine wpAny_bind (wpAny_rule (wpAny_bind (wpAny_field e4 rfl (x := v0) rfl (wpAny_bind (wpAny_setField_rec e4 (by simp) fun h5 e5 s5 => ?_)))))
  replace s5 : Heap.SameBut c h4 h5 := s5
  replace e5 : EnO h5 c j ((i : Int) + 1) x := e5
  show wpAny _ _ (Builtin.SmallTypes.ownedTupleHandOut (.ref c) (.ref hp.objs.size) >>= _) _ _ ⟨h5, g, dr, tk + 1, os⟩
  refine wpAny_bind ?_
  unfold Builtin.SmallTypes.ownedTupleHandOut
  refine wpAny_bind (wpAny_setField_rec e5 (by simp) fun h6 e6 s6 => ?_)
  replace s6 : Heap.SameBut c h5 h6 := s6
  replace e6 : IsEnumOut h6 c j ((i : Int) + 1) x hp.objs.size := e6
  refine wpAny_setField_rec e6 (by simp) fun h7 e7 s7 => ?_
  replace s7 : Heap.SameBut c h6 h7 := s7
  replace e7 : IsEnumOut h7 c j ((i : Int) + 1) x hp.objs.size := e7
  have up : ∀ b o, b ≠ c → h4.get? b = some o → h7.get? b = some o := fun b o n z => (s7.2 b n).trans ((s6.2 b n).trans ((s5.2 b n).trans z))
  exact wpAny_bind (wpAny_letGo (wpAny_pure ⟨_, rfl, hQ h7 e7 ⟨oj, up j _ hn.symm j4, fj⟩ (up _ _ (Nat.ne_of_gt hc) t4) fun b o n1 n2 z => up b o n1 (k4 b o n1 n2 z)⟩))
theorem en_next {c j t : Addr} {i : Nat} {its : Array Value} {x v0 : Value} {Q : Option Value → Shared → Prop} (he : EnO s.heap c j i v0) (hj : s.heap.IsTupleIter j t i) (ht : s.heap.IsTuple t its) (hx : its[i]? = some x) (hn : c ≠ j)
    (hQ : ∀ h1, IsEnumOut h1 c j ((i : Int) + 1) x s.heap.objs.size → h1.IsTupleIter j t (i + 1) → h1.get? s.heap.objs.size = some { cls := .type "tuple", data := .seq #[.int i s.toks, x] } →
      (∀ b o, b ≠ c → b ≠ j → s.heap.get? b = some o → h1.get? b = some o) → Q (some (.ref s.heap.objs.size)) { s with heap := h1, toks := s.toks + 1 }) : wpAny (model P w) A (pyNext (.ref c)) Q E s := by
  have hT : s.TypeIs (.ref c) "enumerate" := ⟨_, he, rfl⟩
  unfold pyNext
  refine wpAny_bind (wpAny_attempt (wpAny_callSpecial?_slot (name := Str.ofString "__next__") hT F.slot_enumerate_next (wpAny_call_entry F.slot_enumerate_next hT F.entry_enumerate_next ?_ (F.args_enumerate_next_1 _))))
  exact en_step (φ := fun o => o.cls = .type "tuple_iterator" ∧ o.data = .fields #[.ref t, .int ((i + 1 : Nat) : Int) 0]) he hn (fun Q1 q1 => RZ.nextOf_tuple_item hj ht hx fun h1 a b => q1 h1 a b) fun h1 a b z k => wpAny_pure (hQ h1 a b z k)
theorem en_end {c j t : Addr} {i : Nat} {its : Array Value} {v0 : Value} {Q : Option Value → Shared → Prop} (hh : A.handled = none) (he : EnO s.heap c j i v0) (hj : s.heap.IsTupleIter j t i) (ht : s.heap.IsTuple t its) (hx : its[i]? = none)
    (hQ : ∀ h1, Heap.ExtBut j s.heap h1 → Q none { s with heap := h1 }) : wpAny (model P w) A (pyNext (.ref c)) Q E s := by
  have hT : s.TypeIs (.ref c) "enumerate" := ⟨_, he, rfl⟩
  unfold pyNext
  refine wpAny_bind (wpAny_attempt (wpAny_callSpecial?_slot (name := Str.ofString "__next__") hT F.slot_enumerate_next (wpAny_call_entry F.slot_enumerate_next hT F.entry_enumerate_next ?_ (F.args_enumerate_next_1 _))))
  show wpAny _ _ (field (.ref c) 2 >>= _) _ _ _
  refine wpAny_bind (wpAny_field he rfl (x := .ref j) rfl (wpAny_bind (RZ.nextOf_tuple_end hh hj ht hx fun h1 x k ⟨o, ho, hc⟩ => ?_)))
  exact wpAny_bind (wpAny_isInstance (T := "StopIteration") (b := true) ⟨o, ho, hc⟩ isSubtype_stop (wpAny_pure (hQ _ k)))
end
/-- the tuple at a, each item in a new pair -/
def ItE (K : PySem.W.Frag) (a : Addr) : It :=
  ⟨fun i H => ∃ (xs : List V) (x : V), SqT K H a xs ∧ xs[i]? = some x, fun i H v H' => ∃ T x, v = .ref T ∧ H T = none ∧ H' = upd H T (.tup [.int (i : Nat), x]) ∧ ∀ xs, SqT K H a xs → xs[i]? = some x, fun i H => ∃ xs : List V, SqT K H a xs ∧ xs.length ≤ i⟩
theorem turn_enT {P : Program} {w : World} {K : PySem.W.Frag} {elts : List Expr} {kk : Nat} {tpos : Pos} (a c j : Addr) :
    Turn P w K (.Tuple elts kk tpos) (ItE K a) [c, j] c (fun i h => (∃ v0, EnO h c j ((i : Nat) : Int) v0) ∧ h.IsTupleIter j a i ∧ c ≠ j) where
  mem := by simp
  obj := fun i h st b hb => by
    obtain ⟨⟨v0, he⟩, ⟨o, ho, hc, hd⟩, _⟩ := st
    rcases (show b = c ∨ b = j by simpa using hb) with rfl | rfl
    · exact ⟨_, he, fun v q => nomatch q⟩
    · exact ⟨o, ho, fun v q => by rw [hd] at q; cases q⟩
  keep := fun i h h' st k => st.elim fun he z => ⟨he.elim fun v0 y => ⟨v0, k c (by simp) _ y⟩, z.1.at fun o y => k j (by simp) o y, z.2⟩
  item := by
    intro X hP hw hK hc i pins s σ H E I hf st hg
    subst hP hw hK
    obtain ⟨⟨v0, he⟩, hj, hn⟩ := st
    obtain ⟨xs, x, hq, hx⟩ := hg
    obtain ⟨its, rv, ht, hz⟩ := I.tuple hq
    obtain ⟨u, hu, ru⟩ := rv.get hx
    have hcl : c < s.heap.objs.size := Heap.lt_size he
    have hjl : j < s.heap.objs.size := hj.elim fun _ z => Heap.lt_size z.1
    refine en_next he hj ht (x := u) (by simpa using hu) hn fun h1 ho hj1 hT hk => ?_
    refine ⟨_, rfl, wpAny_letOwnedTupleGo_enum (s := { s with heap := h1, toks := s.toks + 1 }) ho fun h2 he2 sb => ?_⟩
    have hT2 : h2.get? s.heap.objs.size = some { cls := .type "tuple", data := .seq #[.int i s.toks, u] } := (sb.2 _ (Nat.ne_of_gt hcl)).trans hT
    have I1 : Inv X pins σ (upd H s.heap.objs.size (.tup [.int (i : Nat), x])) { s with heap := h2, toks := s.toks + 1 } :=
      I.turnedNew (ch := [c, j]) (fun b ob hb q => (sb.2 b (fun z => hb (by simp [z]))).trans (hk b ob (fun z => hb (by simp [z])) (fun z => hb (by simp [z])) q)) hf (Nat.le_refl _)
        ⟨by show 2 ≤ sizeLine; decide, [.int i s.toks, u], .cons ⟨_, rfl⟩ (.cons ru .nil), ⟨_, hT2, rfl, _, rfl⟩⟩
    refine ⟨.ref s.heap.objs.size, _, I1, rfl, ⟨_, x, rfl, I.hok.fresh (Nat.le_refl _), rfl, fun ys hy => by rw [I.tuple_inj hy hq]; exact hx⟩, ⟨⟨u, ?_⟩, hj1.at fun o q => (sb.2 j (Ne.symm hn)).trans q, hn⟩, fun b hb => ?_⟩
    · rw [show ((i + 1 : Nat) : Int) = (i : Int) + 1 by omega]
      exact he2
    · have hlt : b < s.heap.objs.size := by
        rcases (show b = c ∨ b = j by simpa using hb) with rfl | rfl
        · exact hcl
        · exact hjl
      rw [upd_ne (Nat.ne_of_lt hlt)]
      exact (hf b hb).1
  done := by
    intro X hP hw hK hc i pins s σ H E I hf st hg
    subst hP hw hK
    obtain ⟨⟨v0, he⟩, hj, hn⟩ := st
    obtain ⟨xs, hq, hx⟩ := hg
    obtain ⟨its, rv, ht, hz⟩ := I.tuple hq
    have hl := rv.length
    obtain ⟨f0, f1, f2, f3, f4, f5⟩ := hf j (by simp)
    exact en_end (I.ok.hd hc) he hj ht (by simp; omega) fun h1 eb => ⟨rfl, I.turned (t' := s.toks) (fun b o hb q => eb b o hb q) f0 f1 f3 f4 f5⟩
  self := fun A i s Q E st h => st.1.elim fun _ he => wpAny_pyIter_enum he h
def iEnT (K : PySem.W.Frag) (ta : TA) : TI := fun σ H R => ta σ H fun vs H1 => ∃ a xs, vs = [.ref a] ∧ SqT K H1 a xs ∧ R (ItE K a) H1
theorem pi_enT {X : Cx} {e : Expr} {ta : TA} {p pos tpos : Pos} {elts : List Expr} {kk : Nat} (hg : Gl X "enumerate") (hm : X.mg "enumerate" = none) (ha : PA X [e] ta) (hs : starEach [e] X.env = [(false, eval e X.env)] := by rfl) :
    PI X (.Tuple elts kk tpos) (.Call (.Name "enumerate" p) [e] [] pos) (iEnT X.K ta) := by
  constructor
  intro pins s σ H R I h
  refine Call_ (ld_blt I hg hm boot_enumerate (PyProof.Rows.callWith_type1 (thn (ha.run pos pins s σ H _ I h) fun us s1 ⟨vs, H1, I1, r1, q1⟩ => ?_) hs rfl))
  obtain ⟨a, xs, rfl, hq, q⟩ := q1
  cases r1 with
  | cons r rr =>
    cases rr
    cases r
    obtain ⟨its, rv, ht, hz⟩ := I1.tuple hq
    refine en_make ht fun h1 he hj hk => wpAny_pyIter_enum he ?_
    have I2 : Inv X pins σ H1 { s1 with heap := h1 } := I1.kept (t' := s1.toks) hk
    refine ⟨s1.heap.objs.size + 1, [s1.heap.objs.size + 1, s1.heap.objs.size], _, _, H1, rfl, I2, turn_enT a (s1.heap.objs.size + 1) s1.heap.objs.size, ⟨⟨.none, he⟩, hj, Nat.succ_ne_self _⟩, fun b hb => ?_, q⟩
    have hle : s1.heap.objs.size ≤ b := by
      rcases (show b = s1.heap.objs.size + 1 ∨ b = s1.heap.objs.size by simpa using hb) with rfl | rfl
      · exact Nat.le_succ _
      · exact Nat.le_refl _
    exact I1.fpOk hle (I1.hok.fresh hle)
/-- a comprehension over it -/
theorem lc_enT {K : PySem.W.Frag} {a : Addr} {xs : List V} {g : TG} {tt : TT} {te : TE} {vs : List Nat} {σ : L2.St} {H1 : Hp} {D : Addr} {Qd : Hp → Prop} (Pv : Nat → Hp → Prop) (h0 : Pv 0 (upd H1 D (.lst []))) (hq : ∀ i H, Pv i H → SqT K H a xs)
    (hs : ∀ (i : Nat) (x : V) (T : Addr) (H : Hp), xs[i]? = some x → Pv i H → H T = none → g (.ref T) (wipe σ vs) (upd H T (.tup [.int (i : Nat), x])) fun σ2 H2 => wipe σ2 vs = wipe σ vs ∧ tt σ2 H2 fun b H3 =>
      if b = true then te σ2 H3 fun y H4 => ∃ acc, H4 D = some (.lst acc) ∧ acc.length < sizeLine ∧ Pv (i + 1) (upd H4 D (.lst (acc ++ [y]))) else Pv (i + 1) H3) (hd : ∀ H, Pv xs.length H → Qd H) :
    ∃ W : Nat → Nat → Hp → Prop, (∃ m, W 0 m (upd H1 D (.lst []))) ∧ ∀ i m H, W i m H →
      ((ItE K a).stop i H ∧ Qd H) ∨ ((ItE K a).go i H ∧ ∃ Nx : Hp → Prop, (∀ H', Nx H' → ∃ m', m' < m ∧ W (i + 1) m' H') ∧ ∀ x H', (ItE K a).yld i H x H' → g x (wipe σ vs) H' fun σ2 H2 => wipe σ2 vs = wipe σ vs ∧ tt σ2 H2 fun b H3 =>
        if b = true then te σ2 H3 fun y H4 => ∃ acc, H4 D = some (.lst acc) ∧ acc.length < sizeLine ∧ Nx (upd H4 D (.lst (acc ++ [y]))) else Nx H3) := by
  refine ⟨fun i m H => m = xs.length - i ∧ i ≤ xs.length ∧ Pv i H, ⟨xs.length, by simp, Nat.zero_le _, h0⟩, ?_⟩
  rintro i m H ⟨rfl, hi, pv⟩
  have qx := hq i H pv
  by_cases hlt : i < xs.length
  · refine .inr ⟨⟨xs, xs[i], qx, by simp [hlt]⟩, Pv (i + 1), fun H' p' => ⟨xs.length - (i + 1), by omega, rfl, hlt, p'⟩, fun x H' y => ?_⟩
    obtain ⟨T, x', rfl, hT, rfl, hx⟩ := y
    exact hs i x' T H (hx xs qx) pv hT
  · have ei : i = xs.length := by omega
    subst ei
    exact .inl ⟨⟨xs, qx, Nat.le_refl _⟩, hd H pv⟩
end NS

/-! ### tables: the taken cells, what their objects want -/
namespace NS
open PySem L2
def isN : V → Bool
  | .non => true
  | _ => false
def fullN (ys : List V) (k : Nat) : List Int := ((List.range k).filter fun i => !isN (ys.getD i .non)).map fun (i : Nat) => (i : Int)
abbrev fullL (ys : List V) : List Int := fullN ys ys.length
theorem fullN_zero (ys : List V) : fullN ys 0 = [] := rfl
theorem fullN_succ (ys : List V) (k : Nat) : fullN ys (k + 1) = fullN ys k ++ (if isN (ys.getD k .non) = true then [] else [(k : Int)]) := by
  unfold fullN
  rw [List.range_succ, List.filter_append, List.map_append]
  congr 1
  cases h : isN (ys.getD k .non)
  · rw [List.filter_cons_of_pos (by rw [h]; rfl)]
    rfl
  · rw [List.filter_cons_of_neg (by rw [h]; decide)]
    rfl
theorem fullN_len (ys : List V) (k : Nat) : (fullN ys k).length ≤ k := by
  unfold fullN
  rw [List.length_map]
  exact Nat.le_trans (List.length_filter_le _ _) (by rw [List.length_range]; exact Nat.le_refl _)
theorem fullL_mem {ys : List V} {z : Int} : z ∈ fullL ys ↔ ∃ i : Nat, z = (i : Int) ∧ i < ys.length ∧ isN (ys.getD i .non) = false := by
  unfold fullL fullN
  constructor
  · intro h
    obtain ⟨i, hi, rfl⟩ := List.mem_map.mp h
    obtain ⟨h1, h2⟩ := List.mem_filter.mp hi
    exact ⟨i, rfl, List.mem_range.mp h1, by simpa using h2⟩
  · rintro ⟨i, rfl, h1, h2⟩
    exact List.mem_map.mpr ⟨i, List.mem_filter.mpr ⟨List.mem_range.mpr h1, by rw [h2]; rfl⟩, rfl⟩
/-- the cells that the object in c wants, by the entry there -/
def wantV (n : Nat) (c : Int) : V → List Int
  | .int w => needsL n c w
  | _ => []
def wantL (ys : List V) (c : Int) : List Int := wantV ys.length c (ys.getD c.toNat .non)
theorem wantV_len (n : Nat) (c : Int) (v : V) : (wantV n c v).length ≤ n := by
  cases v with
  | int w => exact needsL_len n c w
  | _ => exact Nat.zero_le _
theorem isN_dec (x : V) : isN x = decide (x = .non) := by cases x <;> simp [isN]
theorem inV_ints (c : Int) (xs : List Int) : inV (.int c) (xs.map V.int) = decide (c ∈ xs) := by
  unfold inV
  rw [Bool.eq_iff_iff, List.any_eq_true, decide_eq_true_eq]
  constructor
  · rintro ⟨y, hy, he⟩
    obtain ⟨z, hz, rfl⟩ := List.mem_map.mp hy
    have e : z = c := by simpa [eqV] using he
    rw [← e]
    exact hz
  · intro h
    exact ⟨_, List.mem_map.mpr ⟨c, h, rfl⟩, by simp [eqV]⟩
theorem flat_ints (xs : List Int) : (xs.map V.int).all flatV = true := by
  rw [List.all_eq_true]
  intro y hy
  obtain ⟨z, _, rfl⟩ := List.mem_map.mp hy
  rfl
theorem needsL_lt {n : Nat} {c w e : Int} (h : e ∈ needsL n c w) : ∃ j : Nat, e = (j : Int) ∧ j < n := by
  unfold needsL at h
  obtain ⟨j, hj, rfl⟩ := List.mem_map.mp (List.mem_filter.mp h).1
  exact ⟨j, rfl, List.mem_range.mp hj⟩
theorem wantL_lt {ys : List V} {c e : Int} (h : e ∈ wantL ys c) : ∃ j : Nat, e = (j : Int) ∧ j < ys.length := by
  unfold wantL at h
  cases hv : ys.getD c.toNat .non with
  | int w =>
    rw [hv] at h
    exact needsL_lt h
  | _ =>
    rw [hv] at h
    cases h
theorem isInt_ex {d : PyData} (h : isIntD d = true) : ∃ c, d = .int c := by
  cases d with
  | int c => exact ⟨c, rfl⟩
  | _ => cases h
/-- an entry of a taken cell -/
theorem tab_taken {ys : List V} {i : Nat} (tab : ∀ y ∈ ys, TabV ys.length y) (hi : i < ys.length) (h : isN (ys.getD i .non) = false) : ys[i]? = some (.str "?") ∨ ∃ w : Int, ys[i]? = some (.int w) := by
  have g : ys[i]? = some ys[i] := List.getElem?_eq_getElem hi
  have gd : ys.getD i .non = ys[i] := by rw [List.getD_eq_getElem?_getD, g]; rfl
  rw [gd] at h
  rcases tab _ (List.getElem_mem hi) with e | e | ⟨z, e, _⟩
  · rw [e] at h
    cases h
  · exact .inl (by rw [g, e])
  · exact .inr ⟨_, by rw [g, e]⟩
theorem lenD_num {N : Nat} {d : PyData} (h : intsB N d = true) : lenD d ≤ N := by
  cases d with
  | list ds =>
    rw [intsB, Bool.and_eq_true, decide_eq_true_eq] at h
    exact h.1
  | tuple ds =>
    rw [intsB, Bool.and_eq_true, decide_eq_true_eq] at h
    exact h.1
  | _ => exact Nat.zero_le _
/-! rules whose readings do not hang on the block -/
theorem pi_listK {X : Cx} {K : PySem.W.Frag} {tg l : Expr} {tl : TE} (e : X.K = K) (hl : PE X l tl) : PI X tg l (iList K tl) := by
  subst e
  exact pi_list hl
theorem pi_tupK {X : Cx} {K : PySem.W.Frag} {tg l : Expr} {tl : TE} (e : X.K = K) (hl : PE X l tl) : PI X tg l (iTup K tl) := by
  subst e
  exact pi_tup hl
theorem sl_tupAK {X : Cx} {K : PySem.W.Frag} (e : X.K = K) : SlR X (rSlA K) := by
  subst e
  exact sl_tupA
/-- a block within a block -/
theorem relabel_cf (env : Env) (y : Str) : ∀ {ns : List (Str × NameKind)}, ns.lookup y = some .cell ∨ ns.lookup y = some .free →
    (ns.map fun (n, k) => if (k == NameKind.free && env.scope.kind == .function && env.kindOf n == some .cell) then (n, NameKind.cell) else (n, k)).lookup y = some .cell ∨ (ns.map fun (n, k) => if (k == NameKind.free && env.scope.kind == .function && env.kindOf n == some .cell) then (n, NameKind.cell) else (n, k)).lookup y = some .free
  | [], h => by
    rcases h with h | h
    · cases h
    · cases h
  | (n, k) :: r, h => by
    have ih := relabel_cf env y (ns := r)
    rw [List.map_cons]
    cases hy : y == n with
    | true =>
      simp only [List.lookup_cons, hy, Option.some.injEq] at h
      by_cases c : (k == NameKind.free && env.scope.kind == .function && env.kindOf n == some .cell) = true
      · simp [c, List.lookup_cons, hy]
      · simp only [c, List.lookup_cons, hy, Option.some.injEq, Bool.false_eq_true, if_false]
        exact h
    | false =>
      simp only [List.lookup_cons, hy] at h
      by_cases c : (k == NameKind.free && env.scope.kind == .function && env.kindOf n == some .cell) = true
      · simp only [c, List.lookup_cons, hy, if_true]
        exact ih h
      · simp only [c, List.lookup_cons, hy, Bool.false_eq_true, if_false]
        exact ih h
theorem blkOk_sub {X : Cx} {s : Shared} {H : Hp} {sc scope : Scope} {cl : List (Str × Addr)} {C : Addr} {e : Env} {fp : List Addr} {N : List Str} {own : List (Str × Nat)} (h : blkC N sc scope own = true) : BlkOk N (X.blk s H sc (compEnvC sc cl C e) fp).env.scope scope own := by
  have k := blkOk_by h
  exact ⟨k.kind, k.uniq, k.ix, fun y hy hf => relabel_cf e y.1 (k.free y hy hf), k.own⟩
theorem sIx_le {n i : Nat} (h : i ≤ n) (d : Nat) : HT.sIx n d (some (i : Int)) = i := by
  unfold HT.sIx
  simp only
  split <;> omega
theorem cut_to {xs : List V} {i : Nat} (h : i ≤ xs.length) : cutV xs none (some (i : Int)) = xs.take i := by
  unfold cutV
  rw [sIx_le h]
  show (xs.drop 0).take (i - 0) = _
  rw [List.drop_zero, Nat.sub_zero]
/-- an order agrees: by its beginnings -/
def agB (ys : List V) (qs : List Int) (j : Nat) : Bool := (wantL ys (qs.getD j 0)).all fun e => decide (e ∈ qs.take j)
def agreesN (ys : List V) (qs : List Int) (k : Nat) : Bool := ((List.range k).map (agB ys qs)).all id
abbrev agreesL (ys : List V) (qs : List Int) : Bool := agreesN ys qs qs.length
theorem if_then {c : TT} {a b : TS} {D : Ends} {σ : L2.St} {H : Hp} (R : Hp → Prop) (k : ∀ H', R H' → D.nx σ H') (h : ∀ D' : Ends, (∀ H', R H' → D'.nx σ H') → tIfS c a b D' σ H) : tIfS c a b D σ H := h D k
end NS

/-! ### sorted of a tuple of ints -/
namespace NS
open PySem PySem.Spec PyProof.Rows L2
section
variable {prog : Program} {w : World} {A : Around} {E : Value → Shared → Prop} {s : Shared}
theorem gather_tup {t : Addr} {vs : List Value} {Q : List Value → Shared → Prop} (ht : s.heap.IsTuple t vs.toArray)
    (h : Q vs { s with heap := (s.heap.push (seqObj "list" #[] 0)).update s.heap.objs.size (Obj.mapSeq (· ++ vs.toArray)) }) (hz : vs.length ≤ sizeLine) : wpAny (model prog w) A (collect (.ref t)) Q E s := by
  obtain ⟨ob, hob, hcl, m, hdt⟩ := id ht
  have hob2 : (s.heap.push (seqObj "list" #[] 0)).get? t = some ob := Heap.get?_push_of_some _ hob
  have hnew : (s.heap.push (seqObj "list" #[] 0)).get? s.heap.objs.size = some (seqObj "list" #[] 0) := Heap.get?_push_size _ rfl
  unfold collect
  refine wpAny_bind (wpAny_runValue (codeAny_builtin entry_proto_collect' ?_))
  show wpAny _ _ (do again (.builtin "list.__iadd__" ⟨[← newList [], .ref t], []⟩)) _ _ s
  refine wpAny_bind (wpAny_newList (wpAny_pure ⟨Code.quiet_builtin _ (by decide +kernel), codeAny_builtin entry_list_iadd' ?_⟩))
  show wpAny _ _ (Builtin.List.listExtendWith (.ref s.heap.objs.size) (.ref t) (.ref s.heap.objs.size)) _ _ { s with heap := s.heap.push (seqObj "list" #[] 0) }
  unfold Builtin.List.listExtendWith
  refine wpAny_bind (wpAny_typeOf (T := "tuple") ⟨ob, hob2, hcl⟩ ?_)
  have hty : (Value.type "tuple" == Value.type "tuple") = true := by rfl
  rw [if_pos (by rw [hty]; simp)]
  refine wpAny_bind (listItems_at hob2 hdt (wpAny_bind (listItems_at (xs := #[]) (n := 0) hnew rfl ?_)))
  rw [if_neg (by simp)]
  refine wpAny_bind (listUpdate_at (xs := #[]) (n := 0) hnew rfl (wpAny_pure ?_) (Nat.zero_le _) (by show (#[] ++ vs.toArray).size ≤ sizeLine + 1; simp only [Array.size_append, List.size_toArray, List.length_nil]; omega))
  show wpAny (model prog w) A (do
      let o ← load s.heap.objs.size
      match o.data with
      | .seq ys _ => pure ys.toList
      | _ => unsupported "internal:collect") Q E { s with heap := (s.heap.push (seqObj "list" #[] 0)).update s.heap.objs.size (Obj.mapSeq (· ++ vs.toArray)) }
  refine wpAny_bind (wpAny_load (get?_update_seq hnew _) ?_)
  show wpAny _ _ (pure ((#[] : Array Value) ++ vs.toArray).toList) Q E _
  have ev : ((#[] : Array Value) ++ vs.toArray).toList = vs := by simp
  rw [ev]
  exact wpAny_pure h
theorem sorted_tupI {t : Addr} {vs : List Value} {ns : List Int} {Q : Value → Shared → Prop} (ht : s.heap.IsTuple t vs.toArray) (hI : IntsAre vs ns) (h64 : vs.length < 64)
    (h : ∀ (out : Array Value) (ms : List Int), IntsAre out.toList ms → ms.Perm ns → ms.Pairwise (· ≤ ·) → Q (.ref (s.heap.objs.size + 1)) { s with heap := sortedAll s.heap vs out }) :
    wpAny (model prog w) A (call (.builtin "sorted") [.ref t]) Q E s := by
  refine Calls.call_function_entry kind_sorted plain_sorted entry_sorted (args_sorted1 _) ?_
  unfold Builtin.«sorted»
  refine wpAny_bind (m := checkCount "sorted" 1 1 _) (wpAny_pure (wpAny_bind (gather_tup ht (wpAny_bind (wpAny_newList ?_)) (small64 h64))))
  have z1 : ((s.heap.push (seqObj "list" #[] 0)).update s.heap.objs.size (Obj.mapSeq (· ++ vs.toArray))).objs.size = s.heap.objs.size + 1 := by rw [Heap.size_update, size_push']
  have g1 : (((s.heap.push (seqObj "list" #[] 0)).update s.heap.objs.size (Obj.mapSeq (· ++ vs.toArray))).push (seqObj "list" vs.toArray 0)).get? (s.heap.objs.size + 1) = some (seqObj "list" vs.toArray 0) := by
    rw [← z1]
    exact Heap.get?_push_size _ rfl
  show wpAny _ _ _ _ _ { s with heap := ((s.heap.push (seqObj "list" #[] 0)).update s.heap.objs.size (Obj.mapSeq (· ++ vs.toArray))).push (seqObj "list" vs.toArray 0) }
  rw [z1]
  exact wpAny_bind (wpAny_holding (wpAny_call_entry slot_list_sort ⟨_, g1, rfl⟩ entry_list_sort (list_sort_tree g1 hI h64 fun out ms a1 a2 a3 => ⟨_, rfl, wpAny_pure ⟨_, rfl, h out ms a1 a2 a3⟩⟩) (args_list_sort _)))
end
def rSortT (K : PySem.W.Frag) : List V → Hp → VK → Prop := fun vs H Q => ∃ (a : Addr) (ns : List Int), vs = [V.ref a] ∧ SqT K H a (ns.map V.int) ∧ ns.length < 64 ∧
  ∀ (ms : List Int) (p : Addr), ms.Perm ns → ms.Pairwise (· ≤ ·) → H p = none → Q (.ref p) (upd H p (.lst (ms.map V.int)))
theorem cr_sortT {X : Cx} : CallR X (.builtin "sorted") (rSortT X.K) := by
  intro pins s σ H vs us Q I r h
  obtain ⟨a, ns, rfl, hs, h64, q⟩ := h
  obtain ⟨its, rv, ht, _⟩ := I.tuple hs
  rw [Vals.ref1 r]
  have hi := rv.ints
  refine sorted_tupI ht hi (by rw [hi.length]; exact h64) fun out ms h1 h2 h3 => ?_
  obtain ⟨ep, he⟩ := sortedAll_at s.heap its out
  have hn : H (s.heap.objs.size + 1) = none := I.hok.fresh (Nat.le_succ _)
  exact ⟨.ref _, upd H (s.heap.objs.size + 1) (.lst (ms.map V.int)), I.laid (t' := s.toks) (fun _ _ => sortedAll_old) (Nat.le_succ _) ⟨by rw [List.length_map, h2.length_eq]; exact small64 h64, out.toList, ep, vals_of_ints h1, he⟩, rfl, q ms _ h2 h3 hn⟩
theorem cr_sortedK {X : Cx} {K : PySem.W.Frag} (e : X.K = K) : CallR X (.builtin "sorted") (rSorted K) := by subst e; exact cr_sorted
theorem cr_sortTK {X : Cx} {K : PySem.W.Frag} (e : X.K = K) : CallR X (.builtin "sorted") (rSortT K) := by subst e; exact cr_sortT
end NS

/-! ### rows that are lists or tuples -/
namespace NS
open PySem PySem.Spec PyProof.Rows L2
abbrev Sq (K : PySem.W.Frag) (H : Hp) (a : Addr) (xs : List V) : Prop := SqL K H a xs ∨ SqT K H a xs
/-- the object at a is as it was -/
def AtS (a : Addr) (H H' : Hp) : Prop := ∀ o, H a = some o → H' a = some o
theorem ats_same {a : Addr} {H H' : Hp} (e : Same H H') : AtS a H H' := fun o h => e a o h
theorem ats_stay {s a : Addr} {H H' : Hp} (e : Stay s H H') (n : a ≠ s) : AtS a H H' := fun o h => e a o n h
theorem AtS.sqL {K : PySem.W.Frag} {a : Addr} {H H' : Hp} {xs : List V} (e : AtS a H H') (h : SqL K H a xs) : SqL K H' a xs := by
  rcases h with (h | ⟨o, h⟩) | h
  · exact .inl (.inl (e _ h))
  · exact .inl (.inr ⟨o, e _ h⟩)
  · exact .inr h
theorem AtS.sqT {K : PySem.W.Frag} {a : Addr} {H H' : Hp} {xs : List V} (e : AtS a H H') (h : SqT K H a xs) : SqT K H' a xs := by
  rcases h with (h | ⟨o, h⟩) | h
  · exact .inl (.inl (e _ h))
  · exact .inl (.inr ⟨o, e _ h⟩)
  · exact .inr h
theorem Same.sq {K : PySem.W.Frag} {a : Addr} {H H' : Hp} {xs : List V} (e : Same H H') (h : Sq K H a xs) : Sq K H' a xs :=
  h.imp (ats_same e).sqL (ats_same e).sqT
theorem sq_lst {K : PySem.W.Frag} {H : Hp} {a : Addr} {xs : List V} (h : H a = some (.lst xs)) : Sq K H a xs := .inl (sqL h)
theorem sq_tup {K : PySem.W.Frag} {H : Hp} {a : Addr} {xs : List V} (h : H a = some (.tup xs)) : Sq K H a xs := .inr (sqT h)
theorem walk_enT {K : PySem.W.Frag} {a : Addr} {xs : List V} : Walk (ItE K a) xs.length (fun H => SqT K H a xs) (YPair (fun i => some (.int (i : Nat))) (fun i => xs[i]?)) := by
  refine ⟨fun i H hi hG => ⟨xs, xs[i], hG, by simp [hi]⟩, fun H hG => ⟨xs, hG, Nat.le_refl _⟩, fun i H v H' hi hG hy => ?_⟩
  obtain ⟨T, x, e1, e2, e3, e4⟩ := hy
  exact ⟨T, _, x, e1, e2, e3, rfl, e4 xs hG⟩
theorem hu1 {k : Nat} {A : Around} (hr : Room k A) : A.units + 1 < cLine := Nat.lt_of_le_of_lt (by omega) hr.units
section
variable {X : Cx}
def rIxA (K : PySem.W.Frag) : R2 := fun x y H Q => ∃ p xs i v, x = .ref p ∧ y = .int i ∧ Sq K H p xs ∧ atI xs i = some v ∧ Q v H
theorem ix_seq : IxR X (rIxA X.K) := by
  intro e1 e2 pins s σ H x y v u Q I rx ry h hs
  obtain ⟨p, xs, i, z, h1, h2, hq, h3, q⟩ := h
  rcases hq with hq | hq
  · exact ix_list e1 e2 pins s σ H x y v u Q I rx ry ⟨p, xs, i, z, h1, h2, hq, h3, q⟩ hs
  · exact ix_tup e1 e2 pins s σ H x y v u Q I rx ry ⟨p, xs, i, z, h1, h2, hq, h3, q⟩ hs
theorem ix_seqK {K : PySem.W.Frag} (e : X.K = K) : IxR X (rIxA K) := by subst e; exact ix_seq
theorem op_catAK {K : PySem.W.Frag} (e : X.K = K) : OpR X (binaryOp .Add) (rCatA K) := by subst e; exact op_catA
/-- xs[lo:hi]: a row of the same kind -/
def rSlS (K : PySem.W.Frag) : V → Option Int → Option Int → Hp → VK → Prop := fun x lo hi H Q => ∃ a xs, x = .ref a ∧ Sq K H a xs ∧ ∀ p H', Same H H' → Sq K H' p (cutV xs lo hi) → Q (.ref p) H'
theorem sl_seq : SlR X (rSlS X.K) := by
  intro pins s σ H x v vl vu lo hi sl Q I rx hs pl pu h
  obtain ⟨a, xs, ex, hq, q⟩ := h
  rcases hq with hq | hq
  · exact sl_list pins s σ H x v vl vu lo hi sl Q I rx hs pl pu ⟨a, xs, ex, hq, fun p hp => q p _ (same_upd hp) (.inl (sqL upd_same))⟩
  · refine sl_tupA pins s σ H x v vl vu lo hi sl Q I rx hs pl pu ⟨a, xs, ex, hq, fun c => q a _ (Same.refl _) (.inr ?_), fun _ p hp => q p _ (same_upd hp) (.inr (sqT upd_same))⟩
    have e : cutV xs lo hi = xs := by
      unfold cutV
      rw [c.1, c.2, List.drop_zero, Nat.sub_zero, List.take_length]
    rw [e]
    exact hq
theorem sl_seqK {K : PySem.W.Frag} (e : X.K = K) : SlR X (rSlS K) := by subst e; exact sl_seq
def iSeq (K : PySem.W.Frag) (tl : TE) : TI := fun σ H R => tl σ H fun x H1 => ∃ a xs, x = .ref a ∧ Sq K H1 a xs ∧ ∀ J G, Walk J xs.length G (YAt xs) → (∀ H2, AtS a H1 H2 → G H2) → R J H1
theorem pi_seq {tg l : Expr} {tl : TE} (hl : PE X l tl) : PI X tg l (iSeq X.K tl) := by
  constructor
  intro pins s σ H R I h
  refine thn (hl.run pins s σ H _ I h) fun v s1 z => ?_
  obtain ⟨x, H1, I1, r1, a, xs, rfl, hq, q⟩ := z
  cases r1
  rcases hq with hq | hq
  · obtain ⟨its, rv, pl, _⟩ := I1.list hq
    exact wpAny_pyIter_list pl.isList (pi_one (tk := s1.toks) I1 _ (turn_list a _) ⟨_, Heap.get?_push_size _ rfl, rfl, rfl⟩ (q _ _ walk_list fun H2 e => e.sqL hq))
  · obtain ⟨its, rv, pl, _⟩ := I1.tuple hq
    exact wpAny_pyIter_tuple (show s1.heap.IsTuple a its.toArray from pl) (pi_one (tk := s1.toks) I1 _ (turn_tuple a _) ⟨_, Heap.get?_push_size _ rfl, rfl, rfl⟩ (q _ _ walk_tup fun H2 e => e.sqT hq))
theorem pi_seqK {K : PySem.W.Frag} {tg l : Expr} {tl : TE} (e : X.K = K) (hl : PE X l tl) : PI X tg l (iSeq K tl) := by subst e; exact pi_seq hl
def iEnS (K : PySem.W.Frag) (ta : TA) : TI := fun σ H R => ta σ H fun vs H1 => ∃ a xs, vs = [.ref a] ∧ Sq K H1 a xs ∧ ∀ J G, Walk J xs.length G (YPair (fun i => some (.int (i : Nat))) (fun i => xs[i]?)) → (∀ H2, AtS a H1 H2 → G H2) → R J H1
theorem pi_enS {e : Expr} {ta : TA} {p pos tpos : Pos} {elts : List Expr} {kk : Nat} (hg : Gl X "enumerate") (hm : X.mg "enumerate" = none) (ha : PA X [e] ta) (hs : starEach [e] X.env = [(false, eval e X.env)] := by rfl) :
    PI X (.Tuple elts kk tpos) (.Call (.Name "enumerate" p) [e] [] pos) (iEnS X.K ta) := by
  constructor
  intro pins s σ H R I h
  refine Call_ (ld_blt I hg hm boot_enumerate (PyProof.Rows.callWith_type1 (thn (ha.run pos pins s σ H _ I h) fun us s1 ⟨vs, H1, I1, r1, q1⟩ => ?_) hs rfl))
  obtain ⟨a, xs, rfl, hq, q⟩ := q1
  cases r1 with
  | cons r rr =>
    cases rr
    cases r
    have hfp : ∀ b ∈ [s1.heap.objs.size + 1, s1.heap.objs.size], FpOk X pins H1 b := fun b hb => by
      have hle : s1.heap.objs.size ≤ b := by
        rcases (show b = s1.heap.objs.size + 1 ∨ b = s1.heap.objs.size by simpa using hb) with rfl | rfl
        · exact Nat.le_succ _
        · exact Nat.le_refl _
      exact I1.fpOk hle (I1.hok.fresh hle)
    rcases hq with hq | hq
    · obtain ⟨its, rv, hl, _⟩ := I1.list hq
      refine call_enumerate_list hl.isList fun h1 he hj _ hk => wpAny_pyIter_enum he ?_
      exact ⟨_, _, _, _, H1, rfl, I1.kept (t' := s1.toks) hk, turn_enum a (s1.heap.objs.size + 1) s1.heap.objs.size, ⟨⟨.none, he⟩, hj, Nat.succ_ne_self _⟩, hfp, q _ _ walk_enum fun H2 e => e.sqL hq⟩
    · obtain ⟨its, rv, ht, _⟩ := I1.tuple hq
      refine en_make ht fun h1 he hj hk => wpAny_pyIter_enum he ?_
      exact ⟨_, _, _, _, H1, rfl, I1.kept (t' := s1.toks) hk, turn_enT a (s1.heap.objs.size + 1) s1.heap.objs.size, ⟨⟨.none, he⟩, hj, Nat.succ_ne_self _⟩, hfp, q _ _ walk_enT fun H2 e => e.sqT hq⟩
end
end NS
namespace NS
open PySem L2
/-- a statement that is never reached -/
theorem ps_never {X : Cx} {st : Stmt} : PS X st (fun _ _ _ => False) := ⟨fun _ _ _ _ _ _ h => h.elim⟩
/-- a comprehension with two fors: the outer one -/
theorem lc2_out {J : It} {n : Nat} {G : Hp → Prop} {Y : Nat → Hp → V → Hp → Prop} (w : Walk J n G Y) {st : Nat → Hp → V → (Hp → Prop) → Hp → Prop} {H1 : Hp} {D : Addr} {Qd : Hp → Prop} (Pv : Nat → Hp → Prop) (h0 : Pv 0 (upd H1 D (.lst []))) (hG : ∀ i H, i ≤ n → Pv i H → G H)
    (hs : ∀ i x H H', i < n → Pv i H → Y i H x H' → st i H x (Pv (i + 1)) H') (hd : ∀ H, Pv n H → Qd H) :
    ∃ W : Nat → Nat → Hp → Prop, (∃ m, W 0 m (upd H1 D (.lst []))) ∧ ∀ i m H, W i m H → (J.stop i H ∧ Qd H) ∨ (J.go i H ∧ ∃ Nx : Hp → Prop, (∀ H', Nx H' → ∃ m', m' < m ∧ W (i + 1) m' H') ∧ ∀ x H', J.yld i H x H' → st i H x Nx H') := by
  refine ⟨fun i m H => m + i = n ∧ Pv i H, ⟨n, Nat.add_zero n, h0⟩, fun i m H hW => ?_⟩
  obtain ⟨hm, pv⟩ := hW
  by_cases lt : i < n
  · exact .inr ⟨w.goes i H lt (hG i H (Nat.le_of_lt lt) pv), Pv (i + 1), fun H' p' => ⟨m - 1, by omega, by omega, p'⟩, fun x H' y => hs i x H H' lt pv (w.yields i H x H' lt (hG i H (Nat.le_of_lt lt) pv) y)⟩
  · have e : i = n := by omega
    subst e
    exact .inl ⟨w.stops H (hG i H (Nat.le_refl _) pv), hd H pv⟩
theorem lc2_in {J : It} {n : Nat} {G : Hp → Prop} {Y : Nat → Hp → V → Hp → Prop} (w : Walk J n G Y) {st : Nat → Hp → V → (Hp → Prop) → Hp → Prop} {H1 : Hp} {Nx : Hp → Prop} (Pv : Nat → Hp → Prop) (h0 : Pv 0 H1) (hG : ∀ i H, i ≤ n → Pv i H → G H)
    (hs : ∀ i x H H', i < n → Pv i H → Y i H x H' → st i H x (Pv (i + 1)) H') (hd : ∀ H, Pv n H → Nx H) :
    ∃ W : Nat → Nat → Hp → Prop, (∃ m, W 0 m H1) ∧ ∀ i m H, W i m H → (J.stop i H ∧ Nx H) ∨ (J.go i H ∧ ∃ N : Hp → Prop, (∀ H', N H' → ∃ m', m' < m ∧ W (i + 1) m' H') ∧ ∀ x H', J.yld i H x H' → st i H x N H') := by
  refine ⟨fun i m H => m + i = n ∧ Pv i H, ⟨n, Nat.add_zero n, h0⟩, fun i m H hW => ?_⟩
  obtain ⟨hm, pv⟩ := hW
  by_cases lt : i < n
  · exact .inr ⟨w.goes i H lt (hG i H (Nat.le_of_lt lt) pv), Pv (i + 1), fun H' p' => ⟨m - 1, by omega, by omega, p'⟩, fun x H' y => hs i x H H' lt pv (w.yields i H x H' lt (hG i H (Nat.le_of_lt lt) pv) y)⟩
  · have e : i = n := by omega
    subst e
    exact .inl ⟨w.stops H (hG i H (Nat.le_refl _) pv), hd H pv⟩
end NS

/-! ### the real order agrees -/
namespace NS
open PySem L2
structure FillF (n : Nat) (sh : List (Option Int)) (qs : List Int) : Prop where
  free : ∀ i : Nat, i < n → (sh[i]? = some none ↔ (i : Int) ∉ qs)
  cell : ∀ z ∈ qs, ∃ c : Nat, z = (c : Int) ∧ c < n
  nd : qs.Nodup
  ord : ∀ (j c : Nat) (h : Int) (x : Nat), qs[j]? = some (c : Int) → sh[c]? = some (some h) → x < n → near h (c : Int) (x : Int) = true → (x : Int) ∈ qs.take j
theorem Fill.facts {n : Nat} {hs : List Int} {sh : List (Option Int)} {qs : List Int} (f : Fill n hs sh qs) : FillF n sh qs := by
  induction f with
  | nil =>
    refine ⟨fun i hi => ⟨(fun _ h => nomatch h), fun _ => ?_⟩, (fun z h => nomatch h), List.nodup_nil, fun j c h x hj => ?_⟩
    · rw [List.getElem?_replicate, if_pos hi]
    · simp at hj
  | @snoc hs sh qs h c fl sp ih =>
    have hlen := fl.len
    have cfree : (c : Int) ∉ qs := (ih.free c sp.lt).mp sp.free
    refine ⟨fun i hi => ?_, fun z hz => ?_, ?_, fun j c' h' x hj hs' hx hn => ?_⟩
    · by_cases e : i = c
      · subst e
        have hcn := sp.lt
        rw [List.getElem?_set_self (by omega)]
        constructor
        · intro q
          cases q
        · intro q
          exact absurd (List.mem_append_right _ (List.mem_singleton.mpr rfl)) q
      · rw [List.getElem?_set_ne (Ne.symm e), ih.free i hi, List.mem_append, List.mem_singleton]
        constructor
        · rintro a (b | b)
          · exact a b
          · omega
        · exact fun a b => a (.inl b)
    · rcases List.mem_append.mp hz with hz | hz
      · exact ih.cell z hz
      · exact ⟨c, List.mem_singleton.mp hz, sp.lt⟩
    · rw [List.nodup_append]
      refine ⟨ih.nd, List.nodup_cons.mpr ⟨(fun q => nomatch q), List.nodup_nil⟩, fun a ha b hb => ?_⟩
      rw [List.mem_singleton.mp hb]
      exact fun e => cfree (by rw [← e]; exact ha)
    · by_cases hlt : j < qs.length
      · rw [List.getElem?_append_left hlt] at hj
        have ne : c ≠ c' := fun e => cfree (by rw [e]; exact List.mem_of_getElem? hj)
        rw [List.getElem?_set_ne ne] at hs'
        rw [List.take_append_of_le_length (Nat.le_of_lt hlt)]
        exact ih.ord j c' h' x hj hs' hx hn
      · have hj2 : j = qs.length := by
          have := (List.getElem?_eq_some_iff.mp hj).1
          rw [List.length_append] at this
          simp at this
          omega
        subst hj2
        rw [List.getElem?_append_right (Nat.le_refl _), Nat.sub_self] at hj
        have ec : c = c' := by
          have := Option.some.inj hj
          omega
        subst ec
        have hcn := sp.lt
        rw [List.getElem?_set_self (by omega)] at hs'
        have eh : h = h' := Option.some.inj (Option.some.inj hs')
        subst eh
        rw [List.take_left]
        by_cases hin : (x : Int) ∈ qs
        · exact hin
        · have := sp.best x hx ((ih.free x hx).mpr hin)
          rw [this] at hn
          cases hn
structure CaseF (ys : List V) (qs : List Int) : Prop where
  mem : ∀ z : Int, z ∈ qs ↔ z ∈ fullL ys
  nd : qs.Nodup
  ag : agreesL ys qs = true
theorem case_facts {n : Nat} {hs : List Int} {sh : List (Option Int)} {qs : List Int} {ys : List V} (f : Fill n hs sh qs) (v : Veil (sh.map oV) ys) : CaseF ys qs := by
  have F := f.facts
  have hyl : ys.length = n := by
    rw [v.len, List.length_map, f.len]
  have ent : ∀ i : Nat, i < n → (ys[i]? = (sh.map oV)[i]? ∨ ys[i]? = some (.str "?") ∧ ∃ u, (sh.map oV)[i]? = some u ∧ u ≠ .non) := fun i _ => v.at_ i
  have shg : ∀ i : Nat, i < n → ∃ o, sh[i]? = some o := fun i hi => ⟨_, List.getElem?_eq_getElem (by rw [f.len]; exact hi)⟩
  have full : ∀ i : Nat, i < n → (isN (ys.getD i .non) = false ↔ (i : Int) ∈ qs) := fun i hi => by
    obtain ⟨o, ho⟩ := shg i hi
    have hm : (sh.map oV)[i]? = some (oV o) := by rw [List.getElem?_map, ho]; rfl
    have fr := F.free i hi
    rw [ho] at fr
    cases o with
    | none =>
      have nq : (i : Int) ∉ qs := fr.mp rfl
      rcases ent i hi with e | ⟨_, u, e, ne⟩
      · rw [List.getD_eq_getElem?_getD, e, hm]
        exact ⟨(fun q => nomatch q), fun q => absurd q nq⟩
      · rw [hm] at e
        exact absurd (Option.some.inj e).symm ne
    | some z =>
      have iq : (i : Int) ∈ qs := by
        by_cases q : (i : Int) ∈ qs
        · exact q
        · have := fr.mpr q
          cases this
      rcases ent i hi with e | ⟨e, _⟩
      · rw [List.getD_eq_getElem?_getD, e, hm]
        exact ⟨fun _ => iq, fun _ => rfl⟩
      · rw [List.getD_eq_getElem?_getD, e]
        exact ⟨fun _ => iq, fun _ => rfl⟩
  refine ⟨fun z => ?_, F.nd, ?_⟩
  · rw [fullL_mem]
    constructor
    · intro hz
      obtain ⟨c, rfl, hc⟩ := F.cell z hz
      exact ⟨c, rfl, by omega, (full c hc).mpr hz⟩
    · rintro ⟨i, rfl, hi, hn⟩
      exact (full i (by omega)).mp hn
  · show ((List.range qs.length).map (agB ys qs)).all id = true
    rw [List.all_map, List.all_eq_true]
    intro j hj
    have hj' : j < qs.length := List.mem_range.mp hj
    obtain ⟨c, ec, hc⟩ := F.cell qs[j] (List.getElem_mem hj')
    have gj : qs[j]? = some (c : Int) := by rw [List.getElem?_eq_getElem hj', ec]
    have gd : qs.getD j 0 = (c : Int) := by rw [List.getD_eq_getElem?_getD, gj]; rfl
    show agB ys qs j = true
    unfold agB
    rw [gd, List.all_eq_true]
    intro e he
    refine decide_eq_true ?_
    unfold wantL at he
    rw [Int.toNat_natCast, hyl] at he
    cases hv : ys.getD c .non with
    | int w =>
      rw [hv] at he
      obtain ⟨x, rfl, hx⟩ := needsL_lt he
      have hn : near w (c : Int) (x : Int) = true := (List.mem_filter.mp he).2
      obtain ⟨o, ho⟩ := shg c hc
      have hm : (sh.map oV)[c]? = some (oV o) := by rw [List.getElem?_map, ho]; rfl
      have eo : o = some w := by
        rcases ent c hc with e | ⟨e, _⟩
        · rw [List.getD_eq_getElem?_getD, e, hm] at hv
          cases o with
          | none => cases hv
          | some z => cases hv; rfl
        · rw [List.getD_eq_getElem?_getD, e] at hv
          cases hv
      subst eo
      exact F.ord j c w x gj ho hx hn
    | _ =>
      rw [hv] at he
      cases he
end NS

/-! ### slices and sums of tuples, by data -/
namespace NS
open PySem L2
def cutL {α : Type} (xs : List α) (lo hi : Option Int) : List α := (xs.drop (HT.sIx xs.length 0 lo)).take (HT.sIx xs.length xs.length hi - HT.sIx xs.length 0 lo)
theorem cutL_sub {α : Type} {xs : List α} {lo hi : Option Int} {x : α} (h : x ∈ cutL xs lo hi) : x ∈ xs := List.mem_of_mem_drop (List.mem_of_mem_take h)
theorem cutL_len {α : Type} (xs : List α) (lo hi : Option Int) : (cutL xs lo hi).length ≤ xs.length := by
  unfold cutL
  rw [List.length_take, List.length_drop]
  omega
section
variable {K : PySem.W.Frag} {S : List Addr} {σ : L2.St} {H : Hp} {te ta tb : TE} {ds es : List PyData} {tl th : TO} {lo hi : Option Int}
def EvO (p : Option Int) (t : TO) (σ : L2.St) (H : Hp) : Prop := ∀ H1, Same H H1 → ∀ Q, Q p H1 → t σ H1 Q
theorem eo_none : EvO none tNoPart σ H := fun _ _ _ q => q
theorem eo_int {i : Int} : EvO (some i) (tPart (tC (.int i))) σ H := fun _ _ _ q => ⟨i, rfl, q⟩
theorem eo_var {j : Nat} {i : Int} (h : σ[j]? = some (some (.int i))) : EvO (some i) (tPart (tVar j)) σ H := fun _ _ _ q => ⟨_, h, i, rfl, q⟩
theorem eo_add {j : Nat} {i k : Int} (h : σ[j]? = some (some (.int i))) : EvO (some (i + k)) (tPart (tOp (rI0 fun i j => V.int (i + j)) (tVar j) (tC (.int k)))) σ H := fun _ _ _ q => ⟨_, h, _, _, rfl, rfl, _, rfl, q⟩
theorem ee_slA (hs : HasA H S) (h : EvE K S (.tuple ds) te σ H) (hl : EvO lo tl σ H) (hu : EvO hi th σ H) : EvE K S (.tuple (cutL ds lo hi)) (tSl (rSlA K) te tl th) σ H := fun H1 e Q q =>
  h H1 e _ fun v H2 e2 hv => hl H2 (e.trans e2) _ (hu H2 (e.trans e2) _ (by
    cases hv with
    | @tup a xs _ h1 h2 =>
      have hn := dpAll_len h2
      refine ⟨a, xs, rfl, Same.tup same_hid h1, fun c => ?_, fun c p hp => ?_⟩
      · have ec : cutL ds lo hi = ds := by
          unfold cutL
          rw [← hn, c.1, c.2, List.drop_zero, Nat.sub_zero, hn, List.take_length]
        exact q _ H2 e2 (by rw [ec]; exact .tup h1 h2)
      · have np := has_ne (hasA_same hs (e.trans e2)) hp
        refine q _ _ (e2.trans (same_upd hp)) (.tup (sqT_hid np upd_same) (dp_sameA (hid_mono (same_upd hp)) ?_))
        unfold cutV cutL
        rw [hn]
        exact dpAll_take _ (dpAll_drop _ h2)))
theorem ee_catA (hs : HasA H S) (ha : EvE K S (.tuple ds) ta σ H) (hb : EvE K S (.tuple es) tb σ H) (hz : ds.length + es.length ≤ 1000) : EvE K S (.tuple (ds ++ es)) (tOp (rCatA K) ta tb) σ H := fun H1 e Q q =>
  ha H1 e _ fun v H2 e2 hv => hb H2 (e.trans e2) _ fun u H3 e3 hu => by
    cases hv with
    | @tup a xs _ h1 h2 =>
      cases hu with
      | @tup b ys _ h3 h4 =>
        have hn := dpAll_len h2
        have hm := dpAll_len h4
        have h1' := Same.tup (hid_mono e3) h1
        have h2' := dp_sameA (hid_mono e3) h2
        refine ⟨a, b, xs, ys, rfl, rfl, Same.tup same_hid h1', Same.tup same_hid h3, small (by omega), fun c => ?_, fun _ c => ?_, fun _ _ p hp => ?_⟩
        · subst c
          have ed : ds = [] := List.eq_nil_of_length_eq_zero (by rw [← hn]; rfl)
          subst ed
          exact q _ _ (e2.trans e3) (.tup h3 h4)
        · subst c
          have ed : es = [] := List.eq_nil_of_length_eq_zero (by rw [← hm]; rfl)
          subst ed
          exact q _ _ (e2.trans e3) (by rw [List.append_nil]; exact .tup h1' h2')
        · have np := has_ne (hasA_same hs ((e.trans e2).trans e3)) hp
          exact q _ _ ((e2.trans e3).trans (same_upd hp)) (.tup (sqT_hid np upd_same) (dp_sameA (hid_mono (same_upd hp)) (dpAll_app h2' h4)))
theorem ee_revT (hs : HasA H S) (h : EvE K S (.tuple ds) te σ H) : EvE K S (.tuple ds.reverse) (tRevT K te) σ H := fun H1 e Q q =>
  h H1 e _ fun v H2 e2 hv => by
    cases hv with
    | @tup a xs _ h1 h2 =>
      refine ⟨a, xs, rfl, Same.tup same_hid h1, fun p hp => ?_⟩
      have np := has_ne (hasA_same hs (e.trans e2)) hp
      exact q _ _ (e2.trans (same_upd hp)) (.tup (sqT_hid np upd_same) (dp_sameA (hid_mono (same_upd hp)) (dpAll_rev h2)))
/-- list(t) of a tuple -/
theorem ee_lstOf (hs : HasA H S) (h : EvE K S (.tuple ds) te σ H) : EvE K S (.list ds) (tCB (fun xs H Q => ∃ p ys, xs = [V.ref p] ∧ (SqL K H p ys ∨ SqT K H p ys) ∧ ∀ (l : Addr), H l = none → Q (V.ref l) (upd H l (HO.lst ys))) (tCons te tNil)) σ H := fun H1 e Q q =>
  h H1 e _ fun v H2 e2 hv => by
    cases hv with
    | @tup a xs _ h1 h2 =>
      refine ⟨a, xs, rfl, .inr (Same.tup same_hid h1), fun p hp => ?_⟩
      have np := has_ne (hasA_same hs (e.trans e2)) hp
      exact q _ _ (e2.trans (same_upd hp)) (.lst (sqL_hid np upd_same) (dp_sameA (hid_mono (same_upd hp)) h2))
/-- small ints in a row -/
theorem sm_row {ds : List PyData} (h : ∀ x ∈ ds, Sm 0 4 8 x) (hl : ds.length ≤ 10) : Sm 2 60 10 (.tuple ds) ∧ Sm 2 60 10 (.list ds) := by
  have hw : wS ds ≤ 50 := by
    have : ∀ es : List PyData, (∀ x ∈ es, Sm 0 4 8 x) → wS es ≤ 5 * es.length := fun es => by
      induction es with
      | nil => intro _; exact Nat.le_refl _
      | cons z zs ih =>
        intro hz
        rw [wS_cons, List.length_cons]
        have h1 := (hz z (List.mem_cons_self ..)).wt
        have h2 := ih fun y hy => hz y (List.mem_cons_of_mem _ hy)
        omega
    have := this ds h
    omega
  have hi : ∀ x ∈ ds, Itm 1 10 x := fun x hx => (h x hx).itm.mono (by decide) (by decide)
  exact ⟨⟨itm_tuple.mpr ⟨hl, hi⟩, by rw [wt_tuple]; omega⟩, ⟨itm_list.mpr ⟨hl, hi⟩, by rw [wt_list]; omega⟩⟩
theorem sm_cell {z : Int} (h0 : 0 ≤ z) (h1 : z ≤ 8) : Sm 0 4 8 (.int z) := by
  have h8 : ∀ j : Fin 9, smB 0 4 8 (.int ((j : Nat) : Int)) = true := by decide +kernel
  have e : z = (((⟨z.toNat, by omega⟩ : Fin 9) : Nat) : Int) := by
    show z = (z.toNat : Int)
    omega
  rw [e]
  exact sm_of (h8 _)
theorem sm_bl (b : Bool) : Sm 0 4 8 (.bool b) := by cases b <;> exact sm_of (by decide +kernel)
end
/-- a list of values that grows at L, while draws are made at s -/
structure VI (K : PySem.W.Frag) (s L : Addr) (H0 H5 H' : Hp) (xs : List V) (es : List PyData) (k : Nat) : Prop where
  st : Stay s H0 H'
  kp : ∀ b o, b ≠ s → b ≠ L → H5 b = some o → H' b = some o
  sr : Src H' s k
  gL : H' L = some (.lst xs)
  dp : DpAll K (Hid [L, s] H') xs es
theorem VI.has {K : PySem.W.Frag} {s L : Addr} {H0 H5 H' : Hp} {xs : List V} {es : List PyData} {k : Nat} (h : VI K s L H0 H5 H' xs es k) : HasA H' [L, s] := fun b hb => by
  rcases List.mem_cons.mp hb with rfl | hb
  · exact ⟨_, h.gL⟩
  · rw [List.mem_singleton.mp hb]
    exact src_has h.sr
theorem VI.len {K : PySem.W.Frag} {s L : Addr} {H0 H5 H' : Hp} {xs : List V} {es : List PyData} {k : Nat} (h : VI K s L H0 H5 H' xs es k) : xs.length = es.length := dpAll_len h.dp
theorem VI.app {K : PySem.W.Frag} {s L : Addr} {H0 H5 Ha Hb : Hp} {xs : List V} {es : List PyData} {k kb : Nat} {v : V} {d : PyData} (h : VI K s L H0 H5 Ha xs es k) (nL : H0 L = none) (ne : L ≠ s) (st : Stay s Ha Hb) (sr : Src Hb s kb) (hd : Dp K (Hid [L, s] Hb) v d) :
    VI K s L H0 H5 (upd Hb L (.lst (xs ++ [v]))) (xs ++ [v]) (es ++ [d]) kb := by
  refine ⟨(h.st.trans st).mut nL, fun b o nb nbL hb => ?_, sr.elim fun o z => ⟨o, by rw [upd_ne ne.symm]; exact z.1, z.2⟩, upd_same, ?_⟩
  · rw [upd_ne nbL]
    exact st _ _ nb (h.kp b o nb nbL hb)
  · rw [hid_upd (List.mem_cons_self ..)]
    exact dpAll_app (dp_sameA (hid_stay (List.mem_cons_of_mem _ (List.mem_singleton.mpr rfl)) st) h.dp) (.cons hd .nil)
theorem VI.step {K : PySem.W.Frag} {s L : Addr} {H0 H5 Ha Hb : Hp} {xs : List V} {es : List PyData} {k kb : Nat} (h : VI K s L H0 H5 Ha xs es k) (ne : L ≠ s) (st : Stay s Ha Hb) (sr : Src Hb s kb) : VI K s L H0 H5 Hb xs es kb :=
  ⟨h.st.trans st, fun b o nb nL hb => st _ _ nb (h.kp b o nb nL hb), sr, st _ _ ne h.gL, dp_sameA (hid_stay (List.mem_cons_of_mem _ (List.mem_singleton.mpr rfl)) st) h.dp⟩
theorem cut3_len {α : Type} (ds : List α) (a : Nat) (h : a ≤ ds.length) : (cutL ds none (some (a : Int))).length + (cutL ds (some (a : Int)) (some ((a : Int) + 2))).length + (cutL ds (some ((a : Int) + 2)) none).length ≤ ds.length := by
  have e : ((a : Int) + 2) = ((a + 2 : Nat) : Int) := by omega
  unfold cutL
  simp only [e, HT.sIx_nat]
  show ((ds.drop 0).take (min a ds.length - 0)).length + _ + ((ds.drop (min (a + 2) ds.length)).take (ds.length - min (a + 2) ds.length)).length ≤ _
  rw [List.length_take, List.length_take, List.length_take, List.length_drop, List.length_drop, List.length_drop]
  omega
theorem if_thenS {c : TT} {a b : TS} {D : Ends} {σ : L2.St} {H : Hp} (R : L2.St → Hp → Prop) (k : ∀ σ' H', R σ' H' → D.nx σ' H') (h : ∀ D' : Ends, (∀ σ' H', R σ' H' → D'.nx σ' H') → tIfS c a b D' σ H) : tIfS c a b D σ H := h D k
end NS

/-! ### rows of ints -/
namespace NS
open PySem L2
theorem ints_inv {K : PySem.W.Frag} {H : Hp} : ∀ {ns : List Int} {xs : List V}, DpAll K H xs (ns.map PyData.int) → xs = ns.map V.int
  | [], _, h => by
    cases h
    rfl
  | n :: ns, _, h => by
    cases h with
    | cons a b =>
      cases a
      rw [ints_inv b]
      rfl
end NS

/-! ### rows of rows of ints in the heap -/
namespace NS
open PySem L2
section
variable {K : PySem.W.Frag}
theorem sqT_updL {H : Hp} {L a : Addr} {zs xs : List V} {o : HO} (hL : H L = some (.lst zs)) (h : SqT K H a xs) : SqT K (upd H L o) a xs := by
  rcases h with (h | ⟨o', h⟩) | h
  · exact .inl (.inl (by rw [upd_ne (fun e => by rw [e, hL] at h; cases h)]; exact h))
  · exact .inl (.inr ⟨o', by rw [upd_ne (fun e => by rw [e, hL] at h; cases h)]; exact h⟩)
  · exact .inr h
/-- a row of orders does not change with a list -/
theorem ords_upd {H : Hp} {L : Addr} {zs : List V} {o : HO} (hL : H L = some (.lst zs)) : ∀ {vs : List V} {os : List (List Int)}, DpAll K H vs (os.map dT) → DpAll K (upd H L o) vs (os.map dT)
  | _, [], .nil => .nil
  | _, q :: os, .cons h r => by
    refine .cons ?_ (ords_upd hL r)
    cases h with
    | @tup a xs _ h1 h2 =>
      obtain rfl := ints_inv h2
      exact dp_T (sqT_updL hL h1)
theorem ord_at {H : Hp} {v : V} {o : List Int} (h : Dp K H v (dT o)) : ∃ a, v = .ref a ∧ SqT K H a (o.map V.int) := by
  cases h with
  | @tup a xs _ h1 h2 =>
    obtain rfl := ints_inv h2
    exact ⟨a, rfl, h1⟩
theorem paired_imp {α β : Type} {F G : α → β → Prop} (h : ∀ a b, F a b → G a b) : ∀ {l₁ : List α} {l₂ : List β}, Paired F l₁ l₂ → Paired G l₁ l₂
  | _, _, .nil => .nil
  | _, _, .cons a r => .cons (h _ _ a) (paired_imp h r)
theorem merge_get {Pk : Key → V → Prop} {k : Key} : ∀ (kvs acc : List (Key × V)), (∀ kv ∈ kvs, Pk kv.1 kv.2) → (k ∈ kvs.map Prod.fst ∨ ∃ v, valV acc k = some v ∧ Pk k v) → ∃ v, valV (mergeK acc kvs) k = some v ∧ Pk k v
  | [], acc, _, h => by
    rcases h with h | h
    · cases h
    · exact h
  | kv :: r, acc, hp, h => by
    show ∃ v, valV (mergeK (putK acc kv.1 kv.2) r) k = some v ∧ Pk k v
    refine merge_get r _ (fun x hx => hp x (List.mem_cons_of_mem _ hx)) ?_
    by_cases hk : k ∈ r.map Prod.fst
    · exact .inl hk
    · refine .inr ?_
      rw [valV_put]
      by_cases e : k = kv.1
      · rw [if_pos e]
        exact ⟨kv.2, rfl, by rw [e]; exact hp kv (List.mem_cons_self ..)⟩
      · rw [if_neg e]
        rcases h with h | h
        · rw [List.map_cons] at h
          rcases List.mem_cons.mp h with h | h
          · exact absurd h e
          · exact absurd h hk
        · exact h
theorem line_ok {n : Nat} (h : n ≤ 1000000) : n < sizeLine := Nat.lt_of_le_of_lt h (by decide)
theorem cat_one {H : Hp} {b t : Addr} {so : List Int} {c : Int} {Q : VK} (hb : SqT K H b (so.map V.int)) (ht : H t = some (.tup [.int c])) (hz : so.length ≤ 1000)
    (q : ∀ p H', Same H H' → SqT K H' p ((so ++ [c]).map V.int) → Q (.ref p) H') : rCatA K (.ref b) (.ref t) H Q := by
  refine ⟨b, t, _, [.int c], rfl, rfl, hb, sqT ht, ?_, fun e0 => ?_, (fun _ e0 => nomatch e0), fun _ _ p hp => ?_⟩
  · rw [List.length_map]
    exact Nat.le_of_lt (line_ok (by simp; omega))
  · refine q t H (Same.refl _) ?_
    rw [List.map_append, e0]
    exact sqT ht
  · refine q p _ (same_upd hp) ?_
    rw [List.map_append]
    exact sqT upd_same
theorem fil_step {l : List Int} {p : Int → Bool} {i : Nat} {c : Int} (g : l[i]? = some c) : ((l.take (i + 1)).filter p).map V.int = ((l.take i).filter p).map V.int ++ (if p c = true then [V.int c] else []) := by
  rw [List.take_succ, g, List.filter_append, List.map_append]
  congr 1
  simp only [Option.toList_some]
  cases h : p c
  · rw [List.filter_cons_of_neg (by rw [h]; decide)]
    rfl
  · rw [List.filter_cons_of_pos h]
    rfl
theorem fil_small {l : List Int} {p : Int → Bool} {i : Nat} (h : l.length ≤ 1000) : (((l.take i).filter p).map V.int).length < sizeLine := by
  rw [List.length_map]
  refine small1000 (Nat.le_trans (List.length_filter_le _ _) ?_)
  rw [List.length_take]
  omega
theorem slA_take {H : Hp} {b : Addr} {qs : List Int} {k : Nat} {Q : VK} (hb : SqT K H b (qs.map V.int)) (hk : k ≤ qs.length) (q : ∀ p H', Same H H' → SqT K H' p ((qs.take k).map V.int) → Q (.ref p) H') : rSlA K (.ref b) none (some (k : Int)) H Q := by
  refine ⟨b, _, rfl, hb, fun c => ?_, fun _ p hp => ?_⟩
  · have h1 := c.2
    rw [List.length_map, sIx_le hk] at h1
    refine q b H (Same.refl _) ?_
    rw [h1, List.take_length]
    exact hb
  · refine q p _ (same_upd hp) ?_
    rw [cut_to (by rw [List.length_map]; exact hk), ← List.map_take]
    exact sqT upd_same
theorem eqvA_i : ∀ a b : List Int, PyData.eqvAll (a.map PyData.int) (b.map PyData.int) = decide (a = b)
  | [], [] => by rw [List.map_nil, PyData.eqvAll]; rfl
  | [], _ :: _ => by rw [List.map_nil, List.map_cons, PyData.eqvAll]; rfl
  | _ :: _, [] => by rw [List.map_nil, List.map_cons, PyData.eqvAll]; rfl
  | x :: a, y :: b => by
    rw [List.map_cons, List.map_cons, PyData.eqvAll, PyData.eqv, eqvA_i a b, Bool.eq_iff_iff]
    simp
theorem eqv_T (a b : List Int) : PyData.eqv (dT a) (dT b) = decide (a = b) := by
  unfold dT
  rw [PyData.eqv]
  exact eqvA_i a b
end
end NS

/-! ### rows of ints, orders as values -/
namespace NS
open PySem L2
def intsD : List PyData → Option (List Int)
  | [] => some []
  | .int z :: r => (intsD r).map (z :: ·)
  | _ :: _ => none
theorem intsD_map : ∀ ns : List Int, intsD (ns.map PyData.int) = some ns
  | [] => rfl
  | n :: ns => by
    rw [List.map_cons, intsD, intsD_map ns]
    rfl
theorem ints_all : ∀ {ds : List PyData}, ds.all isIntD = true → ∃ ns : List Int, ds = ns.map PyData.int
  | [], _ => ⟨[], rfl⟩
  | d :: ds, h => by
    rw [List.all_cons, Bool.and_eq_true] at h
    obtain ⟨z, rfl⟩ := isInt_ex h.1
    obtain ⟨ns, rfl⟩ := ints_all h.2
    exact ⟨z :: ns, rfl⟩
theorem intsD_no : ∀ {ds : List PyData}, ds.all isIntD = false → intsD ds = none
  | [], h => nomatch h
  | d :: ds, h => by
    cases d with
    | int z =>
      rw [List.all_cons] at h
      rw [intsD, intsD_no (ds := ds) (by simpa [isIntD] using h)]
      rfl
    | _ => rfl
theorem eqvA_ints : ∀ a b : List Int, PyData.eqvAll (a.map PyData.int) (b.map PyData.int) = decide (a = b)
  | [], [] => by rw [List.map_nil, PyData.eqvAll]; rfl
  | [], _ :: _ => by rw [List.map_nil, List.map_cons, PyData.eqvAll]; rfl
  | _ :: _, [] => by rw [List.map_nil, List.map_cons, PyData.eqvAll]; rfl
  | x :: a, y :: b => by
    rw [List.map_cons, List.map_cons, PyData.eqvAll, PyData.eqv, eqvA_ints a b, Bool.eq_iff_iff]
    simp
theorem eqv_listI (a b : List Int) : PyData.eqv (.list (a.map PyData.int)) (.list (b.map PyData.int)) = decide (a = b) := by
  rw [PyData.eqv]
  exact eqvA_ints a b
theorem fullL_lt (ys : List V) : (fullL ys).Pairwise (· < ·) := by
  unfold fullL fullN
  rw [List.pairwise_map]
  exact (List.pairwise_lt_range.filter _).imp fun h => by omega
theorem fullL_nd (ys : List V) : (fullL ys).Nodup := (fullL_lt ys).imp fun h e => by omega
theorem sort_iff {ys : List V} {ms ns : List Int} (hp : ms.Perm ns) (hs : ms.Pairwise (· ≤ ·)) : decide (ms = fullL ys) = decide (ns.Perm (fullL ys)) := by
  rw [Bool.eq_iff_iff, decide_eq_true_eq, decide_eq_true_eq]
  constructor
  · intro e
    rw [← e]
    exact hp.symm
  · intro h
    exact List.Perm.eq_of_pairwise (le := (· ≤ ·)) (fun a b _ _ h1 h2 => by omega) hs ((fullL_lt ys).imp fun h => by omega) (hp.trans h)
/-- whether a value shows an order -/
def ordD (ys : List V) : PyData → Bool
  | .tuple ds => match intsD ds with
    | some ns => decide (ns.Perm (fullL ys)) && agreesL ys ns
    | none => false
  | _ => false
theorem ordD_ints (ys : List V) (ns : List Int) : ordD ys (.tuple (ns.map PyData.int)) = (decide (ns.Perm (fullL ys)) && agreesL ys ns) := by
  show (match intsD (ns.map PyData.int) with | some ns => decide (ns.Perm (fullL ys)) && agreesL ys ns | none => false) = _
  rw [intsD_map]
theorem ordD_no {ys : List V} {ds : List PyData} (h : ds.all isIntD = false) : ordD ys (.tuple ds) = false := by
  show (match intsD ds with | some ns => decide (ns.Perm (fullL ys)) && agreesL ys ns | none => false) = _
  rw [intsD_no h]
theorem ordD_case {ys : List V} {qs : List Int} (c : CaseF ys qs) : ordD ys (.tuple (qs.map PyData.int)) = true := by
  rw [ordD_ints, c.ag, Bool.and_true]
  exact decide_eq_true ((List.perm_ext_iff_of_nodup c.nd (fullL_nd ys)).mpr c.mem)
end NS

/-! ### orders that agree, one by one; what is ready; the reason -/
namespace NS
open PySem L2
theorem near_iff (w c x : Int) : near w c x = true ↔ dist x w < dist c w ∨ (dist x w = dist c w ∧ x < c) := by
  unfold near
  generalize dist x w = a
  generalize dist c w = b
  simp only [HT.lexLt]
  by_cases h1 : a < b
  · simp [h1]
    omega
  · by_cases h2 : b < a
    · simp [h1]
      omega
    · have e : a = b := by omega
      simp [e]
      omega
theorem needs_iff {n : Nat} {c w x : Int} : x ∈ needsL n c w ↔ (0 ≤ x ∧ x < n) ∧ (dist x w < dist c w ∨ (dist x w = dist c w ∧ x < c)) := by
  unfold needsL
  rw [List.mem_filter, near_iff]
  refine and_congr_left fun _ => ?_
  constructor
  · intro h
    obtain ⟨i, hi, rfl⟩ := List.mem_map.mp h
    have := List.mem_range.mp hi
    omega
  · rintro ⟨h0, h1⟩
    exact List.mem_map.mpr ⟨x.toNat, List.mem_range.mpr (by omega), by omega⟩
theorem dist_abs (c w : Int) : (dist c w = c - w ∧ w ≤ c) ∨ (dist c w = w - c ∧ c < w) := by
  unfold dist
  split <;> omega
/-- what is needed is an interval directly beside the cell, on one side -/
theorem needs_left {n : Nat} {c w x z : Int} (hx : x ∈ needsL n c w) (hc : c < n) (h2 : x ≤ z) (h3 : z < c) : z ∈ needsL n c w := by
  rw [needs_iff] at hx ⊢
  have a := dist_abs x w
  have b := dist_abs c w
  have d := dist_abs z w
  omega
theorem needs_right {n : Nat} {c w x z : Int} (hx : x ∈ needsL n c w) (hc : 0 ≤ c) (h2 : z ≤ x) (h3 : c < z) : z ∈ needsL n c w := by
  rw [needs_iff] at hx ⊢
  have a := dist_abs x w
  have b := dist_abs c w
  have d := dist_abs z w
  omega
theorem needs_side {n : Nat} {c w x z : Int} (hx : x ∈ needsL n c w) (h1 : x < c) (hz : z ∈ needsL n c w) : z < c := by
  rw [needs_iff] at hx hz
  have a := dist_abs x w
  have b := dist_abs c w
  have d := dist_abs z w
  omega
theorem needs_self {n : Nat} {c w : Int} (h : c ∈ needsL n c w) : False := by
  rw [needs_iff] at h
  omega
theorem needs_lt (n : Nat) (c w : Int) : (needsL n c w).Pairwise (· < ·) := by
  unfold needsL
  refine List.Pairwise.filter _ ?_
  rw [List.pairwise_map]
  exact List.pairwise_lt_range.imp fun h => by omega
/-- the same of wantL -/
theorem want_cases {ys : List V} {c x : Int} (h : x ∈ wantL ys c) : ∃ w, wantL ys c = needsL ys.length c w := by
  unfold wantL at h ⊢
  cases hv : ys.getD c.toNat .non with
  | int w => exact ⟨w, rfl⟩
  | _ =>
    rw [hv] at h
    cases h
theorem want_left {ys : List V} {c x z : Int} (hx : x ∈ wantL ys c) (hc : c < ys.length) (h2 : x ≤ z) (h3 : z < c) : z ∈ wantL ys c := by
  obtain ⟨w, e⟩ := want_cases hx
  rw [e] at hx ⊢
  exact needs_left hx hc h2 h3
theorem want_right {ys : List V} {c x z : Int} (hx : x ∈ wantL ys c) (hc : 0 ≤ c) (h2 : z ≤ x) (h3 : c < z) : z ∈ wantL ys c := by
  obtain ⟨w, e⟩ := want_cases hx
  rw [e] at hx ⊢
  exact needs_right hx hc h2 h3
theorem want_side {ys : List V} {c x z : Int} (hx : x ∈ wantL ys c) (h1 : x < c) (hz : z ∈ wantL ys c) : z < c := by
  obtain ⟨w, e⟩ := want_cases hx
  rw [e] at hx hz
  exact needs_side hx h1 hz
theorem want_self {ys : List V} {c : Int} (h : c ∈ wantL ys c) : False := by
  obtain ⟨w, e⟩ := want_cases h
  rw [e] at h
  exact needs_self h
theorem want_lt (ys : List V) (c : Int) : (wantL ys c).Pairwise (· < ·) := by
  unfold wantL
  cases ys.getD c.toNat .non with
  | int w => exact needs_lt _ _ _
  | _ => exact List.Pairwise.nil
/-- the least of what there is -/
theorem least_of {p : Nat → Prop} : ∀ k, p k → ∃ m, p m ∧ ∀ j, j < m → ¬ p j := by
  intro k
  induction k using Nat.strongRecOn with
  | ind k ih =>
    intro hk
    by_cases h : ∃ j, j < k ∧ p j
    · obtain ⟨j, hj, pj⟩ := h
      exact ih j hj pj
    · exact ⟨k, hk, fun j hj pj => h ⟨j, hj, pj⟩⟩
/-- no object needs an empty cell, no two need one another -/
structure Poss (ys : List V) : Prop where
  gap : ∀ c ∈ fullL ys, ∀ e ∈ wantL ys c, e ∈ fullL ys
  both : ∀ c ∈ fullL ys, ∀ e ∈ wantL ys c, c ∉ wantL ys e
/-- what can come next -/
def readyB (ys : List V) (came : List Int) (c : Int) : Bool := decide (c ∉ came) && (wantL ys c).all fun e => decide (e ∈ came)
def readyL (ys : List V) (came : List Int) : List Int := (fullL ys).filter (readyB ys came)
theorem ready_iff {ys : List V} {came : List Int} {c : Int} : c ∈ readyL ys came ↔ c ∈ fullL ys ∧ c ∉ came ∧ ∀ e ∈ wantL ys c, e ∈ came := by
  unfold readyL readyB
  rw [List.mem_filter, Bool.and_eq_true, decide_eq_true_eq, List.all_eq_true]
  simp
/-- as long as some are left, one of them is ready -/
theorem ready_some {ys : List V} (hp : Poss ys) {came : List Int} (h : ∃ c ∈ fullL ys, c ∉ came) : readyL ys came ≠ [] := by
  intro h0
  have hno : ∀ c, c ∈ fullL ys → c ∉ came → ∃ e ∈ wantL ys c, e ∉ came := fun c hc hn => by
    false_or_by_contra
    rename_i hx
    have : c ∈ readyL ys came := ready_iff.mpr ⟨hc, hn, fun e he => by
      false_or_by_contra
      rename_i he2
      exact hx ⟨e, he, he2⟩⟩
    rw [h0] at this
    cases this
  have hnat : ∀ {c : Int}, c ∈ fullL ys → ∃ i : Nat, c = (i : Int) ∧ i < ys.length := fun hc => by
    obtain ⟨i, e, hi, _⟩ := fullL_mem.mp hc
    exact ⟨i, e, hi⟩
  -- none of the rest needs one of the rest to its right
  have hr : ∀ k : Nat, ∀ c : Nat, ys.length - c = k → (c : Int) ∈ fullL ys → (c : Int) ∉ came → ∀ x : Nat, (x : Int) ∈ wantL ys c → (x : Int) ∉ came → c < x → False := by
    intro k
    induction k using Nat.strongRecOn with
    | ind k ih =>
      intro c hk hc hcn x hx hxn hcx
      obtain ⟨d, ⟨hd1, hd2, hd3⟩, hd4⟩ := least_of (p := fun d => c < d ∧ (d : Int) ∈ fullL ys ∧ (d : Int) ∉ came) x ⟨hcx, hp.gap _ hc _ hx, hxn⟩
      have hdx : d ≤ x := by
        rcases Nat.lt_or_ge x d with h | h
        · exact absurd ⟨hcx, hp.gap _ hc _ hx, hxn⟩ (hd4 x h)
        · exact h
      have hcd : (d : Int) ∈ wantL ys c := want_right hx (by omega) (by omega) (by omega)
      obtain ⟨e, he, hen⟩ := hno d hd2 hd3
      obtain ⟨e', rfl, hel⟩ := hnat (hp.gap _ hd2 _ he)
      obtain ⟨d', ed, hdl⟩ := hnat hd2
      rcases Nat.lt_trichotomy d e' with h | h | h
      · exact ih (ys.length - d) (by omega) d rfl hd2 hd3 e' he hen h
      · subst h
        exact want_self he
      · have hec : e' ≤ c := by
          rcases Nat.lt_or_ge c e' with h2 | h2
          · exact absurd ⟨h2, hp.gap _ hd2 _ he, hen⟩ (hd4 e' h)
          · exact h2
        exact hp.both _ hc _ hcd (want_left he (by omega) (by omega) (by omega))
  obtain ⟨c, hc, hcn⟩ := h
  obtain ⟨c', rfl, _⟩ := hnat hc
  obtain ⟨m, ⟨hm1, hm2⟩, hm3⟩ := least_of (p := fun d => (d : Int) ∈ fullL ys ∧ (d : Int) ∉ came) c' ⟨hc, hcn⟩
  obtain ⟨e, he, hen⟩ := hno m hm1 hm2
  obtain ⟨e', rfl, _⟩ := hnat (hp.gap _ hm1 _ he)
  rcases Nat.lt_trichotomy m e' with h | h | h
  · exact hr _ m rfl hm1 hm2 e' he hen h
  · subst h
    exact want_self he
  · exact hm3 e' h ⟨hp.gap _ hm1 _ he, hen⟩
/-- all beginnings of k cells -/
def fitN (ys : List V) : Nat → List (List Int)
  | 0 => [[]]
  | k + 1 => (fitN ys k).flatMap fun s => (readyL ys s).map fun c => s ++ [c]
abbrev fitL (ys : List V) : List (List Int) := fitN ys (fullL ys).length
theorem fit_mem {ys : List V} : ∀ {k : Nat} {o : List Int}, o ∈ fitN ys k → o.length = k ∧ o.Nodup ∧ (∀ c ∈ o, c ∈ fullL ys) ∧ agreesL ys o = true
  | 0, o, h => by
    rw [fitN, List.mem_singleton] at h
    subst h
    exact ⟨rfl, List.nodup_nil, (fun c h => nomatch h), rfl⟩
  | k + 1, o, h => by
    rw [fitN, List.mem_flatMap] at h
    obtain ⟨s, hs, ho⟩ := h
    obtain ⟨c, hc, rfl⟩ := List.mem_map.mp ho
    obtain ⟨h1, h2, h3, h4⟩ := fit_mem hs
    obtain ⟨r1, r2, r3⟩ := ready_iff.mp hc
    refine ⟨by rw [List.length_append, h1]; rfl, ?_, ?_, ?_⟩
    · rw [List.nodup_append]
      refine ⟨h2, List.nodup_cons.mpr ⟨List.not_mem_nil, List.nodup_nil⟩, fun a ha b hb => ?_⟩
      rw [List.mem_singleton] at hb
      subst hb
      intro e
      subst e
      exact r2 ha
    · intro x hx
      rcases List.mem_append.mp hx with hx | hx
      · exact h3 x hx
      · rw [List.mem_singleton] at hx
        subst hx
        exact r1
    · exact agrees_snoc.mpr ⟨h4, r3⟩
where
  agrees_snoc {ys : List V} {s : List Int} {c : Int} : agreesL ys (s ++ [c]) = true ↔ agreesL ys s = true ∧ ∀ e ∈ wantL ys c, e ∈ s := by
    unfold agreesL agreesN
    rw [List.length_append, List.length_singleton, List.range_succ, List.map_append, List.all_append, Bool.and_eq_true]
    have e1 : ((List.range s.length).map (agB ys (s ++ [c]))) = ((List.range s.length).map (agB ys s)) := by
      refine List.map_congr_left fun j hj => ?_
      have hj' := List.mem_range.mp hj
      unfold agB
      rw [List.take_append_of_le_length (by omega), List.getD_eq_getElem?_getD, List.getD_eq_getElem?_getD, List.getElem?_append_left hj']
    rw [e1]
    refine and_congr_right fun _ => ?_
    have e2 : agB ys (s ++ [c]) s.length = (wantL ys c).all fun e => decide (e ∈ s) := by
      unfold agB
      rw [List.take_left, List.getD_eq_getElem?_getD, List.getElem?_concat_length]
      rfl
    simp only [List.map_cons, List.map_nil, List.all_cons, List.all_nil, Bool.and_true, id, e2, List.all_eq_true, decide_eq_true_eq]
/-- an order of all taken cells that agrees: there is no reason -/
theorem agree_poss {ys : List V} {o : List Int} (h3 : ∀ c ∈ fullL ys, c ∈ o) (hs : ∀ c ∈ o, c ∈ fullL ys) (h2 : o.Nodup) (ha : agreesL ys o = true) : Poss ys := by
  unfold agreesL agreesN at ha
  rw [List.all_map, List.all_eq_true] at ha
  have hpre : ∀ i c, o[i]? = some c → ∀ e ∈ wantL ys c, e ∈ o.take i := fun i c hi e he => by
    have hl : i < o.length := (List.getElem?_eq_some_iff.mp hi).1
    have := ha i (List.mem_range.mpr hl)
    simp only [Function.comp, id] at this
    unfold agB at this
    rw [List.all_eq_true, List.getD_eq_getElem?_getD, hi] at this
    have := this e he
    simpa using this
  refine ⟨fun c hc e he => ?_, fun c hc e he hce => ?_⟩
  · obtain ⟨i, hi⟩ := List.getElem?_of_mem (h3 c hc)
    exact hs e (List.mem_of_mem_take (hpre i c hi e he))
  · obtain ⟨i, hi⟩ := List.getElem?_of_mem (h3 c hc)
    have h1 := hpre i c hi e he
    obtain ⟨j, hj⟩ := List.getElem?_of_mem h1
    rw [List.getElem?_take] at hj
    split at hj
    · rename_i hji
      have h4 := hpre j e hj c hce
      obtain ⟨k, hk⟩ := List.getElem?_of_mem h4
      rw [List.getElem?_take] at hk
      split at hk
      · rename_i hkj
        have hil : i < o.length := (List.getElem?_eq_some_iff.mp hi).1
        have hkl : k < o.length := (List.getElem?_eq_some_iff.mp hk).1
        have := (List.getElem?_inj hkl h2).mp (hk.trans hi.symm)
        omega
      · cases hk
    · cases hj
theorem sub_len : ∀ {o l : List Int}, o.Nodup → (∀ c ∈ o, c ∈ l) → o.length ≤ l.length
  | [], _, _, _ => Nat.zero_le _
  | a :: r, l, hn, hs => by
    have hn' := List.nodup_cons.mp hn
    have ha : a ∈ l := hs a (List.mem_cons_self ..)
    have h := sub_len (o := r) (l := l.erase a) hn'.2 fun c hc => (List.mem_erase_of_ne (by intro e; subst e; exact hn'.1 hc)).mpr (hs c (List.mem_cons_of_mem _ hc))
    rw [List.length_erase_of_mem ha] at h
    have : 0 < l.length := List.length_pos_of_mem ha
    rw [List.length_cons]
    omega
theorem len_full {ys : List V} {o : List Int} (hl : o.length = (fullL ys).length) (hn : o.Nodup) (hs : ∀ c ∈ o, c ∈ fullL ys) : ∀ c ∈ fullL ys, c ∈ o := by
  intro c hc
  false_or_by_contra
  rename_i h
  have h1 := sub_len (o := c :: o) (l := fullL ys) (List.nodup_cons.mpr ⟨h, hn⟩) fun x hx => by
    rcases List.mem_cons.mp hx with rfl | hx
    · exact hc
    · exact hs x hx
  rw [List.length_cons] at h1
  omega
/-- the greedy order -/
def greedy (ys : List V) : Nat → List Int
  | 0 => []
  | k + 1 => greedy ys k ++ [(readyL ys (greedy ys k)).headD 0]
theorem left_some {ys : List V} {o : List Int} {k : Nat} (ho : o ∈ fitN ys k) (hk : k < (fullL ys).length) : ∃ c ∈ fullL ys, c ∉ o := by
  false_or_by_contra
  rename_i h
  obtain ⟨h1, h2, h3, _⟩ := fit_mem ho
  have := sub_len (o := fullL ys) (l := o) (fullN_nd ys) fun c hc => by
    false_or_by_contra
    rename_i hc2
    exact h ⟨c, hc, hc2⟩
  omega
where
  fullN_nd (ys : List V) : (fullL ys).Nodup := by
    unfold fullL fullN
    refine List.Pairwise.map _ (fun a b h => ?_) (List.Pairwise.filter _ (List.nodup_range (n := ys.length)))
    omega
theorem fit_head {ys : List V} (hp : Poss ys) : ∀ {k : Nat}, k ≤ (fullL ys).length → ∃ r, fitN ys k = greedy ys k :: r
  | 0, _ => ⟨[], rfl⟩
  | k + 1, hk => by
    obtain ⟨r, hr⟩ := fit_head hp (k := k) (by omega)
    have hm : greedy ys k ∈ fitN ys k := by rw [hr]; exact List.mem_cons_self ..
    have hn := ready_some hp (left_some hm (by omega))
    cases hc : readyL ys (greedy ys k) with
    | nil => exact absurd hc hn
    | cons c cs =>
      refine ⟨cs.map (fun c => greedy ys k ++ [c]) ++ r.flatMap fun s => (readyL ys s).map fun c => s ++ [c], ?_⟩
      rw [fitN, hr, List.flatMap_cons, hc, greedy, hc]
      rfl
theorem fit_poss {ys : List V} (h : fitL ys ≠ []) : Poss ys := by
  obtain ⟨o, ho⟩ := List.exists_mem_of_ne_nil _ h
  obtain ⟨h1, h2, h3, h4⟩ := fit_mem ho
  exact agree_poss (len_full h1 h2 h3) h3 h2 h4
/-- all that agree are there -/
theorem fit_all {ys : List V} {o : List Int} (hn : o.Nodup) (hs : ∀ c ∈ o, c ∈ fullL ys) (ha : agreesL ys o = true) : o ∈ fitN ys o.length := by
  induction hk : o.length generalizing o with
  | zero =>
    rw [List.length_eq_zero_iff.mp hk]
    exact List.mem_singleton.mpr rfl
  | succ k ih =>
    have hne : o ≠ [] := by
      intro e
      rw [e] at hk
      cases hk
    obtain ⟨s, c, rfl⟩ : ∃ s c, o = s ++ [c] := ⟨o.dropLast, o.getLast hne, (List.dropLast_concat_getLast hne).symm⟩
    obtain ⟨a1, a2⟩ := fit_mem.agrees_snoc.mp ha
    rw [List.nodup_append] at hn
    obtain ⟨n1, _, n3⟩ := hn
    rw [List.length_append, List.length_singleton] at hk
    have hs1 : ∀ x ∈ s, x ∈ fullL ys := fun x hx => hs x (List.mem_append_left _ hx)
    have hkk : s.length = k := by omega
    have := ih n1 hs1 a1 hkk
    rw [fitN, List.mem_flatMap]
    refine ⟨s, this, List.mem_map.mpr ⟨c, ready_iff.mpr ⟨hs c (by simp), fun h => n3 c h c (List.mem_singleton.mpr rfl) rfl, a2⟩, rfl⟩⟩
/-! the reason -/
def gapO (ys : List V) : Option (Int × Int) := (fullL ys).findSome? fun c => ((wantL ys c).find? fun e => isN (ys.getD e.toNat .non)).map fun e => (c, e)
def mutB (ys : List V) (c e : Int) : Bool := decide (c < e) && (decide (c ∈ wantL ys e) && decide (e ∈ wantL ys c))
def bothO (ys : List V) : Option (Int × Int) := (fullL ys).findSome? fun c => ((wantL ys c).find? fun e => mutB ys c e).map fun e => (c, e)
def bothS (ys : List V) : Option (Int × Int) := (fullL ys).findSome? fun c => ((fullL ys).find? fun e => mutB ys c e).map fun e => (c, e)
theorem find_same {a b : List Int} {p : Int → Bool} (ha : a.Pairwise (· < ·)) (hb : b.Pairwise (· < ·)) (h : ∀ x, p x = true → (x ∈ a ↔ x ∈ b)) : a.find? p = b.find? p := by
  rw [← List.head?_filter, ← List.head?_filter]
  congr 1
  have nd : ∀ {l : List Int}, l.Pairwise (· < ·) → (l.filter p).Nodup := fun hl => (List.Pairwise.filter _ hl).imp fun h e => by omega
  have hp : (a.filter p).Perm (b.filter p) := (List.perm_ext_iff_of_nodup (nd ha) (nd hb)).mpr fun x => by
    rw [List.mem_filter, List.mem_filter]
    exact and_congr_left fun hx => h x hx
  exact List.Perm.eq_of_pairwise (le := (· < ·)) (fun x y _ _ h1 h2 => by omega) (List.Pairwise.filter _ ha) (List.Pairwise.filter _ hb) hp
theorem gap_none {ys : List V} : gapO ys = none ↔ ∀ c ∈ fullL ys, ∀ e ∈ wantL ys c, e ∈ fullL ys := by
  unfold gapO
  rw [List.findSome?_eq_none_iff]
  refine forall_congr' fun c => forall_congr' fun hc => ?_
  rw [Option.map_eq_none_iff, List.find?_eq_none]
  refine forall_congr' fun e => forall_congr' fun he => ?_
  obtain ⟨j, rfl, hj⟩ := wantL_lt he
  rw [Int.toNat_natCast]
  constructor
  · intro h
    exact fullL_mem.mpr ⟨j, rfl, hj, by simpa using h⟩
  · intro h
    obtain ⟨i, e, _, h2⟩ := fullL_mem.mp h
    have : j = i := by omega
    subst this
    rw [h2]
    decide
theorem fullA_lt (ys : List V) : (fullL ys).Pairwise (· < ·) := by
  unfold fullL fullN
  rw [List.pairwise_map]
  exact (List.pairwise_lt_range.filter _).imp fun h => by omega
theorem both_same {ys : List V} (hg : gapO ys = none) : bothO ys = bothS ys := by
  unfold bothO bothS
  rw [gap_none] at hg
  suffices h : ∀ (l : List Int), (∀ c ∈ l, c ∈ fullL ys) → (l.findSome? fun c => ((wantL ys c).find? fun e => mutB ys c e).map fun e => (c, e)) = (l.findSome? fun c => ((fullL ys).find? fun e => mutB ys c e).map fun e => (c, e)) from h _ fun c hc => hc
  intro l
  induction l with
  | nil => intro _; rfl
  | cons c r ih =>
    intro hl
    rw [List.findSome?_cons, List.findSome?_cons, ih fun x hx => hl x (List.mem_cons_of_mem _ hx)]
    have e : (wantL ys c).find? (fun e => mutB ys c e) = (fullL ys).find? fun e => mutB ys c e := by
      refine find_same (want_lt ys c) (fullA_lt ys) fun x hx => ?_
      unfold mutB at hx
      rw [Bool.and_eq_true, Bool.and_eq_true, decide_eq_true_eq, decide_eq_true_eq, decide_eq_true_eq] at hx
      exact ⟨fun h => hg c (hl c (List.mem_cons_self ..)) x h, fun _ => hx.2.2⟩
    rw [e]
theorem poss_iff {ys : List V} : Poss ys ↔ gapO ys = none ∧ bothO ys = none := by
  constructor
  · intro h
    have hg := gap_none.mpr h.gap
    refine ⟨hg, ?_⟩
    unfold bothO
    rw [List.findSome?_eq_none_iff]
    intro c hc
    rw [Option.map_eq_none_iff, List.find?_eq_none]
    intro e he hm
    unfold mutB at hm
    rw [Bool.and_eq_true, Bool.and_eq_true, decide_eq_true_eq, decide_eq_true_eq, decide_eq_true_eq] at hm
    exact h.both c hc e he hm.2.1
  · rintro ⟨hg, hb⟩
    have hg' := gap_none.mp hg
    unfold bothO at hb
    rw [List.findSome?_eq_none_iff] at hb
    refine ⟨hg', fun c hc e he hce => ?_⟩
    have key : ∀ c e, c ∈ fullL ys → e ∈ wantL ys c → c ∈ wantL ys e → c < e → False := fun c e hc he hce hlt => by
      have := hb c hc
      rw [Option.map_eq_none_iff, List.find?_eq_none] at this
      refine this e he ?_
      unfold mutB
      rw [Bool.and_eq_true, Bool.and_eq_true, decide_eq_true_eq, decide_eq_true_eq, decide_eq_true_eq]
      exact ⟨hlt, hce, he⟩
    rcases Int.lt_trichotomy c e with h | h | h
    · exact key c e hc he hce h
    · subst h
      exact want_self he
    · exact key e c (hg' c hc e he) hce he h
theorem fit_bound {ys : List V} : ∀ k, (fitN ys k).length ≤ (fullL ys).length ^ k
  | 0 => Nat.le_refl _
  | k + 1 => by
    rw [fitN, List.length_flatMap, Nat.pow_succ]
    have h := fit_bound (ys := ys) k
    have h2 : ∀ l : List (List Int), ((l.map fun s => ((readyL ys s).map fun c => s ++ [c]).length)).sum ≤ l.length * (fullL ys).length := by
      intro l
      induction l with
      | nil => exact Nat.zero_le _
      | cons s r ih =>
        rw [List.map_cons, List.sum_cons, List.length_cons, Nat.succ_mul, List.length_map]
        have : (readyL ys s).length ≤ (fullL ys).length := List.length_filter_le _ _
        omega
    exact Nat.le_trans (h2 _) (Nat.mul_le_mul_right _ h)
def goOn (ys : List V) (C cs : List Int) : Nat → List Int
  | 0 => cs
  | k + 1 => goOn ys C cs k ++ [((readyL ys (goOn ys C cs k)).filter fun c => decide (c ∈ C)).headD 0]
theorem goOn_len (ys : List V) (C cs : List Int) : ∀ k, (goOn ys C cs k).length = cs.length + k
  | 0 => rfl
  | k + 1 => by
    rw [goOn, List.length_append, goOn_len ys C cs k]
    rfl
theorem goOn_full (ys : List V) : ∀ k, goOn ys (fullL ys) [] k = greedy ys k
  | 0 => rfl
  | k + 1 => by
    rw [goOn, greedy, goOn_full ys k]
    congr 2
    rw [List.filter_eq_self.mpr]
    intro c hc
    exact decide_eq_true (List.mem_filter.mp hc).1
end NS

/-! ### lambdas with parameters: made, called, as the key of min -/
namespace NS
open PySem PySem.Spec PyProof.Rows L2 LamX NdefX
/-- the object at f is the lambda F with the body b -/
def LamO (f : Addr) (F : NF) (b : Expr) : HO := .ext fun h => ∃ (od : Option Addr) (sl : Array (Option Value)) (pm ctv : Value), h.get? f = some (⟨.type "function", od, .func (PySem.W.kla_fn F.name F.qual F.params b F.scope F.cl pm (.ref F.c) ctv), sl⟩ : Obj)
theorem lamO_ne {f : Addr} {F : NF} {b : Expr} (ps : Array Value) : LamO f F b ≠ .tbl ps := fun z => by
  unfold LamO at z
  cases z
theorem lamO_at {P : Program} {w : World} {H : Hp} {h : Heap} {f : Addr} {F : NF} {b : Expr} (hok : HOk P w H h) (e : H f = some (LamO f F b)) : ∃ (od : Option Addr) (sl : Array (Option Value)) (pm ctv : Value), h.get? f = some (⟨.type "function", od, .func (PySem.W.kla_fn F.name F.qual F.params b F.scope F.cl pm (.ref F.c) ctv), sl⟩ : Obj) := (hok f _ e).1
/-- a call of a lambda: its body, run in a frame of its own -/
theorem lam_run {CX : CXT} {P : Program} {w : World} {K : PySem.W.Frag} {mg : Str → Option Value} {base : Heap} {N ps fr : List Str} {F : NF} {b : Expr} {f : Addr} {k : Nat} {A : Around} {outer : List Env} {s : Shared} {H : Hp} {us : List Value} {vs : List V} {ws : List (Option V)} {Q : VK} {E : XK}
    (S : NScope N ps fr F.scope) (bnd : ∀ (pm ctv : Value) (us : List Value), us.length = ps.length → bindArgs (PySem.W.kla_fn F.name F.qual F.params b F.scope F.cl pm (.ref F.c) ctv) ⟨us, []⟩ = pure (ps.zip us)) (lens : vs.length = ps.length)
    (room : Room (k + 1) A) (en : Env0 P w K mg base A outer s H) (isL : H f = some (LamO f F b)) (isC : H F.c = some (CodeO F.c F.qual)) (C : CellsAt F.cl fr ws s.heap H) (r : Vals vs us)
    (body : Room k (A.deeper (envF F f s.heap.objs.size)) → ∃ t, PE (ncx CX P w K mg base N F f A outer s H E) b t ∧ t (startF N vs ws) H Q) :
    codeAny (model P w) A (.call (.ref f) ⟨us, []⟩) (CR CX outer P w H s Q E) s := by
  have lim : s.heap.NoLimit := en.mod.nolimit.keeps fun c o z => (en.bs c o z).1
  obtain ⟨od, sl, pm, ctv, ho⟩ := lamO_at en.hok isL
  refine PySem.W.kla_callFunE room.depth ho rfl S.co S.gen rfl (codeO_at en.hok isC) ?_
  rw [bnd pm ctv us (r.length.symm.trans lens)]
  refine wpAny_pure (wpAny_newFunctionEnv S.nocell (fun y hy => S.par y.1 (List.of_mem_zip hy).1) (fun h₁ hns hsb => ⟨lim.fresh _ hsb, ?_⟩) S.kind)
  have stays : ∀ c o, s.heap.get? c = some o → h₁.get? c = some o := fun c o z => hsb.extBut c o (Nat.ne_of_lt (Heap.lt_size z)) (Heap.get?_push_of_some _ z)
  obtain ⟨t, der, rd⟩ := body (room.deeper _)
  have J : Inv (ncx CX P w K mg base N F f A outer s H E) [] (startF N vs ws) H { s with heap := h₁, toks := s.toks + (ps.zip us).length } := inv_startN S room.hd en lens r C hns stays
  show codeAny _ _ (.expr b (envF F f s.heap.objs.size)) _ _
  refine PySem.W.kla_codeExpr (wpAny_mono (der.run [] _ (startF N vs ws) H Q J rd) (fun v s' out => ?_) fun ex s' out => out)
  obtain ⟨v', H', J', rv, q⟩ := out
  exact ⟨v', H', J'.os, J'.bare, J'.base, J'.hok, rv, q⟩
/-- the tables of the code objects that make lambdas: nm tells a place's name -/
def TabsOk (Ps : List Addr) (nm : Nat → Nat → Str) (H : Hp) : Prop := ∀ P ∈ Ps, TabN H P nm
theorem TabsOk.ext {Ps : List Addr} {nm : Nat → Nat → Str} {H H' : Hp} (t : TabsOk Ps nm H) (e : Same H H') : TabsOk Ps nm H' := fun P hP => (t P hP).ext e
section
variable {X : Cx} {pins : List (Addr × Obj)} {σ : L2.St} {H : Hp} {s : Shared}
theorem inv_lam {F : NF} {b : Expr} {o : Obj} {t' : Nat} {pm ctv : Value} (I : L2.Inv X pins σ H s) (ho : o = { cls := .type "function", data := .func (PySem.W.kla_fn F.name F.qual F.params b F.scope F.cl pm (.ref F.c) ctv) }) :
    L2.Inv X pins σ (upd H s.heap.objs.size (LamO s.heap.objs.size F b)) { s with heap := s.heap.push o, toks := t' } := by
  subst ho
  refine I.laid (a := s.heap.objs.size) (fun c u z => Heap.get?_push_of_some _ z) (Nat.le_refl _) ?_
  have z : (s.heap.push ({ cls := .type "function", data := .func (PySem.W.kla_fn F.name F.qual F.params b F.scope F.cl pm (.ref F.c) ctv) } : Obj)).get? s.heap.objs.size = some ({ cls := .type "function", data := .func (PySem.W.kla_fn F.name F.qual F.params b F.scope F.cl pm (.ref F.c) ctv) } : Obj) := Heap.get?_push_size _ rfl
  exact ⟨⟨_, _, pm, ctv, z⟩, ⟨_, z⟩, fun h1 h2 ⟨od, sl, p, t, z⟩ st => ⟨od, sl, p, t, st _ z⟩⟩
/-- a lambda is made -/
theorem lam_made {Ps : List Addr} {nm : Nat → Nat → Str} {c P : Addr} {params : Arguments} {b : Expr} {scope : Scope} {pos : Pos} {E : Value → Shared → Prop} {Q : Value → Shared → Prop} (I : L2.Inv X pins σ H s) (TB : TabB X.base X.mg c P) (hcode : X.env.code = .ref c)
    (hm : P ∈ Ps) (hn : nm pos.line pos.col = X.env.qual ++ "<lambda>") (hT : TabsOk Ps nm H) (hdef : defaultsOf params X.env = ([], [])) (hfree : ∀ y ∈ scope.names, y.2 = .free → ∃ c, X.env.cells.lookup y.1 = some c)
    (h : ∀ (f c' : Addr) (H1 : Hp) (s' : Shared), L2.Inv X pins σ H1 s' → ExtN H H1 → TabsOk Ps nm H1 → H f = none → H1 f = some (LamO f ⟨"<lambda>", X.env.qual ++ "<lambda>", params, [], scope, cloFrom X.env.cells scope.names [], c'⟩ b) → H1 c' = some (CodeO c' (X.env.qual ++ "<lambda>")) → Q (.ref f) s') :
    wpAny (model X.prog X.w) X.A (eval (.Lambda params b scope pos) X.env) Q E s := by
  refine PySem.W.kla_eval hdef ?_
  obtain ⟨ps, atP, triples, among⟩ := hT P hm
  have bP : s.heap.BuiltinsAt X.mg P := TB.bm.keeps I.bk
  have objP : s.heap.get? P = some { cls := .none, data := .fields ps } := I.hok P _ atP
  cases hc : codeAmong pos ps.toList with
  | none =>
    refine PySem.W.kla_makeFunction (mg := X.mg) (c := c) (P := P) (ps := ps) (closure_ok hfree) I.ok.glob (I.mod.glob.keeps I.bk) hcode (TB.code.keeps I.bk) objP triples hc TB.gP bP fun c' ctv h' tk hx hge hlt hrec htb => ?_
    obtain ⟨c2, oc, vs, t, e2, hoc, hd, hv⟩ := hrec
    cases e2
    have freeC : H c' = none := I.hok.fresh hge
    have J1 := inv_table (t' := tk) (more := #[rawInt pos.line, rawInt pos.col, .ref c']) (h' := h') I atP (fun b o hb e => hx b o hb e) htb hge ⟨oc, vs, t, hoc, hd, hv⟩
    have gr : ExtN H (upd (upd H P (.tbl (ps ++ #[rawInt pos.line, rawInt pos.col, .ref c']))) c' (CodeO c' (X.env.qual ++ "<lambda>"))) := fun a o z nt => by
      have ne : a ≠ P := fun y => by
        subst y
        exact nt ps (Option.some.inj (z.symm.trans atP))
      rw [upd_ne (ne_of_none z freeC), upd_ne ne]
      exact z
    have asL : (ps ++ #[rawInt pos.line, rawInt pos.col, .ref c']).toList = ps.toList ++ [rawInt pos.line, rawInt pos.col, .ref c'] := by simp
    have T1 : TabsOk Ps nm (upd (upd H P (.tbl (ps ++ #[rawInt pos.line, rawInt pos.col, .ref c']))) c' (CodeO c' (X.env.qual ++ "<lambda>"))) := fun p hp => by
      by_cases isP : p = P
      · subst isP
        refine ⟨_, by rw [upd_ne (ne_of_none atP freeC), upd_same], by rw [asL]; exact PySem.TriplesOk_snoc _ _ _ _ triples, fun p' cv hcv => ?_⟩
        rw [asL] at hcv
        rcases among_app2 _ triples hcv with z | ⟨z, z1, z2⟩
        · obtain ⟨c0, a1, a2⟩ := among p' cv z
          exact ⟨c0, a1, gr _ _ a2 codeO_ne⟩
        · exact ⟨c', z, by rw [← z1, ← z2, hn]; exact upd_same⟩
      · obtain ⟨qs, a1, a2, a3⟩ := hT p hp
        refine ⟨qs, by rw [upd_ne (ne_of_none a1 freeC), upd_ne isP]; exact a1, a2, fun p' cv hcv => ?_⟩
        obtain ⟨c0, b1, b2⟩ := a3 p' cv hcv
        exact ⟨c0, b1, gr _ _ b2 codeO_ne⟩
    have freeF := J1.hok.fresh (Nat.le_refl _)
    have J2 := inv_lam (F := ⟨"<lambda>", X.env.qual ++ "<lambda>", params, [], scope, cloFrom X.env.cells scope.names [], c'⟩) (b := b) (t' := tk) (pm := (X.mg "__name__").getD .none) (ctv := ctv) J1 rfl
    refine h h'.objs.size c' _ _ J2 (fun a o z nt => ?_) (T1.ext (same_upd freeF)) (I.hok.fresh (Nat.le_trans hge (Nat.le_of_lt hlt))) upd_same ?_
    · exact same_upd freeF _ _ (gr a o z nt)
    · exact same_upd freeF _ _ upd_same
  | some cv =>
    obtain ⟨c', e, isC⟩ := among pos cv hc
    subst e
    rw [hn] at isC
    refine PySem.W.kla_makeFunctionHit (mg := X.mg) (c := c) (P := P) (ps := ps) (closure_ok hfree) I.ok.glob (I.mod.glob.keeps I.bk) hcode (TB.code.keeps I.bk) objP triples hc bP fun ctv h' tk hx hsz => ?_
    have J1 : L2.Inv X pins σ H { s with heap := h', toks := tk } := I.kept hx
    have freeF : H h'.objs.size = none := J1.hok.fresh (Nat.le_refl _)
    have J2 := inv_lam (F := ⟨"<lambda>", X.env.qual ++ "<lambda>", params, [], scope, cloFrom X.env.cells scope.names [], c'⟩) (b := b) (t' := tk) (pm := (X.mg "__name__").getD .none) (ctv := ctv) J1 rfl
    exact h h'.objs.size c' _ _ J2 (ExtN.of (same_upd freeF)) (hT.ext (same_upd freeF)) freeF upd_same (same_upd freeF _ _ isC)
end
end NS

/-! ### min(xs, key=lambda ..): keys that are tuples of ints -/
namespace NS
open PySem PySem.Spec PyProof.Rows L2 LamX NdefX
section
variable {X : Cx} {pins : List (Addr × Obj)} {σ : L2.St}
theorem fp_later {fp : List Addr} {h : Heap} {H H' : Hp} {s' : Shared} (I : L2.Inv X (pins ++ pinsAt fp h) σ H' s') {b : Addr} {o : Obj} (hb : b ∈ fp) (e : h.get? b = some o) (f : FpOk X pins H b) : s'.heap.get? b = some o ∧ FpOk X pins H' b := by
  have p := I.pin (b, o) (List.mem_append_right _ (List.mem_append_right _ (mem_pinsAt hb e)))
  exact ⟨p.1, p.2.1, f.2⟩
/-- what a call of the key gives -/
def KeyTurn (X : Cx) (σ : L2.St) (H2 : Hp) (f : Addr) (xs : List V) (key : Nat → List Int) : Prop :=
  ∀ (i : Nat) (x : V) (u : Value) (H' : Hp) (s' : Shared) (pins' : List (Addr × Obj)), xs[i]? = some x → RelV x u → Same H2 H' → L2.Inv X pins' σ H' s' →
    wpAny (model X.prog X.w) X.A.in1 (call (.ref f) [u]) (EP X pins' σ fun v H'' => Same H' H'' ∧ ∃ p, v = .ref p ∧ SqT X.K H'' p ((key i).map V.int)) (fun _ _ => False) s'
theorem minK_loop {H2 : Hp} {f l S I : Addr} {xs : List V} {key : Nat → List Int} {R : Result → Shared → Prop} (hh : X.A.handled = none) (hu : X.A.units + 1 < cLine) (hl : SqL X.K H2 l xs) (hlI : l ≠ I) (hSI : S ≠ I) (turn : KeyTurn X σ H2 f xs key)
    (hR : ∀ (i : Nat) (x : V) (u : Value) (H' : Hp) (s' : Shared), xs[i]? = some x → RelV x u → (∀ j, j < xs.length → HT.lexLt (key j) (key i) = false) → Same H2 H' → L2.Inv X pins σ H' s' → R (.ok (.ret u)) s') :
    ∀ (r j i : Nat) (Hj : Hp) (sj : Shared) (x : V) (vb : Value) (kb : Addr) (c : Nat), xs.length - (j + 1) = r → j + 1 ≤ xs.length → Same H2 Hj → L2.Inv X pins σ Hj sj → FpOk X pins Hj S → FpOk X pins Hj I →
      sj.heap.get? S = some (seqObj "list" #[vb, .ref kb] c) → sj.heap.IsListIter I l (j + 1) → xs[i]? = some x → RelV x vb → SqT X.K Hj kb ((key i).map V.int) → i ≤ j → (∀ j', j' ≤ j → HT.lexLt (key j') (key i) = false) →
      codeAny (model X.prog X.w) X.A (.builtin "min.loop" ⟨[.ref I, .ref f, .ref S], []⟩) R sj := by
  have word : (toString "min" ++ toString ".loop" : String) = "min.loop" := by decide
  intro r
  induction r with
  | zero =>
    intro j i Hj sj x vb kb c hr hj sm J fS fI gS hit hx rb hk hij best
    obtain ⟨its, rv, pl, _⟩ := J.list (sm.seq hl)
    have W := Walks.list (prog := X.prog) (w := X.w) (A := X.A.in1) hh I l hlI its.toArray
    have size : its.toArray.size = xs.length := by rw [List.size_toArray, ← rv.length]
    refine codeAny_builtin PySem.F.entry_min_loop ?_
    rw [Around.under_plainId PySem.F.plain_min_loop _]
    show wpAny _ X.A.in1 (seqItems? (.ref S) >>= _) _ _ _
    refine wpAny_bind (wpAny_seqItems gS rfl ?_)
    show wpAny _ X.A.in1 (tryCatch (pyNext (.ref I)) _ >>= _) _ _ _
    refine wpAny_bind (wpAny_tryCatch (W.done _ _ _ ⟨by rw [size, ← show j + 1 = xs.length by omega]; exact hit, pl.isList⟩ fun h' tk' hk' => ?_))
    have gS' := hk' S _ (by simpa using hSI) gS
    have J1 : L2.Inv X pins σ Hj { sj with heap := h', toks := tk' } := J.turnedL (ch := [I]) hk' fun b hb => by rw [List.mem_singleton.mp hb]; exact fI
    have s1 := Heap.SameBut.update h' S (Obj.mapSeq fun _ => (#[] : Array Value))
    show wpAny _ X.A.in1 (updateSeq S (fun _ => #[]) >>= _) _ _ _
    refine wpAny_bind ?_
    refine wpAny_updateSeq gS' rfl (wpAny_bind (wpAny_letGo (wpAny_pure ?_)))
    refine hR i x vb Hj _ hx rb (fun j' hj' => best j' (by omega)) sm ?_
    exact J1.turnedL (ch := [S]) (fun b o hb z => (s1.2 b (fun y => hb (by rw [y]; exact List.mem_singleton.mpr rfl))).trans z) fun b hb => by rw [List.mem_singleton.mp hb]; exact fS
  | succ r ih =>
    intro j i Hj sj x vb kb c hr hj sm J fS fI gS hit hx rb hk hij best
    have more : j + 1 < xs.length := by omega
    obtain ⟨its, rv, pl, _⟩ := J.list (sm.seq hl)
    have W := Walks.list (prog := X.prog) (w := X.w) (A := X.A.in1) hh I l hlI its.toArray
    have size : its.toArray.size = xs.length := by rw [List.size_toArray, ← rv.length]
    refine codeAny_builtin PySem.F.entry_min_loop ?_
    rw [Around.under_plainId PySem.F.plain_min_loop _]
    show wpAny _ X.A.in1 (seqItems? (.ref S) >>= _) _ _ _
    refine wpAny_bind (wpAny_seqItems gS rfl ?_)
    show wpAny _ X.A.in1 (tryCatch (pyNext (.ref I)) _ >>= _) _ _ _
    refine wpAny_bind (wpAny_tryCatch (W.item (j + 1) _ _ _ (by rw [size]; exact more) ⟨hit, pl.isList⟩ fun v h' tk' hP hst' hk' => ?_))
    have hv : its[j + 1]? = some v := by simpa using hP
    obtain ⟨v', hv', rx'⟩ := rv.get (List.getElem?_eq_getElem more)
    rw [hv] at hv'
    cases hv'
    obtain ⟨oI, hoI, hoc, hod⟩ := id hst'.1
    have gS' := hk' S _ (by simpa using hSI) gS
    have J1 : L2.Inv X pins σ Hj { sj with heap := h', toks := tk' } := J.turnedL (ch := [I]) hk' fun b hb => by rw [List.mem_singleton.mp hb]; exact fI
    have J2 := J1.pinned (fp := [S, I]) (fun b hb => by
      rcases List.mem_cons.mp hb with e | e
      · rw [e]; exact fS
      · rw [List.mem_singleton.mp e]; exact fI) (fun b hb => by
      rcases List.mem_cons.mp hb with e | e
      · rw [e]; exact ⟨_, gS', fun v z => nomatch z⟩
      · rw [List.mem_singleton.mp e]; exact ⟨oI, hoI, fun v z => by rw [hod] at z; cases z⟩)
    show wpAny _ X.A.in1 (tryCatch (holding [v] (call (.ref f) [v])) _ >>= _) _ _ _
    refine wpAny_bind (wpAny_tryCatch (wpAny_holding (wpAny_mono (turn (j + 1) _ v Hj _ _ (List.getElem?_eq_getElem more) rx' sm J2) (fun y s2 he => ?_) fun _ _ hF => hF.elim)))
    obtain ⟨yv, H3, J3, ry, sm3, p1, rfl, t1⟩ := he
    obtain rfl : y = Value.ref p1 := ry
    obtain ⟨gS3, fS3⟩ := fp_later J3 (List.mem_cons_self ..) gS' fS
    obtain ⟨gI3, fI3⟩ := fp_later J3 (List.mem_cons_of_mem _ (List.mem_singleton.mpr rfl)) hoI fI
    have J4 := J3.unpinned
    have sm4 := sm.trans sm3
    have hk3 := Same.tup sm3 hk
    obtain ⟨it1, r1, T1, _⟩ := J4.tuple t1
    obtain ⟨it2, r2, T2, _⟩ := J4.tuple hk3
    obtain ⟨⟨cls, dd, data, sl⟩, ho, hc, n, hd⟩ := id T1
    obtain ⟨⟨cls2, dd2, data2, sl2⟩, ho2, hc2, n2, hd2⟩ := id T2
    simp only at hc hd hc2 hd2
    subst hc hd hc2 hd2
    show wpAny _ X.A.in1 (tryCatch (holding [v, .ref p1] (richCompare .Lt (.ref p1) (.ref kb) >>= _)) _ >>= _) _ _ _
    refine wpAny_bind (wpAny_tryCatch (wpAny_holding (wpAny_bind (richCompare_meets_room (op := .Lt) ⟨_, ho, rfl⟩ ⟨_, ho2, rfl⟩ PySem.F.slot_tuple_lt PySem.F.entry_tuple_lt (PySem.F.args_tuple_lt_2 _ _) (HT.tuple_lt_ints p1 kb it1.toArray it2.toArray n n2 dd dd2 sl sl2 (key (j + 1)) (key i) (intsAre_of r1) (intsAre_of r2))
      ⟨ho, ho2, (fun x => nomatch x), ?_⟩ hu))))
    refine wpAny_bind (wpAny_holding (wpAny_truthy_bool ?_))
    refine wpAny_bind (wpAny_letGo (wpAny_pure ?_))
    have hit3 : s2.heap.IsListIter I l (j + 1 + 1) := ⟨oI, gI3, hoc, hod⟩
    by_cases less : HT.lexLt (key (j + 1)) (key i) = true
    · have s1 := Heap.SameBut.update s2.heap S (Obj.mapSeq fun _ => #[v, Value.ref p1])
      obtain ⟨c2, hc2⟩ : ∃ c2, (s2.heap.update S (Obj.mapSeq fun _ => #[v, Value.ref p1])).get? S = some (seqObj "list" #[v, Value.ref p1] c2) := ⟨_, get?_update_seq gS3 fun _ => #[v, Value.ref p1]⟩
      simp only [less, if_true]
      refine wpAny_bind ?_
      refine wpAny_updateSeq gS3 rfl (wpAny_bind (wpAny_letGo ?_))
      rw [word]
      refine wpAny_pure ⟨plainId_quiet PySem.F.plain_min_loop _, ih (j + 1) (j + 1) H3 _ _ v p1 c2 (by omega) more sm4 (J4.turnedL (ch := [S]) (fun b o hb z => (s1.2 b (fun y => hb (by rw [y]; exact List.mem_singleton.mpr rfl))).trans z) fun b hb => by rw [List.mem_singleton.mp hb]; exact fS3) fS3 fI3 hc2 ?_ (List.getElem?_eq_getElem more) rx' t1 (Nat.le_refl _) fun j' hj' => ?_⟩
      · exact ⟨oI, (s1.2 I hSI.symm).trans gI3, hoc, hod⟩
      · by_cases e : j' = j + 1
        · subst e
          exact lex_irr _
        · have b1 := best j' (by omega)
          cases q : HT.lexLt (key j') (key (j + 1)) with
          | false => rfl
          | true =>
            rw [lex_trans q less] at b1
            cases b1
    · have less0 : HT.lexLt (key (j + 1)) (key i) = false := Bool.eq_false_iff.mpr less
      simp only [less0, Bool.false_eq_true, if_false]
      refine wpAny_bind (wpAny_letGo ?_)
      rw [word]
      refine wpAny_pure ⟨plainId_quiet PySem.F.plain_min_loop _, ih (j + 1) i H3 s2 x vb kb c (by omega) more sm4 J4 fS3 fI3 gS3 hit3 hx rb hk3 (by omega) fun j' hj' => ?_⟩
      by_cases e : j' = j + 1
      · subst e
        exact less0
      · exact best j' (by omega)
theorem minK {H : Hp} {s : Shared} {f l : Addr} {xs : List V} {key : Nat → List Int} {Q : VK} {E : Value → Shared → Prop} (hh : X.A.handled = none) (hu : X.A.units + 1 < cLine) (J : L2.Inv X pins σ H s) (hl : SqL X.K H l xs) (hne : 0 < xs.length) (turn : KeyTurn X σ H f xs key)
    (hQ : ∀ (i : Nat) (x : V) (H' : Hp), xs[i]? = some x → (∀ j, j < xs.length → HT.lexLt (key j) (key i) = false) → Same H H' → Q x H') :
    wpAny (model X.prog X.w) X.A (call (.builtin "min") [.ref l] [(Str.ofString "key", .ref f)]) (EP X pins σ Q) E s := by
  have word : (toString "min" ++ toString ".loop" : String) = "min.loop" := by decide
  obtain ⟨its, rv, pl, _⟩ := J.list hl
  obtain ⟨ol, hol, _⟩ := id pl.isList
  have hll : l < s.heap.objs.size := Heap.lt_size hol
  refine kmk_tree PySem.F.kind_min PySem.F.plain_min PySem.F.entry_min (kmk_min_key _ _) ?_
  show wpAny _ X.A.in1 (Builtin.Builtins.bindParams "min" ["key", "default"] 0 ⟨[], [(Str.ofString "key", .ref f)]⟩ >>= _) _ _ s
  refine wpAny_bind (wpAny_of_eq (show Builtin.Builtins.bindParams "min" ["key", "default"] 0 ⟨[], [(Str.ofString "key", .ref f)]⟩ = pure [some (.ref f), none] from rfl) ?_)
  refine wpAny_bind (wpAny_pure ?_)
  refine wpAny_bind (wpAny_pyIter_list pl.isList ?_)
  refine wpAny_bind (wpAny_newList ?_ (Nat.zero_le _))
  rw [word]
  have eS : (s.heap.push { cls := .type "list_iterator", data := .fields #[.ref l, .int 0 0] }).objs.size = s.heap.objs.size + 1 := size_push' ..
  have hlI : l ≠ s.heap.objs.size := Nat.ne_of_lt hll
  have J0 : L2.Inv X pins σ H { s with heap := (s.heap.push { cls := .type "list_iterator", data := .fields #[.ref l, .int 0 0] }).push (seqObj "list" #[] 0) } := (J.kept (t' := s.toks) fun b o z => Heap.get?_push_of_some _ (Heap.get?_push_of_some _ z))
  have gI : ((s.heap.push { cls := .type "list_iterator", data := .fields #[.ref l, .int 0 0] }).push (seqObj "list" #[] 0)).get? s.heap.objs.size = some { cls := .type "list_iterator", data := .fields #[.ref l, .int 0 0] } := Heap.get?_push_of_some _ (Heap.get?_push_size _ rfl)
  have gS : ((s.heap.push { cls := .type "list_iterator", data := .fields #[.ref l, .int 0 0] }).push (seqObj "list" #[] 0)).get? (s.heap.push { cls := .type "list_iterator", data := .fields #[.ref l, .int 0 0] }).objs.size = some (seqObj "list" #[] 0) := Heap.get?_push_size _ rfl
  have fI : FpOk X pins H s.heap.objs.size := J.fpOk (Nat.le_refl _) (J.hok.fresh (Nat.le_refl _))
  have fS : FpOk X pins H (s.heap.push { cls := .type "list_iterator", data := .fields #[.ref l, .int 0 0] }).objs.size := by
    rw [eS]
    exact J.fpOk (Nat.le_succ _) (J.hok.fresh (Nat.le_succ _))
  have hSI : (s.heap.push { cls := .type "list_iterator", data := .fields #[.ref l, .int 0 0] }).objs.size ≠ s.heap.objs.size := by rw [eS]; exact Nat.succ_ne_self _
  refine wpAny_pure ⟨plainId_quiet PySem.F.plain_min_loop _, ?_⟩
  obtain ⟨its0, rv0, pl0, _⟩ := J0.list hl
  have W := Walks.list (prog := X.prog) (w := X.w) (A := X.A.in1) hh s.heap.objs.size l hlI its0.toArray
  have size : its0.toArray.size = xs.length := by rw [List.size_toArray, ← rv0.length]
  generalize (s.heap.push { cls := .type "list_iterator", data := .fields #[.ref l, .int 0 0] }).objs.size = S at *
  generalize (s.heap.push { cls := .type "list_iterator", data := .fields #[.ref l, .int 0 0] }).push (seqObj "list" #[] 0) = h0 at *
  refine codeAny_builtin PySem.F.entry_min_loop ?_
  rw [Around.under_plainId PySem.F.plain_min_loop _]
  show wpAny _ X.A.in1 (seqItems? (.ref S) >>= _) _ _ _
  refine wpAny_bind (wpAny_seqItems gS rfl ?_)
  show wpAny _ X.A.in1 (tryCatch (pyNext (.ref s.heap.objs.size)) _ >>= _) _ _ _
  refine wpAny_bind (wpAny_tryCatch (W.item 0 _ _ _ (by rw [size]; exact hne) ⟨⟨_, gI, rfl, rfl⟩, pl0.isList⟩ fun v h' tk' hP hst' hk' => ?_))
  have hv : its0[0]? = some v := by simpa using hP
  obtain ⟨v', hv', rx'⟩ := rv0.get (List.getElem?_eq_getElem hne)
  rw [hv] at hv'
  cases hv'
  obtain ⟨oI, hoI, hoc, hod⟩ := id hst'.1
  have gS' := hk' S _ (by simpa using hSI) gS
  have J1 : L2.Inv X pins σ H { s with heap := h', toks := tk' } := L2.Inv.turnedL (s := { s with heap := h0 }) (ch := [s.heap.objs.size]) J0 hk' fun b hb => by rw [List.mem_singleton.mp hb]; exact fI
  have J2 := J1.pinned (fp := [S, s.heap.objs.size]) (fun b hb => by
    rcases List.mem_cons.mp hb with e | e
    · rw [e]; exact fS
    · rw [List.mem_singleton.mp e]; exact fI) (fun b hb => by
    rcases List.mem_cons.mp hb with e | e
    · rw [e]; exact ⟨_, gS', fun v z => nomatch z⟩
    · rw [List.mem_singleton.mp e]; exact ⟨oI, hoI, fun v z => by rw [hod] at z; cases z⟩)
  show wpAny _ X.A.in1 (tryCatch (holding [v] (call (.ref f) [v])) _ >>= _) _ _ _
  refine wpAny_bind (wpAny_tryCatch (wpAny_holding (wpAny_mono (turn 0 _ v H _ _ (List.getElem?_eq_getElem hne) rx' (Same.refl _) J2) (fun y s2 he => ?_) fun _ _ hF => hF.elim)))
  obtain ⟨yv, H3, J3, ry, sm3, p1, rfl, t1⟩ := he
  obtain rfl : y = Value.ref p1 := ry
  obtain ⟨gS3, fS3⟩ := fp_later J3 (List.mem_cons_self ..) gS' fS
  obtain ⟨gI3, fI3⟩ := fp_later J3 (List.mem_cons_of_mem _ (List.mem_singleton.mpr rfl)) hoI fI
  have J4 := J3.unpinned
  have s1 := Heap.SameBut.update s2.heap S (Obj.mapSeq fun _ => #[v, Value.ref p1])
  obtain ⟨c2, hc2⟩ : ∃ c2, (s2.heap.update S (Obj.mapSeq fun _ => #[v, Value.ref p1])).get? S = some (seqObj "list" #[v, Value.ref p1] c2) := ⟨_, get?_update_seq gS3 fun _ => #[v, Value.ref p1]⟩
  show wpAny _ X.A.in1 (updateSeq S (fun _ => #[v, Value.ref p1]) >>= _) _ _ _
  refine wpAny_bind ?_
  refine wpAny_updateSeq gS3 rfl ?_
  rw [word]
  refine wpAny_pure ⟨plainId_quiet PySem.F.plain_min_loop _, minK_loop (pins := pins) hh hu hl hlI hSI turn (fun i x u H' s' hx ru hb sm J => ⟨x, H', J, ru, hQ i x H' hx hb sm⟩) _ 0 0 H3 _ _ v p1 c2 rfl hne sm3 (J4.turnedL (ch := [S]) (fun b o hb z => (s1.2 b (fun y => hb (by rw [y]; exact List.mem_singleton.mpr rfl))).trans z) fun b hb => by rw [List.mem_singleton.mp hb]; exact fS3) fS3 fI3 hc2 ⟨oI, (s1.2 _ hSI.symm).trans gI3, hoc, hod⟩ (List.getElem?_eq_getElem hne) rx' t1 (Nat.le_refl _) fun j' hj' => ?_⟩
  have e : j' = 0 := by omega
  subst e
  exact lex_irr _
end
/-- min(e, key=lambda x: b): js, where the captured names stand -/
def MinR (K : PySem.W.Frag) (Ps : List Addr) (nm : Nat → Nat → Str) (N : List Str) (js : List Nat) (tb : TE) (σ : L2.St) (Q : VK) (vs : List V) (H1 : Hp) : Prop := ∃ (a : Addr) (xs : List V), vs = [.ref a] ∧ SqL K H1 a xs ∧ 0 < xs.length ∧ TabsOk Ps nm H1 ∧
  ∀ H2, ExtN H1 H2 → TabsOk Ps nm H2 → ∃ key : Nat → List Int, (∀ (i : Nat) (x : V) (H' : Hp), xs[i]? = some x → Same H2 H' → tb (startF N [x] (js.map (slotAt σ))) H' fun v H'' => Same H' H'' ∧ ∃ p, v = .ref p ∧ SqT K H'' p ((key i).map V.int)) ∧
    ∀ (i : Nat) (x : V) (H' : Hp), xs[i]? = some x → (∀ j, j < xs.length → HT.lexLt (key j) (key i) = false) → Same H2 H' → Q x H'
def tMinL (K : PySem.W.Frag) (Ps : List Addr) (nm : Nat → Nat → Str) (N : List Str) (js : List Nat) (te : TA) (tb : TE) : TE := fun σ H Q => te σ H (MinR K Ps nm N js tb σ Q)
theorem ExtN.seq {K : PySem.W.Frag} {H H' : Hp} {a : Addr} {xs : List V} (e : ExtN H H') (h : SqL K H a xs) : SqL K H' a xs := by
  rcases h with (h | ⟨o, h⟩) | h
  · exact .inl (.inl (e _ _ h fun ps z => nomatch z))
  · exact .inl (.inr ⟨o, e _ _ h fun ps z => nomatch z⟩)
  · exact .inr h
theorem ExtN.tup {K : PySem.W.Frag} {H H' : Hp} {a : Addr} {xs : List V} (e : ExtN H H') (h : SqT K H a xs) : SqT K H' a xs := by
  rcases h with (h | ⟨o, h⟩) | h
  · exact .inl (.inl (e _ _ h fun ps z => nomatch z))
  · exact .inl (.inr ⟨o, e _ _ h fun ps z => nomatch z⟩)
  · exact .inr h
abbrev lamF (X : Cx) (params : Arguments) (scope : Scope) (c' : Addr) : NF := ⟨"<lambda>", X.env.qual ++ "<lambda>", params, [], scope, cloFrom X.env.cells scope.names [], c'⟩
theorem pe_minL {X : Cx} {K : PySem.W.Frag} {Ps : List Addr} {nm : Nat → Nat → Str} {c P : Addr} {N fr : List Str} {js : List Nat} {k : Nat} {a : Str} {x : Str} {e : Expr} {params : Arguments} {b : Expr} {scope : Scope} {p pos lpos kpos : Pos} {te : TA} {tb : TE}
    (eK : X.K = K) (calm : X.calm = true) (room : Room (k + 2) X.A) (hg : Gl X x) (hm : X.mg x = none) (hv : bootBuiltins x = some (.builtin "min")) (ha : PA X [e] te) (TB : TabB X.base X.mg c P) (hcode : X.env.code = .ref c) (hP : P ∈ Ps) (hn : nm lpos.line lpos.col = X.env.qual ++ "<lambda>")
    (hdef : defaultsOf params X.env = ([], [])) (S : NScope N [a] fr scope) (hsc : ndefB X.env.scope scope fr = true) (hjs : js.map (fun j => X.N[j]?) = fr.map some)
    (bnd : ∀ (q : Str) (cl : List (Str × Addr)) (pm cv ctv : Value) (us : List Value), us.length = 1 → bindArgs (PySem.W.kla_fn "<lambda>" q params b scope cl pm cv ctv) ⟨us, []⟩ = pure ([a].zip us))
    (hb : ∀ (A : Around) (outer : List Env) (s : Shared) (H : Hp) (f c' : Addr), Room k (A.deeper (envF (lamF X params scope c') f s.heap.objs.size)) → PE (ncx CX0 X.prog X.w X.K X.mg X.base N (lamF X params scope c') f A outer s H E0) b tb)
    (hnm : x ≠ "__name__" := by decide) (hdb : (x == ("__debug__" : Str)) = false := by decide)
    (hst : backTo pos (starEach [e] X.env) = (false, eval e X.env) :: backTo pos (starEach [] X.env) := by rfl) (hpl : (backTo pos (starEach [e] X.env)).any (·.1) = false := by rfl) :
    PE X (.Call (.Name x p) [e] [⟨some "key", .Lambda params b scope lpos, kpos⟩] pos) (tMinL K Ps nm N js te tb) := by
  subst eK
  refine ⟨fun pins s σ H Q I h => ?_⟩
  refine wpAny_Call_Name_kw (ld_blt I hg hm hv ?_ hnm hdb)
  refine PyProof.Rows.callWith_kw (thn (ha.run pos pins s σ H _ I h) fun us s1 ⟨vs, H1, I1, r1, q1⟩ => ?_) hst hpl rfl rfl
  obtain ⟨l, xs, rfl, hl, hne, hT, q⟩ := q1
  rw [Vals.ref1 r1]
  show wpAny _ _ (evalAll ((do let v ← eval (.Lambda params b scope lpos) X.env; standAt pos; pure v) :: [])) _ _ _
  have hf := ndef_free hsc
  refine wpAny_evalAll_cons (wpAny_bind (lam_made I1 TB hcode hP hn hT hdef (fun y hy z => (hf y hy z).elim (fun z => I1.ok.has _ (.inl z)) fun z => I1.ok.has _ (.inr z)) fun f c' H2 s2 I2 gr T2 nf isL isC => wpAny_bind (wpAny_standAt (wpAny_pure ?_))))
  refine wpAny_evalAll_nil ?_
  obtain ⟨key, each, fin⟩ := q H2 gr T2
  show wpAny _ _ (call (.builtin "min") [.ref l] [(Str.ofString "key", .ref f)]) _ _ _
  have cps := Caps.made (js := js) I2.ok hf (ndef_fr hsc) hjs
  refine minK (I2.ok.hd calm) (by have := room.units; omega) I2 (ExtN.seq gr hl) hne (fun i x u H' s' pins' hx ru sm J => ?_) fin
  have isL' := sm _ _ isL
  have isC' := sm _ _ isC
  have run := lam_run (CX := CX0) (E := E0) (k := k) (N := N) (ps := [a]) (fr := fr) (us := [u]) (vs := [x]) (ws := js.map (slotAt σ)) (Q := fun v H'' => Same H' H'' ∧ ∃ p, v = .ref p ∧ SqT X.K H'' p ((key i).map V.int)) S (fun pm ctv us hl => bnd _ _ pm _ ctv us hl) rfl room.in1 J.env0.in1 isL' isC' (cells_of J cps) (.cons ru .nil) fun hr => ⟨tb, hb _ _ _ _ _ c' hr, each i x H' hx sm⟩
  refine wpAny_call (codeAny_mono run fun res s'' hq => ?_)
  cases res with
  | error ex => exact (show False from hq).elim
  | ok fl =>
    cases fl with
    | ret u => exact J.after hq
    | next => exact False.elim hq
    | brk => exact False.elim hq
    | cont => exact False.elim hq
end NS

/-! ### the end of a law whose text makes lambdas -/
namespace NS
open PySem PySem.Spec PyProof.Rows L2 LamX NdefX
/-- a def whose code object stands at c -/
structure DfC (K : PySem.W.Frag) (x : Str) (st : Stmt) (f : Addr) (fd : FuncData) (c : Addr) : Prop where
  ex : ∃ (oc : Value) (od : Option Addr) (kV doc pm : Value) (an : Option Addr) (ct : Value) (osl : Array (Option Value)), fd = PySem.W.fnOf x x (defArgs st) (defBody st) (defScope st) .none kV doc pm an (.ref c) ct ∧
    K.lookup f = some ⟨oc, od, .func (PySem.W.fnOf x x (defArgs st) (defBody st) (defScope st) .none kV doc pm an (.ref c) ct), osl⟩ ∧ PySem.W.codeIn K (.ref c) x = true
theorem okC {P : Program} {w : World} {K : PySem.W.Frag} {mg : Str → Option Value} {base : Heap} {x : Str} {st : Stmt} {f c : Addr} {fd : FuncData} {N ps : List Str} {k : Nat} {sp : Sp} (L : DfC K x st f fd c) (S : FnScope N ps (defScope st)) (len : ∀ vs H Q E, sp vs H Q E → vs.length = ps.length)
    (body : ∀ (A : Around) (outer : List Env) (s : Shared) (H : Hp) (vs : List V) (Q : VK) (E : XK), Room k (A.deeper (envOfC x (defScope st) s.heap.objs.size f (.ref c))) → sp vs H Q E →
      ∃ t, PSs (cxOf CX0 P w K mg base N x (defScope st) f (.ref c) A outer s H E).nox (defBody st) t ∧ t { nx := fun _ H' => Q .non H', rt := Q } (start N vs) H) : FnOk P w K mg base CX0 (k + 1) f fd ps sp := by
  obtain ⟨oc, od, kV, doc, pm, an, ct, osl, rfl, lk, hcd⟩ := L.ex
  refine fn_of lk hcd S len fun A outer s H vs Q E hr h => ?_
  obtain ⟨t, der, rd⟩ := body A outer s H vs Q E hr h
  exact ⟨t, der.nox, rd⟩
/-- what the top tells of the table of the def x -/
def TabAt (mg : Str → Option Value) (h : Heap) (x : Str) : Prop := ∃ (a : Addr) (o : Obj) (fd : FuncData) (c P : Addr), mg x = some (.ref a) ∧ h.get? a = some o ∧ o.data = .func fd ∧ fd.code = .ref c ∧ PySem.W.CodeHd h c P ∧ h.get? P = some { cls := .none, data := .fields #[] }
theorem tab_at {K : PySem.W.Frag} {h : Heap} {mg : Str → Option Value} {x : Str} {f : Addr} {oc : Value} {od : Option Addr} {fd : FuncData} {osl : Array (Option Value)} (t : TabAt mg h x) (X : K.In h) (g : mg x = some (.ref f)) (lk : K.lookup f = some ⟨oc, od, .func fd, osl⟩) :
    ∃ c P, fd.code = .ref c ∧ PySem.W.CodeHd h c P ∧ h.get? P = some { cls := .none, data := .fields #[] } := by
  obtain ⟨a, o, fd', c, P, e1, e2, e3, e4, e5, e6⟩ := t
  rw [g] at e1
  cases e1
  rw [X _ _ lk] at e2
  cases e2
  cases e3
  exact ⟨c, P, e4, e5, e6⟩
theorem no_tab {K : PySem.W.Frag} {h : Heap} {P : Addr} (X : K.In h) (hK : PySem.W.noTabs K = true) (e : h.get? P = some { cls := .none, data := .fields #[] }) : K.lookup P = none := by
  cases q : K.lookup P with
  | none => rfl
  | some o =>
    have z := X _ _ q
    rw [e] at z
    cases z
    have y := List.all_eq_true.mp hK (P, _) (PySem.W.mem_of_lookupK q)
    exact absurd (show false = true from y) Bool.false_ne_true
theorem lawGT {P : Program} {w : World} {K : PySem.W.Frag} {mg mb : Str → Option Value} {k : Nat} {fa a : Addr} {cs : List (Addr × Addr)} {fd : FuncData} {x : Str} {sp : Sp} {s₁ : Shared} {vs : List Value} {ns : List Int}
    (KX : K.In s₁.heap) (hns : s₁.heap.Ns mainGlobals mg) (hb : s₁.heap.Ns builtinsNs mb) (hbb : ∀ x : Str, x ≠ "__name__" → mb x = bootBuiltins x) (hlim : s₁.heap.NoLimit) (hgn : s₁.gens = #[])
    (tabs : ∀ p ∈ cs, s₁.heap.get? p.2 = some { cls := .none, data := .fields #[] } ∧ K.lookup p.2 = none ∧ PySem.W.CodeHd s₁.heap p.1 p.2)
    (bmain : ∃ (bm : Addr) (ob : Obj), mg "__builtins__" = some (.ref bm) ∧ bm ≠ builtinsNs ∧ s₁.heap.get? bm = some ob ∧ ob.cls = .type "module" ∧ ob.dict = some builtinsNs ∧ ob.data = .plain)
    (ha : s₁.heap.get? a = some { cls := .type "list", data := .seq vs.toArray }) (hi : IntsAre vs ns) (hl : ns.length ≤ sizeLine) (room : Room k callerA)
    (F : ∀ base : Heap, K.In base → base.Ns mainGlobals mg → (∀ p ∈ cs, TabB base mg p.1 p.2) → FnOkG P w K mg base k fa fd [x] sp) (hbind : ∀ (s : Shared) (u : Value), BindsTo s fd ⟨[u], []⟩ [(x, u)])
    (hsp : ∀ H : Hp, (∀ p ∈ cs, H p.2 = some (.tbl #[])) → SqL K H a (ns.map V.int) → sp [.ref a] H (fun v _ => v = .bl true) fun _ _ _ => False) :
    codeAny (model P w) callerA (.call (.ref fa) ⟨[.ref a], []⟩) (fun r s' => r = .ok (.ret (.bool true)) ∧ OldK s₁.heap s'.heap ∧ s'.os = s₁.os ∧ AllBare s'.gens) s₁ := by
  have rv := vals_ints hi
  have lenV := hi.length
  have notA : ∀ p ∈ cs, p.2 ≠ a := fun p hp z => by
    have e := (tabs p hp).1
    rw [z, ha] at e
    cases e
  obtain ⟨H, hH⟩ : ∃ H : Hp, H = fun b => if b = a then (if (K.lookup a).isSome = true then none else some (.frz { cls := .type "list", data := .seq vs.toArray } (.lst (ns.map V.int)))) else if b ∈ cs.map (·.2) then some (.tbl #[]) else none := ⟨_, rfl⟩
  have atT : ∀ p ∈ cs, H p.2 = some (.tbl #[]) := fun p hp => by
    rw [hH]
    show (if p.2 = a then _ else _) = _
    rw [if_neg (notA p hp), if_pos (List.mem_map.mpr ⟨p, hp, rfl⟩)]
  have kinds : ∀ b u, H b = some u → (b = a ∧ K.lookup a = none ∧ u = .frz { cls := .type "list", data := .seq vs.toArray } (.lst (ns.map V.int))) ∨ (∃ p ∈ cs, p.2 = b ∧ u = .tbl #[]) := fun b u z => by
    rw [hH] at z
    have z' : (if b = a then (if (K.lookup a).isSome = true then none else some (HO.frz { cls := .type "list", data := .seq vs.toArray } (.lst (ns.map V.int)))) else if b ∈ cs.map (·.2) then some (.tbl #[]) else none) = some u := z
    by_cases e : b = a
    · rw [if_pos e] at z'
      cases q : K.lookup a with
      | none =>
        rw [q] at z'
        exact .inl ⟨e, rfl, (Option.some.inj z').symm⟩
      | some o =>
        rw [q] at z'
        cases z'
    · rw [if_neg e] at z'
      by_cases m : b ∈ cs.map (·.2)
      · rw [if_pos m] at z'
        obtain ⟨p, hp, ep⟩ := List.mem_map.mp m
        exact .inr ⟨p, hp, ep, (Option.some.inj z').symm⟩
      · rw [if_neg m] at z'
        cases z'
  have script : SqL K H a (ns.map V.int) := by
    cases q : K.lookup a with
    | some o =>
      have z := KX a o q
      rw [ha] at z
      cases z
      exact .inr ⟨_, vs.toArray, _, q, rfl, rfl, rfl, by rw [List.size_toArray, lenV]; exact hl, by simpa using rv⟩
    | none =>
      refine .inl (.inr ⟨{ cls := .type "list", data := .seq vs.toArray }, ?_⟩)
      rw [hH]
      show (if a = a then _ else _) = _
      rw [if_pos rfl, q]
      rfl
  have hok : HOk P w H s₁.heap := fun b u z => by
    rcases kinds b u z with ⟨rfl, _, rfl⟩ | ⟨p, hp, rfl, rfl⟩
    · exact ⟨ha, by rw [List.length_map]; exact hl, vs, _, rv, ha⟩
    · exact (tabs p hp).1
  have seen : ∀ {b : Addr} {o : Obj}, s₁.heap.get? b = some o → (∀ us n, o.data ≠ .seq us n) → o.data ≠ .fields #[] → H b = none := fun {b o} z n1 n2 => by
    cases q : H b with
    | none => rfl
    | some u =>
      rcases kinds b u q with ⟨e, _, _⟩ | ⟨p, hp, e, _⟩
      · rw [e, ha] at z
        cases z
        exact (n1 _ _ rfl).elim
      · rw [← e, (tabs p hp).1] at z
        cases z
        exact (n2 rfl).elim
  have dictK : ∀ {b : Addr} {m : Str → Option Value}, s₁.heap.Ns b m → (hidT s₁.heap H).Ns b m := fun {b m} z => by
    obtain ⟨o, es, ep, g, d, r⟩ := z
    exact ⟨o, es, ep, hidT_get g (seen g (fun us n z => by rw [d] at z; cases z) fun z => by rw [d] at z; cases z), d, r⟩
  have inB : K.In (hidT s₁.heap H) := fun b o z => hidT_get (KX b o z) (by
    cases q : H b with
    | none => rfl
    | some u =>
      rcases kinds b u q with ⟨e, n, _⟩ | ⟨p, hp, e, _⟩
      · rw [e, n] at z
        cases z
      · rw [← e, (tabs p hp).2.1] at z
        cases z)
  have TB : ∀ p ∈ cs, TabB (hidT s₁.heap H) mg p.1 p.2 := fun p hp => by
    obtain ⟨t1, _, o, us, file, tf, flags, tg, inF, text, tt, e1, r1, r2, r3, rr⟩ := tabs p hp
    refine ⟨⟨o, us, file, tf, flags, tg, inF, text, tt, hidT_get e1 (seen e1 (fun us n z => by rw [r2] at z; cases z) fun z => ?_), r1, r2, r3, rr⟩, ?_, fun z => ?_⟩
    · rw [r2] at z
      cases z
      exact absurd r3 (by simp)
    · obtain ⟨bm, ob, b1, b2, b3, b4, b5, b6⟩ := bmain
      refine ⟨bm, ob, b1, b2, fun q => ?_, fun q => ?_, hidT_get b3 (seen b3 (fun us n z => by rw [b6] at z; cases z) fun z => by rw [b6] at z; cases z), b4, b5, b6⟩
      · obtain ⟨o, es, ep, e, hd, _⟩ := hns
        rw [q, e] at b3
        cases b3
        rw [hd] at b6
        cases b6
      · rw [q, t1] at b3
        cases b3
        cases b6
    · obtain ⟨o, es, ep, e, hd, _⟩ := hns
      rw [z, t1] at e
      cases e
      cases hd
  have hM : Mod K mg (hidT s₁.heap H) := ⟨inB, dictK hns, ⟨mb, dictK hb, hbb⟩, hlim.elim fun mc z => ⟨mc, dictK z.1, z.2⟩⟩
  have en : Env0 P w K mg (hidT s₁.heap H) callerA [] s₁ H := ⟨rfl, hM, fun b o z => of_hidT z, Nat.le_of_eq (hidT_size _ _), trivial, (fun b z => absurd (show b ∈ ([] : List Addr) from z) (by simp)), hok, .of_eq hgn⟩
  refine codeAny_mono ((F _ inB (dictK hns) TB).run callerA [] s₁ H ⟨[.ref a], []⟩ [.ref a] [.ref a] _ _ rfl room en (hbind s₁ (.ref a)) (.cons rfl .nil) (hsp H atT script)) fun res s' out => ?_
  cases res with
  | error ex => exact (show False from out).elim
  | ok fl =>
    cases fl with
    | next => exact False.elim out
    | brk => exact False.elim out
    | cont => exact False.elim out
    | ret u =>
      obtain ⟨v, H', os, bare, un, hok', rel, isT⟩ := out
      have isT' : v = .bl true := isT
      subst isT'
      obtain rfl : u = Value.bool true := rel
      have kept : ∀ b o, (∀ p ∈ cs, p.2 ≠ b) → s₁.heap.get? b = some o → s'.heap.get? b = some o := fun b o nb z => by
        cases q : H b with
        | none => exact un.keep b o z q (fun y => absurd (show b ∈ ([] : List Addr) from y) (by simp)) (by simp)
        | some u =>
          rcases kinds b u q with ⟨_, _, rfl⟩ | ⟨p, hp, e, _⟩
          · have z1 := (hok b _ q).1
            have z2 := (hok' b _ (un.frzs b _ _ q)).1
            rw [z] at z1
            cases z1
            exact z2
          · exact absurd e (nb p hp)
      have grown : ∀ p ∈ cs, ∃ more : Array Value, s'.heap.get? p.2 = some { cls := .none, data := .fields more } := fun p hp => by
        obtain ⟨more, z⟩ := un.tbls p.2 #[] (atT p hp)
        exact ⟨_, hok' p.2 _ z⟩
      refine ⟨rfl, ⟨fun b o e => ?_, fun b o e => ?_⟩, os, bare⟩
      · by_cases q : ∃ p ∈ cs, p.2 = b
        · obtain ⟨p, hp, rfl⟩ := q
          obtain ⟨more, hm⟩ := grown p hp
          rw [(tabs p hp).1] at e
          cases e
          exact .inr (.inl ⟨((tabs p hp).2.2.tab (tabs p hp).1).isCodeTable, rfl, #[], more, rfl, by rw [Array.empty_append]; exact hm⟩)
        · exact .inl (kept b o (fun p hp z => q ⟨p, hp, z⟩) e)
      · by_cases q : ∃ p ∈ cs, p.2 = b
        · obtain ⟨p, hp, rfl⟩ := q
          obtain ⟨more, hm⟩ := grown p hp
          exact ⟨_, hm⟩
        · exact ⟨o, kept b o (fun p hp z => q ⟨p, hp, z⟩) e⟩
/-- what is to be shown of the law where the tables of the defs xs are known -/
theorem walkGT {l : PySem.W.OpenLaw} {n k : Nat} {q : Program} {loose : List Str} {XP : (Str → Option Value) → Heap → Prop} {YP : World → Heap → Prop} {d : DefRec} {K : Params → PySem.W.Frag} {sp : World → List (Addr × Addr) → Sp} {x : Str} (xs : List Str)
    (hn : l.most = some n) (hn2 : n ≤ sizeLine) (hdf : d.params.defaults = []) (room : Room k callerA) (recs : ∀ y ∈ xs, ((recsOf q).any fun e => e.name == y) = true) (hK : ∀ p : Params, PySem.W.noTabs (K p) = true)
    (hY : ∀ (w : World) (h : Heap), YP w h → (K w.params).In h)
    (F : ∀ (w : World) (mg : Str → Option Value) (fa : Addr) (h : Heap), (K w.params).In h → h.Ns mainGlobals mg → mg d.name = some (.ref fa) → (∀ y ∈ xs, TabAt mg h y) →
      ∃ (fd : FuncData) (cs : List (Addr × Addr)), (∀ (s : Shared) (u : Value), BindsTo s fd ⟨[u], []⟩ [(x, u)]) ∧ (∀ p ∈ cs, h.get? p.2 = some { cls := .none, data := .fields #[] } ∧ PySem.W.CodeHd h p.1 p.2) ∧
        ∀ base : Heap, (K w.params).In base → base.Ns mainGlobals mg → (∀ p ∈ cs, TabB base mg p.1 p.2) → FnOkG l.prog w (K w.params) mg base k fa fd [x] (sp w cs))
    (hsp : ∀ (w : World) (cs : List (Addr × Addr)) (H : Hp) (a : Addr) (ns : List Int), ns.length ≤ n → (∀ p ∈ cs, H p.2 = some (.tbl #[])) → SqL (K w.params) H a (ns.map V.int) → sp w cs [.ref a] H (fun v _ => v = .bl true) fun _ _ _ => False) :
    PySem.W.WalkO q loose XP YP l.row.toRowW d [] (fun f vs => PySem.call f vs) := by
  refine Att.attach_call hn hdf fun w s₀ s₁ mg mb fa o pm cd doc a vs ns G Y ho hd hcd hmg hobj hints hlen hgn => ?_
  have KX := hY w _ Y
  obtain ⟨fd, cs, bnd, tbs, kept⟩ := F w mg fa _ KX G.T.g hmg fun y hy => by
    obtain ⟨dL, hm, hn1⟩ := List.any_eq_true.mp (recs y hy)
    have hn2 : dL.name = y := beq_iff_eq.mp hn1
    obtain ⟨a', o', fd', c', P', h1, h2, h3, h4, h5, h6⟩ := G.T.tab dL hm
    rw [hn2] at h1
    exact ⟨a', o', fd', c', P', h1, h2, h3, h4, PySem.W.CodeHd.of h5 h6, h6.2⟩
  exact lawGT KX G.T.g G.T.b G.T.builtins G.T.nolimit hgn (fun p hp => ⟨(tbs p hp).1, no_tab KX (hK _) (tbs p hp).1, (tbs p hp).2⟩) G.T.bmain hobj hints (Nat.le_trans hlen hn2) room kept bnd fun H hT hS => hsp w cs H a ns hlen hT hS
end NS

/-! ### t * n, n from 1 on; lemmas of growing tables -/
namespace NS
open PySem PySem.Spec PyProof.Rows L2
theorem tuple_once (l : Addr) (items : Array Value) (n : Nat) (dd : Option Addr) (sl : Array (Option Value)) (u : Tok) :
    Meets (Builtin.«tuple.__mul__» ⟨[.ref l, .int 1 u], []⟩) (fun _ R s => s.heap.get? l = some { cls := .type "tuple", dict := dd, data := .seq items n, slots := sl } ∧ R (.ok (.ret (Value.ref l))) s) :=
  .of_wp fun prog w A R s h => by
    obtain ⟨hp, g, d, tk, os⟩ := s
    obtain ⟨hl, h⟩ := h
    have f1 := AutoSeq1.idx_int
    wp_walk using wpAny_loadPart' hl
    exact ⟨_, rfl, h⟩
/-- t * k of a tuple, k at least 1 -/
def rRepA (K : PySem.W.Frag) : R2 := fun x y H Q => ∃ (l : Addr) (k : Int) (xs : List V), x = .ref l ∧ y = .int k ∧ SqT K H l xs ∧ xs ≠ [] ∧ 1 ≤ k ∧ k ≤ 1000 ∧ xs.length ≤ 1000 ∧ ∀ p H', Same H H' → SqT K H' p (List.replicate k.toNat xs).flatten → Q (.ref p) H'
theorem op_repA {X : Cx} : OpR X (binaryOp .Mult) (rRepA X.K) := by
  intro pins s σ H x y v u Q I rx ry h
  obtain ⟨l, k, xs, e1, e2, hT, hne, h1, h2, hz, q⟩ := h
  rcases Int.lt_or_eq_of_le h1 with hk | hk
  · exact op_repT pins s σ H x y v u Q I rx ry ⟨l, k, xs, e1, e2, hT, hne, by omega, h2, hz, fun p hp => q p _ (same_upd hp) (sqT upd_same)⟩
  · subst e1 e2 hk
    cases rx
    obtain ⟨t, rfl⟩ := ry
    obtain ⟨its, r, ⟨⟨cls, dd, data, sl⟩, ho, hc, n, hd⟩, hs⟩ := I.tuple hT
    simp only at hc hd
    subst hc hd
    refine wpAny_binaryOp_repeat_ref (T := "tuple") (U := "int") (by decide) ⟨_, ho, rfl⟩ (fun s' => typeIs_int s' 1 t) noFill_tuple_mul F.fills_int_mul F.slot_int_rmul repeat_tuple F.slot_int_index.lookup
      (call_meets F.slot_int_rmul (typeIs_int s 1 t) F.entry_int_rmul (F.args_int_rmul_2 _ _) (int_rmul_tuple 1 t l its.toArray n dd sl)
        ⟨ho, rfl, ⟨_, ho, rfl⟩, call_meets F.slot_tuple_mul ⟨_, ho, rfl⟩ F.entry_tuple_mul (F.args_tuple_mul_2 _ _) (tuple_once l its.toArray n dd sl t) ⟨ho, ?_⟩⟩)
    refine ⟨.ref l, H, I, rfl, q l H (Same.refl _) ?_⟩
    show SqT X.K H l (xs ++ [])
    rw [List.append_nil]
    exact hT
theorem op_repAK {X : Cx} {K : PySem.W.Frag} (e : X.K = K) : OpR X (binaryOp .Mult) (rRepA K) := by subst e; exact op_repA
section
open LamX
variable {K : PySem.W.Frag} {H H1 H2 H' : Hp} {a p : Addr} {xs : List V} {o : HO} {Ps : List Addr} {nm : Nat → Nat → Str}
def NotTbl (H : Hp) (a : Addr) : Prop := ∀ ps, H a ≠ some (.tbl ps)
theorem ntb_l (h : H a = some (.lst xs)) : NotTbl H a := fun ps z => by rw [h] at z; cases z
theorem ntb_t (h : H a = some (.tup xs)) : NotTbl H a := fun ps z => by rw [h] at z; cases z
def TrkN (H : Hp) (a : Addr) : Prop := ∃ o, H a = some o ∧ ∀ ps, o ≠ .tbl ps
theorem trk_l (h : H a = some (.lst xs)) : TrkN H a := ⟨_, h, fun ps z => nomatch z⟩
theorem trk_t (h : H a = some (.tup xs)) : TrkN H a := ⟨_, h, fun ps z => nomatch z⟩
theorem trk_ext (t : TrkN H a) (e : ExtN H H') : TrkN H' a := t.elim fun o z => ⟨o, e a o z.1 z.2, z.2⟩
theorem trk_ats (t : TrkN H a) (e1 : ExtN H H1) (e2 : ExtN H H2) : AtS a H1 H2 := fun o z => by
  obtain ⟨u, h1, h2⟩ := t
  rw [e1 a u h1 h2] at z
  cases z
  exact e2 a _ h1 h2
theorem ext_same (e : Same H H') : ExtN H H' := fun b o h _ => e b o h
theorem ext_mut (e : ExtN H H1) (h : H p = none) : ExtN H (upd H1 p o) := fun b u z n => by
  rw [upd_ne (ne_of_none z h)]
  exact e b u z n
theorem ext_sq (e : ExtN H H') (h : Sq K H a xs) : Sq K H' a xs := h.imp (ExtN.seq e) (ExtN.tup e)
theorem ats_ext (e : ExtN H H') (n : NotTbl H a) : AtS a H H' := fun o h => e a o h fun ps z => n ps (by rw [h, z])
theorem ext_lst (e : ExtN H H') (h : H a = some (.lst xs)) : H' a = some (.lst xs) := e a _ h fun ps z => nomatch z
theorem ext_tup (e : ExtN H H') (h : H a = some (.tup xs)) : H' a = some (.tup xs) := e a _ h fun ps z => nomatch z
theorem tabs_upd (t : TabsOk Ps nm H) (h : H p = some (.lst xs)) : TabsOk Ps nm (upd H p o) := fun P hP => by
  obtain ⟨ps, h1, h2, h3⟩ := t P hP
  refine ⟨ps, ?_, h2, fun pos cv hc => ?_⟩
  · rw [upd_ne (fun z => by rw [z, h] at h1; cases h1)]
    exact h1
  · obtain ⟨c, e1, e2⟩ := h3 pos cv hc
    refine ⟨c, e1, ?_⟩
    rw [upd_ne (fun z => by
      rw [z, h] at e2
      have := Option.some.inj e2
      unfold CodeO at this
      cases this)]
    exact e2
theorem tabs_new (t : TabsOk Ps nm H) (h : H p = none) : TabsOk Ps nm (upd H p o) := t.ext (same_upd h)
theorem tabs_nil (h : ∀ P ∈ Ps, H P = some (.tbl #[])) : TabsOk Ps nm H := fun P hP => NdefX.TabN.nil (h P hP)
/-- all but s and the tables stays -/
def StayN (s : Addr) (H H' : Hp) : Prop := ∀ b o, b ≠ s → H b = some o → (∀ ps, o ≠ .tbl ps) → H' b = some o
variable {s : Addr} {n : Nat}
theorem StayN.trans (a : StayN s H H1) (b : StayN s H1 H2) : StayN s H H2 := fun c o n h t => b c o n (a c o n h t) t
theorem StayN.of (e : ExtN H H') : StayN s H H' := fun b o _ h t => e b o h t
theorem StayN.st (e : Stay s H H') : StayN s H H' := fun b o n h _ => e b o n h
theorem StayN.mut (e : StayN s H H1) (h : H p = none) : StayN s H (upd H1 p o) := fun a u n ha t => by
  rw [upd_ne (ne_of_none ha h)]
  exact e a u n ha t
theorem ext_stayN (hn : H s = none) (e : StayN s (upd H s o) H') : ExtN H H' := fun b x h t => by
  have nb : b ≠ s := ne_of_none h hn
  exact e b x nb (by rw [upd_ne nb]; exact h) t
theorem tabs_stay (t : TabsOk Ps nm H) (e : Stay s H H') (hs : H s = some (.lst xs)) : TabsOk Ps nm H' := fun P hP => by
  obtain ⟨ps, h1, h2, h3⟩ := t P hP
  refine ⟨ps, e _ _ (fun z => by rw [z, hs] at h1; cases h1) h1, h2, fun pos cv hc => ?_⟩
  obtain ⟨c, e1, e2⟩ := h3 pos cv hc
  refine ⟨c, e1, e _ _ (fun z => ?_) e2⟩
  rw [z, hs] at e2
  have := Option.some.inj e2
  unfold CodeO at this
  cases this
theorem tabs_src (t : TabsOk Ps nm H) (e : Stay s H H') (hs : Src H s n) : TabsOk Ps nm H' := by
  obtain ⟨o, ho, a, b, c, rfl, _⟩ := hs
  exact tabs_stay t e ho
theorem src_ext (e : ExtN H H') (hs : Src H s n) : Src H' s n := by
  obtain ⟨o, ho, a, b, c, rfl, r⟩ := hs
  exact ⟨_, ext_lst e ho, a, b, c, rfl, r⟩
theorem src_same (e : Same H H') (hs : Src H s n) : Src H' s n := hs.elim fun o z => ⟨o, e _ _ z.1, z.2⟩
mutual
theorem dp_ext (e : ExtN H H') : ∀ {v : V} {d : PyData}, Dp K H v d → Dp K H' v d
  | _, _, .non => .non
  | _, _, .bl b => .bl b
  | _, _, .int i => .int i
  | _, _, .str x => .str x
  | _, _, .lst h a => .lst (ExtN.seq e h) (dp_extA e a)
  | _, _, .tup h a => .tup (ExtN.tup e h) (dp_extA e a)
theorem dp_extA (e : ExtN H H') : ∀ {vs : List V} {ds : List PyData}, DpAll K H vs ds → DpAll K H' vs ds
  | _, _, .nil => .nil
  | _, _, .cons a b => .cons (dp_ext e a) (dp_extA e b)
end
end
end NS

namespace NS
open PySem L2
def top (i : Nat) : Stmt := PySem.Challenge.pw_nearslot_k09_known_verdicts.main.body.getD i (.Pass ⟨0, 0, 0, 0⟩)
abbrev s_in_row : Stmt := top 4
abbrev s_all_in_row : Stmt := top 5
abbrev s_nearness : Stmt := top 6
abbrev s_needs : Stmt := top 7
abbrev s_nearest : Stmt := top 8
abbrev s_put_into : Stmt := top 9
abbrev s_cells_of : Stmt := top 10
abbrev s_filled : Stmt := top 11
abbrev s_taken_cells : Stmt := top 13
abbrev s_needed_cells : Stmt := top 14
abbrev s_first_gap : Stmt := top 15
abbrev s_need_one_another : Stmt := top 16
abbrev s_first_both : Stmt := top 17
abbrev s_comes_after_needed : Stmt := top 18
abbrev s_first_misfit : Stmt := top 19
abbrev s_ready_cells : Stmt := top 20
abbrev s_first_going_on : Stmt := top 21
abbrev s_verdict : Stmt := top 23
abbrev s_shows_order : Stmt := top 24
abbrev s_shows_gap : Stmt := top 25
abbrev s_shows_both : Stmt := top 26
abbrev s_pair_in_row : Stmt := top 27
abbrev s_law_source : Stmt := top 29
abbrev s_law_equal : Stmt := top 30
abbrev s_law_holds : Stmt := top 31
abbrev s_law : Stmt := top 32
def nmL (l c : Nat) : Str := if l = 22 ∧ c = 25 then "nearest.<locals>.<lambda>" else ""

theorem sc_in_row : FnScope ["thing", "size"] ["thing", "size"] (defScope s_in_row) := ⟨rfl, rfl, rfl, by decide +kernel, rfl, by decide +kernel, by decide +kernel⟩
theorem sc_all_in_row : FnScope ["thing", "size", "cell"] ["thing", "size"] (defScope s_all_in_row) := ⟨rfl, rfl, rfl, by decide +kernel, rfl, by decide +kernel, by decide +kernel⟩
theorem sc_nearness : FnScope ["cell", "wish"] ["cell", "wish"] (defScope s_nearness) := ⟨rfl, rfl, rfl, by decide +kernel, rfl, by decide +kernel, by decide +kernel⟩
theorem sc_needs : FnScope ["size", "cell", "wish", "own", "other"] ["size", "cell", "wish"] (defScope s_needs) := ⟨rfl, rfl, rfl, by decide +kernel, rfl, by decide +kernel, by decide +kernel⟩
theorem sc_nearest : FnScope ["table", "wish", "free", "cell", "entry"] ["table", "wish"] (defScope s_nearest) := ⟨rfl, rfl, rfl, by decide +kernel, rfl, by decide +kernel, by decide +kernel⟩
theorem sc_put_into : FnScope ["table", "wishes", "row", "cells", "wish", "cell"] ["table", "wishes"] (defScope s_put_into) := ⟨rfl, rfl, rfl, by decide +kernel, rfl, by decide +kernel, by decide +kernel⟩
theorem sc_cells_of : FnScope ["size", "wishes"] ["size", "wishes"] (defScope s_cells_of) := ⟨rfl, rfl, rfl, by decide +kernel, rfl, by decide +kernel, by decide +kernel⟩
theorem sc_filled : FnScope ["size", "wishes"] ["size", "wishes"] (defScope s_filled) := ⟨rfl, rfl, rfl, by decide +kernel, rfl, by decide +kernel, by decide +kernel⟩
theorem sc_taken_cells : FnScope ["table", "cell", "entry"] ["table"] (defScope s_taken_cells) := ⟨rfl, rfl, rfl, by decide +kernel, rfl, by decide +kernel, by decide +kernel⟩
theorem sc_needed_cells : FnScope ["table", "cell", "wish"] ["table", "cell"] (defScope s_needed_cells) := ⟨rfl, rfl, rfl, by decide +kernel, rfl, by decide +kernel, by decide +kernel⟩
theorem sc_first_gap : FnScope ["table", "cell", "needed"] ["table"] (defScope s_first_gap) := ⟨rfl, rfl, rfl, by decide +kernel, rfl, by decide +kernel, by decide +kernel⟩
theorem sc_need_one_another : FnScope ["table", "one", "other"] ["table", "one", "other"] (defScope s_need_one_another) := ⟨rfl, rfl, rfl, by decide +kernel, rfl, by decide +kernel, by decide +kernel⟩
theorem sc_first_both : FnScope ["table", "one", "other"] ["table"] (defScope s_first_both) := ⟨rfl, rfl, rfl, by decide +kernel, rfl, by decide +kernel, by decide +kernel⟩
theorem sc_comes_after_needed : FnScope ["table", "cell", "came", "needed"] ["table", "cell", "came"] (defScope s_comes_after_needed) := ⟨rfl, rfl, rfl, by decide +kernel, rfl, by decide +kernel, by decide +kernel⟩
theorem sc_first_misfit : FnScope ["table", "cells", "place", "cell"] ["table", "cells"] (defScope s_first_misfit) := ⟨rfl, rfl, rfl, by decide +kernel, rfl, by decide +kernel, by decide +kernel⟩
theorem sc_ready_cells : FnScope ["table", "came", "rest", "cell"] ["table", "came"] (defScope s_ready_cells) := ⟨rfl, rfl, rfl, by decide +kernel, rfl, by decide +kernel, by decide +kernel⟩
theorem sc_first_going_on : FnScope ["table", "came", "cells", "order", "cell"] ["table", "came", "cells"] (defScope s_first_going_on) := ⟨rfl, rfl, rfl, by decide +kernel, rfl, by decide +kernel, by decide +kernel⟩
theorem sc_verdict : FnScope ["table", "gap", "both"] ["table"] (defScope s_verdict) := ⟨rfl, rfl, rfl, by decide +kernel, rfl, by decide +kernel, by decide +kernel⟩
theorem sc_shows_order : FnScope ["table", "thing"] ["table", "thing"] (defScope s_shows_order) := ⟨rfl, rfl, rfl, by decide +kernel, rfl, by decide +kernel, by decide +kernel⟩
theorem sc_shows_gap : FnScope ["table", "thing", "cell", "empty"] ["table", "thing"] (defScope s_shows_gap) := ⟨rfl, rfl, rfl, by decide +kernel, rfl, by decide +kernel, by decide +kernel⟩
theorem sc_shows_both : FnScope ["table", "thing", "one", "other"] ["table", "thing"] (defScope s_shows_both) := ⟨rfl, rfl, rfl, by decide +kernel, rfl, by decide +kernel, by decide +kernel⟩
theorem sc_pair_in_row : FnScope ["thing", "size"] ["thing", "size"] (defScope s_pair_in_row) := ⟨rfl, rfl, rfl, by decide +kernel, rfl, by decide +kernel, by decide +kernel⟩
theorem sc_law_source : FnScope ["_law_script", "_law_index", "_law_core"] ["_law_script", "_law_index"] (defScope s_law_source) := ⟨rfl, rfl, rfl, by decide +kernel, rfl, by decide +kernel, by decide +kernel⟩
theorem sc_law_equal : FnScope ["_law_found", "_law_due", "_law_lone", "_law_mate"] ["_law_found", "_law_due"] (defScope s_law_equal) := ⟨rfl, rfl, rfl, by decide +kernel, rfl, by decide +kernel, by decide +kernel⟩
theorem sc_law_holds : FnScope ["_law_source_here", "_law_shelf", "_law_told", "_law_due", "_law_some"] ["_law_source_here"] (defScope s_law_holds) := ⟨rfl, rfl, rfl, by decide +kernel, rfl, by decide +kernel, by decide +kernel⟩
theorem sc_law : FnScope ["_law_script", "_law_index"] ["_law_script"] (defScope s_law) := ⟨rfl, rfl, rfl, by decide +kernel, rfl, by decide +kernel, by decide +kernel⟩


structure Bt (mg : Str → Option Value) : Prop where
  abs : mg "abs" = none
  all : mg "all" = none
  bool : mg "bool" = none
  enumerate : mg "enumerate" = none
  int : mg "int" = none
  isinstance : mg "isinstance" = none
  len : mg "len" = none
  list : mg "list" = none
  max : mg "max" = none
  min : mg "min" = none
  range : mg "range" = none
  sorted : mg "sorted" = none
  str : mg "str" = none
  tuple : mg "tuple" = none
  zip : mg "zip" = none
  c_UNKNOWN : ∃ t, mg "UNKNOWN" = some (Value.str "?" t)

section
variable {P : Program} {w : World} {K : PySem.W.Frag} {mg : Str → Option Value} {base : Heap}
/-! ### a def that tells by a table and a value -/
def spTell (K : PySem.W.Frag) (g : List V → PyData → Bool) : Sp := fun vs H Q _ => ∃ (a : Addr) (ys : List V) (x : V) (d : PyData), vs = [.ref a, x] ∧ (SqL K H a ys ∨ SqT K H a ys) ∧ 1 ≤ ys.length ∧ ys.length ≤ 100 ∧ (∀ y ∈ ys, TabV ys.length y) ∧ Dp K H x d ∧ SeqAt.shaped d = true ∧ lenD d ≤ 60 ∧ ∀ H', Same H H' → Q (.bl (g ys d)) H'

/-! ### what shows_gap, shows_both tell -/
def gapD (ys : List V) : PyData → Bool
  | .tuple [.int c, .int e] => decide (c ∈ fullL ys) && decide (e ∈ wantL ys c) && isN (ys.getD e.toNat .non)
  | _ => false
def bothD (ys : List V) : PyData → Bool
  | .tuple [.int c, .int e] => decide (c ∈ fullL ys) && decide (e ∈ wantL ys c) && (decide (e ∈ fullL ys) && decide (c ∈ wantL ys e))
  | _ => false
theorem tell_len {ys : List V} {ds : List PyData} (h : ds.length ≠ 2) : gapD ys (.tuple ds) = false ∧ bothD ys (.tuple ds) = false := by
  match ds, h with
  | [], _ => exact ⟨rfl, rfl⟩
  | [d], _ => cases d <;> exact ⟨rfl, rfl⟩
  | [_, _], h => exact absurd rfl h
  | d1 :: d2 :: _ :: _, _ => cases d1 <;> cases d2 <;> exact ⟨rfl, rfl⟩
theorem tell_int {ys : List V} {d1 d2 : PyData} (h : (isIntD d1 && isIntD d2) = false) : gapD ys (.tuple [d1, d2]) = false ∧ bothD ys (.tuple [d1, d2]) = false := by
  cases d1 with
  | int c =>
    cases d2 with
    | int e => cases h
    | _ => exact ⟨rfl, rfl⟩
  | _ => exact ⟨rfl, rfl⟩
theorem tell_pair {ys : List V} {c e : Int} (h : ¬ (c ∈ fullL ys ∧ e ∈ wantL ys c)) : gapD ys (.tuple [.int c, .int e]) = false ∧ bothD ys (.tuple [.int c, .int e]) = false := by
  have z : (decide (c ∈ fullL ys) && decide (e ∈ wantL ys c)) = false := by
    rw [← Bool.not_eq_true, Bool.and_eq_true, decide_eq_true_eq, decide_eq_true_eq]
    exact h
  constructor
  · show (decide (c ∈ fullL ys) && decide (e ∈ wantL ys c) && _) = false
    rw [z]
    rfl
  · show (decide (c ∈ fullL ys) && decide (e ∈ wantL ys c) && _) = false
    rw [z]
    rfl
theorem tell_yes {ys : List V} {c e : Int} (h1 : c ∈ fullL ys) (h2 : e ∈ wantL ys c) : gapD ys (.tuple [.int c, .int e]) = isN (ys.getD e.toNat .non) ∧ bothD ys (.tuple [.int c, .int e]) = (decide (e ∈ fullL ys) && decide (c ∈ wantL ys e)) := by
  constructor
  · show (decide (c ∈ fullL ys) && decide (e ∈ wantL ys c) && _) = _
    rw [decide_eq_true h1, decide_eq_true h2]
    rfl
  · show (decide (c ∈ fullL ys) && decide (e ∈ wantL ys c) && _) = _
    rw [decide_eq_true h1, decide_eq_true h2]
    rfl

/-! ### in_row -/
def inRowD (n : Int) : PyData → Bool
  | .int i => decide (0 ≤ i) && decide (i < n)
  | _ => false
def spInRow (K : PySem.W.Frag) : Sp := fun vs H Q _ => ∃ (x : V) (d : PyData) (n : Int), vs = [x, .int n] ∧ Dp K H x d ∧ Q (.bl (inRowD n d)) H
theorem ok_inrow (T : Bt mg) {f : Addr} {fd : FuncData} {k : Nat} (D : Df K mg "in_row" s_in_row ["thing", "size"] f fd) : Kn P w K mg base (k + 1) "in_row" s_in_row ["thing", "size"] (spInRow K) f fd := by
  refine ⟨D, D.F.ok sc_in_row (fun vs H Q E h => ?_) (fun cdv A outer s H vs Q E hr h => ?_)⟩
  · obtain ⟨x, d, n, rfl, _⟩ := h
    rfl
  obtain ⟨x, d, n, rfl, hd, q⟩ := h
  refine ⟨_, (pss_one (ps_ret (pe_and (pe_callB (call_isiKK (K := K) rfl) (by rfl) T.isinstance (by decide +kernel) (pa_cons (pv 0) (pa_cons (pe_bltn (v := .ty "int") (by rfl) T.int (by decide +kernel) rfl) pa_nil))) (pe_and (pe_not (pe_callB (call_isiKK (K := K) rfl) (by rfl) T.isinstance (by decide +kernel) (pa_cons (pv 0) (pa_cons (pe_bltn (v := .ty "bool") (by rfl) T.bool (by decide +kernel) rfl) pa_nil)))) (pe_one (pe_chain op_le op_lt pe_int (pv 0) (pv 1))))))), ?_⟩
  cases hd with
  | non => exact ⟨_, rfl, _, _, _, _, _, rfl, .ty _, .base .non, kit_ty (r := false) (by decide +kernel), _, rfl, iteF q⟩
  | bl b =>
    refine ⟨_, rfl, _, _, _, _, _, rfl, .ty _, .base (.bl _), kit_ty (r := true) (by decide +kernel), _, rfl, iteT ?_⟩
    exact ⟨_, rfl, _, _, _, _, _, rfl, .ty _, .base (.bl _), kit_ty (r := true) (by decide +kernel), _, rfl, false, rfl, iteF q⟩
  | int i =>
    refine ⟨_, rfl, _, _, _, _, _, rfl, .ty _, .base (.int _), kit_ty (r := true) (by decide +kernel), _, rfl, iteT ?_⟩
    refine ⟨_, rfl, _, _, _, _, _, rfl, .ty _, .base (.int _), kit_ty (r := false) (by decide +kernel), _, rfl, true, rfl, iteT ?_⟩
    refine ⟨_, rfl, _, _, rfl, rfl, _, rfl, ?_⟩
    by_cases h0 : 0 ≤ i
    · rw [decide_eq_true h0]
      refine iteT ⟨_, rfl, _, _, rfl, rfl, ?_⟩
      have e : inRowD n (.int i) = decide (i < n) := by
        show (decide (0 ≤ i) && decide (i < n)) = _
        rw [decide_eq_true h0, Bool.true_and]
      rw [e] at q
      exact q
    · rw [decide_eq_false h0]
      refine iteF ?_
      have e : inRowD n (.int i) = false := by
        show (decide (0 ≤ i) && decide (i < n)) = _
        rw [decide_eq_false h0, Bool.false_and]
      rw [← e]
      exact q
  | str z => exact ⟨_, rfl, _, _, _, _, _, rfl, .ty _, .base (.str _), kit_ty (r := false) (by decide +kernel), _, rfl, iteF q⟩
  | lst h1 h2 => exact ⟨_, rfl, _, _, _, _, _, rfl, .ty _, tyL h1, kit_ty (r := false) (by decide +kernel), _, rfl, iteF q⟩
  | tup h1 h2 => exact ⟨_, rfl, _, _, _, _, _, rfl, .ty _, tyT h1, kit_ty (r := false) (by decide +kernel), _, rfl, iteF q⟩
theorem inRow_ex {n : Nat} {d : PyData} (h : inRowD (n : Int) d = true) : ∃ i : Nat, d = .int (i : Int) ∧ i < n := by
  cases d with
  | int z =>
    have h' : (decide (0 ≤ z) && decide (z < (n : Int))) = true := h
    rw [Bool.and_eq_true, decide_eq_true_eq, decide_eq_true_eq] at h'
    refine ⟨z.toNat, ?_, by omega⟩
    rw [Int.toNat_of_nonneg h'.1]
  | _ => cases h
theorem inRow_int {d : PyData} {n : Int} (h : inRowD n d = true) : isIntD d = true := by
  cases d with
  | int z => rfl
  | _ => cases h
theorem inRow_nat {n i : Nat} (h : i < n) : inRowD (n : Int) (.int (i : Int)) = true := by
  show (decide (0 ≤ (i : Int)) && decide ((i : Int) < (n : Int))) = true
  rw [Bool.and_eq_true, decide_eq_true_eq, decide_eq_true_eq]
  omega

/-! ### all_in_row -/
def allInD (n : Int) : PyData → Bool
  | .tuple ds => ds.all (inRowD n)
  | _ => false
def spAllIn (K : PySem.W.Frag) : Sp := fun vs H Q _ => ∃ (x : V) (d : PyData) (n : Nat), vs = [x, .int n] ∧ Dp K H x d ∧ lenD d ≤ 900 ∧ ∀ H', Same H H' → Q (.bl (allInD n d)) H'
theorem ok_allin (T : Bt mg) {f f1 : Addr} {fd fd1 : FuncData} {k : Nat} (D : Df K mg "all_in_row" s_all_in_row ["thing", "size"] f fd) (k_in_row : Kn P w K mg base (k + 1) "in_row" s_in_row ["thing", "size"] (spInRow K) f1 fd1) : Kn P w K mg base (k + 2) "all_in_row" s_all_in_row ["thing", "size"] (spAllIn K) f fd := by
  refine ⟨D, D.F.ok sc_all_in_row (fun vs H Q E h => ?_) (fun cdv A outer s H vs Q E hr h => ?_)⟩
  · obtain ⟨x, d, n, rfl, _⟩ := h
    rfl
  obtain ⟨x, d, n, rfl, hd, hlen, q⟩ := h
  refine ⟨_, (pss_one (ps_ret (pe_and (pe_callB (call_isiKK (K := K) rfl) (by rfl) T.isinstance (by decide +kernel) (pa_cons (pv 0) (pa_cons (pe_bltn (v := .ty "tuple") (by rfl) T.tuple (by decide +kernel) rfl) pa_nil))) (pe_one (pe_callB (cr_allK (K := K) rfl rfl) (by rfl) T.all (by decide +kernel) (pa_cons (pe_lc (own := [("cell", 2)]) (by rfl) sc_all_in_row.nd (pi_tup (pv 0)) (blkOk_by (own := [("cell", 2)]) (N := ["thing", "size", "cell"]) (sc := defScope s_all_in_row) (by decide +kernel)) (fun _ _ _ _ _ => (pg_name (i := 2) sc_all_in_row.nd rfl (.inl rfl))) (fun _ _ _ _ _ => pts_nil) (fun _ _ _ _ _ => (pe_call k_in_row.G (hr.mono (by omega)) (by rfl) k_in_row.D.g k_in_row.D.F.kp k_in_row.D.b .nil pass0 (pa_cons (pv 2) (pa_cons (pv 1) pa_nil))))) pa_nil)))))), ?_⟩
  cases hd with
  | non => exact ⟨_, rfl, _, _, _, _, _, rfl, .ty _, .base .non, kit_ty (r := false) (by decide +kernel), _, rfl, iteF (q _ (Same.refl _))⟩
  | bl b => exact ⟨_, rfl, _, _, _, _, _, rfl, .ty _, .base (.bl _), kit_ty (r := false) (by decide +kernel), _, rfl, iteF (q _ (Same.refl _))⟩
  | int i => exact ⟨_, rfl, _, _, _, _, _, rfl, .ty _, .base (.int _), kit_ty (r := false) (by decide +kernel), _, rfl, iteF (q _ (Same.refl _))⟩
  | str z => exact ⟨_, rfl, _, _, _, _, _, rfl, .ty _, .base (.str _), kit_ty (r := false) (by decide +kernel), _, rfl, iteF (q _ (Same.refl _))⟩
  | lst h1 h2 => exact ⟨_, rfl, _, _, _, _, _, rfl, .ty _, tyL h1, kit_ty (r := false) (by decide +kernel), _, rfl, iteF (q _ (Same.refl _))⟩
  | @tup b xs ds h1 h2 =>
    have hl := dpAll_len h2
    have hz' : ds.length ≤ 900 := hlen
    refine ⟨_, rfl, _, _, _, _, _, rfl, .ty _, tyT h1, kit_ty (r := true) (by decide +kernel), _, rfl, iteT ?_⟩
    refine ⟨_, rfl, b, rfl, ⟨_, h1⟩, fun L hL => ?_⟩
    refine lc_tup (xs := xs) (fun i H2 => Same H H2 ∧ H2 L = some (.lst (((ds.map (inRowD (n : Int))).take i).map V.bl))) ⟨same_upd hL, upd_same⟩ (fun i H2 _ hP => Same.tup hP.1 h1) (fun i y H2 gy hP => ?_) (fun H2 hP => ?_)
    · obtain ⟨s2, e2⟩ := hP
      obtain ⟨d1, g1, p1⟩ := dpAll_get h2 gy
      have hi : i < xs.length := (List.getElem?_eq_some_iff.mp gy).1
      refine ⟨rfl, ?_⟩
      refine ⟨_, rfl, _, rfl, y, d1, (n : Int), rfl, dp_same s2 p1, ?_⟩
      refine ⟨_, e2, ?_, Same.mut s2 hL, ?_⟩
      · rw [List.length_map, List.length_take]
        exact small1000 (by omega)
      · rw [upd_same, List.take_add_one, List.getElem?_map, g1, List.map_append]
        rfl
    · obtain ⟨s2, e2⟩ := hP
      refine ⟨L, _, rfl, sqL e2, ?_⟩
      have ev : (((ds.map (inRowD (n : Int))).take xs.length).all id) = allInD n (.tuple ds) := by
        rw [hl, List.take_of_length_le (by rw [List.length_map]; exact Nat.le_refl _), List.all_map]
        rfl
      rw [ev]
      exact q _ s2
theorem allIn_ints {n : Nat} {d : PyData} (h : allInD n d = true) : ∃ ns : List Int, d = .tuple (ns.map PyData.int) ∧ ∀ z ∈ ns, ∃ i : Nat, z = (i : Int) ∧ i < n := by
  cases d with
  | tuple ds =>
    have h' : ds.all (inRowD n) = true := h
    obtain ⟨ns, rfl⟩ := ints_all (show ds.all isIntD = true by
      rw [List.all_eq_true] at h' ⊢
      exact fun d hd => inRow_int (h' d hd))
    refine ⟨ns, rfl, fun z hz => ?_⟩
    rw [List.all_map, List.all_eq_true] at h'
    obtain ⟨i, e, hi⟩ := inRow_ex (h' z hz)
    exact ⟨i, PyData.int.inj e, hi⟩
  | _ => cases h

/-! ### nearness -/
def spNearness : Sp := fun vs H Q _ => ∃ c w : Int, vs = [.int c, .int w] ∧ ∀ p, H p = none → Q (.ref p) (upd H p (.tup [.int (dist c w), .int c]))
theorem ok_nearness (T : Bt mg) {f : Addr} {fd : FuncData} {k : Nat} (D : Df K mg "nearness" s_nearness ["cell", "wish"] f fd) : Kn P w K mg base (k + 1) "nearness" s_nearness ["cell", "wish"] spNearness f fd := by
  refine ⟨D, D.F.ok sc_nearness (fun vs H Q E h => ?_) (fun cdv A outer s H vs Q E hr h => ?_)⟩
  · obtain ⟨a, ns, rfl, _⟩ := h
    rfl
  obtain ⟨c, w', rfl, q⟩ := h
  refine ⟨_, (pss_one (ps_ret (pe_tup (pa_cons (pe_callB call_abs (by rfl) T.abs (by decide +kernel) (pa_cons (pe_op op_sub (pv 0) (pv 1)) pa_nil)) (pa_cons (pv 0) pa_nil))))), ?_⟩
  exact ⟨_, rfl, _, rfl, _, _, rfl, rfl, _, rfl, _, rfl, (by show 2 ≤ sizeLine; decide), fun p hp => q p hp⟩

/-! ### needs -/
def spNeeds : Sp := fun vs H Q _ => ∃ (n : Nat) (c w : Int), vs = [.int n, .int c, .int w] ∧ n ≤ 100 ∧ ∀ p H', Same H H' → H p = none → H' p = some (.tup ((needsL n c w).map V.int)) → Q (.ref p) H'
theorem ok_needs (T : Bt mg) {f f1 : Addr} {fd fd1 : FuncData} {k : Nat} (D : Df K mg "needs" s_needs ["size", "cell", "wish"] f fd) (k_nearness : Kn P w K mg base (k + 1) "nearness" s_nearness ["cell", "wish"] spNearness f1 fd1) : Kn P w K mg base (k + 2) "needs" s_needs ["size", "cell", "wish"] spNeeds f fd := by
  refine ⟨D, D.F.ok sc_needs (fun vs H Q E h => ?_) (fun cdv A outer s H vs Q E hr h => ?_)⟩
  · obtain ⟨n, c, w', rfl, _⟩ := h
    rfl
  obtain ⟨n, c, w', rfl, hn, q⟩ := h
  refine ⟨_, (pss_cons (ps_set (i := 3) sc_needs.nd rfl (.inr rfl) (pe_call k_nearness.G (hr.mono (by omega)) (by rfl) k_nearness.D.g k_nearness.D.F.kp k_nearness.D.b .nil pass0 (pa_cons (pv 1) (pa_cons (pv 2) pa_nil))))
      (pss_one (ps_ret (pe_callTy (call_tupleK (K := K) rfl) (by rfl) T.tuple (by decide +kernel) (pa_cons (pe_lc (own := [("other", 4)]) (by rfl) sc_needs.nd (pi_range1 (by rfl) T.range (pa_cons (pv 0) pa_nil)) (blkOk_by (own := [("other", 4)]) (N := ["size", "cell", "wish", "own", "other"]) (sc := defScope s_needs) (by decide +kernel)) (fun _ _ _ _ _ => (pg_name (i := 4) sc_needs.nd rfl (.inl rfl))) (fun _ _ _ _ _ => (pts_one (pt_cmpR (op_ltTK (K := K) rfl hr.units0) (pe_call k_nearness.G (hr.mono (by omega)) (by rfl) k_nearness.D.g k_nearness.D.F.kp k_nearness.D.b .nil pass0 (pa_cons (pv 4) (pa_cons (pv 2) pa_nil))) (pv 3) (nomark _)))) (fun _ _ _ _ _ => (pv 4))) pa_nil))))), ?_⟩
  -- own = nearness(cell, wish)
  refine ⟨_, rfl, _, rfl, c, w', rfl, fun o ho => ?_⟩
  -- the comprehension
  refine ⟨_, rfl, (n : Int), rfl, by omega, by omega, fun D' hD => ?_⟩
  have so : Same H (upd H o (.tup [.int (dist c w'), .int c])) := same_upd ho
  have en : ((n : Int)).toNat = n := Int.toNat_natCast n
  rw [en]
  refine lc_range (lo := 0) (n := n) (fun i H2 => Same (upd H o (.tup [.int (dist c w'), .int c])) H2 ∧ H2 D' = some (.lst ((needsL i c w').map V.int))) ⟨same_upd hD, upd_same⟩ (fun i H2 hi hP => ?_) (fun H2 hP => ?_)
  · obtain ⟨s2, e2⟩ := hP
    refine ⟨rfl, _, rfl, _, rfl, _, _, rfl, fun p hp => ?_⟩
    have h1 : Same H2 (upd H2 p (.tup [.int (dist (0 + (i : Int)) w'), .int (0 + (i : Int))])) := same_upd hp
    refine ⟨_, rfl, p, o, [dist (0 + (i : Int)) w', 0 + (i : Int)], [dist c w', c], rfl, rfl, sqT upd_same, sqT (h1 _ _ (s2 _ _ upd_same)), _, rfl, ?_⟩
    have ez : (0 : Int) + (i : Int) = (i : Int) := Int.zero_add _
    have hsz : ((needsL i c w').map V.int).length < sizeLine := by
      rw [List.length_map]
      exact small1000 (Nat.le_trans (needsL_len i c w') (by omega))
    rw [ez]
    rw [ez] at h1
    refine ite2 (fun hb => ?_) (fun hb => ?_)
    · refine ⟨_, rfl, _, h1 _ _ e2, hsz, ?_, ?_⟩
      · exact Same.mut (s2.trans h1) hD
      · rw [upd_same, needsL_succ, if_pos (show near w' c (i : Int) = true from hb), List.map_append]
        rfl
    · refine ⟨s2.trans h1, ?_⟩
      rw [needsL_succ, if_neg (show ¬ near w' c (i : Int) = true from hb), List.append_nil]
      exact h1 _ _ e2
  · obtain ⟨s2, e2⟩ := hP
    refine ⟨D', _, rfl, .inl ⟨sqL e2, fun l hl => ?_⟩⟩
    exact q l _ ((so.trans s2).trans (same_upd hl)) (so.free (s2.free hl)) upd_same

/-! ### nearest, put_into, cells_of, filled -/
/-- the free cell that is nearest to the wish -/
structure NSpot (ys : List V) (w : Int) (c : Nat) : Prop where
  at_ : ys[c]? = some .non
  best : ∀ x : Nat, ys[x]? = some .non → near w (c : Int) (x : Int) = false
def freeV (ys : List V) (i : Nat) : List Int := ((List.range i).filter fun x => isN (ys.getD x (.int 0))).map fun (x : Nat) => (x : Int)
theorem freeV_succ (ys : List V) (i : Nat) : freeV ys (i + 1) = freeV ys i ++ (if isN (ys.getD i (.int 0)) = true then [(i : Int)] else []) := by
  unfold freeV
  rw [List.range_succ, List.filter_append, List.map_append, List.filter_cons, List.filter_nil]
  split <;> rfl
theorem freeV_len (ys : List V) (i : Nat) : (freeV ys i).length ≤ i := by
  unfold freeV
  rw [List.length_map]
  refine Nat.le_trans (List.length_filter_le _ _) ?_
  rw [List.length_range]
  exact Nat.le_refl _
theorem isN_at {ys : List V} {x : Nat} : isN (ys.getD x (.int 0)) = true ↔ ys[x]? = some .non := by
  rw [List.getD_eq_getElem?_getD]
  cases h : ys[x]? with
  | none => exact ⟨(fun z => nomatch z), (fun z => nomatch z)⟩
  | some v =>
    show isN v = true ↔ _
    cases v <;> simp [isN]
theorem mem_freeV {ys : List V} {x : Nat} : (x : Int) ∈ freeV ys ys.length ↔ ys[x]? = some .non := by
  unfold freeV
  rw [List.mem_map]
  constructor
  · rintro ⟨y, hy, e⟩
    obtain rfl : y = x := by omega
    exact isN_at.mp (List.mem_filter.mp hy).2
  · intro h
    exact ⟨x, List.mem_filter.mpr ⟨List.mem_range.mpr (List.getElem?_eq_some_iff.mp h).1, isN_at.mpr h⟩, rfl⟩
def spNearest (K : PySem.W.Frag) (Ps : List Addr) : Sp := fun vs H Q _ => ∃ (a : Addr) (ys : List V) (w : Int), vs = [.ref a, .int w] ∧ Sq K H a ys ∧ ys.length ≤ 100 ∧ (∃ x : Nat, ys[x]? = some .non) ∧ TabsOk Ps nmL H ∧
  ∀ (c : Nat) (H' : Hp), LamX.ExtN H H' → TabsOk Ps nmL H' → NSpot ys w c → Q (.int (c : Int)) H'
theorem ok_nearest (T : Bt mg) {f f1 c Pn : Addr} {fd fd1 : FuncData} {Ps : List Addr} (D : Df K mg "nearest" s_nearest ["table", "wish"] f fd) (L : DfC K "nearest" s_nearest f fd c) (TB : LamX.TabB base mg c Pn) (hP : Pn ∈ Ps)
    (k_nearness : Kn P w K mg base 1 "nearness" s_nearness ["cell", "wish"] spNearness f1 fd1) : Kn P w K mg base 4 "nearest" s_nearest ["table", "wish"] (spNearest K Ps) f fd := by
  refine ⟨D, okC L sc_nearest (fun vs H Q E h => ?_) (fun A outer s H vs Q E hr h => ?_)⟩
  · obtain ⟨a, ys, w', rfl, _⟩ := h
    rfl
  obtain ⟨a, ys, w', rfl, hS, hl, ⟨x0, hx0⟩, hT, q⟩ := h
  refine ⟨_, (pss_cons (ps_setLc (i := 2) (own := [("cell", 3), ("entry", 4)]) (by rfl) sc_nearest.nd rfl rfl (sw_true rfl rfl rfl (by decide +kernel)) (pi_enS (by rfl) T.enumerate (pa_cons (pv 0) pa_nil)) (blkOk_by (own := [("cell", 3), ("entry", 4)]) (N := ["table", "wish", "free", "cell", "entry"]) (sc := defScope s_nearest) (by decide +kernel)) (fun _ _ _ _ _ => (pg_tupK (K := K) (n := 2) rfl rfl (pgs_cons (pg_name (i := 3) sc_nearest.nd rfl (.inl rfl)) (pgs_cons (pg_name (i := 4) sc_nearest.nd rfl (.inl rfl)) pgs_nil)))) (fun _ _ _ _ _ => (pts_one (pt_cmpR op_isN (pv 4) pe_non (nomark _)))) (fun _ _ _ _ _ => (pv 3)))
      (pss_cons (ps_if (pt_not (pt_truth (pv 2) (by intro _; rfl))) (pss_one ps_never) pss_nil)
      (pss_one (ps_ret (pe_minL (K := K) (Ps := Ps) (nm := nmL) (N := ["cell", "wish"]) (fr := ["wish"]) (js := [1]) (k := 1) (a := "cell") rfl rfl hr (by rfl) T.min (by decide +kernel) (pa_cons (pv 2) pa_nil) TB rfl hP rfl rfl (NdefX.nscope_by (by decide +kernel)) (by show NdefX.ndefB (defScope s_nearest) _ _ = true; decide +kernel) rfl (fun _ _ _ _ _ us hl => match us, hl with | [_], _ => rfl) (fun A outer s H f c' hr => pe_call k_nearness.G hr (by rfl) k_nearness.D.g k_nearness.D.F.kp k_nearness.D.b .nil pass0 (pa_cons (pv 0) (pa_cons (pv 1) pa_nil)))))))), ?_⟩
  refine ⟨_, rfl, a, ys, rfl, hS, fun J G wk hG D' hD => ?_⟩
  refine lc_it wk (fun i H2 => Same H H2 ∧ H2 D' = some (.lst ((freeV ys i).map V.int))) ⟨same_upd hD, upd_same⟩ (fun i H2 _ hP => hG _ (ats_same hP.1)) (fun i v H2 H3 hi hP hY => ?_) (fun H2 hP => ?_)
  · obtain ⟨s2, e2⟩ := hP
    obtain ⟨T', x0, x, rfl, hT, rfl, e0, gx⟩ := hY
    cases e0
    change ys[i]? = some x at gx
    have h1 : Same H2 (upd H2 T' (.tup [.int (i : Nat), x])) := same_upd hT
    have gd : ys.getD i (.int 0) = x := by rw [List.getD_eq_getElem?_getD, gx]; rfl
    refine ⟨T', [.int (i : Nat), x], rfl, sqT upd_same, rfl, .int (i : Nat), [x], rfl, x, [], rfl, rfl, rfl, ?_⟩
    refine ⟨_, rfl, rfl, _, rfl, ?_⟩
    have e4 := h1 _ _ e2
    have hsz : ((freeV ys i).map V.int).length < sizeLine := by
      rw [List.length_map]
      exact small1000 (Nat.le_trans (freeV_len ys i) (by omega))
    have en : isN x = decide (x = .non) := by cases x <;> simp [isN]
    refine ite2 (fun c => ?_) (fun c => ?_)
    · refine ⟨_, rfl, _, e4, hsz, Same.mut (s2.trans h1) hD, ?_⟩
      rw [upd_same, freeV_succ, gd, en, if_pos (by simpa using c), List.map_append]
      rfl
    · refine ⟨s2.trans h1, ?_⟩
      rw [freeV_succ, gd, en, if_neg (by simpa using c), List.append_nil]
      exact e4
  · obtain ⟨s2, e2⟩ := hP
    have m0 : (x0 : Int) ∈ freeV ys ys.length := mem_freeV.mpr hx0
    have h0 : 0 < (freeV ys ys.length).length := List.length_pos_of_mem m0
    have he : ((freeV ys ys.length).map V.int).isEmpty = false := by
      cases hf : freeV ys ys.length with
      | nil => rw [hf] at m0; cases m0
      | cons => rfl
    dsimp only [gName, tSeq]
    refine ⟨_, rfl, true, .inl ⟨_, sqL e2, by rw [he]; rfl⟩, iteF ?_⟩
    dsimp only [tNext]
    refine ⟨_, rfl, D', _, rfl, sqL e2, by rw [List.length_map]; exact h0, hT.ext s2, fun H3 g3 T3 => ?_⟩
    refine ⟨fun i => [dist ((freeV ys ys.length).getD i 0) w', (freeV ys ys.length).getD i 0], fun i x H4 gx s4 => ?_, fun i x H4 gx hb s4 => ?_⟩
    · obtain ⟨z, gz, rfl⟩ := List.getElem?_map .. ▸ gx |> Option.map_eq_some_iff.mp
      have gd : (freeV ys ys.length).getD i 0 = z := by rw [List.getD_eq_getElem?_getD, gz]; rfl
      refine ⟨_, rfl, _, rfl, z, w', rfl, fun p hp => ⟨same_upd hp, p, rfl, ?_⟩⟩
      show SqT K _ p ([dist ((freeV ys ys.length).getD i 0) w', (freeV ys ys.length).getD i 0].map V.int)
      rw [gd]
      exact sqT upd_same
    · rw [List.getElem?_map] at gx
      obtain ⟨z, gz, rfl⟩ := Option.map_eq_some_iff.mp gx
      have gd : (freeV ys ys.length).getD i 0 = z := by rw [List.getD_eq_getElem?_getD, gz]; rfl
      have hz := List.mem_of_getElem? gz
      obtain ⟨c0, rfl⟩ : ∃ c0 : Nat, z = (c0 : Int) := by
        unfold freeV at hz
        obtain ⟨y, _, e⟩ := List.mem_map.mp hz
        exact ⟨y, e.symm⟩
      refine q c0 H4 (LamX.ExtN.trans (ext_same s2) (LamX.ExtN.trans g3 (ext_same s4))) (T3.ext s4) ⟨mem_freeV.mp hz, fun x hx => ?_⟩
      obtain ⟨j, hj⟩ := List.getElem?_of_mem (mem_freeV.mpr hx)
      have : HT.lexLt [dist ((freeV ys ys.length).getD j 0) w', (freeV ys ys.length).getD j 0] [dist ((freeV ys ys.length).getD i 0) w', (freeV ys ys.length).getD i 0] = false := hb j (by rw [List.length_map]; exact (List.getElem?_eq_some_iff.mp hj).1)
      have gj : (freeV ys ys.length).getD j 0 = (x : Int) := by rw [List.getD_eq_getElem?_getD, hj]; rfl
      rw [gd, gj] at this
      exact this
/-! ### put_into -/
inductive PutV : List V → List Int → List V → List Int → Prop
  | nil (ys : List V) : PutV ys [] ys []
  | snoc {ys : List V} {hs : List Int} {zs : List V} {qs : List Int} {h : Int} {c : Nat} : PutV ys hs zs qs → NSpot zs h c → PutV ys (hs ++ [h]) (zs.set c (.int h)) (qs ++ [(c : Int)])
/-- how many cells are free -/
def freN (ys : List V) : Nat := (ys.filter isN).length
theorem freN_cons (v : V) (ys : List V) : freN (v :: ys) = (if isN v = true then 1 else 0) + freN ys := by
  unfold freN
  rw [List.filter_cons]
  split
  · rw [List.length_cons]; omega
  · omega
theorem freN_set : ∀ {ys : List V} {c : Nat} {h : Int}, ys[c]? = some .non → freN (ys.set c (.int h)) + 1 = freN ys
  | [], _, _, q => by simp at q
  | v :: ys, 0, h, q => by
    have e : v = .non := Option.some.inj q
    subst e
    rw [List.set_cons_zero, freN_cons, freN_cons]
    show (0 + freN ys) + 1 = 1 + freN ys
    omega
  | v :: ys, c + 1, h, q => by
    have ih := freN_set (ys := ys) (c := c) (h := h) (by simpa using q)
    rw [List.set_cons_succ, freN_cons, freN_cons]
    omega
theorem freN_pos : ∀ {ys : List V}, 0 < freN ys → ∃ c : Nat, ys[c]? = some .non
  | [], h => absurd h (by decide)
  | v :: ys, h => by
    cases hv : isN v with
    | true =>
      refine ⟨0, ?_⟩
      cases v <;> first | rfl | cases hv
    | false =>
      rw [freN_cons, hv] at h
      obtain ⟨c, hc⟩ := freN_pos (ys := ys) (by simpa using h)
      exact ⟨c + 1, by simpa using hc⟩
theorem PutV.free {ys zs : List V} {hs qs : List Int} (p : PutV ys hs zs qs) : freN zs + hs.length = freN ys ∧ zs.length = ys.length ∧ qs.length = hs.length := by
  induction p with
  | nil => exact ⟨rfl, rfl, rfl⟩
  | @snoc hs zs qs h c _ sp ih =>
    have e := freN_set (h := h) sp.at_
    rw [List.length_append, List.length_append, List.length_singleton, List.length_singleton, List.length_set]
    omega
def spPut (K : PySem.W.Frag) (Ps : List Addr) : Sp := fun vs H Q _ => ∃ (a b : Addr) (ys : List V) (hs : List Int), vs = [.ref a, .ref b] ∧ Sq K H a ys ∧ Sq K H b (hs.map V.int) ∧ TrkN H b ∧ ys.length ≤ 100 ∧ hs.length ≤ freN ys ∧ TabsOk Ps nmL H ∧
  ∀ (t p q : Addr) (zs : List V) (qs : List Int) (H' : Hp), LamX.ExtN H H' → TabsOk Ps nmL H' → H q = none → H' t = some (.tup [.ref p, .ref q]) → H' p = some (.tup zs) → H' q = some (.lst (qs.map V.int)) → PutV ys hs zs qs → Q (.ref t) H'
theorem ok_put (T : Bt mg) {f f1 : Addr} {fd fd1 : FuncData} {Ps : List Addr} (D : Df K mg "put_into" s_put_into ["table", "wishes"] f fd) (k_nearest : Kn P w K mg base 4 "nearest" s_nearest ["table", "wish"] (spNearest K Ps) f1 fd1) : Kn P w K mg base 5 "put_into" s_put_into ["table", "wishes"] (spPut K Ps) f fd := by
  refine ⟨D, D.F.ok sc_put_into (fun vs H Q E h => ?_) (fun cdv A outer s H vs Q E hr h => ?_)⟩
  · obtain ⟨a, b, ys, hs, rfl, _⟩ := h
    rfl
  obtain ⟨a, b, ys, hs, rfl, hA, hB, nB, hl, hh, hT, q⟩ := h
  refine ⟨_, (pss_cons (ps_set (i := 2) sc_put_into.nd rfl (.inl rfl) (pe_callTy (call_listK (K := K) rfl) (by rfl) T.list (by decide +kernel) (pa_cons (pv 0) pa_nil)))
      (pss_cons (ps_set (i := 3) sc_put_into.nd rfl (.inl rfl) (pe_lst pa_nil))
      (pss_cons (ps_for PassesOwn.never rfl (pi_seq (pv 1)) (pg_name (i := 4) sc_put_into.nd rfl (.inl rfl)) (pss_cons (ps_set (i := 5) sc_put_into.nd rfl (.inl rfl) (pe_call k_nearest.G (hr.mono (by omega)) (by rfl) k_nearest.D.g k_nearest.D.F.kp k_nearest.D.b .nil pass0 (pa_cons (pv 2) (pa_cons (pv 4) pa_nil))))
      (pss_cons (ps_asg (pv 4) (pg_sub (pv 2) (pv 5) set_list))
      (pss_one (ps_expr (pe_bm PySem.F.plainAttrs_list PySem.F.slot_list_append PySem.F.type_list_append mt_append (pv 3) (pa_cons (pv 5) pa_nil)))))))
      (pss_one (ps_ret (pe_tup (pa_cons (pe_callTy (call_tupleK (K := K) rfl) (by rfl) T.tuple (by decide +kernel) (pa_cons (pv 2) pa_nil)) (pa_cons (pv 3) pa_nil)))))))), ?_⟩
  refine ⟨_, rfl, a, ys, rfl, hA, fun row hrow => ?_⟩
  have s1 := same_upd (o := .lst ys) hrow
  have g1 : (upd H row (.lst ys)) row = some (.lst ys) := upd_same
  have T1 := hT.ext s1
  generalize upd H row (.lst ys) = H1 at s1 g1 T1
  dsimp only [tSeq]
  refine ⟨(by show 0 ≤ sizeLine; decide), fun cl hcl => ?_⟩
  have s2 := same_upd (o := .lst []) hcl
  have nC : H cl = none := s1.free hcl
  have nrc : row ≠ cl := ne_of_none g1 hcl
  have g2 : (upd H1 cl (.lst [])) cl = some (.lst (([] : List Int).map V.int)) := upd_same
  have g1' := s2 _ _ g1
  have T2 := T1.ext s2
  have s12 := s1.trans s2
  generalize upd H1 cl (.lst []) = H2 at s2 g2 g1' T2 s12
  dsimp only [tSeq]
  refine ⟨_, rfl, b, hs.map V.int, rfl, Same.sq s12 hB, fun J G wk hG => ?_⟩
  rw [List.length_map] at wk
  refine for_it wk (fun i σ H' => ∃ (zs : List V) (qs : List Int) (y4 y5 : Option V), σ = [some (.ref a), some (.ref b), some (.ref row), some (.ref cl), y4, y5] ∧ LamX.ExtN H H' ∧ TabsOk Ps nmL H' ∧ H' row = some (.lst zs) ∧ H' cl = some (.lst (qs.map V.int)) ∧ PutV ys (hs.take i) zs qs)
    ⟨ys, [], _, _, rfl, ext_same s12, T2, g1', g2, .nil ys⟩ (fun i σ H' _ hP => ?_) (fun i x σ H4 H5 hi hP hY => ?_) (fun σ H4 hP => ?_)
  · obtain ⟨_, _, _, _, _, x4, _⟩ := hP
    exact hG _ (trk_ats nB (ext_same s12) x4)
  · obtain ⟨zs, qs, y4, y5, rfl, x4, T4, gr, gc, pv⟩ := hP
    obtain ⟨rfl, gx⟩ := hY
    rw [List.getElem?_map, List.getElem?_eq_getElem hi] at gx
    obtain rfl : V.int hs[i] = x := Option.some.inj gx
    generalize eh : hs[i] = h
    have pf := pv.free
    rw [List.length_take, Nat.min_eq_left (by omega)] at pf
    have fle : freN ys ≤ ys.length := List.length_filter_le _ _
    refine ⟨_, rfl, _, rfl, row, zs, h, rfl, sq_lst gr, by omega, freN_pos (by omega), T4, fun c H6 x6 T6 sp => ?_⟩
    have gr6 := ext_lst x6 gr
    have gc6 := ext_lst x6 gc
    have hcz : c < zs.length := (List.getElem?_eq_some_iff.mp sp.at_).1
    refine ⟨_, rfl, _, rfl, _, rfl, row, _, _, c, rfl, rfl, gr6, ixn' hcz, ?_⟩
    have T7 := tabs_upd (o := .lst (zs.set c (.int h))) T6 gr6
    have x7 := ext_mut (o := .lst (zs.set c (.int h))) (LamX.ExtN.trans x4 x6) hrow
    have gc7 : (upd H6 row (.lst (zs.set c (.int h)))) cl = some (.lst (qs.map V.int)) := by rw [upd_ne nrc.symm]; exact gc6
    have gr7 : (upd H6 row (.lst (zs.set c (.int h)))) row = some (.lst (zs.set c (.int h))) := upd_same
    generalize upd H6 row (.lst (zs.set c (.int h))) = H7 at T7 x7 gc7 gr7
    refine ⟨_, rfl, .inl ⟨rfl, _, sqL gc7⟩, _, rfl, cl, _, _, rfl, rfl, gc7, by rw [List.length_map]; exact small1000 (by omega), ?_⟩
    refine ⟨zs.set c (.int h), qs ++ [(c : Int)], _, _, rfl, ext_mut x7 nC, tabs_upd T7 gc7, ?_, ?_, ?_⟩
    · rw [upd_ne nrc]
      exact gr7
    · rw [upd_same, List.map_append]
      rfl
    · rw [take_snoc hi, eh]
      exact .snoc pv sp
  · obtain ⟨zs, qs, y4, y5, rfl, x4, T4, gr, gc, pv⟩ := hP
    rw [List.take_length] at pv
    refine ⟨_, rfl, row, _, rfl, .inl ⟨sqL gr, fun p hp => ?_⟩⟩
    have t5 := same_upd (o := .tup zs) hp
    refine ⟨_, rfl, (by show 2 ≤ sizeLine; decide), fun t ht => ?_⟩
    have t6 := same_upd (o := .tup [.ref p, .ref cl]) ht
    have t56 := t5.trans t6
    exact q t p cl zs qs _ (LamX.ExtN.trans x4 (ext_same t56)) (T4.ext t56) nC upd_same (t6 _ _ upd_same) (t56 _ _ gc) pv
theorem rep_none (n : Nat) : (List.replicate ((n : Int)).toNat [V.non]).flatten = List.replicate n V.non := by
  rw [Int.toNat_natCast]
  induction n with
  | zero => rfl
  | succ n ih =>
    rw [List.replicate_succ, List.replicate_succ, List.flatten_cons, ih]
    rfl
theorem freN_rep (n : Nat) : freN (List.replicate n V.non) = n := by
  induction n with
  | zero => rfl
  | succ n ih =>
    rw [List.replicate_succ, freN_cons, ih]
    show 1 + n = n + 1
    omega
def spCellsOf (K : PySem.W.Frag) (Ps : List Addr) : Sp := fun vs H Q _ => ∃ (n : Nat) (b : Addr) (hs : List Int), vs = [.int n, .ref b] ∧ Sq K H b (hs.map V.int) ∧ TrkN H b ∧ 1 ≤ n ∧ n ≤ 100 ∧ hs.length ≤ n ∧ TabsOk Ps nmL H ∧
  ∀ (p : Addr) (zs : List V) (qs : List Int) (H' : Hp), LamX.ExtN H H' → TabsOk Ps nmL H' → H' p = some (.tup (qs.map V.int)) → PutV (List.replicate n .non) hs zs qs → Q (.ref p) H'
theorem ok_cellsof (T : Bt mg) {f f1 : Addr} {fd fd1 : FuncData} {Ps : List Addr} (D : Df K mg "cells_of" s_cells_of ["size", "wishes"] f fd) (k_put_into : Kn P w K mg base 5 "put_into" s_put_into ["table", "wishes"] (spPut K Ps) f1 fd1) : Kn P w K mg base 6 "cells_of" s_cells_of ["size", "wishes"] (spCellsOf K Ps) f fd := by
  refine ⟨D, D.F.ok sc_cells_of (fun vs H Q E h => ?_) (fun cdv A outer s H vs Q E hr h => ?_)⟩
  · obtain ⟨n, b, hs, rfl, _⟩ := h
    rfl
  obtain ⟨n, b, hs, rfl, hB, nB, h1, hn, hh, hT, q⟩ := h
  refine ⟨_, (pss_one (ps_ret (pe_callTy (call_tupleK (K := K) rfl) (by rfl) T.tuple (by decide +kernel) (pa_cons (pe_ix (ix_tupK (K := K) rfl) (pe_call k_put_into.G (hr.mono (by omega)) (by rfl) k_put_into.D.g k_put_into.D.F.kp k_put_into.D.b .nil pass0 (pa_cons (pe_op op_repA (pe_tup (pa_cons pe_non pa_nil)) (pv 0)) (pa_cons (pv 1) pa_nil))) pe_int (fun _ _ => rfl)) pa_nil)))), ?_⟩
  refine ⟨(by show 1 ≤ sizeLine; decide), fun l0 hl0 => ?_⟩
  have s0 := same_upd (o := .tup [.non]) hl0
  refine ⟨_, rfl, l0, (n : Int), _, rfl, rfl, sqT upd_same, (fun z => nomatch z), by omega, by omega, by show 1 ≤ 1000; decide, fun a H1 s1 hA => ?_⟩
  rw [rep_none] at hA
  have s01 := s0.trans s1
  refine ⟨_, rfl, a, b, _, hs, rfl, .inr hA, Same.sq s01 hB, trk_ext nB (ext_same s01), by rw [List.length_replicate]; exact hn, by rw [freN_rep]; exact hh, hT.ext s01, fun t p c zs qs H2 x2 T2 nc gt gp gc pv => ?_⟩
  refine ⟨t, _, 1, .ref c, rfl, rfl, sqT gt, atI_nat (j := 1) rfl, ?_⟩
  refine ⟨c, _, rfl, .inl ⟨sqL gc, fun r hr' => ?_⟩⟩
  have s3 := same_upd (o := .tup (qs.map V.int)) hr'
  exact q r zs qs _ (LamX.ExtN.trans (ext_same s01) (LamX.ExtN.trans x2 (ext_same s3))) (T2.ext s3) upd_same pv
def spFilled (K : PySem.W.Frag) (Ps : List Addr) : Sp := fun vs H Q _ => ∃ (n : Nat) (b : Addr) (hs : List Int), vs = [.int n, .ref b] ∧ Sq K H b (hs.map V.int) ∧ TrkN H b ∧ 1 ≤ n ∧ n ≤ 100 ∧ hs.length ≤ n ∧ TabsOk Ps nmL H ∧
  ∀ (p : Addr) (zs : List V) (qs : List Int) (H' : Hp), LamX.ExtN H H' → TabsOk Ps nmL H' → H' p = some (.tup zs) → PutV (List.replicate n .non) hs zs qs → Q (.ref p) H'
theorem ok_filled (T : Bt mg) {f f1 : Addr} {fd fd1 : FuncData} {Ps : List Addr} (D : Df K mg "filled" s_filled ["size", "wishes"] f fd) (k_put_into : Kn P w K mg base 5 "put_into" s_put_into ["table", "wishes"] (spPut K Ps) f1 fd1) : Kn P w K mg base 6 "filled" s_filled ["size", "wishes"] (spFilled K Ps) f fd := by
  refine ⟨D, D.F.ok sc_filled (fun vs H Q E h => ?_) (fun cdv A outer s H vs Q E hr h => ?_)⟩
  · obtain ⟨n, b, hs, rfl, _⟩ := h
    rfl
  obtain ⟨n, b, hs, rfl, hB, nB, h1, hn, hh, hT, q⟩ := h
  refine ⟨_, (pss_one (ps_ret (pe_ix (ix_tupK (K := K) rfl) (pe_call k_put_into.G (hr.mono (by omega)) (by rfl) k_put_into.D.g k_put_into.D.F.kp k_put_into.D.b .nil pass0 (pa_cons (pe_op op_repA (pe_tup (pa_cons pe_non pa_nil)) (pv 0)) (pa_cons (pv 1) pa_nil))) pe_int (fun _ _ => rfl)))), ?_⟩
  refine ⟨(by show 1 ≤ sizeLine; decide), fun l0 hl0 => ?_⟩
  have s0 := same_upd (o := .tup [.non]) hl0
  refine ⟨_, rfl, l0, (n : Int), _, rfl, rfl, sqT upd_same, (fun z => nomatch z), by omega, by omega, by show 1 ≤ 1000; decide, fun a H1 s1 hA => ?_⟩
  rw [rep_none] at hA
  have s01 := s0.trans s1
  refine ⟨_, rfl, a, b, _, hs, rfl, .inr hA, Same.sq s01 hB, trk_ext nB (ext_same s01), by rw [List.length_replicate]; exact hn, by rw [freN_rep]; exact hh, hT.ext s01, fun t p c zs qs H2 x2 T2 nc gt gp gc pv => ?_⟩
  refine ⟨t, _, 0, .ref p, rfl, rfl, sqT gt, atI_nat (j := 0) rfl, ?_⟩
  exact q p zs qs _ (LamX.ExtN.trans (ext_same s01) x2) T2 gp pv

/-! ### taken_cells -/
def spTaken (K : PySem.W.Frag) : Sp := fun vs H Q _ => ∃ (a : Addr) (ys : List V), vs = [.ref a] ∧ Sq K H a ys ∧ ys.length ≤ 100 ∧ ∀ p H', Same H H' → H p = none → H' p = some (.lst ((fullL ys).map V.int)) → Q (.ref p) H'
theorem ok_taken (T : Bt mg) {f : Addr} {fd : FuncData} {k : Nat} (D : Df K mg "taken_cells" s_taken_cells ["table"] f fd) : Kn P w K mg base (k + 1) "taken_cells" s_taken_cells ["table"] (spTaken K) f fd := by
  refine ⟨D, D.F.ok sc_taken_cells (fun vs H Q E h => ?_) (fun cdv A outer s H vs Q E hr h => ?_)⟩
  · obtain ⟨a, ys, rfl, _⟩ := h
    rfl
  obtain ⟨a, ys, rfl, hS, hl, q⟩ := h
  refine ⟨_, (pss_one (ps_ret (pe_lc (own := [("cell", 1), ("entry", 2)]) (by rfl) sc_taken_cells.nd (pi_enS (by rfl) T.enumerate (pa_cons (pv 0) pa_nil)) (blkOk_by (own := [("cell", 1), ("entry", 2)]) (N := ["table", "cell", "entry"]) (sc := defScope s_taken_cells) (by decide +kernel)) (fun _ _ _ _ _ => (pg_tupK (K := K) (n := 2) rfl rfl (pgs_cons (pg_name (i := 1) sc_taken_cells.nd rfl (.inl rfl)) (pgs_cons (pg_name (i := 2) sc_taken_cells.nd rfl (.inl rfl)) pgs_nil)))) (fun _ _ _ _ _ => (pts_one (pt_cmpR op_notN (pv 2) pe_non (nomark _)))) (fun _ _ _ _ _ => (pv 1))))), ?_⟩
  refine ⟨_, rfl, a, ys, rfl, hS, fun J G wk hG D' hD => ?_⟩
  refine lc_it wk (fun i H2 => Same H H2 ∧ H2 D' = some (.lst ((fullN ys i).map V.int))) ⟨same_upd hD, upd_same⟩ (fun i H2 _ hP => hG _ (ats_same hP.1)) (fun i v H2 H3 hi hP hY => ?_) (fun H2 hP => q D' H2 hP.1 hD hP.2)
  obtain ⟨s2, e2⟩ := hP
  obtain ⟨T', x0, x, rfl, hT, rfl, e0, gx⟩ := hY
  cases e0
  change ys[i]? = some x at gx
  have h1 : Same H2 (upd H2 T' (.tup [.int (i : Nat), x])) := same_upd hT
  have gd : ys.getD i .non = x := by rw [List.getD_eq_getElem?_getD, gx]; rfl
  refine ⟨T', [.int (i : Nat), x], rfl, sqT upd_same, rfl, .int (i : Nat), [x], rfl, x, [], rfl, rfl, rfl, ?_⟩
  refine ⟨_, rfl, rfl, _, rfl, ?_⟩
  have e4 := h1 _ _ e2
  have hsz : ((fullN ys i).map V.int).length < sizeLine := by
    rw [List.length_map]
    exact small1000 (Nat.le_trans (fullN_len ys i) (by omega))
  have en : isN x = decide (x = .non) := by cases x <;> simp [isN]
  refine ite2 (fun c => ?_) (fun c => ?_)
  · refine ⟨_, rfl, _, e4, hsz, Same.mut (s2.trans h1) hD, ?_⟩
    rw [upd_same, fullN_succ, gd, en, if_neg (by simpa using c), List.map_append]
    rfl
  · refine ⟨s2.trans h1, ?_⟩
    rw [fullN_succ, gd, en, if_pos (by simpa using c), List.append_nil]
    exact e4

/-! ### needed_cells -/
theorem shaped_i (z : Int) : SeqAt.shaped (.int z) = true := by
  unfold SeqAt.shaped
  rw [PyData.canLay0, PyData.depth]
  rfl
theorem shaped_qm : SeqAt.shaped (.str "?") = true := by decide +kernel
theorem eqv_i_q (z : Int) : PyData.eqv (.int z) (.str "?") = false := by rw [PyData.eqv] <;> simp
theorem eqv_q_q : PyData.eqv (.str "?") (.str "?") = true := by decide +kernel
def spNeeded (K : PySem.W.Frag) : Sp := fun vs H Q _ => ∃ (a : Addr) (ys : List V) (i : Nat), vs = [.ref a, .int i] ∧ Sq K H a ys ∧ ys.length ≤ 100 ∧ i < ys.length ∧ (∀ y ∈ ys, TabV ys.length y) ∧ ∀ p H', Same H H' → H p = none → H' p = some (.tup ((wantL ys i).map V.int)) → Q (.ref p) H'
theorem ok_needed (T : Bt mg) {f f1 : Addr} {fd fd1 : FuncData} {k : Nat} (D : Df K mg "needed_cells" s_needed_cells ["table", "cell"] f fd) (k_needs : Kn P w K mg base (k + 2) "needs" s_needs ["size", "cell", "wish"] spNeeds f1 fd1) : Kn P w K mg base (k + 3) "needed_cells" s_needed_cells ["table", "cell"] (spNeeded K) f fd := by
  refine ⟨D, D.F.ok sc_needed_cells (fun vs H Q E h => ?_) (fun cdv A outer s H vs Q E hr h => ?_)⟩
  · obtain ⟨a, ys, i, rfl, _⟩ := h
    rfl
  obtain ⟨a, ys, i, rfl, hS, hl, hi, tab, q⟩ := h
  obtain ⟨tc_UNKNOWN, gc_UNKNOWN⟩ := T.c_UNKNOWN
  refine ⟨_, (pss_cons (ps_set (i := 2) sc_needed_cells.nd rfl (.inl rfl) (pe_ix (ix_seqK (K := K) rfl) (pv 0) (pv 1) (fun _ _ => rfl)))
      (pss_cons (ps_if (PW.pt (pw_or (pt_cmpR op_isN (pv 2) pe_non (nomark _)) (pw_or1 (pt_cmpR (op_eqDK (K := K) rfl hr.units) (pv 2) (pe_glob (v := .str "?") (by rfl) gc_UNKNOWN ⟨_, rfl⟩) (nomark _))))) (pss_one (ps_ret (pe_tup pa_nil))) pss_nil)
      (pss_one (ps_ret (pe_call k_needs.G (hr.mono (by omega)) (by rfl) k_needs.D.g k_needs.D.F.kp k_needs.D.b .nil pass0 (pa_cons (pe_callB (call_lenK (K := K) rfl) (by rfl) T.len (by decide +kernel) (pa_cons (pv 0) pa_nil)) (pa_cons (pv 1) (pa_cons (pv 2) pa_nil)))))))), ?_⟩
  have gi : ys[i]? = some ys[i] := List.getElem?_eq_getElem hi
  have gd : ys.getD i .non = ys[i] := by rw [List.getD_eq_getElem?_getD, gi]; rfl
  have hw : wantL ys i = wantV ys.length i ys[i] := by
    unfold wantL
    rw [Int.toNat_natCast, gd]
  rw [hw] at q
  have ht := tab ys[i] (List.getElem_mem hi)
  refine ⟨_, rfl, _, rfl, a, ys, (i : Int), _, rfl, rfl, hS, atI_nat gi, ?_⟩
  generalize ys[i] = y at q ht
  rcases ht with rfl | rfl | ⟨z, rfl, hz⟩
  · refine ⟨_, rfl, rfl, _, rfl, iteT (iteT ⟨(by show 0 ≤ sizeLine; decide), fun p hp => q p _ (same_upd hp) hp ?_⟩)⟩
    exact upd_same
  · refine ⟨_, rfl, rfl, _, rfl, iteF ⟨_, rfl, .str "?", .str "?", .str _, .str _, shaped_qm, shaped_qm, _, rfl, ?_⟩⟩
    rw [eqv_q_q]
    refine iteT ⟨(by show 0 ≤ sizeLine; decide), fun p hp => q p _ (same_upd hp) hp ?_⟩
    exact upd_same
  · refine ⟨_, rfl, rfl, _, rfl, iteF ⟨_, rfl, .int (z : Int), .str "?", .int _, .str _, shaped_i _, shaped_qm, _, rfl, ?_⟩⟩
    rw [eqv_i_q]
    refine iteF ⟨_, rfl, a, ys, rfl, hS, _, rfl, _, rfl, ys.length, (i : Int), (z : Int), rfl, hl, fun p H1 s1 np g1 => q p H1 s1 np g1⟩

/-! ### need_one_another -/
def spMutual (K : PySem.W.Frag) : Sp := fun vs H Q _ => ∃ (a : Addr) (ys : List V) (i j : Nat), vs = [.ref a, .int i, .int j] ∧ Sq K H a ys ∧ ys.length ≤ 100 ∧ i < ys.length ∧ j < ys.length ∧ (∀ y ∈ ys, TabV ys.length y) ∧ ∀ H', Same H H' → Q (.bl (decide ((i : Int) ∈ wantL ys j) && decide ((j : Int) ∈ wantL ys i))) H'
theorem ok_mutual (T : Bt mg) {f f1 : Addr} {fd fd1 : FuncData} {k : Nat} (D : Df K mg "need_one_another" s_need_one_another ["table", "one", "other"] f fd) (k_needed_cells : Kn P w K mg base (k + 3) "needed_cells" s_needed_cells ["table", "cell"] (spNeeded K) f1 fd1) : Kn P w K mg base (k + 4) "need_one_another" s_need_one_another ["table", "one", "other"] (spMutual K) f fd := by
  refine ⟨D, D.F.ok sc_need_one_another (fun vs H Q E h => ?_) (fun cdv A outer s H vs Q E hr h => ?_)⟩
  · obtain ⟨a, ys, i, j, rfl, _⟩ := h
    rfl
  obtain ⟨a, ys, i, j, rfl, hS, hl, hi, hj, tab, q⟩ := h
  refine ⟨_, (pss_one (ps_ret (pe_and (pe_cmpR (op_inK (K := K) rfl) (pv 1) (pe_call k_needed_cells.G (hr.mono (by omega)) (by rfl) k_needed_cells.D.g k_needed_cells.D.F.kp k_needed_cells.D.b .nil pass0 (pa_cons (pv 0) (pa_cons (pv 2) pa_nil))) (by rfl)) (pe_one (pe_cmpR (op_inK (K := K) rfl) (pv 2) (pe_call k_needed_cells.G (hr.mono (by omega)) (by rfl) k_needed_cells.D.g k_needed_cells.D.F.kp k_needed_cells.D.b .nil pass0 (pa_cons (pv 0) (pa_cons (pv 1) pa_nil))) (by rfl)))))), ?_⟩
  refine ⟨_, rfl, _, rfl, _, rfl, a, ys, j, rfl, hS, hl, hj, tab, fun p H1 s1 np gp => ?_⟩
  refine ⟨p, _, rfl, .inr (sqT gp), rfl, flat_ints _, _, rfl, ?_⟩
  rw [if_neg Bool.false_ne_true, inV_ints]
  refine ite2 (fun c => ?_) (fun c => ?_)
  · rw [c, Bool.true_and] at q
    refine ⟨_, rfl, _, rfl, _, rfl, a, ys, i, rfl, Same.sq s1 hS, hl, hi, tab, fun p2 H2 s2 np2 gp2 => ?_⟩
    refine ⟨p2, _, rfl, .inr (sqT gp2), rfl, flat_ints _, ?_⟩
    rw [if_neg Bool.false_ne_true, inV_ints]
    exact q _ (s1.trans s2)
  · rw [Bool.eq_false_iff.mpr c, Bool.false_and] at q
    exact q _ s1

/-! ### pair_in_row, shows_gap, shows_both -/
def pairD (n : Nat) : PyData → Bool
  | .tuple [a, b] => inRowD (n : Int) a && inRowD (n : Int) b
  | _ => false
theorem pairD_len {n : Nat} {ds : List PyData} (h : ds.length ≠ 2) : pairD n (.tuple ds) = false := by
  match ds, h with
  | [], _ => rfl
  | [d], _ => rfl
  | [_, _], h => exact absurd rfl h
  | d1 :: d2 :: _ :: _, _ => rfl
theorem pairD_ex {n : Nat} {d : PyData} (h : pairD n d = true) : ∃ i j : Nat, d = .tuple [.int (i : Int), .int (j : Int)] ∧ i < n ∧ j < n := by
  match d, h with
  | .tuple [a, b], h =>
    have h' : (inRowD (n : Int) a && inRowD (n : Int) b) = true := h
    rw [Bool.and_eq_true] at h'
    obtain ⟨i, rfl, hi⟩ := inRow_ex h'.1
    obtain ⟨j, rfl, hj⟩ := inRow_ex h'.2
    exact ⟨i, j, rfl, hi, hj⟩
def spPair (K : PySem.W.Frag) : Sp := fun vs H Q _ => ∃ (x : V) (d : PyData) (n : Nat), vs = [x, .int n] ∧ Dp K H x d ∧ lenD d ≤ 900 ∧ ∀ H', Same H H' → Q (.bl (pairD n d)) H'
theorem pair_all {n : Nat} {d : PyData} (h : allInD n d = false) : pairD n d = false := by
  match d, h with
  | .tuple [a, b], h =>
    have h' : (inRowD (n : Int) a && (inRowD (n : Int) b && true)) = false := h
    rw [Bool.and_true] at h'
    exact h'
  | .tuple [], _ => rfl
  | .tuple [_], _ => rfl
  | .tuple (_ :: _ :: _ :: _), _ => rfl
  | .none, _ => rfl
  | .bool _, _ => rfl
  | .int _, _ => rfl
  | .str _, _ => rfl
  | .list _, _ => rfl
  | .dict _, _ => rfl
theorem pair_two {n : Nat} {ds : List PyData} (h : ds.all (inRowD (n : Int)) = true) : decide (ds.length = 2) = pairD n (.tuple ds) := by
  match ds, h with
  | [], _ => rfl
  | [_], _ => rfl
  | [a, b], h =>
    have h' : (inRowD (n : Int) a && (inRowD (n : Int) b && true)) = true := h
    rw [Bool.and_true] at h'
    exact h'.symm
  | _ :: _ :: _ :: _, _ => rfl
theorem ok_pair (T : Bt mg) {f f1 : Addr} {fd fd1 : FuncData} {k : Nat} (D : Df K mg "pair_in_row" s_pair_in_row ["thing", "size"] f fd) (k_all_in_row : Kn P w K mg base (k + 2) "all_in_row" s_all_in_row ["thing", "size"] (spAllIn K) f1 fd1) : Kn P w K mg base (k + 3) "pair_in_row" s_pair_in_row ["thing", "size"] (spPair K) f fd := by
  refine ⟨D, D.F.ok sc_pair_in_row (fun vs H Q E h => ?_) (fun cdv A outer s H vs Q E hr h => ?_)⟩
  · obtain ⟨x, d, n, rfl, _⟩ := h
    rfl
  obtain ⟨x, d, n, rfl, hd, hlen, q⟩ := h
  refine ⟨_, (pss_one (ps_ret (pe_and (pe_call k_all_in_row.G (hr.mono (by omega)) (by rfl) k_all_in_row.D.g k_all_in_row.D.F.kp k_all_in_row.D.b .nil pass0 (pa_cons (pv 0) (pa_cons (pv 1) pa_nil))) (pe_one (pe_cmpR op_eq (pe_callB (call_lenK (K := K) rfl) (by rfl) T.len (by decide +kernel) (pa_cons (pv 0) pa_nil)) pe_int (nomark _)))))), ?_⟩
  refine ⟨_, rfl, _, rfl, x, d, n, rfl, hd, hlen, fun H1 s1 => ⟨_, rfl, ?_⟩⟩
  cases hr' : allInD n d with
  | false =>
    rw [pair_all hr'] at q
    exact iteF (q _ s1)
  | true =>
    refine iteT ?_
    cases hd with
    | @tup b xs ds h1 h2 =>
      have hl := dpAll_len h2
      refine ⟨_, rfl, b, xs, rfl, .inr (Same.tup s1 h1), rfl, ?_⟩
      have e : decide (V.int (xs.length : Int) = V.int 2) = pairD n (.tuple ds) := by
        rw [← pair_two (show ds.all (inRowD (n : Int)) = true from hr'), Bool.eq_iff_iff, decide_eq_true_eq, decide_eq_true_eq, hl]
        constructor
        · intro h
          have := V.int.inj h
          omega
        · intro h
          rw [h]
          rfl
      rw [e]
      exact q _ s1
    | _ => cases hr'
theorem want_taken {ys : List V} {i : Nat} {e : Int} (h : e ∈ wantL ys i) (hi : i < ys.length) : (i : Int) ∈ fullL ys := by
  refine fullL_mem.mpr ⟨i, rfl, hi, ?_⟩
  unfold wantL at h
  rw [Int.toNat_natCast] at h
  cases hv : ys.getD i .non with
  | non =>
    rw [hv] at h
    cases h
  | _ => rfl
theorem gap_eq {ys : List V} {i j : Nat} (hi : i < ys.length) : gapD ys (.tuple [.int (i : Int), .int (j : Int)]) = (isN (ys.getD j .non) && decide ((j : Int) ∈ wantL ys i)) := by
  by_cases c : (j : Int) ∈ wantL ys i
  · rw [(tell_yes (want_taken c hi) c).1, decide_eq_true c, Bool.and_true, Int.toNat_natCast]
  · rw [(tell_pair fun h => c h.2).1, decide_eq_false c, Bool.and_false]
theorem both_eq {ys : List V} {i j : Nat} (hi : i < ys.length) (hj : j < ys.length) : bothD ys (.tuple [.int (i : Int), .int (j : Int)]) = (decide ((i : Int) ∈ wantL ys j) && decide ((j : Int) ∈ wantL ys i)) := by
  by_cases c : (j : Int) ∈ wantL ys i
  · rw [(tell_yes (want_taken c hi) c).2, decide_eq_true c, Bool.and_true]
    by_cases c2 : (i : Int) ∈ wantL ys j
    · rw [decide_eq_true c2, decide_eq_true (want_taken c2 hj)]
      rfl
    · rw [decide_eq_false c2, Bool.and_false]
  · rw [(tell_pair fun h => c h.2).2, decide_eq_false c, Bool.and_false]
theorem pair_no {ys : List V} {d : PyData} (h : pairD ys.length d = false) : gapD ys d = false ∧ bothD ys d = false := by
  by_cases hd : ∃ c e : Int, d = .tuple [.int c, .int e]
  · obtain ⟨c, e, rfl⟩ := hd
    refine tell_pair fun hh => ?_
    obtain ⟨i, rfl, hi, _⟩ := fullL_mem.mp hh.1
    obtain ⟨j, rfl, hj⟩ := wantL_lt hh.2
    have : pairD ys.length (.tuple [.int (i : Int), .int (j : Int)]) = true := by
      show (inRowD (ys.length : Int) _ && inRowD (ys.length : Int) _) = true
      rw [inRow_nat hi, inRow_nat hj]
      rfl
    rw [this] at h
    cases h
  · match d with
    | .tuple [d1, d2] =>
      refine tell_int ?_
      cases h1 : isIntD d1 with
      | false => rfl
      | true =>
        cases h2 : isIntD d2 with
        | false => rfl
        | true =>
          obtain ⟨c, rfl⟩ := isInt_ex h1
          obtain ⟨e, rfl⟩ := isInt_ex h2
          exact absurd ⟨c, e, rfl⟩ hd
    | .tuple [] => exact ⟨rfl, rfl⟩
    | .tuple [_] => exact tell_len (by simp)
    | .tuple (_ :: _ :: _ :: _) => exact tell_len (by simp)
    | .none => exact ⟨rfl, rfl⟩
    | .bool _ => exact ⟨rfl, rfl⟩
    | .int _ => exact ⟨rfl, rfl⟩
    | .str _ => exact ⟨rfl, rfl⟩
    | .list _ => exact ⟨rfl, rfl⟩
    | .dict _ => exact ⟨rfl, rfl⟩
theorem ok_shows_gap (T : Bt mg) {f f1 f2 : Addr} {fd fd1 fd2 : FuncData} (D : Df K mg "shows_gap" s_shows_gap ["table", "thing"] f fd) (k_pair_in_row : Kn P w K mg base 3 "pair_in_row" s_pair_in_row ["thing", "size"] (spPair K) f1 fd1)
    (k_needed_cells : Kn P w K mg base 3 "needed_cells" s_needed_cells ["table", "cell"] (spNeeded K) f2 fd2) : Kn P w K mg base 10 "shows_gap" s_shows_gap ["table", "thing"] (spTell K gapD) f fd := by
  refine ⟨D, D.F.ok sc_shows_gap (fun vs H Q E h => ?_) (fun cdv A outer s H vs Q E hr h => ?_)⟩
  · obtain ⟨a, ys, x, d, rfl, _⟩ := h
    rfl
  obtain ⟨a, ys, x, d, rfl, hS, l1, l2, tab, hd, hsh, hlen, q⟩ := h
  refine ⟨_, (pss_cons (ps_if (pt_not (pt_val (pe_call k_pair_in_row.G (hr.mono (by omega)) (by rfl) k_pair_in_row.D.g k_pair_in_row.D.F.kp k_pair_in_row.D.b .nil pass0 (pa_cons (pv 1) (pa_cons (pe_callB (call_lenK (K := K) rfl) (by rfl) T.len (by decide +kernel) (pa_cons (pv 0) pa_nil)) pa_nil))))) (pss_one (ps_ret pe_bl)) pss_nil)
      (pss_cons (ps_asg (pv 1) (pg_tup (by rfl) (pgs_cons (pg_name (i := 2) sc_shows_gap.nd rfl (.inl rfl)) (pgs_cons (pg_name (i := 3) sc_shows_gap.nd rfl (.inl rfl)) pgs_nil))))
      (pss_one (ps_ret (pe_and (pe_cmpR op_isN (pe_ix (ix_seqK (K := K) rfl) (pv 0) (pv 3) (fun _ _ => rfl)) pe_non (nomark _)) (pe_one (pe_cmpR (op_inK (K := K) rfl) (pv 3) (pe_call k_needed_cells.G (hr.mono (by omega)) (by rfl) k_needed_cells.D.g k_needed_cells.D.F.kp k_needed_cells.D.b .nil pass0 (pa_cons (pv 0) (pa_cons (pv 2) pa_nil))) (by rfl)))))))), ?_⟩
  refine ⟨_, rfl, _, rfl, a, ys, rfl, hS, x, d, ys.length, rfl, hd, by omega, fun H1 s1 => ⟨_, rfl, ?_⟩⟩
  cases hp : pairD ys.length d with
  | false =>
    rw [(pair_no hp).1] at q
    exact iteT (q _ s1)
  | true =>
    obtain ⟨i, j, rfl, hi, hj⟩ := pairD_ex hp
    cases hd with
    | @tup b xs ds h1 h2 =>
    obtain rfl := ints_inv (ns := [(i : Int), (j : Int)]) h2
    rw [gap_eq hi] at q
    have gj : ys[j]? = some ys[j] := List.getElem?_eq_getElem hj
    have gd : ys.getD j .non = ys[j] := by rw [List.getD_eq_getElem?_getD, gj]; rfl
    rw [gd, isN_dec] at q
    refine iteF ?_
    refine ⟨_, rfl, b, _, rfl, Same.tup s1 h1, rfl, .int (i : Int), _, rfl, .int (j : Int), _, rfl, rfl, ?_⟩
    refine ⟨_, rfl, _, rfl, a, ys, (j : Int), _, rfl, rfl, Same.sq s1 hS, atI_nat gj, rfl, _, rfl, ?_⟩
    refine ite2 (fun c => ?_) (fun c => ?_)
    · rw [c, Bool.true_and] at q
      refine ⟨_, rfl, _, rfl, _, rfl, a, ys, i, rfl, Same.sq s1 hS, l2, hi, tab, fun p H2 s2 np gp => ?_⟩
      refine ⟨p, _, rfl, .inr (sqT gp), rfl, flat_ints _, ?_⟩
      rw [if_neg Bool.false_ne_true, inV_ints]
      exact q _ (s1.trans s2)
    · rw [Bool.eq_false_iff.mpr c, Bool.false_and] at q
      exact q _ s1
theorem ok_shows_both (T : Bt mg) {f f1 f2 : Addr} {fd fd1 fd2 : FuncData} (D : Df K mg "shows_both" s_shows_both ["table", "thing"] f fd) (k_pair_in_row : Kn P w K mg base 3 "pair_in_row" s_pair_in_row ["thing", "size"] (spPair K) f1 fd1)
    (k_need_one_another : Kn P w K mg base 4 "need_one_another" s_need_one_another ["table", "one", "other"] (spMutual K) f2 fd2) : Kn P w K mg base 10 "shows_both" s_shows_both ["table", "thing"] (spTell K bothD) f fd := by
  refine ⟨D, D.F.ok sc_shows_both (fun vs H Q E h => ?_) (fun cdv A outer s H vs Q E hr h => ?_)⟩
  · obtain ⟨a, ys, x, d, rfl, _⟩ := h
    rfl
  obtain ⟨a, ys, x, d, rfl, hS, l1, l2, tab, hd, hsh, hlen, q⟩ := h
  refine ⟨_, (pss_cons (ps_if (pt_not (pt_val (pe_call k_pair_in_row.G (hr.mono (by omega)) (by rfl) k_pair_in_row.D.g k_pair_in_row.D.F.kp k_pair_in_row.D.b .nil pass0 (pa_cons (pv 1) (pa_cons (pe_callB (call_lenK (K := K) rfl) (by rfl) T.len (by decide +kernel) (pa_cons (pv 0) pa_nil)) pa_nil))))) (pss_one (ps_ret pe_bl)) pss_nil)
      (pss_cons (ps_asg (pv 1) (pg_tup (by rfl) (pgs_cons (pg_name (i := 2) sc_shows_both.nd rfl (.inl rfl)) (pgs_cons (pg_name (i := 3) sc_shows_both.nd rfl (.inl rfl)) pgs_nil))))
      (pss_one (ps_ret (pe_call k_need_one_another.G (hr.mono (by omega)) (by rfl) k_need_one_another.D.g k_need_one_another.D.F.kp k_need_one_another.D.b .nil pass0 (pa_cons (pv 0) (pa_cons (pv 2) (pa_cons (pv 3) pa_nil)))))))), ?_⟩
  refine ⟨_, rfl, _, rfl, a, ys, rfl, hS, x, d, ys.length, rfl, hd, by omega, fun H1 s1 => ⟨_, rfl, ?_⟩⟩
  cases hp : pairD ys.length d with
  | false =>
    rw [(pair_no hp).2] at q
    exact iteT (q _ s1)
  | true =>
    obtain ⟨i, j, rfl, hi, hj⟩ := pairD_ex hp
    cases hd with
    | @tup b xs ds h1 h2 =>
    obtain rfl := ints_inv (ns := [(i : Int), (j : Int)]) h2
    rw [both_eq hi hj] at q
    refine iteF ?_
    refine ⟨_, rfl, b, _, rfl, Same.tup s1 h1, rfl, .int (i : Int), _, rfl, .int (j : Int), _, rfl, rfl, ?_⟩
    exact ⟨_, rfl, _, rfl, _, rfl, a, ys, i, j, rfl, Same.sq s1 hS, l2, hi, hj, tab, fun H2 s2 => q _ (s1.trans s2)⟩

/-! ### comes_after_needed -/
def spAfter (K : PySem.W.Frag) : Sp := fun vs H Q _ => ∃ (a b : Addr) (ys : List V) (i : Nat) (cs : List Int), vs = [.ref a, .int i, .ref b] ∧ Sq K H a ys ∧ Sq K H b (cs.map V.int) ∧ ys.length ≤ 100 ∧ i < ys.length ∧ (∀ y ∈ ys, TabV ys.length y) ∧ ∀ H', Same H H' → Q (.bl ((wantL ys i).all fun e => decide (e ∈ cs))) H'
theorem ok_after (T : Bt mg) {f f1 : Addr} {fd fd1 : FuncData} {k : Nat} (D : Df K mg "comes_after_needed" s_comes_after_needed ["table", "cell", "came"] f fd) (k_needed_cells : Kn P w K mg base (k + 3) "needed_cells" s_needed_cells ["table", "cell"] (spNeeded K) f1 fd1) : Kn P w K mg base (k + 4) "comes_after_needed" s_comes_after_needed ["table", "cell", "came"] (spAfter K) f fd := by
  refine ⟨D, D.F.ok sc_comes_after_needed (fun vs H Q E h => ?_) (fun cdv A outer s H vs Q E hr h => ?_)⟩
  · obtain ⟨a, b, ys, i, cs, rfl, _⟩ := h
    rfl
  obtain ⟨a, b, ys, i, cs, rfl, hA, hB, hl, hi, tab, q⟩ := h
  refine ⟨_, (pss_one (ps_ret (pe_callB (cr_allK (K := K) rfl rfl) (by rfl) T.all (by decide +kernel) (pa_cons (pe_lc (own := [("needed", 3)]) (by rfl) sc_comes_after_needed.nd (pi_tup (pe_call k_needed_cells.G (hr.mono (by omega)) (by rfl) k_needed_cells.D.g k_needed_cells.D.F.kp k_needed_cells.D.b .nil pass0 (pa_cons (pv 0) (pa_cons (pv 1) pa_nil)))) (blkOk_by (own := [("needed", 3)]) (N := ["table", "cell", "came", "needed"]) (sc := defScope s_comes_after_needed) (by decide +kernel)) (fun _ _ _ _ _ => (pg_name (i := 3) sc_comes_after_needed.nd rfl (.inl rfl))) (fun _ _ _ _ _ => pts_nil) (fun _ _ _ _ _ => (pe_cmpR (op_inK (K := K) rfl) (pv 3) (pv 2) (by rfl)))) pa_nil)))), ?_⟩
  refine ⟨_, rfl, _, rfl, a, ys, i, rfl, hA, hl, hi, tab, fun wp H1 s1 nwp gwp => ?_⟩
  refine ⟨wp, rfl, ⟨_, sqT gwp⟩, fun L hL => ?_⟩
  refine lc_tup (xs := (wantL ys i).map V.int) (fun j H2 => Same H1 H2 ∧ H2 L = some (.lst ((((wantL ys i).take j).map fun e => decide (e ∈ cs)).map V.bl))) ⟨same_upd hL, upd_same⟩ (fun j H2 _ hP => sqT (hP.1 _ _ gwp)) (fun j y H2 gy hP => ?_) (fun H2 hP => ?_)
  · obtain ⟨s2, e2⟩ := hP
    rw [List.getElem?_map, Option.map_eq_some_iff] at gy
    obtain ⟨e, ge, rfl⟩ := gy
    have hw2 : (wantL ys i).length ≤ ys.length := wantV_len ys.length (i : Int) (ys.getD ((i : Int)).toNat .non)
    have hj : j < (wantL ys i).length := (List.getElem?_eq_some_iff.mp ge).1
    refine ⟨rfl, _, rfl, _, rfl, b, _, rfl, Same.sq (s1.trans s2) hB, rfl, flat_ints _, ?_⟩
    rw [inV_ints]
    refine ⟨_, e2, ?_, Same.mut s2 hL, ?_⟩
    · rw [List.length_map, List.length_map, List.length_take]
      exact small1000 (Nat.le_trans (Nat.min_le_right _ _) (by omega))
    · rw [upd_same, List.take_succ, ge, List.map_append, List.map_append]
      rfl
  · obtain ⟨s2, e2⟩ := hP
    refine ⟨L, _, rfl, sqL e2, ?_⟩
    rw [List.length_map, List.take_length, List.all_map]
    exact q _ (s1.trans s2)

/-! ### first_misfit -/
def misV : Option Nat → V
  | none => .non
  | some k => .int (k : Int)
def misfit (ys : List V) (qs : List Int) : Option Nat := (List.range qs.length).find? fun j => !agB ys qs j
theorem misfit_none {ys : List V} {qs : List Int} : misfit ys qs = none ↔ agreesL ys qs = true := by
  unfold misfit agreesL agreesN
  rw [List.find?_eq_none, List.all_map, List.all_eq_true]
  constructor
  · intro h j hj
    have := h j hj
    simpa using this
  · intro h j hj
    have := h j hj
    simpa using this
def spMisfit (K : PySem.W.Frag) : Sp := fun vs H Q _ => ∃ (a b : Addr) (ys : List V) (qs : List Int), vs = [.ref a, .ref b] ∧ Sq K H a ys ∧ Sq K H b (qs.map V.int) ∧ ys.length ≤ 100 ∧ qs.length ≤ 100 ∧ (∀ y ∈ ys, TabV ys.length y) ∧ (∀ z ∈ qs, ∃ i : Nat, z = (i : Int) ∧ i < ys.length) ∧ ∀ H', Same H H' → Q (misV (misfit ys qs)) H'
theorem ok_misfit (T : Bt mg) {f f1 : Addr} {fd fd1 : FuncData} {k : Nat} (D : Df K mg "first_misfit" s_first_misfit ["table", "cells"] f fd) (k_comes_after_needed : Kn P w K mg base (k + 4) "comes_after_needed" s_comes_after_needed ["table", "cell", "came"] (spAfter K) f1 fd1) : Kn P w K mg base (k + 5) "first_misfit" s_first_misfit ["table", "cells"] (spMisfit K) f fd := by
  refine ⟨D, D.F.ok sc_first_misfit (fun vs H Q E h => ?_) (fun cdv A outer s H vs Q E hr h => ?_)⟩
  · obtain ⟨a, b, ys, qs, rfl, _⟩ := h
    rfl
  obtain ⟨a, b, ys, qs, rfl, hA, hB, hl, hql, tab, hin, q⟩ := h
  refine ⟨_, (pss_cons (ps_for PassesOwn.never rfl (pi_enS (by rfl) T.enumerate (pa_cons (pv 1) pa_nil)) (pg_tup (by rfl) (pgs_cons (pg_name (i := 2) sc_first_misfit.nd rfl (.inl rfl)) (pgs_cons (pg_name (i := 3) sc_first_misfit.nd rfl (.inl rfl)) pgs_nil))) (pss_one (ps_if (pt_not (pt_val (pe_call k_comes_after_needed.G (hr.mono (by omega)) (by rfl) k_comes_after_needed.D.g k_comes_after_needed.D.F.kp k_comes_after_needed.D.b .nil pass0 (pa_cons (pv 0) (pa_cons (pv 3) (pa_cons (pe_slice sl_seq (pv 1) po_none (po_some (pv 2))) pa_nil)))))) (pss_one (ps_ret (pv 2))) pss_nil)))
      (pss_one (ps_ret pe_non))), ?_⟩
  refine ⟨_, rfl, b, _, rfl, hB, fun J G wk hG => ?_⟩
  refine for_it wk (fun i σ H2 => Same H H2 ∧ (∀ j, j < i → agB ys qs j = true) ∧ ∃ y2 y3, σ = [some (.ref a), some (.ref b), y2, y3]) ⟨Same.refl _, fun j hj => absurd hj (Nat.not_lt_zero _), _, _, rfl⟩ (fun i σ H2 _ hP => hG _ (ats_same hP.1)) (fun i v σ H2 H3 hi hP hY => ?_) (fun σ H2 hP => ?_)
  · obtain ⟨s2, hag, y2, y3, rfl⟩ := hP
    obtain ⟨T', x0, x, rfl, hT, rfl, e0, gx⟩ := hY
    cases e0
    change (qs.map V.int)[i]? = some x at gx
    rw [List.getElem?_map, Option.map_eq_some_iff] at gx
    obtain ⟨z, gz, rfl⟩ := gx
    rw [List.length_map] at hi
    have h1 : Same H2 (upd H2 T' (.tup [.int (i : Nat), .int z])) := same_upd hT
    obtain ⟨iz, rfl, hiz⟩ := hin z (List.mem_of_getElem? gz)
    have sA := s2.trans h1
    have eg : qs.getD i 0 = (iz : Int) := by rw [List.getD_eq_getElem?_getD, gz]; rfl
    refine ⟨T', [.int (i : Nat), .int (iz : Int)], rfl, sqT upd_same, rfl, .int (i : Nat), [.int (iz : Int)], rfl, .int (iz : Int), [], rfl, rfl, ?_⟩
    refine ⟨_, rfl, _, rfl, _, rfl, _, rfl, _, rfl, b, _, rfl, Same.sq sA hB, fun p H4 s4 hp => ?_⟩
    rw [cut_to (by rw [List.length_map]; omega), ← List.map_take] at hp
    refine ⟨a, p, ys, iz, qs.take i, rfl, Same.sq (sA.trans s4) hA, hp, hl, hiz, tab, fun H5 s5 => ⟨_, rfl, ?_⟩⟩
    have ea : ((wantL ys iz).all fun e => decide (e ∈ qs.take i)) = agB ys qs i := by
      unfold agB
      rw [eg]
    rw [ea]
    have s25 := (sA.trans s4).trans s5
    cases hb : agB ys qs i with
    | true =>
      have hag' : ∀ j, j < i + 1 → agB ys qs j = true := fun j hj => by
        rcases Nat.lt_succ_iff_lt_or_eq.mp hj with h | rfl
        · exact hag j h
        · exact hb
      exact iteF ⟨s25, hag', _, _, rfl⟩
    | false =>
      refine iteT ⟨_, rfl, ?_⟩
      have em : misfit ys qs = some i := by
        unfold misfit
        rw [List.find?_range_eq_some]
        refine ⟨by rw [hb]; rfl, List.mem_range.mpr hi, fun j hj => ?_⟩
        rw [hag j hj]
        rfl
      rw [em] at q
      exact q _ s25
  · obtain ⟨s2, hag, y2, y3, rfl⟩ := hP
    have em : misfit ys qs = none := by
      unfold misfit
      rw [List.find?_eq_none]
      intro j hj
      rw [List.length_map] at hag
      rw [hag j (List.mem_range.mp hj)]
      decide
    rw [em] at q
    exact q _ s2

/-! ### shows_order -/
theorem ordD_row {ys : List V} {ds : List PyData} (h : ds.all (inRowD (ys.length : Int)) = false) : ordD ys (.tuple ds) = false := by
  cases hi : ds.all isIntD with
  | false => exact ordD_no hi
  | true =>
    obtain ⟨ns, rfl⟩ := ints_all hi
    rw [ordD_ints, Bool.and_eq_false_iff]
    refine .inl (decide_eq_false fun hp => ?_)
    have : (ns.map PyData.int).all (inRowD (ys.length : Int)) = true := by
      rw [List.all_map, List.all_eq_true]
      intro z hz
      obtain ⟨i, rfl, hi, _⟩ := fullL_mem.mp (hp.mem_iff.mp hz)
      exact inRow_nat hi
    rw [this] at h
    cases h
theorem ordD_all {ys : List V} {d : PyData} (h : allInD ys.length d = false) : ordD ys d = false := by
  cases d with
  | tuple ds => exact ordD_row h
  | _ => rfl
theorem ok_shows_order (T : Bt mg) {f f1 f2 f3 : Addr} {fd fd1 fd2 fd3 : FuncData} (D : Df K mg "shows_order" s_shows_order ["table", "thing"] f fd) (k_all_in_row : Kn P w K mg base 2 "all_in_row" s_all_in_row ["thing", "size"] (spAllIn K) f1 fd1)
    (k_taken_cells : Kn P w K mg base 1 "taken_cells" s_taken_cells ["table"] (spTaken K) f2 fd2) (k_first_misfit : Kn P w K mg base 5 "first_misfit" s_first_misfit ["table", "cells"] (spMisfit K) f3 fd3) :
    Kn P w K mg base 10 "shows_order" s_shows_order ["table", "thing"] (spTell K ordD) f fd := by
  refine ⟨D, D.F.ok sc_shows_order (fun vs H Q E h => ?_) (fun cdv A outer s H vs Q E hr h => ?_)⟩
  · obtain ⟨a, ys, x, d, rfl, _⟩ := h
    rfl
  obtain ⟨a, ys, x, d, rfl, hS, l1, l2, tab, hd, hsh, hlen, q⟩ := h
  refine ⟨_, (pss_cons (ps_if (pt_not (pt_val (pe_call k_all_in_row.G (hr.mono (by omega)) (by rfl) k_all_in_row.D.g k_all_in_row.D.F.kp k_all_in_row.D.b .nil pass0 (pa_cons (pv 1) (pa_cons (pe_callB (call_lenK (K := K) rfl) (by rfl) T.len (by decide +kernel) (pa_cons (pv 0) pa_nil)) pa_nil))))) (pss_one (ps_ret pe_bl)) pss_nil)
      (pss_one (ps_ret (pe_and (pe_cmpR (op_eqDK (K := K) rfl hr.units) (pe_callB (cr_sortTK (K := K) rfl) (by rfl) T.sorted (by decide +kernel) (pa_cons (pv 1) pa_nil)) (pe_call k_taken_cells.G (hr.mono (by omega)) (by rfl) k_taken_cells.D.g k_taken_cells.D.F.kp k_taken_cells.D.b .nil pass0 (pa_cons (pv 0) pa_nil)) (nomark _)) (pe_one (pe_cmpR op_isN (pe_call k_first_misfit.G (hr.mono (by omega)) (by rfl) k_first_misfit.D.g k_first_misfit.D.F.kp k_first_misfit.D.b .nil pass0 (pa_cons (pv 0) (pa_cons (pv 1) pa_nil))) pe_non (nomark _))))))), ?_⟩
  refine ⟨_, rfl, _, rfl, a, ys, rfl, hS, x, d, ys.length, rfl, hd, by omega, fun H1 s1 => ⟨_, rfl, ?_⟩⟩
  cases hr' : allInD ys.length d with
  | false =>
    rw [ordD_all hr'] at q
    exact iteT (q _ s1)
  | true =>
    obtain ⟨ns, rfl, hin⟩ := allIn_ints hr'
    have hz' : ns.length ≤ 60 := by
      have : (ns.map PyData.int).length ≤ 60 := hlen
      rwa [List.length_map] at this
    cases hd with
    | @tup b xs ds h1 h2 =>
    obtain rfl := ints_inv h2
    rw [ordD_ints] at q
    refine iteF ?_
    refine ⟨_, rfl, b, ns, rfl, Same.tup s1 h1, by omega, fun ms p hpm hsrt hp => ?_⟩
    have s3 : Same H1 (upd H1 p (.lst (ms.map V.int))) := same_upd hp
    refine ⟨_, rfl, a, ys, rfl, Same.sq (s1.trans s3) hS, l2, fun fp H4 s4 nfp gfp => ?_⟩
    refine ⟨.list (ms.map PyData.int), .list ((fullL ys).map PyData.int), dp_L (sqL (s4 _ _ upd_same)), dp_L (sqL gfp), sh_L _, sh_L _, _, rfl, ?_⟩
    rw [eqv_listI, sort_iff hpm hsrt]
    have s14 := (s1.trans s3).trans s4
    refine ite2 (fun c => ?_) (fun c => ?_)
    · rw [c, Bool.true_and] at q
      refine ⟨_, rfl, _, rfl, a, b, ys, ns, rfl, Same.sq s14 hS, .inr (Same.tup s14 h1), l2, by omega, tab, hin, fun H5 s5 => ⟨rfl, ?_⟩⟩
      have em : decide (misV (misfit ys ns) = .non) = agreesL ys ns := by
        rw [Bool.eq_iff_iff, decide_eq_true_eq, ← misfit_none]
        cases misfit ys ns with
        | none => exact ⟨fun _ => rfl, fun _ => rfl⟩
        | some j => exact ⟨(fun e => nomatch e), (fun e => nomatch e)⟩
      rw [em]
      exact q _ (s14.trans s5)
    · rw [Bool.eq_false_iff.mpr c, Bool.false_and] at q
      exact q _ s14

/-! ### ready_cells -/
def spReady (K : PySem.W.Frag) : Sp := fun vs H Q _ => ∃ (a b : Addr) (ys : List V) (cs : List Int), vs = [.ref a, .ref b] ∧ Sq K H a ys ∧ Sq K H b (cs.map V.int) ∧ ys.length ≤ 100 ∧ (∀ y ∈ ys, TabV ys.length y) ∧ ∀ p H', Same H H' → H p = none → H' p = some (.lst ((readyL ys cs).map V.int)) → Q (.ref p) H'
theorem ready_two (ys : List V) (cs : List Int) : readyL ys cs = ((fullL ys).filter fun c => decide (c ∉ cs)).filter fun c => (wantL ys c).all fun e => decide (e ∈ cs) := by
  unfold readyL
  rw [List.filter_filter]
  refine List.filter_congr fun c _ => ?_
  unfold readyB
  rw [Bool.and_comm]
theorem ok_ready (T : Bt mg) {f f1 f2 : Addr} {fd fd1 fd2 : FuncData} {k : Nat} (D : Df K mg "ready_cells" s_ready_cells ["table", "came"] f fd) (k_taken_cells : Kn P w K mg base 1 "taken_cells" s_taken_cells ["table"] (spTaken K) f1 fd1)
    (k_comes_after_needed : Kn P w K mg base 4 "comes_after_needed" s_comes_after_needed ["table", "cell", "came"] (spAfter K) f2 fd2) : Kn P w K mg base 5 "ready_cells" s_ready_cells ["table", "came"] (spReady K) f fd := by
  refine ⟨D, D.F.ok sc_ready_cells (fun vs H Q E h => ?_) (fun cdv A outer s H vs Q E hr h => ?_)⟩
  · obtain ⟨a, b, ys, cs, rfl, _⟩ := h
    rfl
  obtain ⟨a, b, ys, cs, rfl, hA, hB, hl, tab, q⟩ := h
  refine ⟨_, (pss_cons (ps_setLc (i := 2) (own := [("cell", 3)]) (by rfl) sc_ready_cells.nd rfl rfl (sw_true rfl rfl rfl (by decide +kernel)) (pi_list (pe_call k_taken_cells.G (hr.mono (by omega)) (by rfl) k_taken_cells.D.g k_taken_cells.D.F.kp k_taken_cells.D.b .nil pass0 (pa_cons (pv 0) pa_nil))) (blkOk_by (own := [("cell", 3)]) (N := ["table", "came", "rest", "cell"]) (sc := defScope s_ready_cells) (by decide +kernel)) (fun _ _ _ _ _ => (pg_name (i := 3) sc_ready_cells.nd rfl (.inl rfl))) (fun _ _ _ _ _ => (pts_one (pt_cmpR (op_notInK (K := K) rfl) (pv 3) (pv 1) (by rfl)))) (fun _ _ _ _ _ => (pv 3)))
      (pss_one (ps_ret (pe_lc (own := [("cell", 3)]) (by rfl) sc_ready_cells.nd (pi_list (pv 2)) (blkOk_by (own := [("cell", 3)]) (N := ["table", "came", "rest", "cell"]) (sc := defScope s_ready_cells) (by decide +kernel)) (fun _ _ _ _ _ => (pg_name (i := 3) sc_ready_cells.nd rfl (.inl rfl))) (fun _ _ _ _ _ => (pts_one (pt_val (pe_call k_comes_after_needed.G (hr.mono (by omega)) (by rfl) k_comes_after_needed.D.g k_comes_after_needed.D.F.kp k_comes_after_needed.D.b .nil pass0 (pa_cons (pv 0) (pa_cons (pv 3) (pa_cons (pv 1) pa_nil))))))) (fun _ _ _ _ _ => (pv 3)))))), ?_⟩
  have hfl : (fullL ys).length ≤ 100 := Nat.le_trans (fullN_len ys _) hl
  refine ⟨_, rfl, a, ys, rfl, hA, hl, fun p1 H1 s1 np1 g1 => ?_⟩
  refine ⟨p1, rfl, ⟨_, sqL g1⟩, fun D1 hD1 => ?_⟩
  refine lc_list (xs := (fullL ys).map V.int) (fun i H2 => Same H1 H2 ∧ H2 D1 = some (.lst ((((fullL ys).take i).filter fun c => decide (c ∉ cs)).map V.int))) ⟨same_upd hD1, upd_same⟩ (fun i H2 _ hP => sqL (hP.1 _ _ g1)) (fun i x H2 gx hP => ?_) (fun H2 hP => ?_)
  · obtain ⟨s2, e2⟩ := hP
    rw [List.getElem?_map, Option.map_eq_some_iff] at gx
    obtain ⟨c, gc, rfl⟩ := gx
    refine ⟨rfl, _, rfl, _, rfl, b, _, rfl, Same.sq (s1.trans s2) hB, rfl, flat_ints _, _, rfl, ?_⟩
    rw [if_pos rfl, inV_ints, fil_step gc]
    have ed : (!decide (c ∈ cs)) = decide (c ∉ cs) := by simp
    rw [ed]
    refine ite2 (fun hc => ?_) (fun hc => ?_)
    · refine ⟨_, rfl, _, e2, fil_small (by omega), Same.mut s2 hD1, ?_⟩
      rw [upd_same, if_pos hc]
    · refine ⟨s2, ?_⟩
      rw [if_neg hc, List.append_nil]
      exact e2
  obtain ⟨s2, e2⟩ := hP
  rw [List.length_map, List.take_length] at e2
  have s12 := s1.trans s2
  refine ⟨_, rfl, D1, rfl, ⟨_, sqL e2⟩, fun D2 hD2 => ?_⟩
  generalize hrs : (fullL ys).filter (fun c => decide (c ∉ cs)) = rs at e2
  have hrl : rs.length ≤ 100 := by rw [← hrs]; exact Nat.le_trans (List.length_filter_le _ _) hfl
  refine lc_list (xs := rs.map V.int) (fun i H3 => Same H2 H3 ∧ H3 D2 = some (.lst (((rs.take i).filter fun c => (wantL ys c).all fun e => decide (e ∈ cs)).map V.int))) ⟨same_upd hD2, upd_same⟩ (fun i H3 _ hP => sqL (hP.1 _ _ e2)) (fun i x H3 gx hP => ?_) (fun H3 hP => ?_)
  · obtain ⟨s3, e3⟩ := hP
    rw [List.getElem?_map, Option.map_eq_some_iff] at gx
    obtain ⟨c, gc, rfl⟩ := gx
    have hcf : c ∈ fullL ys := by
      have := List.mem_of_getElem? gc
      rw [← hrs] at this
      exact (List.mem_filter.mp this).1
    obtain ⟨ic, rfl, hic, _⟩ := fullL_mem.mp hcf
    refine ⟨rfl, _, rfl, _, rfl, _, rfl, a, b, ys, ic, cs, rfl, Same.sq (s12.trans s3) hA, Same.sq (s12.trans s3) hB, hl, hic, tab, fun H4 s4 => ⟨_, rfl, ?_⟩⟩
    rw [fil_step gc]
    refine ite2 (fun hc => ?_) (fun hc => ?_)
    · refine ⟨_, rfl, _, s4 _ _ e3, fil_small (by omega), Same.mut (s3.trans s4) hD2, ?_⟩
      rw [upd_same, if_pos hc]
    · refine ⟨s3.trans s4, ?_⟩
      rw [if_neg hc, List.append_nil]
      exact s4 _ _ e3
  · obtain ⟨s3, e3⟩ := hP
    rw [List.length_map, List.take_length, ← hrs, ← ready_two] at e3
    exact q D2 H3 (s12.trans s3) (s12.free hD2) e3

/-! ### first_gap, first_both -/
theorem find_at {α : Type} {l : List α} {p : α → Bool} {j : Nat} {e : α} (g : l[j]? = some e) (hp : p e = true) (h : ∀ x ∈ l.take j, p x = false) : l.find? p = some e := by
  rw [List.find?_eq_some_iff_append]
  refine ⟨hp, l.take j, l.drop (j + 1), ?_, fun x hx => by rw [h x hx]; rfl⟩
  obtain ⟨hj, rfl⟩ := List.getElem?_eq_some_iff.mp g
  rw [List.getElem_cons_drop, List.take_append_drop]
theorem fsome_at {α β : Type} {l : List α} {f : α → Option β} {j : Nat} {e : α} {b : β} (g : l[j]? = some e) (hp : f e = some b) (h : ∀ x ∈ l.take j, f x = none) : l.findSome? f = some b := by
  rw [List.findSome?_eq_some_iff]
  refine ⟨l.take j, e, l.drop (j + 1), ?_, hp, h⟩
  obtain ⟨hj, rfl⟩ := List.getElem?_eq_some_iff.mp g
  rw [List.getElem_cons_drop, List.take_append_drop]
theorem take_more {α : Type} {l : List α} {P : α → Prop} {j : Nat} {e : α} (g : l[j]? = some e) (h : ∀ x ∈ l.take j, P x) (he : P e) : ∀ x ∈ l.take (j + 1), P x := by
  rw [List.take_succ, g]
  intro x hx
  rcases List.mem_append.mp hx with hx | hx
  · exact h x hx
  · rw [Option.toList_some, List.mem_singleton] at hx
    rw [hx]
    exact he
def spReason (K : PySem.W.Frag) (g : List V → Option (Int × Int)) : Sp := fun vs H Q _ => ∃ (a : Addr) (ys : List V), vs = [.ref a] ∧ Sq K H a ys ∧ ys.length ≤ 100 ∧ (∀ y ∈ ys, TabV ys.length y) ∧
  (g ys = none → ∀ H', Same H H' → Q .non H') ∧ ∀ c e, g ys = some (c, e) → ∀ p H', Same H H' → H' p = some (.tup [.int c, .int e]) → Q (.ref p) H'
theorem ok_first_gap (T : Bt mg) {f f1 f2 : Addr} {fd fd1 fd2 : FuncData} {k : Nat} (D : Df K mg "first_gap" s_first_gap ["table"] f fd) (k_taken_cells : Kn P w K mg base 1 "taken_cells" s_taken_cells ["table"] (spTaken K) f1 fd1)
    (k_needed_cells : Kn P w K mg base 3 "needed_cells" s_needed_cells ["table", "cell"] (spNeeded K) f2 fd2) : Kn P w K mg base 4 "first_gap" s_first_gap ["table"] (spReason K gapO) f fd := by
  refine ⟨D, D.F.ok sc_first_gap (fun vs H Q E h => ?_) (fun cdv A outer s H vs Q E hr h => ?_)⟩
  · obtain ⟨a, ys, rfl, _⟩ := h
    rfl
  obtain ⟨a, ys, rfl, hA, hl, tab, q0, q1⟩ := h
  refine ⟨_, (pss_cons (ps_for PassesOwn.never rfl (pi_list (pe_call k_taken_cells.G (hr.mono (by omega)) (by rfl) k_taken_cells.D.g k_taken_cells.D.F.kp k_taken_cells.D.b .nil pass0 (pa_cons (pv 0) pa_nil))) (pg_name (i := 1) sc_first_gap.nd rfl (.inl rfl)) (pss_one (ps_for PassesOwn.never rfl (pi_tup (pe_call k_needed_cells.G (hr.mono (by omega)) (by rfl) k_needed_cells.D.g k_needed_cells.D.F.kp k_needed_cells.D.b .nil pass0 (pa_cons (pv 0) (pa_cons (pv 1) pa_nil)))) (pg_name (i := 2) sc_first_gap.nd rfl (.inl rfl)) (pss_one (ps_if (pt_cmpR op_isN (pe_ix (ix_seqK (K := K) rfl) (pv 0) (pv 2) (fun _ _ => rfl)) pe_non (nomark _)) (pss_one (ps_ret (pe_tup (pa_cons (pv 1) (pa_cons (pv 2) pa_nil))))) pss_nil)))))
      (pss_one (ps_ret pe_non))), ?_⟩
  refine ⟨_, rfl, a, ys, rfl, hA, hl, fun p1 H1 s1 np1 g1 => ?_⟩
  refine ⟨p1, rfl, ⟨_, sqL g1⟩, ?_⟩
  refine for_list (xs := (fullL ys).map V.int) (fun i σ H2 => Same H1 H2 ∧ (∀ c ∈ (fullL ys).take i, (((wantL ys c).find? fun e => isN (ys.getD e.toNat .non)).map fun e => (c, e)) = none) ∧ ∃ y1 y2, σ = [some (.ref a), y1, y2]) ⟨Same.refl _, (fun c hc => nomatch hc), _, _, rfl⟩ (fun i σ H2 _ hP => sqL (hP.1 _ _ g1)) (fun i x σ H2 gx hP => ?_) (fun σ H2 hP => ?_)
  · obtain ⟨s2, hno, y1, y2, rfl⟩ := hP
    rw [List.getElem?_map, Option.map_eq_some_iff] at gx
    obtain ⟨c, gc, rfl⟩ := gx
    obtain ⟨ic, rfl, hic, _⟩ := fullL_mem.mp (List.mem_of_getElem? gc)
    refine ⟨_, rfl, _, rfl, a, ys, ic, rfl, Same.sq (s1.trans s2) hA, hl, hic, tab, fun p3 H3 s3 np3 g3 => ?_⟩
    refine ⟨p3, rfl, ⟨_, sqT g3⟩, ?_⟩
    refine for_tup (xs := (wantL ys ic).map V.int) (fun j σ H4 => Same H3 H4 ∧ (∀ e ∈ (wantL ys ic).take j, isN (ys.getD e.toNat .non) = false) ∧ ∃ y2, σ = [some (.ref a), some (.int (ic : Int)), y2]) ⟨Same.refl _, (fun c hc => nomatch hc), _, rfl⟩ (fun i σ H2 _ hP => sqT (hP.1 _ _ g3)) (fun j x σ H4 gx hP => ?_) (fun σ H4 hP => ?_)
    · obtain ⟨s4, hno4, y2, rfl⟩ := hP
      rw [List.getElem?_map, Option.map_eq_some_iff] at gx
      obtain ⟨e, ge, rfl⟩ := gx
      obtain ⟨ie, rfl, hie⟩ := wantL_lt (List.mem_of_getElem? ge)
      have gi : ys[ie]? = some ys[ie] := List.getElem?_eq_getElem hie
      have gd : ys.getD ie .non = ys[ie] := by rw [List.getD_eq_getElem?_getD, gi]; rfl
      have s14 := ((s1.trans s2).trans s3).trans s4
      refine ⟨_, rfl, _, rfl, a, ys, (ie : Int), _, rfl, rfl, Same.sq s14 hA, atI_nat gi, rfl, _, rfl, ?_⟩
      rw [← gd, ← isN_dec]
      refine ite2 (fun hc => ?_) (fun hc => ?_)
      · refine ⟨_, rfl, _, rfl, (by show 2 ≤ sizeLine; decide), fun p hp => q1 _ _ ?_ p _ (s14.trans (same_upd hp)) upd_same⟩
        refine fsome_at gc ?_ hno
        rw [find_at (p := fun e => isN (ys.getD e.toNat .non)) ge (by rw [Int.toNat_natCast]; exact hc) hno4]
        rfl
      · exact ⟨s4, take_more ge hno4 (by rw [Int.toNat_natCast]; exact Bool.eq_false_iff.mpr hc), _, rfl⟩
    · obtain ⟨s4, hno4, y2, rfl⟩ := hP
      refine ⟨(s2.trans s3).trans s4, take_more gc hno ?_, _, _, rfl⟩
      rw [List.length_map, List.take_length] at hno4
      rw [List.find?_eq_none.mpr fun e he => by rw [hno4 e he]; decide]
      rfl
  · obtain ⟨s2, hno, y1, y2, rfl⟩ := hP
    rw [List.length_map, List.take_length] at hno
    exact q0 (List.findSome?_eq_none_iff.mpr hno) _ (s1.trans s2)
theorem ok_first_both (T : Bt mg) {f f1 f2 f3 : Addr} {fd fd1 fd2 fd3 : FuncData} {k : Nat} (D : Df K mg "first_both" s_first_both ["table"] f fd) (k_taken_cells : Kn P w K mg base 1 "taken_cells" s_taken_cells ["table"] (spTaken K) f1 fd1)
    (k_needed_cells : Kn P w K mg base 3 "needed_cells" s_needed_cells ["table", "cell"] (spNeeded K) f2 fd2) (k_need_one_another : Kn P w K mg base 4 "need_one_another" s_need_one_another ["table", "one", "other"] (spMutual K) f3 fd3) : Kn P w K mg base 5 "first_both" s_first_both ["table"] (spReason K bothO) f fd := by
  refine ⟨D, D.F.ok sc_first_both (fun vs H Q E h => ?_) (fun cdv A outer s H vs Q E hr h => ?_)⟩
  · obtain ⟨a, ys, rfl, _⟩ := h
    rfl
  obtain ⟨a, ys, rfl, hA, hl, tab, q0, q1⟩ := h
  refine ⟨_, (pss_cons (ps_for PassesOwn.never rfl (pi_list (pe_call k_taken_cells.G (hr.mono (by omega)) (by rfl) k_taken_cells.D.g k_taken_cells.D.F.kp k_taken_cells.D.b .nil pass0 (pa_cons (pv 0) pa_nil))) (pg_name (i := 1) sc_first_both.nd rfl (.inl rfl)) (pss_one (ps_for PassesOwn.never rfl (pi_tup (pe_call k_needed_cells.G (hr.mono (by omega)) (by rfl) k_needed_cells.D.g k_needed_cells.D.F.kp k_needed_cells.D.b .nil pass0 (pa_cons (pv 0) (pa_cons (pv 1) pa_nil)))) (pg_name (i := 2) sc_first_both.nd rfl (.inl rfl)) (pss_one (ps_if (PW.pt (pw_and (pt_cmpR op_lt (pv 1) (pv 2) (nomark _)) (pw_and1 (pt_val (pe_call k_need_one_another.G (hr.mono (by omega)) (by rfl) k_need_one_another.D.g k_need_one_another.D.F.kp k_need_one_another.D.b .nil pass0 (pa_cons (pv 0) (pa_cons (pv 1) (pa_cons (pv 2) pa_nil)))))))) (pss_one (ps_ret (pe_tup (pa_cons (pv 1) (pa_cons (pv 2) pa_nil))))) pss_nil)))))
      (pss_one (ps_ret pe_non))), ?_⟩
  refine ⟨_, rfl, a, ys, rfl, hA, hl, fun p1 H1 s1 np1 g1 => ?_⟩
  refine ⟨p1, rfl, ⟨_, sqL g1⟩, ?_⟩
  refine for_list (xs := (fullL ys).map V.int) (fun i σ H2 => Same H1 H2 ∧ (∀ c ∈ (fullL ys).take i, (((wantL ys c).find? fun e => mutB ys c e).map fun e => (c, e)) = none) ∧ ∃ y1 y2, σ = [some (.ref a), y1, y2]) ⟨Same.refl _, (fun c hc => nomatch hc), _, _, rfl⟩ (fun i σ H2 _ hP => sqL (hP.1 _ _ g1)) (fun i x σ H2 gx hP => ?_) (fun σ H2 hP => ?_)
  · obtain ⟨s2, hno, y1, y2, rfl⟩ := hP
    rw [List.getElem?_map, Option.map_eq_some_iff] at gx
    obtain ⟨c, gc, rfl⟩ := gx
    obtain ⟨ic, rfl, hic, _⟩ := fullL_mem.mp (List.mem_of_getElem? gc)
    refine ⟨_, rfl, _, rfl, a, ys, ic, rfl, Same.sq (s1.trans s2) hA, hl, hic, tab, fun p3 H3 s3 np3 g3 => ?_⟩
    refine ⟨p3, rfl, ⟨_, sqT g3⟩, ?_⟩
    refine for_tup (xs := (wantL ys ic).map V.int) (fun j σ H4 => Same H3 H4 ∧ (∀ e ∈ (wantL ys ic).take j, mutB ys ic e = false) ∧ ∃ y2, σ = [some (.ref a), some (.int (ic : Int)), y2]) ⟨Same.refl _, (fun c hc => nomatch hc), _, rfl⟩ (fun i σ H2 _ hP => sqT (hP.1 _ _ g3)) (fun j x σ H4 gx hP => ?_) (fun σ H4 hP => ?_)
    · obtain ⟨s4, hno4, y2, rfl⟩ := hP
      rw [List.getElem?_map, Option.map_eq_some_iff] at gx
      obtain ⟨e, ge, rfl⟩ := gx
      obtain ⟨ie, rfl, hie⟩ := wantL_lt (List.mem_of_getElem? ge)
      have s14 := ((s1.trans s2).trans s3).trans s4
      have em : mutB ys ic ie = (decide ((ic : Int) < (ie : Int)) && (decide ((ic : Int) ∈ wantL ys ie) && decide ((ie : Int) ∈ wantL ys ic))) := rfl
      refine ⟨_, rfl, _, rfl, _, _, rfl, rfl, _, rfl, ?_⟩
      refine ite2 (fun hc => ?_) (fun hc => ?_)
      · rw [hc, Bool.true_and] at em
        refine ⟨_, rfl, _, rfl, _, rfl, a, ys, ic, ie, rfl, Same.sq s14 hA, hl, hic, hie, tab, fun H5 s5 => ⟨_, rfl, ?_⟩⟩
        rw [← em]
        refine ite2 (fun hd => ?_) (fun hd => ?_)
        · refine ⟨_, rfl, _, rfl, (by show 2 ≤ sizeLine; decide), fun p hp => q1 _ _ ?_ p _ ((s14.trans s5).trans (same_upd hp)) upd_same⟩
          refine fsome_at gc ?_ hno
          rw [find_at (p := fun e => mutB ys ic e) ge hd hno4]
          rfl
        · exact ⟨s4.trans s5, take_more ge hno4 (Bool.eq_false_iff.mpr hd), _, rfl⟩
      · rw [Bool.eq_false_iff.mpr hc, Bool.false_and] at em
        exact iteF ⟨s4, take_more ge hno4 em, _, rfl⟩
    · obtain ⟨s4, hno4, y2, rfl⟩ := hP
      refine ⟨(s2.trans s3).trans s4, take_more gc hno ?_, _, _, rfl⟩
      rw [List.length_map, List.take_length] at hno4
      rw [List.find?_eq_none.mpr fun e he => by rw [hno4 e he]; decide]
      rfl
  · obtain ⟨s2, hno, y1, y2, rfl⟩ := hP
    rw [List.length_map, List.take_length] at hno
    exact q0 (List.findSome?_eq_none_iff.mpr hno) _ (s1.trans s2)

/-! ### first_going_on -/
def spGoOn (K : PySem.W.Frag) : Sp := fun vs H Q _ => ∃ (a b c : Addr) (ys : List V) (cs C : List Int), vs = [.ref a, .ref b, .ref c] ∧ Sq K H a ys ∧ SqT K H b (cs.map V.int) ∧ Sq K H c (C.map V.int) ∧ ys.length ≤ 100 ∧ C.length ≤ 100 ∧ cs.length ≤ C.length ∧ (∀ y ∈ ys, TabV ys.length y) ∧
  (∀ j, cs.length + j < C.length → ((readyL ys (goOn ys C cs j)).filter fun c => decide (c ∈ C)) ≠ []) ∧ ∀ p H', Same H H' → SqT K H' p ((goOn ys C cs (C.length - cs.length)).map V.int) → Q (.ref p) H'
theorem ok_goon (T : Bt mg) {f f2 : Addr} {fd fd2 : FuncData} {k : Nat} (D : Df K mg "first_going_on" s_first_going_on ["table", "came", "cells"] f fd)
    (k_ready_cells : Kn P w K mg base 5 "ready_cells" s_ready_cells ["table", "came"] (spReady K) f2 fd2) : Kn P w K mg base 6 "first_going_on" s_first_going_on ["table", "came", "cells"] (spGoOn K) f fd := by
  refine ⟨D, D.F.ok sc_first_going_on (fun vs H Q E h => ?_) (fun cdv A outer s H vs Q E hr h => ?_)⟩
  · obtain ⟨a, b, c, ys, cs, C, rfl, _⟩ := h
    rfl
  obtain ⟨a, b, c, ys, cs, C, rfl, hA, hB, hC, hl, hCl, hcs, tab, hne, q⟩ := h
  refine ⟨_, (pss_cons (ps_set (i := 3) sc_first_going_on.nd rfl (.inl rfl) (pv 1))
      (pss_cons (ps_while PassesOwn.never (pt_cmpR op_lt (pe_callB (call_lenK (K := K) rfl) (by rfl) T.len (by decide +kernel) (pa_cons (pv 3) pa_nil)) (pe_callB (call_lenK (K := K) rfl) (by rfl) T.len (by decide +kernel) (pa_cons (pv 2) pa_nil)) (nomark _)) (pss_one (ps_set (i := 3) sc_first_going_on.nd rfl (.inl rfl) (pe_op op_catA (pv 3) (pe_tup (pa_cons (pe_ix (ix_listK (K := K) rfl) (pe_lc (own := [("cell", 4)]) (by rfl) sc_first_going_on.nd (pi_list (pe_call k_ready_cells.G (hr.mono (by omega)) (by rfl) k_ready_cells.D.g k_ready_cells.D.F.kp k_ready_cells.D.b .nil pass0 (pa_cons (pv 0) (pa_cons (pv 3) pa_nil)))) (blkOk_by (own := [("cell", 4)]) (N := ["table", "came", "cells", "order", "cell"]) (sc := defScope s_first_going_on) (by decide +kernel)) (fun _ _ _ _ _ => (pg_name (i := 4) sc_first_going_on.nd rfl (.inl rfl))) (fun _ _ _ _ _ => (pts_one (pt_cmpR (op_inK (K := K) rfl) (pv 4) (pv 2) (by rfl)))) (fun _ _ _ _ _ => (pv 4))) pe_int (fun _ _ => rfl)) pa_nil))))))
      (pss_one (ps_ret (pv 3))))), ?_⟩
  refine ⟨_, rfl, fun m σ H' => ∃ (j : Nat) (o : Addr), σ = [some (.ref a), some (.ref b), some (.ref c), some (.ref o), none] ∧ Same H H' ∧ SqT K H' o ((goOn ys C cs j).map V.int) ∧ cs.length + j + m = C.length, ⟨C.length - cs.length, 0, b, rfl, Same.refl _, hB, by omega⟩, fun m σ H1 hW => ?_⟩
  obtain ⟨j, o, rfl, s1, go, hj⟩ := hW
  have hgl := goOn_len ys C cs j
  refine ⟨_, rfl, o, _, rfl, .inr go, _, rfl, c, _, rfl, Same.sq s1 hC, _, _, rfl, rfl, _, rfl, ?_⟩
  rw [List.length_map, List.length_map, hgl]
  refine ite2 (fun hc => ?_) (fun hc => ?_)
  · have hlt : cs.length + j < C.length := by
      have := of_decide_eq_true hc
      omega
    refine ⟨fun σ' H' => ∃ o, σ' = [some (.ref a), some (.ref b), some (.ref c), some (.ref o), none] ∧ Same H H' ∧ SqT K H' o ((goOn ys C cs (j + 1)).map V.int), fun σ' H' hN => ?_, ?_⟩
    · obtain ⟨o', e1, e2, e3⟩ := hN
      exact ⟨m - 1, by omega, j + 1, o', e1, e2, e3, by omega⟩
    refine ⟨_, rfl, _, rfl, _, rfl, a, o, ys, _, rfl, Same.sq s1 hA, .inr go, hl, tab, fun p3 H3 s3 np3 g3 => ?_⟩
    refine ⟨p3, rfl, ⟨_, sqL g3⟩, fun D4 hD4 => ?_⟩
    have hrl : (readyL ys (goOn ys C cs j)).length ≤ 100 := Nat.le_trans (List.length_filter_le _ _) (Nat.le_trans (fullN_len ys _) hl)
    refine lc_list (xs := (readyL ys (goOn ys C cs j)).map V.int) (fun i H4 => Same H3 H4 ∧ H4 D4 = some (.lst ((((readyL ys (goOn ys C cs j)).take i).filter fun c => decide (c ∈ C)).map V.int))) ⟨same_upd hD4, upd_same⟩ (fun i H4 _ hP => sqL (hP.1 _ _ g3)) (fun i x H4 gx hP => ?_) (fun H4 hP => ?_)
    · obtain ⟨s4, e4⟩ := hP
      rw [List.getElem?_map, Option.map_eq_some_iff] at gx
      obtain ⟨z, gc, rfl⟩ := gx
      refine ⟨rfl, _, rfl, _, rfl, c, _, rfl, Same.sq ((s1.trans s3).trans s4) hC, rfl, flat_ints _, _, rfl, ?_⟩
      rw [if_neg Bool.false_ne_true, inV_ints, fil_step gc]
      refine ite2 (fun hc => ?_) (fun hc => ?_)
      · refine ⟨_, rfl, _, e4, fil_small (by omega), Same.mut s4 hD4, ?_⟩
        rw [upd_same, if_pos hc]
      · refine ⟨s4, ?_⟩
        rw [if_neg hc, List.append_nil]
        exact e4
    · obtain ⟨s4, e4⟩ := hP
      rw [List.length_map, List.take_length] at e4
      have hn := hne j hlt
      have eg : goOn ys C cs (j + 1) = goOn ys C cs j ++ [((readyL ys (goOn ys C cs j)).filter fun c => decide (c ∈ C)).headD 0] := rfl
      cases hrl : (readyL ys (goOn ys C cs j)).filter fun c => decide (c ∈ C) with
      | nil => exact absurd hrl hn
      | cons z zs =>
        rw [hrl] at e4 eg
        refine ⟨D4, _, 0, .int z, rfl, rfl, sqL e4, atI_nat (j := 0) rfl, (by show 1 ≤ sizeLine; decide), fun t ht => ?_⟩
        have s5 := same_upd (o := .tup [.int z]) ht
        have s35 := (s3.trans s4).trans s5
        refine cat_one (Same.tup s35 go) upd_same (by omega) fun p6 H6 s6 h6 => ?_
        refine ⟨p6, rfl, (s1.trans s35).trans s6, ?_⟩
        rw [eg]
        exact h6
  · have hje : j = C.length - cs.length := by
      have : ¬ ((cs.length + j : Nat) : Int) < (C.length : Int) := of_decide_eq_false (Bool.eq_false_iff.mpr hc)
      omega
    rw [hje] at go
    exact ⟨_, rfl, q o _ s1 go⟩

/-! ### verdict -/
theorem greedy_in {ys : List V} (hp : Poss ys) {k : Nat} (hk : k ≤ (fullL ys).length) : greedy ys k ∈ fitN ys k := by
  obtain ⟨r, hr⟩ := fit_head hp hk
  rw [hr]
  exact List.mem_cons_self ..
def verdD (ys : List V) : PyData := match gapO ys with
  | some (c, e) => .tuple [.str "gap", .int c, .int e]
  | none => match bothO ys with
    | some (c, e) => .tuple [.str "both", .int c, .int e]
    | none => .tuple [.str "order", dT (greedy ys (fullL ys).length)]
def spVerdict (K : PySem.W.Frag) : Sp := fun vs H Q _ => ∃ (a : Addr) (ys : List V), vs = [.ref a] ∧ Sq K H a ys ∧ ys.length ≤ 100 ∧ (∀ y ∈ ys, TabV ys.length y) ∧ ∀ p H', Same H H' → Dp K H' (.ref p) (verdD ys) → Q (.ref p) H'
theorem ok_verdict (T : Bt mg) {f f1 f2 f3 f4 : Addr} {fd fd1 fd2 fd3 fd4 : FuncData} {k : Nat} (D : Df K mg "verdict" s_verdict ["table"] f fd) (k_first_gap : Kn P w K mg base 4 "first_gap" s_first_gap ["table"] (spReason K gapO) f1 fd1)
    (k_first_both : Kn P w K mg base 5 "first_both" s_first_both ["table"] (spReason K bothO) f2 fd2) (k_first_going_on : Kn P w K mg base 6 "first_going_on" s_first_going_on ["table", "came", "cells"] (spGoOn K) f3 fd3)
    (k_taken_cells : Kn P w K mg base 1 "taken_cells" s_taken_cells ["table"] (spTaken K) f4 fd4) : Kn P w K mg base 7 "verdict" s_verdict ["table"] (spVerdict K) f fd := by
  refine ⟨D, D.F.ok sc_verdict (fun vs H Q E h => ?_) (fun cdv A outer s H vs Q E hr h => ?_)⟩
  · obtain ⟨a, ys, rfl, _⟩ := h
    rfl
  obtain ⟨a, ys, rfl, hA, hl, tab, q⟩ := h
  refine ⟨_, (pss_cons (ps_set (i := 1) sc_verdict.nd rfl (.inl rfl) (pe_call k_first_gap.G (hr.mono (by omega)) (by rfl) k_first_gap.D.g k_first_gap.D.F.kp k_first_gap.D.b .nil pass0 (pa_cons (pv 0) pa_nil)))
      (pss_cons (ps_if (pt_cmpR op_notN (pv 1) pe_non (nomark _)) (pss_one (ps_ret (pe_tup (pa_cons pe_str (pa_cons (pe_ix (ix_tupK (K := K) rfl) (pv 1) pe_int (fun _ _ => rfl)) (pa_cons (pe_ix (ix_tupK (K := K) rfl) (pv 1) pe_int (fun _ _ => rfl)) pa_nil)))))) pss_nil)
      (pss_cons (ps_set (i := 2) sc_verdict.nd rfl (.inl rfl) (pe_call k_first_both.G (hr.mono (by omega)) (by rfl) k_first_both.D.g k_first_both.D.F.kp k_first_both.D.b .nil pass0 (pa_cons (pv 0) pa_nil)))
      (pss_cons (ps_if (pt_cmpR op_notN (pv 2) pe_non (nomark _)) (pss_one (ps_ret (pe_tup (pa_cons pe_str (pa_cons (pe_ix (ix_tupK (K := K) rfl) (pv 2) pe_int (fun _ _ => rfl)) (pa_cons (pe_ix (ix_tupK (K := K) rfl) (pv 2) pe_int (fun _ _ => rfl)) pa_nil)))))) pss_nil)
      (pss_one (ps_ret (pe_tup (pa_cons pe_str (pa_cons (pe_call k_first_going_on.G (hr.mono (by omega)) (by rfl) k_first_going_on.D.g k_first_going_on.D.F.kp k_first_going_on.D.b .nil pass0 (pa_cons (pv 0) (pa_cons (pe_tup pa_nil) (pa_cons (pe_call k_taken_cells.G (hr.mono (by omega)) (by rfl) k_taken_cells.D.g k_taken_cells.D.F.kp k_taken_cells.D.b .nil pass0 (pa_cons (pv 0) pa_nil)) pa_nil)))) pa_nil))))))))), ?_⟩
  refine ⟨_, rfl, a, ys, rfl, hA, hl, tab, fun hg H1 s1 => ?_, fun c e hg p1 H1 s1 g1 => ?_⟩
  · refine ⟨_, rfl, rfl, _, rfl, iteF ?_⟩
    refine ⟨_, rfl, a, ys, rfl, Same.sq s1 hA, hl, tab, fun hb H2 s2 => ?_, fun c e hb p2 H2 s2 g2 => ?_⟩
    · refine ⟨_, rfl, rfl, _, rfl, iteF ?_⟩
      have hp : Poss ys := poss_iff.mpr ⟨hg, hb⟩
      have hfl : (fullL ys).length ≤ 100 := Nat.le_trans (fullN_len ys _) hl
      have s12 := s1.trans s2
      refine ⟨_, rfl, (by show 0 ≤ sizeLine; decide), fun o0 ho0 => ?_⟩
      have s3 := s12.trans (same_upd (o := .tup []) ho0)
      refine ⟨_, rfl, a, ys, rfl, Same.sq s3 hA, hl, fun p4 H4 s4 np4 g4 => ?_⟩
      have s34 := s3.trans s4
      refine ⟨a, o0, p4, ys, [], fullL ys, rfl, Same.sq s34 hA, Same.tup s4 (sqT upd_same), .inl (sqL g4), hl, hfl, Nat.zero_le _, tab, fun j hj => ?_, fun p5 H5 s5 g5 => ?_⟩
      · have hj' : j < (fullL ys).length := by
          have : ([] : List Int).length + j = j := Nat.zero_add j
          omega
        have hf : (readyL ys (greedy ys j)).filter (fun c => decide (c ∈ fullL ys)) = readyL ys (greedy ys j) := List.filter_eq_self.mpr fun c hc => decide_eq_true (List.mem_filter.mp hc).1
        rw [goOn_full, hf]
        exact ready_some hp (left_some (greedy_in hp (Nat.le_of_lt hj')) hj')
      · refine ⟨(by show 2 ≤ sizeLine; decide), fun p hp => q p _ ((s34.trans s5).trans (same_upd hp)) ?_⟩
        unfold verdD
        rw [hg, hb]
        rw [goOn_full] at g5
        exact .tup (sqT upd_same) (.cons (.str _) (.cons (dp_T (Same.tup (same_upd hp) g5)) .nil))
    · refine ⟨_, rfl, rfl, _, rfl, iteT ?_⟩
      refine ⟨_, rfl, p2, _, 0, _, rfl, rfl, sqT g2, rfl, _, rfl, p2, _, 1, _, rfl, rfl, sqT g2, rfl, (by show 3 ≤ sizeLine; decide), fun p hp => q p _ ((s1.trans s2).trans (same_upd hp)) ?_⟩
      unfold verdD
      rw [hg, hb]
      exact .tup (sqT upd_same) (.cons (.str _) (.cons (.int _) (.cons (.int _) .nil)))
  · refine ⟨_, rfl, rfl, _, rfl, iteT ?_⟩
    refine ⟨_, rfl, p1, _, 0, _, rfl, rfl, sqT g1, rfl, _, rfl, p1, _, 1, _, rfl, rfl, sqT g1, rfl, (by show 3 ≤ sizeLine; decide), fun p hp => q p _ (s1.trans (same_upd hp)) ?_⟩
    unfold verdD
    rw [hg]
    exact .tup (sqT upd_same) (.cons (.str _) (.cons (.int _) (.cons (.int _) .nil)))

/-! ### _law_source -/
def spSource (K : PySem.W.Frag) : Sp := fun vs H Q _ => ∃ (a : Addr) (ns : List Int) (i : Nat), vs = [.ref a, .int i] ∧ SqL K H a (ns.map V.int) ∧ ns.length ≤ 63 ∧ i ≤ 63 ∧ ∀ p o, H p = none → SrcO 1000000000000 o → Q (.ref p) (upd H p o)
theorem ok_source (T : Bt mg) {f : Addr} {fd : FuncData} {k : Nat} (D : Df K mg "_law_source" s_law_source ["_law_script", "_law_index"] f fd) : Kn P w K mg base (k + 1) "_law_source" s_law_source ["_law_script", "_law_index"] (spSource K) f fd := by
  refine ⟨D, D.F.ok sc_law_source (fun vs H Q E h => ?_) (fun cdv A outer s H vs Q E hr h => ?_)⟩
  · obtain ⟨a, ns, i, rfl, _⟩ := h
    rfl
  obtain ⟨a, ns, i, rfl, hS, h63, hi, q⟩ := h
  refine ⟨_, (pss_cons (ps_set (i := 2) sc_law_source.nd rfl (.inl rfl) pe_int)
      (pss_cons (ps_if (pt_cmpR op_lt (pv 1) (pe_callB (call_lenK (K := K) rfl) (by rfl) T.len (by decide +kernel) (pa_cons (pv 0) pa_nil)) (nomark _)) (pss_one (ps_set (i := 2) sc_law_source.nd rfl (.inl rfl) (pe_ix (ix_listK (K := K) rfl) (pv 0) (pv 1) (fun _ _ => rfl)))) pss_nil)
      (pss_one (ps_ret (pe_lst (pa_cons (pe_op op_mul (pe_callB call_abs (by rfl) T.abs (by decide +kernel) (pa_cons (pv 2) pa_nil)) (pe_callTy call_int1 (by rfl) T.int (by decide +kernel) (pa_cons (pe_cmpR op_ge (pe_callB call_abs (by rfl) T.abs (by decide +kernel) (pa_cons (pv 2) pa_nil)) (pe_op op_pow pe_int pe_int) (nomark _)) pa_nil))) (pa_cons (pe_op op_mod (pe_op op_mul (pe_op op_add (pe_op op_add (pe_op op_mod (pv 2) pe_int) (pe_op op_mul pe_int (pv 1))) pe_int) pe_int) pe_int) (pa_cons pe_int pa_nil)))))))), ?_⟩
  refine ⟨_, rfl, _, rfl, a, _, rfl, .inl hS, _, _, rfl, rfl, _, rfl, ?_⟩
  refine ite2 (fun c => ?_) (fun c => ?_)
  · have c' : (i : Int) < (((ns.map V.int).length : Nat) : Int) := of_decide_eq_true c
    rw [List.length_map] at c'
    have g : (ns.map V.int)[i]? = some (.int ns[i]) := by
      rw [List.getElem?_map, List.getElem?_eq_getElem (by omega)]
      rfl
    refine ⟨_, rfl, _, rfl, a, _, _, _, rfl, rfl, hS, atI_nat g, ?_⟩
    generalize ns[i] = z
    refine ⟨_, rfl, _, rfl, _, rfl, _, rfl, _, _, rfl, rfl, ⟨by decide, by decide, by decide⟩, _, _, rfl, rfl, .inr ⟨_, rfl, _, _, rfl, rfl, cmul_b _ _, ?_⟩⟩
    refine ⟨_, rfl, _, _, rfl, rfl, (by show (0 : Int) < 2147483563; decide), _, rfl, _, _, rfl, rfl, .inl ⟨by decide, by decide⟩, _, _, rfl, rfl, _, _, rfl, rfl, _, _, rfl, rfl, .inr ⟨by decide, by decide⟩, _, _, rfl, rfl, (by show (0 : Int) < 2147483543; decide), (by show 3 ≤ sizeLine; decide), fun p hp => q p _ hp ?_⟩
    exact ⟨_, _, _, rfl, src_a z _, Int.emod_nonneg _ (by decide), Int.lt_trans (Int.emod_lt_of_pos _ (by decide)) (by decide), Int.le_refl 0, by decide⟩
  · refine ⟨_, rfl, _, rfl, _, rfl, _, rfl, _, _, rfl, rfl, ⟨by decide, by decide, by decide⟩, _, _, rfl, rfl, .inr ⟨_, rfl, _, _, rfl, rfl, cmul_b _ _, ?_⟩⟩
    refine ⟨_, rfl, _, _, rfl, rfl, (by show (0 : Int) < 2147483563; decide), _, rfl, _, _, rfl, rfl, .inl ⟨by decide, by decide⟩, _, _, rfl, rfl, _, _, rfl, rfl, _, _, rfl, rfl, .inr ⟨by decide, by decide⟩, _, _, rfl, rfl, (by show (0 : Int) < 2147483543; decide), (by show 3 ≤ sizeLine; decide), fun p hp => q p _ hp ?_⟩
    exact ⟨_, _, _, rfl, src_a 0 _, Int.emod_nonneg _ (by decide), Int.lt_trans (Int.emod_lt_of_pos _ (by decide)) (by decide), Int.le_refl 0, by decide⟩

/-! ### _law_equal, of two values that are the same data -/
def spEqual (K : PySem.W.Frag) (n : Nat) : Sp := fun vs H Q _ => ∃ (x y : V) (d : PyData), vs = [x, y] ∧ Dp K H x d ∧ Dp K H y d ∧ depthD d + 1 ≤ n ∧ wideD d ≤ 500 ∧ ∀ H', Same H H' → Q (.bl true) H'
theorem ok_equal1 (T : Bt mg) {f : Addr} {fd : FuncData} {n : Nat} (D : Df K mg "_law_equal" s_law_equal ["_law_found", "_law_due"] f fd) (G : FnOk P w K mg base CX0 n f fd ["_law_found", "_law_due"] (spEqual K n)) : FnOk P w K mg base CX0 (n + 1) f fd ["_law_found", "_law_due"] (spEqual K (n + 1)) := by
  have k_law_equal : Kn P w K mg base n "_law_equal" s_law_equal ["_law_found", "_law_due"] (spEqual K n) f fd := ⟨D, G⟩
  refine D.F.ok sc_law_equal (fun vs H Q E h => ?_) (fun cdv A outer s H vs Q E hr h => ?_)
  · obtain ⟨x, y, d, rfl, _⟩ := h
    rfl
  obtain ⟨x, y, d, rfl, hx, hy, hd, hw, q⟩ := h
  refine ⟨_, (pss_cons (ps_if (pt_val (pe_callB (call_isiTK (K := K) rfl) (by rfl) T.isinstance (by decide +kernel) (pa_cons (pv 1) (pa_cons (pe_tup (pa_cons (pe_bltn (v := .ty "list") (by rfl) T.list (by decide +kernel) rfl) (pa_cons (pe_bltn (v := .ty "tuple") (by rfl) T.tuple (by decide +kernel) rfl) pa_nil))) pa_nil)))) (pss_cons (ps_if (PW.pt (pw_or (pt_cmpR op_ne (pe_callB (call_isiKK (K := K) rfl) (by rfl) T.isinstance (by decide +kernel) (pa_cons (pv 0) (pa_cons (pe_bltn (v := .ty "list") (by rfl) T.list (by decide +kernel) rfl) pa_nil))) (pe_callB (call_isiKK (K := K) rfl) (by rfl) T.isinstance (by decide +kernel) (pa_cons (pv 1) (pa_cons (pe_bltn (v := .ty "list") (by rfl) T.list (by decide +kernel) rfl) pa_nil))) (nomark _)) (pw_or1 (pt_cmpR op_ne (pe_callB (call_isiKK (K := K) rfl) (by rfl) T.isinstance (by decide +kernel) (pa_cons (pv 0) (pa_cons (pe_bltn (v := .ty "tuple") (by rfl) T.tuple (by decide +kernel) rfl) pa_nil))) (pe_callB (call_isiKK (K := K) rfl) (by rfl) T.isinstance (by decide +kernel) (pa_cons (pv 1) (pa_cons (pe_bltn (v := .ty "tuple") (by rfl) T.tuple (by decide +kernel) rfl) pa_nil))) (nomark _))))) (pss_one (ps_ret pe_bl)) pss_nil)
      (pss_one (ps_ret (pe_and (pe_cmpR op_eq (pe_callB (call_lenK (K := K) rfl) (by rfl) T.len (by decide +kernel) (pa_cons (pv 0) pa_nil)) (pe_callB (call_lenK (K := K) rfl) (by rfl) T.len (by decide +kernel) (pa_cons (pv 1) pa_nil)) (nomark _)) (pe_one (pe_callB (cr_allK (K := K) rfl rfl) (by rfl) T.all (by decide +kernel) (pa_cons (pe_lc (own := [("_law_lone", 2), ("_law_mate", 3)]) (by rfl) sc_law_equal.nd (RZ.pi_zipA (by rfl) T.zip (pa_cons (pv 0) (pa_cons (pv 1) pa_nil))) (blkOk_by (own := [("_law_lone", 2), ("_law_mate", 3)]) (N := ["_law_found", "_law_due", "_law_lone", "_law_mate"]) (sc := defScope s_law_equal) (by decide +kernel)) (fun _ _ _ _ _ => (pg_tupK (K := K) (n := 2) rfl rfl (pgs_cons (pg_name (i := 2) sc_law_equal.nd rfl (.inl rfl)) (pgs_cons (pg_name (i := 3) sc_law_equal.nd rfl (.inl rfl)) pgs_nil)))) (fun _ _ _ _ _ => pts_nil) (fun _ _ _ _ _ => (pe_call k_law_equal.G (hr.mono (by omega)) (by rfl) k_law_equal.D.g k_law_equal.D.F.kp k_law_equal.D.b .nil pass0 (pa_cons (pv 2) (pa_cons (pv 3) pa_nil))))) pa_nil))))))) pss_nil)
      (pss_cons (ps_if (PW.pt (pw_or (pt_cmpR op_isN (pv 1) pe_non (nomark _)) (pw_or1 (pt_val (pe_callB (call_isiKK (K := K) rfl) (by rfl) T.isinstance (by decide +kernel) (pa_cons (pv 1) (pa_cons (pe_bltn (v := .ty "str") (by rfl) T.str (by decide +kernel) rfl) pa_nil))))))) (pss_one (ps_ret (pe_and (pe_cmpR op_eq (pv 0) (pv 1) (nomark _)) (pe_one (pe_cmpR op_eq (pe_callB (call_isiKK (K := K) rfl) (by rfl) T.isinstance (by decide +kernel) (pa_cons (pv 0) (pa_cons (pe_bltn (v := .ty "str") (by rfl) T.str (by decide +kernel) rfl) pa_nil))) (pe_callB (call_isiKK (K := K) rfl) (by rfl) T.isinstance (by decide +kernel) (pa_cons (pv 1) (pa_cons (pe_bltn (v := .ty "str") (by rfl) T.str (by decide +kernel) rfl) pa_nil))) (nomark _)))))) pss_nil)
      (pss_one (ps_ret (pe_and (pe_callB (call_isiKK (K := K) rfl) (by rfl) T.isinstance (by decide +kernel) (pa_cons (pv 0) (pa_cons (pe_bltn (v := .ty "int") (by rfl) T.int (by decide +kernel) rfl) pa_nil))) (pe_and (pe_cmpR op_eq (pe_callB (call_isiKK (K := K) rfl) (by rfl) T.isinstance (by decide +kernel) (pa_cons (pv 0) (pa_cons (pe_bltn (v := .ty "bool") (by rfl) T.bool (by decide +kernel) rfl) pa_nil))) (pe_callB (call_isiKK (K := K) rfl) (by rfl) T.isinstance (by decide +kernel) (pa_cons (pv 1) (pa_cons (pe_bltn (v := .ty "bool") (by rfl) T.bool (by decide +kernel) rfl) pa_nil))) (nomark _)) (pe_one (pe_cmpR op_eq (pv 0) (pv 1) (nomark _))))))))), ?_⟩
  have sb : ∀ {tp : Addr}, H tp = none → Same H (upd H tp (.tup [.ty "list", .ty "tuple"])) := fun h => same_upd h
  have cs2 : Paired ClsV [.ty "list", .ty "tuple"] [.type "list", .type "tuple"] := .cons (.ty _) (.cons (.ty _) .nil)
  cases hx with
  | non =>
    cases hy
    refine ⟨_, rfl, (by show 2 ≤ sizeLine; decide), fun tp htp => ⟨_, tp, _, _, _, _, rfl, upd_same, cs2, .base .non, kit_n (kit_ty (by decide +kernel)) (kit_n (kit_ty (by decide +kernel)) kitAny_nil), _, rfl, iteF ?_⟩⟩
    refine ⟨_, rfl, rfl, _, rfl, iteT ?_⟩
    refine iteT ?_
    refine ⟨_, rfl, _, rfl, rfl, true, rfl, ?_⟩
    refine iteT ?_
    refine ⟨_, rfl, _, _, _, _, _, rfl, .ty _, .base .non, kit_ty (r := false) (by decide +kernel), _, rfl, _, _, _, _, _, rfl, .ty _, .base .non, kit_ty (r := false) (by decide +kernel), rfl, ?_⟩
    exact q _ (sb htp)
  | bl b =>
    cases hy
    refine ⟨_, rfl, (by show 2 ≤ sizeLine; decide), fun tp htp => ⟨_, tp, _, _, _, _, rfl, upd_same, cs2, .base (.bl _), kit_n (kit_ty (by decide +kernel)) (kit_n (kit_ty (by decide +kernel)) kitAny_nil), _, rfl, iteF ?_⟩⟩
    refine ⟨_, rfl, rfl, _, rfl, ?_⟩
    refine iteF ?_
    refine ⟨_, rfl, _, _, _, _, _, rfl, .ty _, .base (.bl _), kit_ty (r := false) (by decide +kernel), _, rfl, iteF ?_⟩
    refine ⟨_, rfl, _, _, _, _, _, rfl, .ty _, .base (.bl _), kit_ty (r := true) (by decide +kernel), _, rfl, iteT ?_⟩
    refine ⟨_, rfl, _, _, _, _, _, rfl, .ty _, .base (.bl _), kit_ty (r := true) (by decide +kernel), _, rfl, _, _, _, _, _, rfl, .ty _, .base (.bl _), kit_ty (r := true) (by decide +kernel), rfl, true, rfl, iteT ?_⟩
    refine ⟨_, rfl, _, rfl, rfl, ?_⟩
    exact dec_t rfl (Q := fun b => Q (.bl b) _) (q _ (sb htp))
  | int i =>
    cases hy
    refine ⟨_, rfl, (by show 2 ≤ sizeLine; decide), fun tp htp => ⟨_, tp, _, _, _, _, rfl, upd_same, cs2, .base (.int _), kit_n (kit_ty (by decide +kernel)) (kit_n (kit_ty (by decide +kernel)) kitAny_nil), _, rfl, iteF ?_⟩⟩
    refine ⟨_, rfl, rfl, _, rfl, ?_⟩
    refine iteF ?_
    refine ⟨_, rfl, _, _, _, _, _, rfl, .ty _, .base (.int _), kit_ty (r := false) (by decide +kernel), _, rfl, iteF ?_⟩
    refine ⟨_, rfl, _, _, _, _, _, rfl, .ty _, .base (.int _), kit_ty (r := true) (by decide +kernel), _, rfl, iteT ?_⟩
    refine ⟨_, rfl, _, _, _, _, _, rfl, .ty _, .base (.int _), kit_ty (r := false) (by decide +kernel), _, rfl, _, _, _, _, _, rfl, .ty _, .base (.int _), kit_ty (r := false) (by decide +kernel), rfl, true, rfl, iteT ?_⟩
    refine ⟨_, rfl, _, rfl, rfl, ?_⟩
    exact dec_t rfl (Q := fun b => Q (.bl b) _) (q _ (sb htp))
  | str z =>
    cases hy
    refine ⟨_, rfl, (by show 2 ≤ sizeLine; decide), fun tp htp => ⟨_, tp, _, _, _, _, rfl, upd_same, cs2, .base (.str _), kit_n (kit_ty (by decide +kernel)) (kit_n (kit_ty (by decide +kernel)) kitAny_nil), _, rfl, iteF ?_⟩⟩
    refine ⟨_, rfl, rfl, _, rfl, ?_⟩
    refine iteF ?_
    refine ⟨_, rfl, _, _, _, _, _, rfl, .ty _, .base (.str _), kit_ty (r := true) (by decide +kernel), _, rfl, iteT ?_⟩
    refine ⟨_, rfl, _, rfl, rfl, true, dec_t (Q := fun b => V.bl b = V.bl true) rfl rfl, ?_⟩
    refine iteT ?_
    refine ⟨_, rfl, _, _, _, _, _, rfl, .ty _, .base (.str _), kit_ty (r := true) (by decide +kernel), _, rfl, _, _, _, _, _, rfl, .ty _, .base (.str _), kit_ty (r := true) (by decide +kernel), rfl, ?_⟩
    exact q _ (sb htp)
  | @lst a xs ds hS hA =>
    cases hy with
    | @lst b ys _ hS2 hA2 =>
    refine ⟨_, rfl, (by show 2 ≤ sizeLine; decide), fun tp htp => ⟨_, tp, _, _, _, _, rfl, upd_same, cs2, tyL ((sb htp).seq hS2), kit_y (kit_ty (by decide +kernel)), _, rfl, iteT ?_⟩⟩
    have hS' := (sb htp).seq hS
    have hS2' := (sb htp).seq hS2
    refine ⟨_, rfl, _, _, _, _, _, rfl, .ty _, tyL hS', kit_ty (r := true) (by decide +kernel), _, rfl, _, _, _, _, _, rfl, .ty _, tyL hS2', kit_ty (r := true) (by decide +kernel), rfl, false, rfl, iteF ?_⟩
    refine ⟨_, rfl, _, _, _, _, _, rfl, .ty _, tyL hS', kit_ty (r := false) (by decide +kernel), _, rfl, _, _, _, _, _, rfl, .ty _, tyL hS2', kit_ty (r := false) (by decide +kernel), rfl, false, rfl, iteF ?_⟩
    have l1 := dpAll_len hA
    have l2 := dpAll_len hA2
    have wl : ds.length ≤ 500 := Nat.le_trans (Nat.le_trans (Nat.le_max_left _ _) (by unfold wideD at hw; exact hw)) (Nat.le_refl _)
    have ww : wideL ds ≤ 500 := Nat.le_trans (Nat.le_trans (Nat.le_max_right _ _) (by unfold wideD at hw; exact hw)) (Nat.le_refl _)
    refine ⟨_, rfl, a, _, rfl, .inl hS', _, rfl, b, _, rfl, .inl hS2', rfl, true, dec_t (Q := fun b => V.bl b = V.bl true) (by rw [l1, l2]) rfl, iteT ?_⟩
    refine ⟨_, rfl, _, rfl, a, b, xs, ys, rfl, .inl ⟨hS', hS2', fun L hL => ?_⟩⟩
    refine lc_zipL (by rw [l1, l2]) (fun i H2 => Same (upd H tp (.tup [.ty "list", .ty "tuple"])) H2 ∧ H2 L = some (.lst ((List.replicate i true).map V.bl))) ⟨same_upd hL, upd_same⟩ (fun i H2 hP => ⟨hP.1.seq hS', hP.1.seq hS2'⟩) (fun i x y T' H2 gx gy hP hT => ?_) (fun H2 hP => ?_)
    · obtain ⟨s2, e2⟩ := hP
      have h1 : Same H2 (upd H2 T' (.tup [x, y])) := same_upd hT
      refine ⟨T', [x, y], rfl, sqT upd_same, rfl, x, [y], rfl, y, [], rfl, rfl, rfl, ?_⟩
      obtain ⟨d1, g1, p1⟩ := dpAll_get hA gx
      obtain ⟨d2, g2, p2⟩ := dpAll_get hA2 gy
      rw [g1] at g2
      cases g2
      have hdd := depthL_get g1
      have hww := wideL_get g1
      have hd' : depthL ds + 1 + 1 ≤ n + 1 := by unfold depthD at hd; exact hd
      refine ⟨_, rfl, _, rfl, x, y, d1, rfl, dp_same (((sb htp).trans s2).trans h1) p1, dp_same (((sb htp).trans s2).trans h1) p2, by omega, by omega, fun H3 h3 => ?_⟩
      have hi : i < xs.length := (List.getElem?_eq_some_iff.mp gx).1
      refine ⟨_, h3 _ _ (h1 _ _ e2), ?_, Same.mut ((s2.trans h1).trans h3) hL, ?_⟩
      · rw [List.length_map, List.length_replicate]
        exact small1000 (by omega)
      · rw [upd_same, List.replicate_succ', List.map_append]
        rfl
    · obtain ⟨s2, e2⟩ := hP
      refine ⟨L, _, rfl, sqL e2, ?_⟩
      rw [all_rep]
      exact q _ ((sb htp).trans s2)
  | @tup a xs ds hS hA =>
    cases hy with
    | @tup b ys _ hS2 hA2 =>
    refine ⟨_, rfl, (by show 2 ≤ sizeLine; decide), fun tp htp => ⟨_, tp, _, _, _, _, rfl, upd_same, cs2, tyT (Same.tup (sb htp) hS2), kit_n (kit_ty (by decide +kernel)) (kit_y (kit_ty (by decide +kernel))), _, rfl, iteT ?_⟩⟩
    have hS' := Same.tup (sb htp) hS
    have hS2' := Same.tup (sb htp) hS2
    refine ⟨_, rfl, _, _, _, _, _, rfl, .ty _, tyT hS', kit_ty (r := false) (by decide +kernel), _, rfl, _, _, _, _, _, rfl, .ty _, tyT hS2', kit_ty (r := false) (by decide +kernel), rfl, false, rfl, iteF ?_⟩
    refine ⟨_, rfl, _, _, _, _, _, rfl, .ty _, tyT hS', kit_ty (r := true) (by decide +kernel), _, rfl, _, _, _, _, _, rfl, .ty _, tyT hS2', kit_ty (r := true) (by decide +kernel), rfl, false, rfl, iteF ?_⟩
    have l1 := dpAll_len hA
    have l2 := dpAll_len hA2
    have wl : ds.length ≤ 500 := Nat.le_trans (Nat.le_trans (Nat.le_max_left _ _) (by unfold wideD at hw; exact hw)) (Nat.le_refl _)
    have ww : wideL ds ≤ 500 := Nat.le_trans (Nat.le_trans (Nat.le_max_right _ _) (by unfold wideD at hw; exact hw)) (Nat.le_refl _)
    refine ⟨_, rfl, a, _, rfl, .inr hS', _, rfl, b, _, rfl, .inr hS2', rfl, true, dec_t (Q := fun b => V.bl b = V.bl true) (by rw [l1, l2]) rfl, iteT ?_⟩
    refine ⟨_, rfl, _, rfl, a, b, xs, ys, rfl, .inr ⟨hS', hS2', fun L hL => ?_⟩⟩
    refine lc_zipT (by rw [l1, l2]) (fun i H2 => Same (upd H tp (.tup [.ty "list", .ty "tuple"])) H2 ∧ H2 L = some (.lst ((List.replicate i true).map V.bl))) ⟨same_upd hL, upd_same⟩ (fun i H2 hP => ⟨Same.tup hP.1 hS', Same.tup hP.1 hS2'⟩) (fun i x y T' H2 gx gy hP hT => ?_) (fun H2 hP => ?_)
    · obtain ⟨s2, e2⟩ := hP
      have h1 : Same H2 (upd H2 T' (.tup [x, y])) := same_upd hT
      refine ⟨T', [x, y], rfl, sqT upd_same, rfl, x, [y], rfl, y, [], rfl, rfl, rfl, ?_⟩
      obtain ⟨d1, g1, p1⟩ := dpAll_get hA gx
      obtain ⟨d2, g2, p2⟩ := dpAll_get hA2 gy
      rw [g1] at g2
      cases g2
      have hdd := depthL_get g1
      have hww := wideL_get g1
      have hd' : depthL ds + 1 + 1 ≤ n + 1 := by unfold depthD at hd; exact hd
      refine ⟨_, rfl, _, rfl, x, y, d1, rfl, dp_same (((sb htp).trans s2).trans h1) p1, dp_same (((sb htp).trans s2).trans h1) p2, by omega, by omega, fun H3 h3 => ?_⟩
      have hi : i < xs.length := (List.getElem?_eq_some_iff.mp gx).1
      refine ⟨_, h3 _ _ (h1 _ _ e2), ?_, Same.mut ((s2.trans h1).trans h3) hL, ?_⟩
      · rw [List.length_map, List.length_replicate]
        exact small1000 (by omega)
      · rw [upd_same, List.replicate_succ', List.map_append]
        rfl
    · obtain ⟨s2, e2⟩ := hP
      refine ⟨L, _, rfl, sqL e2, ?_⟩
      rw [all_rep]
      exact q _ ((sb htp).trans s2)
theorem ok_equal (T : Bt mg) {f : Addr} {fd : FuncData} (D : Df K mg "_law_equal" s_law_equal ["_law_found", "_law_due"] f fd) : ∀ n : Nat, FnOk P w K mg base CX0 n f fd ["_law_found", "_law_due"] (spEqual K n)
  | 0 => by
    have no : ∀ vs H Q E, ¬ spEqual K 0 vs H Q E := fun vs H Q E h => by
      obtain ⟨x, y, d, _, _, _, h1, _⟩ := h
      omega
    exact ⟨fun vs H Q E h => absurd h (no vs H Q E), fun A outer s H args us vs Q E _ _ _ _ h => absurd h (no vs H Q E)⟩
  | n + 1 => ok_equal1 T D (ok_equal T D n)

/-! ### what is put where: one answer -/
theorem near_total {w c x : Int} (h : c ≠ x) (n : near w c x = false) : near w x c = true := by
  unfold near at n ⊢
  rw [HT.lexLt_cons] at n ⊢
  by_cases e : dist x w = dist c w
  · rw [if_pos e] at n
    rw [if_pos e.symm]
    rw [HT.lexLt_cons, if_neg (fun z => h z.symm)] at n
    rw [HT.lexLt_cons, if_neg h]
    have := of_decide_eq_false n
    exact decide_eq_true (by omega)
  · rw [if_neg e] at n
    rw [if_neg (fun z => e z.symm)]
    have := of_decide_eq_false n
    exact decide_eq_true (by omega)
theorem NSpot.one {ys : List V} {w : Int} {c c' : Nat} (a : NSpot ys w c) (b : NSpot ys w c') : c = c' := by
  false_or_by_contra
  rename_i h
  have h1 := a.best c' b.at_
  have h2 := b.best c a.at_
  rw [near_total (by omega) h1] at h2
  cases h2
theorem nspot_by {ys : List V} {w : Int} {c : Nat} (h1 : ys[c]? = some .non) (h2 : ((List.range ys.length).all fun x => !(isN (ys.getD x (.int 0))) || !(near w (c : Int) (x : Int))) = true) : NSpot ys w c := by
  refine ⟨h1, fun x hx => ?_⟩
  have := List.all_eq_true.mp h2 x (List.mem_range.mpr (List.getElem?_eq_some_iff.mp hx).1)
  rw [isN_at.mpr hx] at this
  simpa using this
theorem PutV.one {ys : List V} {hs : List Int} {zs : List V} {qs : List Int} (a : PutV ys hs zs qs) : ∀ {zs' : List V} {qs' : List Int}, PutV ys hs zs' qs' → zs = zs' ∧ qs = qs' := by
  induction a with
  | nil =>
    intro zs' qs' b
    generalize e : ([] : List Int) = l at b
    cases b with
    | nil => exact ⟨rfl, rfl⟩
    | snoc => simp at e
  | @snoc hs zs qs h c a sp ih =>
    intro zs' qs' b
    generalize e : hs ++ [h] = l at b
    cases b with
    | nil => simp at e
    | snoc b sp' =>
      obtain ⟨rfl, e2⟩ := List.append_inj' e rfl
      cases e2
      obtain ⟨rfl, rfl⟩ := ih b
      rw [sp.one sp']
      exact ⟨rfl, rfl⟩
theorem PutV.fill {n : Nat} {hs : List Int} {zs : List V} {qs : List Int} (a : PutV (List.replicate n .non) hs zs qs) : ∃ sh : List (Option Int), zs = sh.map oV ∧ Fill n hs sh qs := by
  induction a with
  | nil => exact ⟨List.replicate n none, by rw [List.map_replicate]; rfl, .nil⟩
  | @snoc hs zs qs h c a sp ih =>
    obtain ⟨sh, rfl, fl⟩ := ih
    refine ⟨sh.set c (some h), by rw [List.map_set]; rfl, .snoc fl ⟨?_, ?_, fun x hx hf => sp.best x (by rw [List.getElem?_map, hf]; rfl)⟩⟩
    · have := (List.getElem?_eq_some_iff.mp sp.at_).1
      rw [List.length_map, fl.len] at this
      exact this
    · have := sp.at_
      rw [List.getElem?_map] at this
      cases g : sh[c]? with
      | none => rw [g] at this; cases this
      | some o =>
        rw [g] at this
        cases o with
        | none => rfl
        | some z => cases this

/-! ### _law_holds (k09): known tables -/
def tabVB (n : Nat) : V → Bool
  | .non => true
  | .str z => decide (z = "?")
  | .int i => decide (0 ≤ i) && decide (i < (n : Int))
  | _ => false
theorem tab_by {ys : List V} (h : ys.all (tabVB ys.length) = true) : ∀ y ∈ ys, TabV ys.length y := fun y hy => by
  have := List.all_eq_true.mp h y hy
  cases y with
  | non => exact .inl rfl
  | str z => exact .inr (.inl (by rw [of_decide_eq_true this]))
  | int i =>
    have h' : (decide (0 ≤ i) && decide (i < (ys.length : Int))) = true := this
    rw [Bool.and_eq_true, decide_eq_true_eq, decide_eq_true_eq] at h'
    exact .inr (.inr ⟨i.toNat, by rw [Int.toNat_of_nonneg h'.1], by omega⟩)
  | _ => cases this
theorem pk9 : PutV (List.replicate 5 .non) [2, 2, 2, 0] [.int 0, .int 2, .int 2, .int 2, .non] [2, 1, 3, 0] :=
  .snoc (hs := [2, 2, 2]) (.snoc (hs := [2, 2]) (.snoc (hs := [2]) (.snoc (hs := []) (.nil _) (nspot_by (c := 2) rfl (by decide +kernel))) (nspot_by (c := 1) rfl (by decide +kernel))) (nspot_by (c := 3) rfl (by decide +kernel))) (nspot_by (c := 0) rfl (by decide +kernel))
theorem pn9 : NSpot [.int 0, .int 2, .int 2, .int 2, .non] 1 4 := nspot_by rfl (by decide +kernel)
theorem pm9 : NSpot [.non, .int 1, .non] 1 0 := nspot_by rfl (by decide +kernel)
def spHoldsT (Ps : List Addr) : Sp := fun vs H Q _ => ∃ (s : Addr) (b : Nat), vs = [.ref s] ∧ Src H s (b + 4000) ∧ TabsOk Ps nmL H ∧ ∀ H', StayN s H H' → Src H' s b → TabsOk Ps nmL H' → Q (.bl true) H'
theorem ok_holds (T : Bt mg) {f f1 f2 f3 f4 f5 f6 f7 f8 : Addr} {fd fd1 fd2 fd3 fd4 fd5 fd6 fd7 fd8 : FuncData} {Ps : List Addr} (D : Df K mg "_law_holds" s_law_holds ["_law_source_here"] f fd)
    (k_nearest : Kn P w K mg base 4 "nearest" s_nearest ["table", "wish"] (spNearest K Ps) f1 fd1) (k_cells_of : Kn P w K mg base 6 "cells_of" s_cells_of ["size", "wishes"] (spCellsOf K Ps) f2 fd2) (k_filled : Kn P w K mg base 6 "filled" s_filled ["size", "wishes"] (spFilled K Ps) f3 fd3)
    (k_verdict : Kn P w K mg base 7 "verdict" s_verdict ["table"] (spVerdict K) f4 fd4) (k_shows_order : Kn P w K mg base 10 "shows_order" s_shows_order ["table", "thing"] (spTell K ordD) f5 fd5) (k_shows_gap : Kn P w K mg base 10 "shows_gap" s_shows_gap ["table", "thing"] (spTell K gapD) f6 fd6) (k_shows_both : Kn P w K mg base 10 "shows_both" s_shows_both ["table", "thing"] (spTell K bothD) f7 fd7)
    (k_law_equal : Kn P w K mg base 5 "_law_equal" s_law_equal ["_law_found", "_law_due"] (spEqual K 5) f8 fd8) : FnOkG P w K mg base 30 f fd ["_law_source_here"] (spHoldsT Ps) := by
  refine okG D.F sc_law_holds (fun vs H Q E h => ?_) (fun cdv A outer s H vs Q E hgd hr h => ?_)
  · obtain ⟨s', b0, rfl, _⟩ := h
    rfl
  obtain ⟨s', b0, rfl, hsrc, hT, q⟩ := h
  refine ⟨_, (pss_cons (ps_set (i := 1) sc_law_holds.nd rfl (.inl rfl) (pe_call k_filled.G (hr.mono (by omega)) (by rfl) k_filled.D.g k_filled.D.F.kp k_filled.D.b .nil pass0 (pa_cons pe_int (pa_cons (pe_lst (pa_cons pe_int (pa_cons pe_int (pa_cons pe_int (pa_cons pe_int pa_nil))))) pa_nil))))
      (pss_cons (ps_set (i := 2) sc_law_holds.nd rfl (.inl rfl) (pe_lst (pa_cons (pv 1) (pa_cons (pe_call k_cells_of.G (hr.mono (by omega)) (by rfl) k_cells_of.D.g k_cells_of.D.F.kp k_cells_of.D.b .nil pass0 (pa_cons pe_int (pa_cons (pe_lst (pa_cons pe_int (pa_cons pe_int (pa_cons pe_int (pa_cons pe_int pa_nil))))) pa_nil))) (pa_cons (pe_call k_nearest.G (hr.mono (by omega)) (by rfl) k_nearest.D.g k_nearest.D.F.kp k_nearest.D.b .nil pass0 (pa_cons (pv 1) (pa_cons pe_int pa_nil))) (pa_cons (pe_call k_nearest.G (hr.mono (by omega)) (by rfl) k_nearest.D.g k_nearest.D.F.kp k_nearest.D.b .nil pass0 (pa_cons (pe_tup (pa_cons pe_non (pa_cons pe_int (pa_cons pe_non pa_nil)))) (pa_cons pe_int pa_nil))) (pa_cons (pe_call k_filled.G (hr.mono (by omega)) (by rfl) k_filled.D.g k_filled.D.F.kp k_filled.D.b .nil pass0 (pa_cons pe_int (pa_cons (pe_lst pa_nil) pa_nil))) pa_nil)))))))
      (pss_cons (ps_if (pt_not (pt_val (pe_call k_law_equal.G (hr.mono (by omega)) (by rfl) k_law_equal.D.g k_law_equal.D.F.kp k_law_equal.D.b .nil pass0 (pa_cons (pv 2) (pa_cons (pe_lst (pa_cons (pe_tup (pa_cons pe_int (pa_cons pe_int (pa_cons pe_int (pa_cons pe_int (pa_cons pe_non pa_nil)))))) (pa_cons (pe_tup (pa_cons pe_int (pa_cons pe_int (pa_cons pe_int (pa_cons pe_int pa_nil))))) (pa_cons pe_int (pa_cons pe_int (pa_cons (pe_tup (pa_cons pe_non (pa_cons pe_non (pa_cons pe_non pa_nil)))) pa_nil)))))) pa_nil))))) (pss_one (ps_ret pe_bl)) pss_nil)
      (pss_cons (ps_set (i := 2) sc_law_holds.nd rfl (.inl rfl) (pe_lst (pa_cons (pe_call k_verdict.G (hr.mono (by omega)) (by rfl) k_verdict.D.g k_verdict.D.F.kp k_verdict.D.b .nil pass0 (pa_cons (pv 1) pa_nil)) (pa_cons (pe_call k_verdict.G (hr.mono (by omega)) (by rfl) k_verdict.D.g k_verdict.D.F.kp k_verdict.D.b .nil pass0 (pa_cons (pe_tup (pa_cons pe_non pa_nil)) pa_nil)) (pa_cons (pe_call k_verdict.G (hr.mono (by omega)) (by rfl) k_verdict.D.g k_verdict.D.F.kp k_verdict.D.b .nil pass0 (pa_cons (pe_tup (pa_cons pe_str pa_nil)) pa_nil)) (pa_cons (pe_call k_verdict.G (hr.mono (by omega)) (by rfl) k_verdict.D.g k_verdict.D.F.kp k_verdict.D.b .nil pass0 (pa_cons (pe_tup (pa_cons pe_non (pa_cons pe_int (pa_cons pe_non pa_nil)))) pa_nil)) (pa_cons (pe_call k_verdict.G (hr.mono (by omega)) (by rfl) k_verdict.D.g k_verdict.D.F.kp k_verdict.D.b .nil pass0 (pa_cons (pe_tup (pa_cons pe_int (pa_cons pe_int pa_nil))) pa_nil)) pa_nil)))))))
      (pss_cons (ps_set (i := 3) sc_law_holds.nd rfl (.inl rfl) (pe_lst (pa_cons (pe_tup (pa_cons pe_str (pa_cons (pe_tup (pa_cons pe_int (pa_cons pe_int (pa_cons pe_int (pa_cons pe_int pa_nil))))) pa_nil))) (pa_cons (pe_tup (pa_cons pe_str (pa_cons (pe_tup pa_nil) pa_nil))) (pa_cons (pe_tup (pa_cons pe_str (pa_cons (pe_tup (pa_cons pe_int pa_nil)) pa_nil))) (pa_cons (pe_tup (pa_cons pe_str (pa_cons pe_int (pa_cons pe_int pa_nil)))) (pa_cons (pe_tup (pa_cons pe_str (pa_cons pe_int (pa_cons pe_int pa_nil)))) pa_nil)))))))
      (pss_cons (ps_if (pt_not (pt_val (pe_call k_law_equal.G (hr.mono (by omega)) (by rfl) k_law_equal.D.g k_law_equal.D.F.kp k_law_equal.D.b .nil pass0 (pa_cons (pv 2) (pa_cons (pv 3) pa_nil))))) (pss_one (ps_ret pe_bl)) pss_nil)
      (pss_cons (ps_set (i := 2) sc_law_holds.nd rfl (.inl rfl) (pe_lst (pa_cons (pe_call k_verdict.G (hr.mono (by omega)) (by rfl) k_verdict.D.g k_verdict.D.F.kp k_verdict.D.b .nil pass0 (pa_cons (pe_tup (pa_cons pe_int (pa_cons pe_int (pa_cons pe_int (pa_cons pe_int pa_nil))))) pa_nil)) (pa_cons (pe_call k_verdict.G (hr.mono (by omega)) (by rfl) k_verdict.D.g k_verdict.D.F.kp k_verdict.D.b .nil pass0 (pa_cons (pe_tup (pa_cons pe_int (pa_cons pe_str (pa_cons pe_int (pa_cons pe_int pa_nil))))) pa_nil)) (pa_cons (pe_call k_verdict.G (hr.mono (by omega)) (by rfl) k_verdict.D.g k_verdict.D.F.kp k_verdict.D.b .nil pass0 (pa_cons (pe_tup (pa_cons pe_int (pa_cons pe_int (pa_cons pe_int (pa_cons pe_int pa_nil))))) pa_nil)) (pa_cons (pe_call k_verdict.G (hr.mono (by omega)) (by rfl) k_verdict.D.g k_verdict.D.F.kp k_verdict.D.b .nil pass0 (pa_cons (pe_tup (pa_cons pe_int (pa_cons pe_int (pa_cons pe_int (pa_cons pe_int pa_nil))))) pa_nil)) pa_nil))))))
      (pss_cons (ps_set (i := 3) sc_law_holds.nd rfl (.inl rfl) (pe_lst (pa_cons (pe_tup (pa_cons pe_str (pa_cons (pe_tup (pa_cons pe_int (pa_cons pe_int (pa_cons pe_int (pa_cons pe_int pa_nil))))) pa_nil))) (pa_cons (pe_tup (pa_cons pe_str (pa_cons (pe_tup (pa_cons pe_int (pa_cons pe_int (pa_cons pe_int (pa_cons pe_int pa_nil))))) pa_nil))) (pa_cons (pe_tup (pa_cons pe_str (pa_cons pe_int (pa_cons pe_int pa_nil)))) (pa_cons (pe_tup (pa_cons pe_str (pa_cons (pe_tup (pa_cons pe_int (pa_cons pe_int (pa_cons pe_int (pa_cons pe_int pa_nil))))) pa_nil))) pa_nil))))))
      (pss_cons (ps_if (pt_not (pt_val (pe_call k_law_equal.G (hr.mono (by omega)) (by rfl) k_law_equal.D.g k_law_equal.D.F.kp k_law_equal.D.b .nil pass0 (pa_cons (pv 2) (pa_cons (pv 3) pa_nil))))) (pss_one (ps_ret pe_bl)) pss_nil)
      (pss_cons (ps_setLc (i := 2) (own := [("_law_some", 4)]) (by rfl) sc_law_holds.nd rfl rfl (sw_true rfl rfl rfl (by decide +kernel)) (pi_seq (pe_tup (pa_cons (pe_tup (pa_cons pe_int (pa_cons pe_int (pa_cons pe_int (pa_cons pe_int pa_nil))))) (pa_cons (pe_tup (pa_cons pe_int (pa_cons pe_int (pa_cons pe_int (pa_cons pe_int pa_nil))))) (pa_cons (pe_tup (pa_cons pe_int (pa_cons pe_int (pa_cons pe_int (pa_cons pe_int pa_nil))))) pa_nil))))) (blkOk_by (own := [("_law_some", 4)]) (N := ["_law_source_here", "_law_shelf", "_law_told", "_law_due", "_law_some"]) (sc := defScope s_law_holds) (by decide +kernel)) (fun _ _ _ _ _ => (pg_name (i := 4) sc_law_holds.nd rfl (.inl rfl))) (fun _ _ _ _ _ => pts_nil) (fun _ _ _ _ _ => (pe_call k_shows_order.G (hr.mono (by omega)) (by rfl) k_shows_order.D.g k_shows_order.D.F.kp k_shows_order.D.b .nil pass0 (pa_cons (pe_tup (pa_cons pe_int (pa_cons pe_int (pa_cons pe_int (pa_cons pe_int pa_nil))))) (pa_cons (pv 4) pa_nil)))))
      (pss_cons (ps_set (i := 2) sc_law_holds.nd rfl (.inl rfl) (pe_op op_cat (pv 2) (pe_lst (pa_cons (pe_call k_verdict.G (hr.mono (by omega)) (by rfl) k_verdict.D.g k_verdict.D.F.kp k_verdict.D.b .nil pass0 (pa_cons (pe_tup (pa_cons pe_int (pa_cons pe_int (pa_cons pe_int (pa_cons pe_int pa_nil))))) pa_nil)) (pa_cons (pe_call k_shows_both.G (hr.mono (by omega)) (by rfl) k_shows_both.D.g k_shows_both.D.F.kp k_shows_both.D.b .nil pass0 (pa_cons (pe_tup (pa_cons pe_int (pa_cons pe_int (pa_cons pe_int (pa_cons pe_int pa_nil))))) (pa_cons (pe_tup (pa_cons pe_int (pa_cons pe_int pa_nil))) pa_nil))) (pa_cons (pe_call k_verdict.G (hr.mono (by omega)) (by rfl) k_verdict.D.g k_verdict.D.F.kp k_verdict.D.b .nil pass0 (pa_cons (pe_tup (pa_cons pe_int (pa_cons pe_int (pa_cons pe_non (pa_cons pe_int pa_nil))))) pa_nil)) pa_nil))))))
      (pss_cons (ps_set (i := 2) sc_law_holds.nd rfl (.inl rfl) (pe_op op_cat (pv 2) (pe_lst (pa_cons (pe_call k_shows_gap.G (hr.mono (by omega)) (by rfl) k_shows_gap.D.g k_shows_gap.D.F.kp k_shows_gap.D.b .nil pass0 (pa_cons (pe_tup (pa_cons pe_non (pa_cons pe_int (pa_cons pe_non pa_nil)))) (pa_cons (pe_tup (pa_cons pe_int (pa_cons pe_int pa_nil))) pa_nil))) (pa_cons (pe_call k_shows_gap.G (hr.mono (by omega)) (by rfl) k_shows_gap.D.g k_shows_gap.D.F.kp k_shows_gap.D.b .nil pass0 (pa_cons (pe_tup (pa_cons pe_non (pa_cons pe_int (pa_cons pe_non pa_nil)))) (pa_cons (pe_tup (pa_cons pe_int (pa_cons pe_int pa_nil))) pa_nil))) (pa_cons (pe_call k_shows_both.G (hr.mono (by omega)) (by rfl) k_shows_both.D.g k_shows_both.D.F.kp k_shows_both.D.b .nil pass0 (pa_cons (pe_tup (pa_cons pe_int (pa_cons pe_int pa_nil))) (pa_cons (pe_tup (pa_cons pe_int (pa_cons pe_int pa_nil))) pa_nil))) pa_nil))))))
      (pss_one (ps_ret (pe_call k_law_equal.G (hr.mono (by omega)) (by rfl) k_law_equal.D.g k_law_equal.D.F.kp k_law_equal.D.b .nil pass0 (pa_cons (pv 2) (pa_cons (pe_lst (pa_cons pe_bl (pa_cons pe_bl (pa_cons pe_bl (pa_cons (pe_tup (pa_cons pe_str (pa_cons pe_int (pa_cons pe_int pa_nil)))) (pa_cons pe_bl (pa_cons (pe_tup (pa_cons pe_str (pa_cons pe_int (pa_cons pe_int pa_nil)))) (pa_cons pe_bl (pa_cons pe_bl (pa_cons pe_bl pa_nil)))))))))) pa_nil))))))))))))))))), ?_⟩
  refine ⟨(by show 4 ≤ sizeLine; decide), fun l hl => ⟨5, l, [2, 2, 2, 0], rfl, .inl (sqL upd_same), trk_l upd_same, by decide, by decide, by decide, hT.ext (same_upd hl), fun p zs qs H1 x1 T1 gp pv => ?_⟩⟩
  obtain ⟨rfl, rfl⟩ := pv.one pk9
  have x1 := LamX.ExtN.trans (ext_same (same_upd hl)) x1
  clear pv
  dsimp only [tSeq]
  have dS : Dp K H1 (.ref p) (.tuple [.int 0, .int 2, .int 2, .int 2, .none]) := .tup (sqT gp) (.cons (.int _) (.cons (.int _) (.cons (.int _) (.cons (.int _) (.cons .non .nil)))))
  dsimp only [gName]
  refine ⟨_, rfl, ?_⟩
  refine ⟨(by show 4 ≤ sizeLine; decide), fun a101 ha101 => ?_⟩
  have t101 := same_upd (o := .lst [.int 2, .int 2, .int 2, .int 0]) ha101
  have g101 : (upd H1 a101 (.lst [.int 2, .int 2, .int 2, .int 0])) a101 = some (.lst [.int 2, .int 2, .int 2, .int 0]) := upd_same
  have x1 := LamX.ExtN.trans x1 (ext_same t101)
  have T1 := T1.ext t101
  have gp := t101 _ _ gp
  have dS := dp_same t101 dS
  have d101 : Dp K (upd H1 a101 (.lst [.int 2, .int 2, .int 2, .int 0])) (.ref a101) (.list [.int 2, .int 2, .int 2, .int 0]) := .lst (sqL g101) (.cons (.int _) (.cons (.int _) (.cons (.int _) (.cons (.int _) .nil))))
  generalize upd H1 a101 (.lst [.int 2, .int 2, .int 2, .int 0]) = H101 at t101 g101 d101 x1 T1 gp dS
  clear t101
  refine ⟨5, a101, [2, 2, 2, 0], rfl, .inl (sqL g101), trk_l g101, by decide, by decide, by decide, T1, fun r102 zs102 qs102 H102 y102 U102 g102 pv102 => ?_⟩
  obtain ⟨rfl, rfl⟩ := pv102.one pk9
  clear pv102
  clear d101
  have x1 := LamX.ExtN.trans x1 y102
  have gp := ext_tup y102 gp
  have dS := dp_ext y102 dS
  have T1 := U102
  have d102 : Dp K H102 (.ref r102) (.tuple [.int 2, .int 1, .int 3, .int 0]) := dp_T (sqT g102)
  refine ⟨_, rfl, p, _, 1, rfl, .inr (sqT gp), by decide, ⟨4, rfl⟩, T1, fun c103 H103 y103 U103 ns103 => ?_⟩
  obtain rfl := ns103.one pn9
  clear ns103
  have x1 := LamX.ExtN.trans x1 y103
  have gp := ext_tup y103 gp
  have dS := dp_ext y103 dS
  have d102 := dp_ext y103 d102
  have T1 := U103
  refine ⟨(by show 3 ≤ sizeLine; decide), fun a104 ha104 => ?_⟩
  have t104 := same_upd (o := .tup [.non, .int 1, .non]) ha104
  have g104 : (upd H103 a104 (.tup [.non, .int 1, .non])) a104 = some (.tup [.non, .int 1, .non]) := upd_same
  have x1 := LamX.ExtN.trans x1 (ext_same t104)
  have T1 := T1.ext t104
  have gp := t104 _ _ gp
  have dS := dp_same t104 dS
  have d102 := dp_same t104 d102
  have d104 : Dp K (upd H103 a104 (.tup [.non, .int 1, .non])) (.ref a104) (.tuple [.none, .int 1, .none]) := .tup (sqT g104) (.cons .non (.cons (.int _) (.cons .non .nil)))
  generalize upd H103 a104 (.tup [.non, .int 1, .non]) = H104 at t104 g104 d104 x1 T1 gp dS d102
  clear t104
  refine ⟨a104, [.non, .int 1, .non], 1, rfl, .inr (sqT g104), by decide, ⟨0, rfl⟩, T1, fun c105 H105 y105 U105 ns105 => ?_⟩
  obtain rfl := ns105.one pm9
  clear ns105
  clear d104
  have x1 := LamX.ExtN.trans x1 y105
  have gp := ext_tup y105 gp
  have dS := dp_ext y105 dS
  have d102 := dp_ext y105 d102
  have T1 := U105
  refine ⟨(by show 0 ≤ sizeLine; decide), fun a106 ha106 => ?_⟩
  have t106 := same_upd (o := .lst []) ha106
  have g106 : (upd H105 a106 (.lst [])) a106 = some (.lst []) := upd_same
  have x1 := LamX.ExtN.trans x1 (ext_same t106)
  have T1 := T1.ext t106
  have gp := t106 _ _ gp
  have dS := dp_same t106 dS
  have d102 := dp_same t106 d102
  have d106 : Dp K (upd H105 a106 (.lst [])) (.ref a106) (.list []) := .lst (sqL g106) (.nil)
  generalize upd H105 a106 (.lst []) = H106 at t106 g106 d106 x1 T1 gp dS d102
  clear t106
  refine ⟨3, a106, [], rfl, .inl (sqL g106), trk_l g106, by decide, by decide, by decide, T1, fun r107 zs107 qs107 H107 y107 U107 g107 pv107 => ?_⟩
  obtain ⟨rfl, rfl⟩ := pv107.one (.nil _)
  clear pv107
  clear d106
  have x1 := LamX.ExtN.trans x1 y107
  have gp := ext_tup y107 gp
  have dS := dp_ext y107 dS
  have d102 := dp_ext y107 d102
  have T1 := U107
  have d107 : Dp K H107 (.ref r107) (.tuple [.none, .none, .none]) := .tup (sqT g107) (.cons .non (.cons .non (.cons .non .nil)))
  refine ⟨(by show 5 ≤ sizeLine; decide), fun a108 ha108 => ?_⟩
  have t108 := same_upd (o := .lst [.ref p, .ref r102, .int ((4 : Nat) : Int), .int ((0 : Nat) : Int), .ref r107]) ha108
  have g108 : (upd H107 a108 (.lst [.ref p, .ref r102, .int ((4 : Nat) : Int), .int ((0 : Nat) : Int), .ref r107])) a108 = some (.lst [.ref p, .ref r102, .int ((4 : Nat) : Int), .int ((0 : Nat) : Int), .ref r107]) := upd_same
  have x1 := LamX.ExtN.trans x1 (ext_same t108)
  have T1 := T1.ext t108
  have gp := t108 _ _ gp
  have d102 := dp_same t108 d102
  have d107 := dp_same t108 d107
  have dS := dp_same t108 dS
  have d108 : Dp K (upd H107 a108 (.lst [.ref p, .ref r102, .int ((4 : Nat) : Int), .int ((0 : Nat) : Int), .ref r107])) (.ref a108) (.list [.tuple [.int 0, .int 2, .int 2, .int 2, .none], .tuple [.int 2, .int 1, .int 3, .int 0], .int 4, .int 0, .tuple [.none, .none, .none]]) := .lst (sqL g108) (.cons dS (.cons d102 (.cons (.int _) (.cons (.int _) (.cons d107 .nil)))))
  generalize upd H107 a108 (.lst [.ref p, .ref r102, .int ((4 : Nat) : Int), .int ((0 : Nat) : Int), .ref r107]) = H108 at t108 g108 d108 x1 T1 gp d102 d107 dS
  clear t108
  clear dS
  clear d102
  clear d107
  dsimp only [gName, tSeq]
  refine ⟨_, rfl, ?_⟩
  refine ⟨(by show 5 ≤ sizeLine; decide), fun a109 ha109 => ?_⟩
  have t109 := same_upd (o := .tup [.int 0, .int 2, .int 2, .int 2, .non]) ha109
  have g109 : (upd H108 a109 (.tup [.int 0, .int 2, .int 2, .int 2, .non])) a109 = some (.tup [.int 0, .int 2, .int 2, .int 2, .non]) := upd_same
  have x1 := LamX.ExtN.trans x1 (ext_same t109)
  have T1 := T1.ext t109
  have gp := t109 _ _ gp
  have d108 := dp_same t109 d108
  have d109 : Dp K (upd H108 a109 (.tup [.int 0, .int 2, .int 2, .int 2, .non])) (.ref a109) (.tuple [.int 0, .int 2, .int 2, .int 2, .none]) := .tup (sqT g109) (.cons (.int _) (.cons (.int _) (.cons (.int _) (.cons (.int _) (.cons .non .nil)))))
  generalize upd H108 a109 (.tup [.int 0, .int 2, .int 2, .int 2, .non]) = H109 at t109 g109 d109 x1 T1 gp d108
  clear t109
  refine ⟨(by show 4 ≤ sizeLine; decide), fun a110 ha110 => ?_⟩
  have t110 := same_upd (o := .tup [.int 2, .int 1, .int 3, .int 0]) ha110
  have g110 : (upd H109 a110 (.tup [.int 2, .int 1, .int 3, .int 0])) a110 = some (.tup [.int 2, .int 1, .int 3, .int 0]) := upd_same
  have x1 := LamX.ExtN.trans x1 (ext_same t110)
  have T1 := T1.ext t110
  have gp := t110 _ _ gp
  have d108 := dp_same t110 d108
  have d109 := dp_same t110 d109
  have d110 : Dp K (upd H109 a110 (.tup [.int 2, .int 1, .int 3, .int 0])) (.ref a110) (.tuple [.int 2, .int 1, .int 3, .int 0]) := .tup (sqT g110) (.cons (.int _) (.cons (.int _) (.cons (.int _) (.cons (.int _) .nil))))
  generalize upd H109 a110 (.tup [.int 2, .int 1, .int 3, .int 0]) = H110 at t110 g110 d110 x1 T1 gp d108 d109
  clear t110
  refine ⟨(by show 3 ≤ sizeLine; decide), fun a111 ha111 => ?_⟩
  have t111 := same_upd (o := .tup [.non, .non, .non]) ha111
  have g111 : (upd H110 a111 (.tup [.non, .non, .non])) a111 = some (.tup [.non, .non, .non]) := upd_same
  have x1 := LamX.ExtN.trans x1 (ext_same t111)
  have T1 := T1.ext t111
  have gp := t111 _ _ gp
  have d108 := dp_same t111 d108
  have d109 := dp_same t111 d109
  have d110 := dp_same t111 d110
  have d111 : Dp K (upd H110 a111 (.tup [.non, .non, .non])) (.ref a111) (.tuple [.none, .none, .none]) := .tup (sqT g111) (.cons .non (.cons .non (.cons .non .nil)))
  generalize upd H110 a111 (.tup [.non, .non, .non]) = H111 at t111 g111 d111 x1 T1 gp d108 d109 d110
  clear t111
  refine ⟨(by show 5 ≤ sizeLine; decide), fun a112 ha112 => ?_⟩
  have t112 := same_upd (o := .lst [.ref a109, .ref a110, .int 4, .int 0, .ref a111]) ha112
  have g112 : (upd H111 a112 (.lst [.ref a109, .ref a110, .int 4, .int 0, .ref a111])) a112 = some (.lst [.ref a109, .ref a110, .int 4, .int 0, .ref a111]) := upd_same
  have x1 := LamX.ExtN.trans x1 (ext_same t112)
  have T1 := T1.ext t112
  have gp := t112 _ _ gp
  have d108 := dp_same t112 d108
  have d109 := dp_same t112 d109
  have d110 := dp_same t112 d110
  have d111 := dp_same t112 d111
  have d112 : Dp K (upd H111 a112 (.lst [.ref a109, .ref a110, .int 4, .int 0, .ref a111])) (.ref a112) (.list [.tuple [.int 0, .int 2, .int 2, .int 2, .none], .tuple [.int 2, .int 1, .int 3, .int 0], .int 4, .int 0, .tuple [.none, .none, .none]]) := .lst (sqL g112) (.cons d109 (.cons d110 (.cons (.int _) (.cons (.int _) (.cons d111 .nil)))))
  generalize upd H111 a112 (.lst [.ref a109, .ref a110, .int 4, .int 0, .ref a111]) = H112 at t112 g112 d112 x1 T1 gp d108 d109 d110 d111
  clear t112
  clear d109
  clear d110
  clear d111
  refine ⟨.ref a108, .ref a112, .list [.tuple [.int 0, .int 2, .int 2, .int 2, .none], .tuple [.int 2, .int 1, .int 3, .int 0], .int 4, .int 0, .tuple [.none, .none, .none]], rfl, d108, d112, by decide +kernel, by decide +kernel, fun H113 t113 => ?_⟩
  clear d108
  clear d112
  have x1 := LamX.ExtN.trans x1 (ext_same t113)
  have T1 := T1.ext t113
  have gp := t113 _ _ gp
  clear t113
  refine ⟨_, rfl, iteF ?_⟩
  dsimp only [tNext, tSeq]
  refine ⟨_, rfl, p, [.int 0, .int 2, .int 2, .int 2, .non], rfl, .inr (sqT gp), by decide, tab_by (by decide), fun r114 H114 t114 d114 => ?_⟩
  have e114 : verdD [.int 0, .int 2, .int 2, .int 2, .non] = .tuple [.str "order", .tuple [.int 0, .int 2, .int 1, .int 3]] := by kernel_rfl
  rw [e114] at d114
  have x1 := LamX.ExtN.trans x1 (ext_same t114)
  have T1 := T1.ext t114
  have gp := t114 _ _ gp
  clear t114 e114
  refine ⟨(by show 1 ≤ sizeLine; decide), fun a115 ha115 => ?_⟩
  have t115 := same_upd (o := .tup [.non]) ha115
  have g115 : (upd H114 a115 (.tup [.non])) a115 = some (.tup [.non]) := upd_same
  have x1 := LamX.ExtN.trans x1 (ext_same t115)
  have T1 := T1.ext t115
  have gp := t115 _ _ gp
  have d114 := dp_same t115 d114
  have d115 : Dp K (upd H114 a115 (.tup [.non])) (.ref a115) (.tuple [.none]) := .tup (sqT g115) (.cons .non .nil)
  generalize upd H114 a115 (.tup [.non]) = H115 at t115 g115 d115 x1 T1 gp d114
  clear t115
  refine ⟨a115, [.non], rfl, .inr (sqT g115), by decide, tab_by (by decide), fun r116 H116 t116 d116 => ?_⟩
  clear d115
  have e116 : verdD [.non] = .tuple [.str "order", .tuple []] := by kernel_rfl
  rw [e116] at d116
  have x1 := LamX.ExtN.trans x1 (ext_same t116)
  have T1 := T1.ext t116
  have gp := t116 _ _ gp
  have d114 := dp_same t116 d114
  clear t116 e116
  refine ⟨(by show 1 ≤ sizeLine; decide), fun a117 ha117 => ?_⟩
  have t117 := same_upd (o := .tup [.str "?"]) ha117
  have g117 : (upd H116 a117 (.tup [.str "?"])) a117 = some (.tup [.str "?"]) := upd_same
  have x1 := LamX.ExtN.trans x1 (ext_same t117)
  have T1 := T1.ext t117
  have gp := t117 _ _ gp
  have d114 := dp_same t117 d114
  have d116 := dp_same t117 d116
  have d117 : Dp K (upd H116 a117 (.tup [.str "?"])) (.ref a117) (.tuple [.str "?"]) := .tup (sqT g117) (.cons (.str _) .nil)
  generalize upd H116 a117 (.tup [.str "?"]) = H117 at t117 g117 d117 x1 T1 gp d114 d116
  clear t117
  refine ⟨a117, [.str "?"], rfl, .inr (sqT g117), by decide, tab_by (by decide), fun r118 H118 t118 d118 => ?_⟩
  clear d117
  have e118 : verdD [.str "?"] = .tuple [.str "order", .tuple [.int 0]] := by kernel_rfl
  rw [e118] at d118
  have x1 := LamX.ExtN.trans x1 (ext_same t118)
  have T1 := T1.ext t118
  have gp := t118 _ _ gp
  have d114 := dp_same t118 d114
  have d116 := dp_same t118 d116
  clear t118 e118
  refine ⟨(by show 3 ≤ sizeLine; decide), fun a119 ha119 => ?_⟩
  have t119 := same_upd (o := .tup [.non, .int 0, .non]) ha119
  have g119 : (upd H118 a119 (.tup [.non, .int 0, .non])) a119 = some (.tup [.non, .int 0, .non]) := upd_same
  have x1 := LamX.ExtN.trans x1 (ext_same t119)
  have T1 := T1.ext t119
  have gp := t119 _ _ gp
  have d114 := dp_same t119 d114
  have d116 := dp_same t119 d116
  have d118 := dp_same t119 d118
  have d119 : Dp K (upd H118 a119 (.tup [.non, .int 0, .non])) (.ref a119) (.tuple [.none, .int 0, .none]) := .tup (sqT g119) (.cons .non (.cons (.int _) (.cons .non .nil)))
  generalize upd H118 a119 (.tup [.non, .int 0, .non]) = H119 at t119 g119 d119 x1 T1 gp d114 d116 d118
  clear t119
  refine ⟨a119, [.non, .int 0, .non], rfl, .inr (sqT g119), by decide, tab_by (by decide), fun r120 H120 t120 d120 => ?_⟩
  clear d119
  have e120 : verdD [.non, .int 0, .non] = .tuple [.str "gap", .int 1, .int 0] := by kernel_rfl
  rw [e120] at d120
  have x1 := LamX.ExtN.trans x1 (ext_same t120)
  have T1 := T1.ext t120
  have gp := t120 _ _ gp
  have d114 := dp_same t120 d114
  have d116 := dp_same t120 d116
  have d118 := dp_same t120 d118
  clear t120 e120
  refine ⟨(by show 2 ≤ sizeLine; decide), fun a121 ha121 => ?_⟩
  have t121 := same_upd (o := .tup [.int 1, .int 0]) ha121
  have g121 : (upd H120 a121 (.tup [.int 1, .int 0])) a121 = some (.tup [.int 1, .int 0]) := upd_same
  have x1 := LamX.ExtN.trans x1 (ext_same t121)
  have T1 := T1.ext t121
  have gp := t121 _ _ gp
  have d114 := dp_same t121 d114
  have d116 := dp_same t121 d116
  have d118 := dp_same t121 d118
  have d120 := dp_same t121 d120
  have d121 : Dp K (upd H120 a121 (.tup [.int 1, .int 0])) (.ref a121) (.tuple [.int 1, .int 0]) := .tup (sqT g121) (.cons (.int _) (.cons (.int _) .nil))
  generalize upd H120 a121 (.tup [.int 1, .int 0]) = H121 at t121 g121 d121 x1 T1 gp d114 d116 d118 d120
  clear t121
  refine ⟨a121, [.int 1, .int 0], rfl, .inr (sqT g121), by decide, tab_by (by decide), fun r122 H122 t122 d122 => ?_⟩
  clear d121
  have e122 : verdD [.int 1, .int 0] = .tuple [.str "both", .int 0, .int 1] := by kernel_rfl
  rw [e122] at d122
  have x1 := LamX.ExtN.trans x1 (ext_same t122)
  have T1 := T1.ext t122
  have gp := t122 _ _ gp
  have d114 := dp_same t122 d114
  have d116 := dp_same t122 d116
  have d118 := dp_same t122 d118
  have d120 := dp_same t122 d120
  clear t122 e122
  refine ⟨(by show 5 ≤ sizeLine; decide), fun a123 ha123 => ?_⟩
  have t123 := same_upd (o := .lst [.ref r114, .ref r116, .ref r118, .ref r120, .ref r122]) ha123
  have g123 : (upd H122 a123 (.lst [.ref r114, .ref r116, .ref r118, .ref r120, .ref r122])) a123 = some (.lst [.ref r114, .ref r116, .ref r118, .ref r120, .ref r122]) := upd_same
  have x1 := LamX.ExtN.trans x1 (ext_same t123)
  have T1 := T1.ext t123
  have gp := t123 _ _ gp
  have d114 := dp_same t123 d114
  have d116 := dp_same t123 d116
  have d118 := dp_same t123 d118
  have d120 := dp_same t123 d120
  have d122 := dp_same t123 d122
  have d123 : Dp K (upd H122 a123 (.lst [.ref r114, .ref r116, .ref r118, .ref r120, .ref r122])) (.ref a123) (.list [.tuple [.str "order", .tuple [.int 0, .int 2, .int 1, .int 3]], .tuple [.str "order", .tuple []], .tuple [.str "order", .tuple [.int 0]], .tuple [.str "gap", .int 1, .int 0], .tuple [.str "both", .int 0, .int 1]]) := .lst (sqL g123) (.cons d114 (.cons d116 (.cons d118 (.cons d120 (.cons d122 .nil)))))
  generalize upd H122 a123 (.lst [.ref r114, .ref r116, .ref r118, .ref r120, .ref r122]) = H123 at t123 g123 d123 x1 T1 gp d114 d116 d118 d120 d122
  clear t123
  clear d114
  clear d116
  clear d118
  clear d120
  clear d122
  dsimp only [gName, tSeq]
  refine ⟨(by show 4 ≤ sizeLine; decide), fun a124 ha124 => ?_⟩
  have t124 := same_upd (o := .tup [.int 0, .int 2, .int 1, .int 3]) ha124
  have g124 : (upd H123 a124 (.tup [.int 0, .int 2, .int 1, .int 3])) a124 = some (.tup [.int 0, .int 2, .int 1, .int 3]) := upd_same
  have x1 := LamX.ExtN.trans x1 (ext_same t124)
  have T1 := T1.ext t124
  have gp := t124 _ _ gp
  have d123 := dp_same t124 d123
  have d124 : Dp K (upd H123 a124 (.tup [.int 0, .int 2, .int 1, .int 3])) (.ref a124) (.tuple [.int 0, .int 2, .int 1, .int 3]) := .tup (sqT g124) (.cons (.int _) (.cons (.int _) (.cons (.int _) (.cons (.int _) .nil))))
  generalize upd H123 a124 (.tup [.int 0, .int 2, .int 1, .int 3]) = H124 at t124 g124 d124 x1 T1 gp d123
  clear t124
  refine ⟨(by show 2 ≤ sizeLine; decide), fun a125 ha125 => ?_⟩
  have t125 := same_upd (o := .tup [.str "order", .ref a124]) ha125
  have g125 : (upd H124 a125 (.tup [.str "order", .ref a124])) a125 = some (.tup [.str "order", .ref a124]) := upd_same
  have x1 := LamX.ExtN.trans x1 (ext_same t125)
  have T1 := T1.ext t125
  have gp := t125 _ _ gp
  have d123 := dp_same t125 d123
  have d124 := dp_same t125 d124
  have d125 : Dp K (upd H124 a125 (.tup [.str "order", .ref a124])) (.ref a125) (.tuple [.str "order", .tuple [.int 0, .int 2, .int 1, .int 3]]) := .tup (sqT g125) (.cons (.str _) (.cons d124 .nil))
  generalize upd H124 a125 (.tup [.str "order", .ref a124]) = H125 at t125 g125 d125 x1 T1 gp d123 d124
  clear t125
  clear d124
  refine ⟨(by show 0 ≤ sizeLine; decide), fun a126 ha126 => ?_⟩
  have t126 := same_upd (o := .tup []) ha126
  have g126 : (upd H125 a126 (.tup [])) a126 = some (.tup []) := upd_same
  have x1 := LamX.ExtN.trans x1 (ext_same t126)
  have T1 := T1.ext t126
  have gp := t126 _ _ gp
  have d123 := dp_same t126 d123
  have d125 := dp_same t126 d125
  have d126 : Dp K (upd H125 a126 (.tup [])) (.ref a126) (.tuple []) := .tup (sqT g126) (.nil)
  generalize upd H125 a126 (.tup []) = H126 at t126 g126 d126 x1 T1 gp d123 d125
  clear t126
  refine ⟨(by show 2 ≤ sizeLine; decide), fun a127 ha127 => ?_⟩
  have t127 := same_upd (o := .tup [.str "order", .ref a126]) ha127
  have g127 : (upd H126 a127 (.tup [.str "order", .ref a126])) a127 = some (.tup [.str "order", .ref a126]) := upd_same
  have x1 := LamX.ExtN.trans x1 (ext_same t127)
  have T1 := T1.ext t127
  have gp := t127 _ _ gp
  have d123 := dp_same t127 d123
  have d125 := dp_same t127 d125
  have d126 := dp_same t127 d126
  have d127 : Dp K (upd H126 a127 (.tup [.str "order", .ref a126])) (.ref a127) (.tuple [.str "order", .tuple []]) := .tup (sqT g127) (.cons (.str _) (.cons d126 .nil))
  generalize upd H126 a127 (.tup [.str "order", .ref a126]) = H127 at t127 g127 d127 x1 T1 gp d123 d125 d126
  clear t127
  clear d126
  refine ⟨(by show 1 ≤ sizeLine; decide), fun a128 ha128 => ?_⟩
  have t128 := same_upd (o := .tup [.int 0]) ha128
  have g128 : (upd H127 a128 (.tup [.int 0])) a128 = some (.tup [.int 0]) := upd_same
  have x1 := LamX.ExtN.trans x1 (ext_same t128)
  have T1 := T1.ext t128
  have gp := t128 _ _ gp
  have d123 := dp_same t128 d123
  have d125 := dp_same t128 d125
  have d127 := dp_same t128 d127
  have d128 : Dp K (upd H127 a128 (.tup [.int 0])) (.ref a128) (.tuple [.int 0]) := .tup (sqT g128) (.cons (.int _) .nil)
  generalize upd H127 a128 (.tup [.int 0]) = H128 at t128 g128 d128 x1 T1 gp d123 d125 d127
  clear t128
  refine ⟨(by show 2 ≤ sizeLine; decide), fun a129 ha129 => ?_⟩
  have t129 := same_upd (o := .tup [.str "order", .ref a128]) ha129
  have g129 : (upd H128 a129 (.tup [.str "order", .ref a128])) a129 = some (.tup [.str "order", .ref a128]) := upd_same
  have x1 := LamX.ExtN.trans x1 (ext_same t129)
  have T1 := T1.ext t129
  have gp := t129 _ _ gp
  have d123 := dp_same t129 d123
  have d125 := dp_same t129 d125
  have d127 := dp_same t129 d127
  have d128 := dp_same t129 d128
  have d129 : Dp K (upd H128 a129 (.tup [.str "order", .ref a128])) (.ref a129) (.tuple [.str "order", .tuple [.int 0]]) := .tup (sqT g129) (.cons (.str _) (.cons d128 .nil))
  generalize upd H128 a129 (.tup [.str "order", .ref a128]) = H129 at t129 g129 d129 x1 T1 gp d123 d125 d127 d128
  clear t129
  clear d128
  refine ⟨(by show 3 ≤ sizeLine; decide), fun a130 ha130 => ?_⟩
  have t130 := same_upd (o := .tup [.str "gap", .int 1, .int 0]) ha130
  have g130 : (upd H129 a130 (.tup [.str "gap", .int 1, .int 0])) a130 = some (.tup [.str "gap", .int 1, .int 0]) := upd_same
  have x1 := LamX.ExtN.trans x1 (ext_same t130)
  have T1 := T1.ext t130
  have gp := t130 _ _ gp
  have d123 := dp_same t130 d123
  have d125 := dp_same t130 d125
  have d127 := dp_same t130 d127
  have d129 := dp_same t130 d129
  have d130 : Dp K (upd H129 a130 (.tup [.str "gap", .int 1, .int 0])) (.ref a130) (.tuple [.str "gap", .int 1, .int 0]) := .tup (sqT g130) (.cons (.str _) (.cons (.int _) (.cons (.int _) .nil)))
  generalize upd H129 a130 (.tup [.str "gap", .int 1, .int 0]) = H130 at t130 g130 d130 x1 T1 gp d123 d125 d127 d129
  clear t130
  refine ⟨(by show 3 ≤ sizeLine; decide), fun a131 ha131 => ?_⟩
  have t131 := same_upd (o := .tup [.str "both", .int 0, .int 1]) ha131
  have g131 : (upd H130 a131 (.tup [.str "both", .int 0, .int 1])) a131 = some (.tup [.str "both", .int 0, .int 1]) := upd_same
  have x1 := LamX.ExtN.trans x1 (ext_same t131)
  have T1 := T1.ext t131
  have gp := t131 _ _ gp
  have d123 := dp_same t131 d123
  have d125 := dp_same t131 d125
  have d127 := dp_same t131 d127
  have d129 := dp_same t131 d129
  have d130 := dp_same t131 d130
  have d131 : Dp K (upd H130 a131 (.tup [.str "both", .int 0, .int 1])) (.ref a131) (.tuple [.str "both", .int 0, .int 1]) := .tup (sqT g131) (.cons (.str _) (.cons (.int _) (.cons (.int _) .nil)))
  generalize upd H130 a131 (.tup [.str "both", .int 0, .int 1]) = H131 at t131 g131 d131 x1 T1 gp d123 d125 d127 d129 d130
  clear t131
  refine ⟨(by show 5 ≤ sizeLine; decide), fun a132 ha132 => ?_⟩
  have t132 := same_upd (o := .lst [.ref a125, .ref a127, .ref a129, .ref a130, .ref a131]) ha132
  have g132 : (upd H131 a132 (.lst [.ref a125, .ref a127, .ref a129, .ref a130, .ref a131])) a132 = some (.lst [.ref a125, .ref a127, .ref a129, .ref a130, .ref a131]) := upd_same
  have x1 := LamX.ExtN.trans x1 (ext_same t132)
  have T1 := T1.ext t132
  have gp := t132 _ _ gp
  have d123 := dp_same t132 d123
  have d125 := dp_same t132 d125
  have d127 := dp_same t132 d127
  have d129 := dp_same t132 d129
  have d130 := dp_same t132 d130
  have d131 := dp_same t132 d131
  have d132 : Dp K (upd H131 a132 (.lst [.ref a125, .ref a127, .ref a129, .ref a130, .ref a131])) (.ref a132) (.list [.tuple [.str "order", .tuple [.int 0, .int 2, .int 1, .int 3]], .tuple [.str "order", .tuple []], .tuple [.str "order", .tuple [.int 0]], .tuple [.str "gap", .int 1, .int 0], .tuple [.str "both", .int 0, .int 1]]) := .lst (sqL g132) (.cons d125 (.cons d127 (.cons d129 (.cons d130 (.cons d131 .nil)))))
  generalize upd H131 a132 (.lst [.ref a125, .ref a127, .ref a129, .ref a130, .ref a131]) = H132 at t132 g132 d132 x1 T1 gp d123 d125 d127 d129 d130 d131
  clear t132
  clear d125
  clear d127
  clear d129
  clear d130
  clear d131
  dsimp only [gName, tSeq]
  refine ⟨_, rfl, _, rfl, ?_⟩
  refine ⟨.ref a123, .ref a132, .list [.tuple [.str "order", .tuple [.int 0, .int 2, .int 1, .int 3]], .tuple [.str "order", .tuple []], .tuple [.str "order", .tuple [.int 0]], .tuple [.str "gap", .int 1, .int 0], .tuple [.str "both", .int 0, .int 1]], rfl, d123, d132, by decide +kernel, by decide +kernel, fun H133 t133 => ?_⟩
  clear d123
  clear d132
  have x1 := LamX.ExtN.trans x1 (ext_same t133)
  have T1 := T1.ext t133
  have gp := t133 _ _ gp
  clear t133
  refine ⟨_, rfl, iteF ?_⟩
  dsimp only [tNext, tSeq]
  refine ⟨(by show 4 ≤ sizeLine; decide), fun a134 ha134 => ?_⟩
  have t134 := same_upd (o := .tup [.int 1, .int 1, .int 2, .int 1]) ha134
  have g134 : (upd H133 a134 (.tup [.int 1, .int 1, .int 2, .int 1])) a134 = some (.tup [.int 1, .int 1, .int 2, .int 1]) := upd_same
  have x1 := LamX.ExtN.trans x1 (ext_same t134)
  have T1 := T1.ext t134
  have gp := t134 _ _ gp
  have d134 : Dp K (upd H133 a134 (.tup [.int 1, .int 1, .int 2, .int 1])) (.ref a134) (.tuple [.int 1, .int 1, .int 2, .int 1]) := .tup (sqT g134) (.cons (.int _) (.cons (.int _) (.cons (.int _) (.cons (.int _) .nil))))
  generalize upd H133 a134 (.tup [.int 1, .int 1, .int 2, .int 1]) = H134 at t134 g134 d134 x1 T1 gp
  clear t134
  refine ⟨a134, [.int 1, .int 1, .int 2, .int 1], rfl, .inr (sqT g134), by decide, tab_by (by decide), fun r135 H135 t135 d135 => ?_⟩
  clear d134
  have e135 : verdD [.int 1, .int 1, .int 2, .int 1] = .tuple [.str "order", .tuple [.int 1, .int 0, .int 2, .int 3]] := by kernel_rfl
  rw [e135] at d135
  have x1 := LamX.ExtN.trans x1 (ext_same t135)
  have T1 := T1.ext t135
  have gp := t135 _ _ gp
  clear t135 e135
  refine ⟨(by show 4 ≤ sizeLine; decide), fun a136 ha136 => ?_⟩
  have t136 := same_upd (o := .tup [.int 1, .str "?", .int 2, .int 1]) ha136
  have g136 : (upd H135 a136 (.tup [.int 1, .str "?", .int 2, .int 1])) a136 = some (.tup [.int 1, .str "?", .int 2, .int 1]) := upd_same
  have x1 := LamX.ExtN.trans x1 (ext_same t136)
  have T1 := T1.ext t136
  have gp := t136 _ _ gp
  have d135 := dp_same t136 d135
  have d136 : Dp K (upd H135 a136 (.tup [.int 1, .str "?", .int 2, .int 1])) (.ref a136) (.tuple [.int 1, .str "?", .int 2, .int 1]) := .tup (sqT g136) (.cons (.int _) (.cons (.str _) (.cons (.int _) (.cons (.int _) .nil))))
  generalize upd H135 a136 (.tup [.int 1, .str "?", .int 2, .int 1]) = H136 at t136 g136 d136 x1 T1 gp d135
  clear t136
  refine ⟨a136, [.int 1, .str "?", .int 2, .int 1], rfl, .inr (sqT g136), by decide, tab_by (by decide), fun r137 H137 t137 d137 => ?_⟩
  clear d136
  have e137 : verdD [.int 1, .str "?", .int 2, .int 1] = .tuple [.str "order", .tuple [.int 1, .int 0, .int 2, .int 3]] := by kernel_rfl
  rw [e137] at d137
  have x1 := LamX.ExtN.trans x1 (ext_same t137)
  have T1 := T1.ext t137
  have gp := t137 _ _ gp
  have d135 := dp_same t137 d135
  clear t137 e137
  refine ⟨(by show 4 ≤ sizeLine; decide), fun a138 ha138 => ?_⟩
  have t138 := same_upd (o := .tup [.int 1, .int 3, .int 2, .int 1]) ha138
  have g138 : (upd H137 a138 (.tup [.int 1, .int 3, .int 2, .int 1])) a138 = some (.tup [.int 1, .int 3, .int 2, .int 1]) := upd_same
  have x1 := LamX.ExtN.trans x1 (ext_same t138)
  have T1 := T1.ext t138
  have gp := t138 _ _ gp
  have d135 := dp_same t138 d135
  have d137 := dp_same t138 d137
  have d138 : Dp K (upd H137 a138 (.tup [.int 1, .int 3, .int 2, .int 1])) (.ref a138) (.tuple [.int 1, .int 3, .int 2, .int 1]) := .tup (sqT g138) (.cons (.int _) (.cons (.int _) (.cons (.int _) (.cons (.int _) .nil))))
  generalize upd H137 a138 (.tup [.int 1, .int 3, .int 2, .int 1]) = H138 at t138 g138 d138 x1 T1 gp d135 d137
  clear t138
  refine ⟨a138, [.int 1, .int 3, .int 2, .int 1], rfl, .inr (sqT g138), by decide, tab_by (by decide), fun r139 H139 t139 d139 => ?_⟩
  clear d138
  have e139 : verdD [.int 1, .int 3, .int 2, .int 1] = .tuple [.str "both", .int 1, .int 3] := by kernel_rfl
  rw [e139] at d139
  have x1 := LamX.ExtN.trans x1 (ext_same t139)
  have T1 := T1.ext t139
  have gp := t139 _ _ gp
  have d135 := dp_same t139 d135
  have d137 := dp_same t139 d137
  clear t139 e139
  refine ⟨(by show 4 ≤ sizeLine; decide), fun a140 ha140 => ?_⟩
  have t140 := same_upd (o := .tup [.int 3, .int 3, .int 3, .int 3]) ha140
  have g140 : (upd H139 a140 (.tup [.int 3, .int 3, .int 3, .int 3])) a140 = some (.tup [.int 3, .int 3, .int 3, .int 3]) := upd_same
  have x1 := LamX.ExtN.trans x1 (ext_same t140)
  have T1 := T1.ext t140
  have gp := t140 _ _ gp
  have d135 := dp_same t140 d135
  have d137 := dp_same t140 d137
  have d139 := dp_same t140 d139
  have d140 : Dp K (upd H139 a140 (.tup [.int 3, .int 3, .int 3, .int 3])) (.ref a140) (.tuple [.int 3, .int 3, .int 3, .int 3]) := .tup (sqT g140) (.cons (.int _) (.cons (.int _) (.cons (.int _) (.cons (.int _) .nil))))
  generalize upd H139 a140 (.tup [.int 3, .int 3, .int 3, .int 3]) = H140 at t140 g140 d140 x1 T1 gp d135 d137 d139
  clear t140
  refine ⟨a140, [.int 3, .int 3, .int 3, .int 3], rfl, .inr (sqT g140), by decide, tab_by (by decide), fun r141 H141 t141 d141 => ?_⟩
  clear d140
  have e141 : verdD [.int 3, .int 3, .int 3, .int 3] = .tuple [.str "order", .tuple [.int 3, .int 2, .int 1, .int 0]] := by kernel_rfl
  rw [e141] at d141
  have x1 := LamX.ExtN.trans x1 (ext_same t141)
  have T1 := T1.ext t141
  have gp := t141 _ _ gp
  have d135 := dp_same t141 d135
  have d137 := dp_same t141 d137
  have d139 := dp_same t141 d139
  clear t141 e141
  refine ⟨(by show 4 ≤ sizeLine; decide), fun a142 ha142 => ?_⟩
  have t142 := same_upd (o := .lst [.ref r135, .ref r137, .ref r139, .ref r141]) ha142
  have g142 : (upd H141 a142 (.lst [.ref r135, .ref r137, .ref r139, .ref r141])) a142 = some (.lst [.ref r135, .ref r137, .ref r139, .ref r141]) := upd_same
  have x1 := LamX.ExtN.trans x1 (ext_same t142)
  have T1 := T1.ext t142
  have gp := t142 _ _ gp
  have d135 := dp_same t142 d135
  have d137 := dp_same t142 d137
  have d139 := dp_same t142 d139
  have d141 := dp_same t142 d141
  have d142 : Dp K (upd H141 a142 (.lst [.ref r135, .ref r137, .ref r139, .ref r141])) (.ref a142) (.list [.tuple [.str "order", .tuple [.int 1, .int 0, .int 2, .int 3]], .tuple [.str "order", .tuple [.int 1, .int 0, .int 2, .int 3]], .tuple [.str "both", .int 1, .int 3], .tuple [.str "order", .tuple [.int 3, .int 2, .int 1, .int 0]]]) := .lst (sqL g142) (.cons d135 (.cons d137 (.cons d139 (.cons d141 .nil))))
  generalize upd H141 a142 (.lst [.ref r135, .ref r137, .ref r139, .ref r141]) = H142 at t142 g142 d142 x1 T1 gp d135 d137 d139 d141
  clear t142
  clear d135
  clear d137
  clear d139
  clear d141
  dsimp only [gName, tSeq]
  refine ⟨(by show 4 ≤ sizeLine; decide), fun a143 ha143 => ?_⟩
  have t143 := same_upd (o := .tup [.int 1, .int 0, .int 2, .int 3]) ha143
  have g143 : (upd H142 a143 (.tup [.int 1, .int 0, .int 2, .int 3])) a143 = some (.tup [.int 1, .int 0, .int 2, .int 3]) := upd_same
  have x1 := LamX.ExtN.trans x1 (ext_same t143)
  have T1 := T1.ext t143
  have gp := t143 _ _ gp
  have d142 := dp_same t143 d142
  have d143 : Dp K (upd H142 a143 (.tup [.int 1, .int 0, .int 2, .int 3])) (.ref a143) (.tuple [.int 1, .int 0, .int 2, .int 3]) := .tup (sqT g143) (.cons (.int _) (.cons (.int _) (.cons (.int _) (.cons (.int _) .nil))))
  generalize upd H142 a143 (.tup [.int 1, .int 0, .int 2, .int 3]) = H143 at t143 g143 d143 x1 T1 gp d142
  clear t143
  refine ⟨(by show 2 ≤ sizeLine; decide), fun a144 ha144 => ?_⟩
  have t144 := same_upd (o := .tup [.str "order", .ref a143]) ha144
  have g144 : (upd H143 a144 (.tup [.str "order", .ref a143])) a144 = some (.tup [.str "order", .ref a143]) := upd_same
  have x1 := LamX.ExtN.trans x1 (ext_same t144)
  have T1 := T1.ext t144
  have gp := t144 _ _ gp
  have d142 := dp_same t144 d142
  have d143 := dp_same t144 d143
  have d144 : Dp K (upd H143 a144 (.tup [.str "order", .ref a143])) (.ref a144) (.tuple [.str "order", .tuple [.int 1, .int 0, .int 2, .int 3]]) := .tup (sqT g144) (.cons (.str _) (.cons d143 .nil))
  generalize upd H143 a144 (.tup [.str "order", .ref a143]) = H144 at t144 g144 d144 x1 T1 gp d142 d143
  clear t144
  clear d143
  refine ⟨(by show 4 ≤ sizeLine; decide), fun a145 ha145 => ?_⟩
  have t145 := same_upd (o := .tup [.int 1, .int 0, .int 2, .int 3]) ha145
  have g145 : (upd H144 a145 (.tup [.int 1, .int 0, .int 2, .int 3])) a145 = some (.tup [.int 1, .int 0, .int 2, .int 3]) := upd_same
  have x1 := LamX.ExtN.trans x1 (ext_same t145)
  have T1 := T1.ext t145
  have gp := t145 _ _ gp
  have d142 := dp_same t145 d142
  have d144 := dp_same t145 d144
  have d145 : Dp K (upd H144 a145 (.tup [.int 1, .int 0, .int 2, .int 3])) (.ref a145) (.tuple [.int 1, .int 0, .int 2, .int 3]) := .tup (sqT g145) (.cons (.int _) (.cons (.int _) (.cons (.int _) (.cons (.int _) .nil))))
  generalize upd H144 a145 (.tup [.int 1, .int 0, .int 2, .int 3]) = H145 at t145 g145 d145 x1 T1 gp d142 d144
  clear t145
  refine ⟨(by show 2 ≤ sizeLine; decide), fun a146 ha146 => ?_⟩
  have t146 := same_upd (o := .tup [.str "order", .ref a145]) ha146
  have g146 : (upd H145 a146 (.tup [.str "order", .ref a145])) a146 = some (.tup [.str "order", .ref a145]) := upd_same
  have x1 := LamX.ExtN.trans x1 (ext_same t146)
  have T1 := T1.ext t146
  have gp := t146 _ _ gp
  have d142 := dp_same t146 d142
  have d144 := dp_same t146 d144
  have d145 := dp_same t146 d145
  have d146 : Dp K (upd H145 a146 (.tup [.str "order", .ref a145])) (.ref a146) (.tuple [.str "order", .tuple [.int 1, .int 0, .int 2, .int 3]]) := .tup (sqT g146) (.cons (.str _) (.cons d145 .nil))
  generalize upd H145 a146 (.tup [.str "order", .ref a145]) = H146 at t146 g146 d146 x1 T1 gp d142 d144 d145
  clear t146
  clear d145
  refine ⟨(by show 3 ≤ sizeLine; decide), fun a147 ha147 => ?_⟩
  have t147 := same_upd (o := .tup [.str "both", .int 1, .int 3]) ha147
  have g147 : (upd H146 a147 (.tup [.str "both", .int 1, .int 3])) a147 = some (.tup [.str "both", .int 1, .int 3]) := upd_same
  have x1 := LamX.ExtN.trans x1 (ext_same t147)
  have T1 := T1.ext t147
  have gp := t147 _ _ gp
  have d142 := dp_same t147 d142
  have d144 := dp_same t147 d144
  have d146 := dp_same t147 d146
  have d147 : Dp K (upd H146 a147 (.tup [.str "both", .int 1, .int 3])) (.ref a147) (.tuple [.str "both", .int 1, .int 3]) := .tup (sqT g147) (.cons (.str _) (.cons (.int _) (.cons (.int _) .nil)))
  generalize upd H146 a147 (.tup [.str "both", .int 1, .int 3]) = H147 at t147 g147 d147 x1 T1 gp d142 d144 d146
  clear t147
  refine ⟨(by show 4 ≤ sizeLine; decide), fun a148 ha148 => ?_⟩
  have t148 := same_upd (o := .tup [.int 3, .int 2, .int 1, .int 0]) ha148
  have g148 : (upd H147 a148 (.tup [.int 3, .int 2, .int 1, .int 0])) a148 = some (.tup [.int 3, .int 2, .int 1, .int 0]) := upd_same
  have x1 := LamX.ExtN.trans x1 (ext_same t148)
  have T1 := T1.ext t148
  have gp := t148 _ _ gp
  have d142 := dp_same t148 d142
  have d144 := dp_same t148 d144
  have d146 := dp_same t148 d146
  have d147 := dp_same t148 d147
  have d148 : Dp K (upd H147 a148 (.tup [.int 3, .int 2, .int 1, .int 0])) (.ref a148) (.tuple [.int 3, .int 2, .int 1, .int 0]) := .tup (sqT g148) (.cons (.int _) (.cons (.int _) (.cons (.int _) (.cons (.int _) .nil))))
  generalize upd H147 a148 (.tup [.int 3, .int 2, .int 1, .int 0]) = H148 at t148 g148 d148 x1 T1 gp d142 d144 d146 d147
  clear t148
  refine ⟨(by show 2 ≤ sizeLine; decide), fun a149 ha149 => ?_⟩
  have t149 := same_upd (o := .tup [.str "order", .ref a148]) ha149
  have g149 : (upd H148 a149 (.tup [.str "order", .ref a148])) a149 = some (.tup [.str "order", .ref a148]) := upd_same
  have x1 := LamX.ExtN.trans x1 (ext_same t149)
  have T1 := T1.ext t149
  have gp := t149 _ _ gp
  have d142 := dp_same t149 d142
  have d144 := dp_same t149 d144
  have d146 := dp_same t149 d146
  have d147 := dp_same t149 d147
  have d148 := dp_same t149 d148
  have d149 : Dp K (upd H148 a149 (.tup [.str "order", .ref a148])) (.ref a149) (.tuple [.str "order", .tuple [.int 3, .int 2, .int 1, .int 0]]) := .tup (sqT g149) (.cons (.str _) (.cons d148 .nil))
  generalize upd H148 a149 (.tup [.str "order", .ref a148]) = H149 at t149 g149 d149 x1 T1 gp d142 d144 d146 d147 d148
  clear t149
  clear d148
  refine ⟨(by show 4 ≤ sizeLine; decide), fun a150 ha150 => ?_⟩
  have t150 := same_upd (o := .lst [.ref a144, .ref a146, .ref a147, .ref a149]) ha150
  have g150 : (upd H149 a150 (.lst [.ref a144, .ref a146, .ref a147, .ref a149])) a150 = some (.lst [.ref a144, .ref a146, .ref a147, .ref a149]) := upd_same
  have x1 := LamX.ExtN.trans x1 (ext_same t150)
  have T1 := T1.ext t150
  have gp := t150 _ _ gp
  have d142 := dp_same t150 d142
  have d144 := dp_same t150 d144
  have d146 := dp_same t150 d146
  have d147 := dp_same t150 d147
  have d149 := dp_same t150 d149
  have d150 : Dp K (upd H149 a150 (.lst [.ref a144, .ref a146, .ref a147, .ref a149])) (.ref a150) (.list [.tuple [.str "order", .tuple [.int 1, .int 0, .int 2, .int 3]], .tuple [.str "order", .tuple [.int 1, .int 0, .int 2, .int 3]], .tuple [.str "both", .int 1, .int 3], .tuple [.str "order", .tuple [.int 3, .int 2, .int 1, .int 0]]]) := .lst (sqL g150) (.cons d144 (.cons d146 (.cons d147 (.cons d149 .nil))))
  generalize upd H149 a150 (.lst [.ref a144, .ref a146, .ref a147, .ref a149]) = H150 at t150 g150 d150 x1 T1 gp d142 d144 d146 d147 d149
  clear t150
  clear d144
  clear d146
  clear d147
  clear d149
  dsimp only [gName, tSeq]
  refine ⟨_, rfl, _, rfl, ?_⟩
  refine ⟨.ref a142, .ref a150, .list [.tuple [.str "order", .tuple [.int 1, .int 0, .int 2, .int 3]], .tuple [.str "order", .tuple [.int 1, .int 0, .int 2, .int 3]], .tuple [.str "both", .int 1, .int 3], .tuple [.str "order", .tuple [.int 3, .int 2, .int 1, .int 0]]], rfl, d142, d150, by decide +kernel, by decide +kernel, fun H151 t151 => ?_⟩
  clear d142
  clear d150
  have x1 := LamX.ExtN.trans x1 (ext_same t151)
  have T1 := T1.ext t151
  have gp := t151 _ _ gp
  clear t151
  refine ⟨_, rfl, iteF ?_⟩
  dsimp only [tNext, tSeq]
  --h09
  refine ⟨(by show 4 ≤ sizeLine; decide), fun a152 ha152 => ?_⟩
  have t152 := same_upd (o := .tup [.int 2, .int 1, .int 0, .int 3]) ha152
  have g152 : (upd H151 a152 (.tup [.int 2, .int 1, .int 0, .int 3])) a152 = some (.tup [.int 2, .int 1, .int 0, .int 3]) := upd_same
  have x1 := LamX.ExtN.trans x1 (ext_same t152)
  have T1 := T1.ext t152
  have gp := t152 _ _ gp
  have d152 : Dp K (upd H151 a152 (.tup [.int 2, .int 1, .int 0, .int 3])) (.ref a152) (.tuple [.int 2, .int 1, .int 0, .int 3]) := .tup (sqT g152) (.cons (.int _) (.cons (.int _) (.cons (.int _) (.cons (.int _) .nil))))
  generalize upd H151 a152 (.tup [.int 2, .int 1, .int 0, .int 3]) = H152 at t152 g152 d152 x1 T1 gp
  clear t152
  refine ⟨(by show 4 ≤ sizeLine; decide), fun a153 ha153 => ?_⟩
  have t153 := same_upd (o := .tup [.int 0, .int 1, .int 2, .int 3]) ha153
  have g153 : (upd H152 a153 (.tup [.int 0, .int 1, .int 2, .int 3])) a153 = some (.tup [.int 0, .int 1, .int 2, .int 3]) := upd_same
  have x1 := LamX.ExtN.trans x1 (ext_same t153)
  have T1 := T1.ext t153
  have gp := t153 _ _ gp
  have d152 := dp_same t153 d152
  have d153 : Dp K (upd H152 a153 (.tup [.int 0, .int 1, .int 2, .int 3])) (.ref a153) (.tuple [.int 0, .int 1, .int 2, .int 3]) := .tup (sqT g153) (.cons (.int _) (.cons (.int _) (.cons (.int _) (.cons (.int _) .nil))))
  generalize upd H152 a153 (.tup [.int 0, .int 1, .int 2, .int 3]) = H153 at t153 g153 d153 x1 T1 gp d152
  clear t153
  refine ⟨(by show 4 ≤ sizeLine; decide), fun a154 ha154 => ?_⟩
  have t154 := same_upd (o := .tup [.int 2, .int 1, .int 3, .int 0]) ha154
  have g154 : (upd H153 a154 (.tup [.int 2, .int 1, .int 3, .int 0])) a154 = some (.tup [.int 2, .int 1, .int 3, .int 0]) := upd_same
  have x1 := LamX.ExtN.trans x1 (ext_same t154)
  have T1 := T1.ext t154
  have gp := t154 _ _ gp
  have d152 := dp_same t154 d152
  have d153 := dp_same t154 d153
  have d154 : Dp K (upd H153 a154 (.tup [.int 2, .int 1, .int 3, .int 0])) (.ref a154) (.tuple [.int 2, .int 1, .int 3, .int 0]) := .tup (sqT g154) (.cons (.int _) (.cons (.int _) (.cons (.int _) (.cons (.int _) .nil))))
  generalize upd H153 a154 (.tup [.int 2, .int 1, .int 3, .int 0]) = H154 at t154 g154 d154 x1 T1 gp d152 d153
  clear t154
  refine ⟨(by show 3 ≤ sizeLine; decide), fun a155 ha155 => ?_⟩
  have t155 := same_upd (o := .tup [.ref a152, .ref a153, .ref a154]) ha155
  have g155 : (upd H154 a155 (.tup [.ref a152, .ref a153, .ref a154])) a155 = some (.tup [.ref a152, .ref a153, .ref a154]) := upd_same
  have x1 := LamX.ExtN.trans x1 (ext_same t155)
  have T1 := T1.ext t155
  have gp := t155 _ _ gp
  have d152 := dp_same t155 d152
  have d153 := dp_same t155 d153
  have d154 := dp_same t155 d154
  generalize upd H154 a155 (.tup [.ref a152, .ref a153, .ref a154]) = H155 at t155 g155 x1 T1 gp d152 d153 d154
  clear t155
  refine ⟨a155, [.ref a152, .ref a153, .ref a154], rfl, .inr (sqT g155), fun J G wk hG D0 hD => ?_⟩
  have key : ∀ (i : Nat) (v : V), ([.ref a152, .ref a153, .ref a154] : List V)[i]? = some v → ∃ d, Dp K H155 v d ∧ SeqAt.shaped d = true ∧ lenD d ≤ 60 ∧ ordD [.int 1, .int 1, .int 2, .int 1] d = ([true, false, false] : List Bool).getD i false := by
    intro i v hv
    match i, hv with
    | 0, hv => cases hv; exact ⟨_, d152, by decide +kernel, by decide +kernel, by kernel_rfl⟩
    | 1, hv => cases hv; exact ⟨_, d153, by decide +kernel, by decide +kernel, by kernel_rfl⟩
    | 2, hv => cases hv; exact ⟨_, d154, by decide +kernel, by decide +kernel, by kernel_rfl⟩
    | _ + 3, hv => cases hv
  refine lc_it wk (fun i H2 => Same H155 H2 ∧ H2 D0 = some (.lst (([true, false, false].take i).map V.bl))) ⟨same_upd hD, upd_same⟩ (fun i H2 _ hP => hG _ (ats_same hP.1)) (fun i v H2 H3 hi hP hY => ?_) (fun H2 hP => ?_)
  · obtain ⟨s2, e2⟩ := hP
    obtain ⟨rfl, gx⟩ := hY
    obtain ⟨d, hd, h1, h2, h3⟩ := key i v gx
    refine ⟨rfl, ?_⟩
    refine ⟨(by show 4 ≤ sizeLine; decide), fun b hb => ?_⟩
    have s3 := same_upd (o := .tup [.int 1, .int 1, .int 2, .int 1]) hb
    refine ⟨_, rfl, b, [.int 1, .int 1, .int 2, .int 1], v, d, rfl, .inr (sqT upd_same), by decide, by decide, tab_by (by decide), dp_same (s2.trans s3) hd, h1, h2, fun H4 s4 => ?_⟩
    refine ⟨_, s4 _ _ (s3 _ _ e2), ?_, ?_, ?_⟩
    · rw [List.length_map, List.length_take]
      exact small1000 (by simp only [List.length_cons, List.length_nil]; omega)
    · exact Same.mut ((s2.trans s3).trans s4) hD
    · rw [upd_same, h3]
      match i, hi with
      | 0, _ => rfl
      | 1, _ => rfl
      | 2, _ => rfl
      | j + 3, hi => exact absurd hi (by show ¬ (j + 3 < 3); omega)
  obtain ⟨s2, e2⟩ := hP
  change H2 D0 = some (.lst [.bl true, .bl false, .bl false]) at e2
  clear d152
  clear d153
  clear d154
  clear key
  have x1 := LamX.ExtN.trans x1 (ext_same s2)
  have T1 := T1.ext s2
  have gp := s2 _ _ gp
  clear s2
  dsimp only [tNext, tSeq, gName]
  refine ⟨_, rfl, ?_⟩
  refine ⟨(by show 4 ≤ sizeLine; decide), fun a156 ha156 => ?_⟩
  have t156 := same_upd (o := .tup [.int 2, .int 1, .int 2, .int 1]) ha156
  have g156 : (upd H2 a156 (.tup [.int 2, .int 1, .int 2, .int 1])) a156 = some (.tup [.int 2, .int 1, .int 2, .int 1]) := upd_same
  have x1 := LamX.ExtN.trans x1 (ext_same t156)
  have T1 := T1.ext t156
  have gp := t156 _ _ gp
  have e2 := t156 _ _ e2
  have d156 : Dp K (upd H2 a156 (.tup [.int 2, .int 1, .int 2, .int 1])) (.ref a156) (.tuple [.int 2, .int 1, .int 2, .int 1]) := .tup (sqT g156) (.cons (.int _) (.cons (.int _) (.cons (.int _) (.cons (.int _) .nil))))
  generalize upd H2 a156 (.tup [.int 2, .int 1, .int 2, .int 1]) = H156 at t156 g156 d156 x1 T1 gp e2
  clear t156
  refine ⟨a156, [.int 2, .int 1, .int 2, .int 1], rfl, .inr (sqT g156), by decide, tab_by (by decide), fun r157 H157 t157 d157 => ?_⟩
  clear d156
  have e157 : verdD [.int 2, .int 1, .int 2, .int 1] = .tuple [.str "both", .int 0, .int 3] := by kernel_rfl
  rw [e157] at d157
  have x1 := LamX.ExtN.trans x1 (ext_same t157)
  have T1 := T1.ext t157
  have gp := t157 _ _ gp
  have e2 := t157 _ _ e2
  clear t157 e157
  refine ⟨(by show 4 ≤ sizeLine; decide), fun a158 ha158 => ?_⟩
  have t158 := same_upd (o := .tup [.int 2, .int 1, .int 2, .int 1]) ha158
  have g158 : (upd H157 a158 (.tup [.int 2, .int 1, .int 2, .int 1])) a158 = some (.tup [.int 2, .int 1, .int 2, .int 1]) := upd_same
  have x1 := LamX.ExtN.trans x1 (ext_same t158)
  have T1 := T1.ext t158
  have gp := t158 _ _ gp
  have d157 := dp_same t158 d157
  have e2 := t158 _ _ e2
  have d158 : Dp K (upd H157 a158 (.tup [.int 2, .int 1, .int 2, .int 1])) (.ref a158) (.tuple [.int 2, .int 1, .int 2, .int 1]) := .tup (sqT g158) (.cons (.int _) (.cons (.int _) (.cons (.int _) (.cons (.int _) .nil))))
  generalize upd H157 a158 (.tup [.int 2, .int 1, .int 2, .int 1]) = H158 at t158 g158 d158 x1 T1 gp e2 d157
  clear t158
  refine ⟨(by show 2 ≤ sizeLine; decide), fun a159 ha159 => ?_⟩
  have t159 := same_upd (o := .tup [.int 3, .int 0]) ha159
  have g159 : (upd H158 a159 (.tup [.int 3, .int 0])) a159 = some (.tup [.int 3, .int 0]) := upd_same
  have x1 := LamX.ExtN.trans x1 (ext_same t159)
  have T1 := T1.ext t159
  have gp := t159 _ _ gp
  have d157 := dp_same t159 d157
  have d158 := dp_same t159 d158
  have g158 := t159 _ _ g158
  have e2 := t159 _ _ e2
  have d159 : Dp K (upd H158 a159 (.tup [.int 3, .int 0])) (.ref a159) (.tuple [.int 3, .int 0]) := .tup (sqT g159) (.cons (.int _) (.cons (.int _) .nil))
  generalize upd H158 a159 (.tup [.int 3, .int 0]) = H159 at t159 g159 d159 x1 T1 gp e2 d157 d158 g158
  clear t159
  refine ⟨a158, [.int 2, .int 1, .int 2, .int 1], .ref a159, .tuple [.int 3, .int 0], rfl, .inr (sqT g158), by decide, by decide, tab_by (by decide), d159, by decide +kernel, by decide +kernel, fun H160 t160 => ?_⟩
  clear d158
  clear d159
  clear g158
  have e160 : bothD [.int 2, .int 1, .int 2, .int 1] (.tuple [.int 3, .int 0]) = true := by kernel_rfl
  rw [e160]
  have x1 := LamX.ExtN.trans x1 (ext_same t160)
  have T1 := T1.ext t160
  have gp := t160 _ _ gp
  have d157 := dp_same t160 d157
  have e2 := t160 _ _ e2
  clear t160 e160
  refine ⟨(by show 4 ≤ sizeLine; decide), fun a161 ha161 => ?_⟩
  have t161 := same_upd (o := .tup [.int 1, .int 0, .non, .int 2]) ha161
  have g161 : (upd H160 a161 (.tup [.int 1, .int 0, .non, .int 2])) a161 = some (.tup [.int 1, .int 0, .non, .int 2]) := upd_same
  have x1 := LamX.ExtN.trans x1 (ext_same t161)
  have T1 := T1.ext t161
  have gp := t161 _ _ gp
  have d157 := dp_same t161 d157
  have e2 := t161 _ _ e2
  have d161 : Dp K (upd H160 a161 (.tup [.int 1, .int 0, .non, .int 2])) (.ref a161) (.tuple [.int 1, .int 0, .none, .int 2]) := .tup (sqT g161) (.cons (.int _) (.cons (.int _) (.cons .non (.cons (.int _) .nil))))
  generalize upd H160 a161 (.tup [.int 1, .int 0, .non, .int 2]) = H161 at t161 g161 d161 x1 T1 gp e2 d157
  clear t161
  refine ⟨a161, [.int 1, .int 0, .non, .int 2], rfl, .inr (sqT g161), by decide, tab_by (by decide), fun r162 H162 t162 d162 => ?_⟩
  clear d161
  have e162 : verdD [.int 1, .int 0, .non, .int 2] = .tuple [.str "gap", .int 3, .int 2] := by kernel_rfl
  rw [e162] at d162
  have x1 := LamX.ExtN.trans x1 (ext_same t162)
  have T1 := T1.ext t162
  have gp := t162 _ _ gp
  have d157 := dp_same t162 d157
  have e2 := t162 _ _ e2
  clear t162 e162
  refine ⟨(by show 3 ≤ sizeLine; decide), fun a163 ha163 => ?_⟩
  have t163 := same_upd (o := .lst [.ref r157, .bl true, .ref r162]) ha163
  have g163 : (upd H162 a163 (.lst [.ref r157, .bl true, .ref r162])) a163 = some (.lst [.ref r157, .bl true, .ref r162]) := upd_same
  have x1 := LamX.ExtN.trans x1 (ext_same t163)
  have T1 := T1.ext t163
  have gp := t163 _ _ gp
  have d157 := dp_same t163 d157
  have d162 := dp_same t163 d162
  have e2 := t163 _ _ e2
  generalize upd H162 a163 (.lst [.ref r157, .bl true, .ref r162]) = H163 at t163 g163 x1 T1 gp e2 d157 d162
  clear t163
  refine ⟨_, a163, _, _, rfl, rfl, e2, g163, by show 6 ≤ sizeLine; decide, fun a164 ha164 => ?_⟩
  have t164 := same_upd (o := .lst [.bl true, .bl false, .bl false, .ref r157, .bl true, .ref r162]) ha164
  have g164 : (upd H163 a164 (.lst [.bl true, .bl false, .bl false, .ref r157, .bl true, .ref r162])) a164 = some (.lst [.bl true, .bl false, .bl false, .ref r157, .bl true, .ref r162]) := upd_same
  have x1 := LamX.ExtN.trans x1 (ext_same t164)
  have T1 := T1.ext t164
  have gp := t164 _ _ gp
  have d157 := dp_same t164 d157
  have d162 := dp_same t164 d162
  clear e2
  dsimp only [List.cons_append, List.nil_append]
  generalize upd H163 a164 (.lst [.bl true, .bl false, .bl false, .ref r157, .bl true, .ref r162]) = H164 at t164 g164 x1 T1 gp d157 d162 ⊢
  have e2 := g164
  clear t164
  dsimp only [tNext, tSeq, gName]
  refine ⟨_, rfl, ?_⟩
  refine ⟨(by show 3 ≤ sizeLine; decide), fun a165 ha165 => ?_⟩
  have t165 := same_upd (o := .tup [.non, .int 0, .non]) ha165
  have g165 : (upd H164 a165 (.tup [.non, .int 0, .non])) a165 = some (.tup [.non, .int 0, .non]) := upd_same
  have x1 := LamX.ExtN.trans x1 (ext_same t165)
  have T1 := T1.ext t165
  have gp := t165 _ _ gp
  have d157 := dp_same t165 d157
  have d162 := dp_same t165 d162
  have e2 := t165 _ _ e2
  have d165 : Dp K (upd H164 a165 (.tup [.non, .int 0, .non])) (.ref a165) (.tuple [.none, .int 0, .none]) := .tup (sqT g165) (.cons .non (.cons (.int _) (.cons .non .nil)))
  generalize upd H164 a165 (.tup [.non, .int 0, .non]) = H165 at t165 g165 d165 x1 T1 gp e2 d157 d162
  clear t165
  refine ⟨(by show 2 ≤ sizeLine; decide), fun a166 ha166 => ?_⟩
  have t166 := same_upd (o := .tup [.int 1, .int 0]) ha166
  have g166 : (upd H165 a166 (.tup [.int 1, .int 0])) a166 = some (.tup [.int 1, .int 0]) := upd_same
  have x1 := LamX.ExtN.trans x1 (ext_same t166)
  have T1 := T1.ext t166
  have gp := t166 _ _ gp
  have d157 := dp_same t166 d157
  have d162 := dp_same t166 d162
  have d165 := dp_same t166 d165
  have g165 := t166 _ _ g165
  have e2 := t166 _ _ e2
  have d166 : Dp K (upd H165 a166 (.tup [.int 1, .int 0])) (.ref a166) (.tuple [.int 1, .int 0]) := .tup (sqT g166) (.cons (.int _) (.cons (.int _) .nil))
  generalize upd H165 a166 (.tup [.int 1, .int 0]) = H166 at t166 g166 d166 x1 T1 gp e2 d157 d162 d165 g165
  clear t166
  refine ⟨a165, [.non, .int 0, .non], .ref a166, .tuple [.int 1, .int 0], rfl, .inr (sqT g165), by decide, by decide, tab_by (by decide), d166, by decide +kernel, by decide +kernel, fun H167 t167 => ?_⟩
  clear d165
  clear d166
  clear g165
  have e167 : gapD [.non, .int 0, .non] (.tuple [.int 1, .int 0]) = true := by kernel_rfl
  rw [e167]
  have x1 := LamX.ExtN.trans x1 (ext_same t167)
  have T1 := T1.ext t167
  have gp := t167 _ _ gp
  have d157 := dp_same t167 d157
  have d162 := dp_same t167 d162
  have e2 := t167 _ _ e2
  clear t167 e167
  refine ⟨(by show 3 ≤ sizeLine; decide), fun a168 ha168 => ?_⟩
  have t168 := same_upd (o := .tup [.non, .int 0, .non]) ha168
  have g168 : (upd H167 a168 (.tup [.non, .int 0, .non])) a168 = some (.tup [.non, .int 0, .non]) := upd_same
  have x1 := LamX.ExtN.trans x1 (ext_same t168)
  have T1 := T1.ext t168
  have gp := t168 _ _ gp
  have d157 := dp_same t168 d157
  have d162 := dp_same t168 d162
  have e2 := t168 _ _ e2
  have d168 : Dp K (upd H167 a168 (.tup [.non, .int 0, .non])) (.ref a168) (.tuple [.none, .int 0, .none]) := .tup (sqT g168) (.cons .non (.cons (.int _) (.cons .non .nil)))
  generalize upd H167 a168 (.tup [.non, .int 0, .non]) = H168 at t168 g168 d168 x1 T1 gp e2 d157 d162
  clear t168
  refine ⟨(by show 2 ≤ sizeLine; decide), fun a169 ha169 => ?_⟩
  have t169 := same_upd (o := .tup [.int 1, .int 2]) ha169
  have g169 : (upd H168 a169 (.tup [.int 1, .int 2])) a169 = some (.tup [.int 1, .int 2]) := upd_same
  have x1 := LamX.ExtN.trans x1 (ext_same t169)
  have T1 := T1.ext t169
  have gp := t169 _ _ gp
  have d157 := dp_same t169 d157
  have d162 := dp_same t169 d162
  have d168 := dp_same t169 d168
  have g168 := t169 _ _ g168
  have e2 := t169 _ _ e2
  have d169 : Dp K (upd H168 a169 (.tup [.int 1, .int 2])) (.ref a169) (.tuple [.int 1, .int 2]) := .tup (sqT g169) (.cons (.int _) (.cons (.int _) .nil))
  generalize upd H168 a169 (.tup [.int 1, .int 2]) = H169 at t169 g169 d169 x1 T1 gp e2 d157 d162 d168 g168
  clear t169
  refine ⟨a168, [.non, .int 0, .non], .ref a169, .tuple [.int 1, .int 2], rfl, .inr (sqT g168), by decide, by decide, tab_by (by decide), d169, by decide +kernel, by decide +kernel, fun H170 t170 => ?_⟩
  clear d168
  clear d169
  clear g168
  have e170 : gapD [.non, .int 0, .non] (.tuple [.int 1, .int 2]) = false := by kernel_rfl
  rw [e170]
  have x1 := LamX.ExtN.trans x1 (ext_same t170)
  have T1 := T1.ext t170
  have gp := t170 _ _ gp
  have d157 := dp_same t170 d157
  have d162 := dp_same t170 d162
  have e2 := t170 _ _ e2
  clear t170 e170
  refine ⟨(by show 2 ≤ sizeLine; decide), fun a171 ha171 => ?_⟩
  have t171 := same_upd (o := .tup [.int 1, .int 0]) ha171
  have g171 : (upd H170 a171 (.tup [.int 1, .int 0])) a171 = some (.tup [.int 1, .int 0]) := upd_same
  have x1 := LamX.ExtN.trans x1 (ext_same t171)
  have T1 := T1.ext t171
  have gp := t171 _ _ gp
  have d157 := dp_same t171 d157
  have d162 := dp_same t171 d162
  have e2 := t171 _ _ e2
  have d171 : Dp K (upd H170 a171 (.tup [.int 1, .int 0])) (.ref a171) (.tuple [.int 1, .int 0]) := .tup (sqT g171) (.cons (.int _) (.cons (.int _) .nil))
  generalize upd H170 a171 (.tup [.int 1, .int 0]) = H171 at t171 g171 d171 x1 T1 gp e2 d157 d162
  clear t171
  refine ⟨(by show 2 ≤ sizeLine; decide), fun a172 ha172 => ?_⟩
  have t172 := same_upd (o := .tup [.int 1, .int 0]) ha172
  have g172 : (upd H171 a172 (.tup [.int 1, .int 0])) a172 = some (.tup [.int 1, .int 0]) := upd_same
  have x1 := LamX.ExtN.trans x1 (ext_same t172)
  have T1 := T1.ext t172
  have gp := t172 _ _ gp
  have d157 := dp_same t172 d157
  have d162 := dp_same t172 d162
  have d171 := dp_same t172 d171
  have g171 := t172 _ _ g171
  have e2 := t172 _ _ e2
  have d172 : Dp K (upd H171 a172 (.tup [.int 1, .int 0])) (.ref a172) (.tuple [.int 1, .int 0]) := .tup (sqT g172) (.cons (.int _) (.cons (.int _) .nil))
  generalize upd H171 a172 (.tup [.int 1, .int 0]) = H172 at t172 g172 d172 x1 T1 gp e2 d157 d162 d171 g171
  clear t172
  refine ⟨a171, [.int 1, .int 0], .ref a172, .tuple [.int 1, .int 0], rfl, .inr (sqT g171), by decide, by decide, tab_by (by decide), d172, by decide +kernel, by decide +kernel, fun H173 t173 => ?_⟩
  clear d171
  clear d172
  clear g171
  have e173 : bothD [.int 1, .int 0] (.tuple [.int 1, .int 0]) = true := by kernel_rfl
  rw [e173]
  have x1 := LamX.ExtN.trans x1 (ext_same t173)
  have T1 := T1.ext t173
  have gp := t173 _ _ gp
  have d157 := dp_same t173 d157
  have d162 := dp_same t173 d162
  have e2 := t173 _ _ e2
  clear t173 e173
  refine ⟨(by show 3 ≤ sizeLine; decide), fun a174 ha174 => ?_⟩
  have t174 := same_upd (o := .lst [.bl true, .bl false, .bl true]) ha174
  have g174 : (upd H173 a174 (.lst [.bl true, .bl false, .bl true])) a174 = some (.lst [.bl true, .bl false, .bl true]) := upd_same
  have x1 := LamX.ExtN.trans x1 (ext_same t174)
  have T1 := T1.ext t174
  have gp := t174 _ _ gp
  have d157 := dp_same t174 d157
  have d162 := dp_same t174 d162
  have e2 := t174 _ _ e2
  generalize upd H173 a174 (.lst [.bl true, .bl false, .bl true]) = H174 at t174 g174 x1 T1 gp e2 d157 d162
  clear t174
  refine ⟨_, a174, _, _, rfl, rfl, e2, g174, by show 9 ≤ sizeLine; decide, fun a175 ha175 => ?_⟩
  have t175 := same_upd (o := .lst [.bl true, .bl false, .bl false, .ref r157, .bl true, .ref r162, .bl true, .bl false, .bl true]) ha175
  have g175 : (upd H174 a175 (.lst [.bl true, .bl false, .bl false, .ref r157, .bl true, .ref r162, .bl true, .bl false, .bl true])) a175 = some (.lst [.bl true, .bl false, .bl false, .ref r157, .bl true, .ref r162, .bl true, .bl false, .bl true]) := upd_same
  have x1 := LamX.ExtN.trans x1 (ext_same t175)
  have T1 := T1.ext t175
  have gp := t175 _ _ gp
  have d157 := dp_same t175 d157
  have d162 := dp_same t175 d162
  clear e2
  dsimp only [List.cons_append, List.nil_append]
  generalize upd H174 a175 (.lst [.bl true, .bl false, .bl false, .ref r157, .bl true, .ref r162, .bl true, .bl false, .bl true]) = H175 at t175 g175 x1 T1 gp d157 d162 ⊢
  have e2 := g175
  clear t175
  dsimp only [tNext, tSeq, gName]
  have dL : Dp K H175 (.ref a175) (.list [.bool true, .bool false, .bool false, .tuple [.str "both", .int 0, .int 3], .bool true, .tuple [.str "gap", .int 3, .int 2], .bool true, .bool false, .bool true]) := .lst (sqL e2) (.cons (.bl _) (.cons (.bl _) (.cons (.bl _) (.cons d157 (.cons (.bl _) (.cons d162 (.cons (.bl _) (.cons (.bl _) (.cons (.bl _) .nil)))))))))
  refine ⟨_, rfl, ?_⟩
  refine ⟨(by show 3 ≤ sizeLine; decide), fun a176 ha176 => ?_⟩
  have t176 := same_upd (o := .tup [.str "both", .int 0, .int 3]) ha176
  have g176 : (upd H175 a176 (.tup [.str "both", .int 0, .int 3])) a176 = some (.tup [.str "both", .int 0, .int 3]) := upd_same
  have x1 := LamX.ExtN.trans x1 (ext_same t176)
  have T1 := T1.ext t176
  have gp := t176 _ _ gp
  have d157 := dp_same t176 d157
  have d162 := dp_same t176 d162
  have dL := dp_same t176 dL
  have e2 := t176 _ _ e2
  have d176 : Dp K (upd H175 a176 (.tup [.str "both", .int 0, .int 3])) (.ref a176) (.tuple [.str "both", .int 0, .int 3]) := .tup (sqT g176) (.cons (.str _) (.cons (.int _) (.cons (.int _) .nil)))
  generalize upd H175 a176 (.tup [.str "both", .int 0, .int 3]) = H176 at t176 g176 d176 x1 T1 gp e2 d157 d162 dL
  clear t176
  refine ⟨(by show 3 ≤ sizeLine; decide), fun a177 ha177 => ?_⟩
  have t177 := same_upd (o := .tup [.str "gap", .int 3, .int 2]) ha177
  have g177 : (upd H176 a177 (.tup [.str "gap", .int 3, .int 2])) a177 = some (.tup [.str "gap", .int 3, .int 2]) := upd_same
  have x1 := LamX.ExtN.trans x1 (ext_same t177)
  have T1 := T1.ext t177
  have gp := t177 _ _ gp
  have d157 := dp_same t177 d157
  have d162 := dp_same t177 d162
  have dL := dp_same t177 dL
  have d176 := dp_same t177 d176
  have e2 := t177 _ _ e2
  have d177 : Dp K (upd H176 a177 (.tup [.str "gap", .int 3, .int 2])) (.ref a177) (.tuple [.str "gap", .int 3, .int 2]) := .tup (sqT g177) (.cons (.str _) (.cons (.int _) (.cons (.int _) .nil)))
  generalize upd H176 a177 (.tup [.str "gap", .int 3, .int 2]) = H177 at t177 g177 d177 x1 T1 gp e2 d157 d162 dL d176
  clear t177
  refine ⟨(by show 9 ≤ sizeLine; decide), fun a178 ha178 => ?_⟩
  have t178 := same_upd (o := .lst [.bl true, .bl false, .bl false, .ref a176, .bl true, .ref a177, .bl true, .bl false, .bl true]) ha178
  have g178 : (upd H177 a178 (.lst [.bl true, .bl false, .bl false, .ref a176, .bl true, .ref a177, .bl true, .bl false, .bl true])) a178 = some (.lst [.bl true, .bl false, .bl false, .ref a176, .bl true, .ref a177, .bl true, .bl false, .bl true]) := upd_same
  have x1 := LamX.ExtN.trans x1 (ext_same t178)
  have T1 := T1.ext t178
  have gp := t178 _ _ gp
  have d157 := dp_same t178 d157
  have d162 := dp_same t178 d162
  have dL := dp_same t178 dL
  have d176 := dp_same t178 d176
  have d177 := dp_same t178 d177
  have e2 := t178 _ _ e2
  have d178 : Dp K (upd H177 a178 (.lst [.bl true, .bl false, .bl false, .ref a176, .bl true, .ref a177, .bl true, .bl false, .bl true])) (.ref a178) (.list [.bool true, .bool false, .bool false, .tuple [.str "both", .int 0, .int 3], .bool true, .tuple [.str "gap", .int 3, .int 2], .bool true, .bool false, .bool true]) := .lst (sqL g178) (.cons (.bl _) (.cons (.bl _) (.cons (.bl _) (.cons d176 (.cons (.bl _) (.cons d177 (.cons (.bl _) (.cons (.bl _) (.cons (.bl _) .nil)))))))))
  generalize upd H177 a178 (.lst [.bl true, .bl false, .bl false, .ref a176, .bl true, .ref a177, .bl true, .bl false, .bl true]) = H178 at t178 g178 d178 x1 T1 gp e2 d157 d162 dL d176 d177
  clear t178
  clear d176
  clear d177
  refine ⟨.ref a175, .ref a178, .list [.bool true, .bool false, .bool false, .tuple [.str "both", .int 0, .int 3], .bool true, .tuple [.str "gap", .int 3, .int 2], .bool true, .bool false, .bool true], rfl, dL, d178, by decide +kernel, by decide +kernel, fun H179 t179 => ?_⟩
  clear dL
  clear d178
  have x1 := LamX.ExtN.trans x1 (ext_same t179)
  have T1 := T1.ext t179
  have gp := t179 _ _ gp
  have d157 := dp_same t179 d157
  have d162 := dp_same t179 d162
  exact q _ (StayN.of x1) ((src_ext x1 hsrc).mono (by omega)) T1

/-! ### law: one turn with each source -/
def lawLevel : Nat := 31
def spLaw (K : PySem.W.Frag) (Ps : List Addr) : Sp := fun vs H Q _ => ∃ (a : Addr) (ns : List Int), vs = [.ref a] ∧ SqL K H a (ns.map V.int) ∧ ns.length ≤ 63 ∧ TabsOk Ps nmL H ∧ ∀ H', Q (.bl true) H'
theorem lawStart {Kw : Params → PySem.W.Frag} (w : World) (cs : List (Addr × Addr)) (H : Hp) (a : Addr) (ns : List Int) (hl : ns.length ≤ 63) (hT : ∀ p ∈ cs, H p.2 = some (.tbl #[])) (hS : SqL (Kw w.params) H a (ns.map V.int)) : spLaw (Kw w.params) (cs.map (·.2)) [.ref a] H (fun v _ => v = .bl true) (fun _ _ _ => False) :=
  ⟨a, ns, rfl, hS, hl, tabs_nil fun P hP => by
    obtain ⟨p, hp, rfl⟩ := List.mem_map.mp hP
    exact hT p hp, fun _ => rfl⟩
theorem ok_law (T : Bt mg) {f f1 f2 : Addr} {fd fd1 fd2 : FuncData} {Ps : List Addr} (D : Df K mg "law" s_law ["_law_script"] f fd)
    (k_law_source : Kn P w K mg base 1 "_law_source" s_law_source ["_law_script", "_law_index"] (spSource K) f1 fd1) (k_law_holds : KnG P w K mg base 30 "_law_holds" s_law_holds ["_law_source_here"] (spHoldsT Ps) f2 fd2) : FnOkG P w K mg base lawLevel f fd ["_law_script"] (spLaw K Ps) := by
  refine okG D.F sc_law (fun vs H Q E h => ?_) (fun cdv A outer s H vs Q E hgd hr h => ?_)
  · obtain ⟨a, ns, rfl, _⟩ := h
    rfl
  obtain ⟨a, ns, rfl, hS, h63, hT, q⟩ := h
  refine ⟨_, (pss_one (ps_ret (pe_callB (cr_allK (K := K) rfl rfl) (by rfl) T.all (by decide +kernel) (pa_cons (pe_lc (own := [("_law_index", 1)]) (by rfl) sc_law.nd (pi_range1 (by rfl) T.range (pa_cons (pe_callB (call_max2 rfl) (by rfl) T.max (by decide +kernel) (pa_cons pe_int (pa_cons (pe_callB (call_min2 rfl) (by rfl) T.min (by decide +kernel) (pa_cons pe_int (pa_cons (pe_callB (call_lenK (K := K) rfl) (by rfl) T.len (by decide +kernel) (pa_cons (pv 0) pa_nil)) pa_nil))) pa_nil))) pa_nil)) (blkOk_by (own := [("_law_index", 1)]) (N := ["_law_script", "_law_index"]) (sc := defScope s_law) (by decide +kernel)) (fun _ _ _ _ _ => (pg_name (i := 1) sc_law.nd rfl (.inl rfl))) (fun _ _ _ _ _ => pts_nil) (fun _ _ _ _ _ => (pe_callG hgd k_law_holds.G (hr.mono (by omega)) (by rfl) k_law_holds.D.g k_law_holds.D.F.kp k_law_holds.D.b (pa_cons (pe_call k_law_source.G (hr.mono (by omega)) (by rfl) k_law_source.D.g k_law_source.D.F.kp k_law_source.D.b .nil pass0 (pa_cons (pv 0) (pa_cons (pv 1) pa_nil))) pa_nil)))) pa_nil)))), ?_⟩
  refine ⟨_, rfl, a, _, rfl, .inl hS, _, _, rfl, _, _, rfl, ?_⟩
  rw [List.length_map]
  obtain ⟨m, hm, hm2⟩ : ∃ m : Nat, (if (if (ns.length : Int) < 1 then (ns.length : Int) else 1) > 1 then (if (ns.length : Int) < 1 then (ns.length : Int) else 1) else 1) = (m : Int) ∧ m ≤ 1 := by
    refine ⟨(if (if (ns.length : Int) < 1 then (ns.length : Int) else 1) > 1 then (if (ns.length : Int) < 1 then (ns.length : Int) else 1) else 1).toNat, ?_, ?_⟩
    · split <;> (split <;> omega)
    · split <;> (split <;> omega)
  rw [hm]
  refine ⟨(m : Int), rfl, by omega, by omega, fun L hL => ?_⟩
  have en : ((m : Int)).toNat = m := Int.toNat_natCast m
  rw [en]
  refine lc_range (lo := 0) (n := m) (fun i H2 => LamX.ExtN H H2 ∧ TabsOk Ps nmL H2 ∧ H2 L = some (.lst ((List.replicate i true).map V.bl))) ⟨ext_same (same_upd hL), tabs_new hT hL, upd_same⟩ (fun i H2 hi hP => ?_) (fun H2 hP => ?_)
  · obtain ⟨s2, t2, e2⟩ := hP
    have ez : (0 : Int) + (i : Int) = (i : Int) := Int.zero_add _
    rw [ez]
    refine ⟨rfl, ?_⟩
    refine ⟨_, rfl, _, rfl, a, ns, i, rfl, ExtN.seq s2 hS, h63, by omega, fun p o hp hO => ?_⟩
    refine ⟨p, 0, rfl, ⟨o, upd_same, hO.mono (by decide)⟩, tabs_new t2 hp, fun H3 s3 _ t3 => ?_⟩
    have s4 := ext_stayN hp s3
    have e3 := ext_lst s4 e2
    refine ⟨_, e3, ?_, ext_mut (LamX.ExtN.trans s2 s4) hL, tabs_upd t3 e3, ?_⟩
    · rw [List.length_map, List.length_replicate]
      exact small1000 (by omega)
    · rw [upd_same, List.replicate_succ', List.map_append]
      rfl
  · obtain ⟨s2, _, e2⟩ := hP
    refine ⟨L, _, rfl, sqL e2, ?_⟩
    rw [all_rep]
    exact q _

theorem fin (T : Bt mg)
    {f4 : Addr} {fd4 : FuncData} (D_in_row : Df K mg "in_row" s_in_row ["thing", "size"] f4 fd4)
    {f5 : Addr} {fd5 : FuncData} (D_all_in_row : Df K mg "all_in_row" s_all_in_row ["thing", "size"] f5 fd5)
    {f6 : Addr} {fd6 : FuncData} (D_nearness : Df K mg "nearness" s_nearness ["cell", "wish"] f6 fd6)
    {f7 : Addr} {fd7 : FuncData} (D_needs : Df K mg "needs" s_needs ["size", "cell", "wish"] f7 fd7)
    {f8 : Addr} {fd8 : FuncData} (D_nearest : Df K mg "nearest" s_nearest ["table", "wish"] f8 fd8)
    {f9 : Addr} {fd9 : FuncData} (D_put_into : Df K mg "put_into" s_put_into ["table", "wishes"] f9 fd9)
    {f10 : Addr} {fd10 : FuncData} (D_cells_of : Df K mg "cells_of" s_cells_of ["size", "wishes"] f10 fd10)
    {f11 : Addr} {fd11 : FuncData} (D_filled : Df K mg "filled" s_filled ["size", "wishes"] f11 fd11)
    {f13 : Addr} {fd13 : FuncData} (D_taken_cells : Df K mg "taken_cells" s_taken_cells ["table"] f13 fd13)
    {f14 : Addr} {fd14 : FuncData} (D_needed_cells : Df K mg "needed_cells" s_needed_cells ["table", "cell"] f14 fd14)
    {f15 : Addr} {fd15 : FuncData} (D_first_gap : Df K mg "first_gap" s_first_gap ["table"] f15 fd15)
    {f16 : Addr} {fd16 : FuncData} (D_need_one_another : Df K mg "need_one_another" s_need_one_another ["table", "one", "other"] f16 fd16)
    {f17 : Addr} {fd17 : FuncData} (D_first_both : Df K mg "first_both" s_first_both ["table"] f17 fd17)
    {f18 : Addr} {fd18 : FuncData} (D_comes_after_needed : Df K mg "comes_after_needed" s_comes_after_needed ["table", "cell", "came"] f18 fd18)
    {f19 : Addr} {fd19 : FuncData} (D_first_misfit : Df K mg "first_misfit" s_first_misfit ["table", "cells"] f19 fd19)
    {f20 : Addr} {fd20 : FuncData} (D_ready_cells : Df K mg "ready_cells" s_ready_cells ["table", "came"] f20 fd20)
    {f21 : Addr} {fd21 : FuncData} (D_first_going_on : Df K mg "first_going_on" s_first_going_on ["table", "came", "cells"] f21 fd21)
    {f23 : Addr} {fd23 : FuncData} (D_verdict : Df K mg "verdict" s_verdict ["table"] f23 fd23)
    {f24 : Addr} {fd24 : FuncData} (D_shows_order : Df K mg "shows_order" s_shows_order ["table", "thing"] f24 fd24)
    {f25 : Addr} {fd25 : FuncData} (D_shows_gap : Df K mg "shows_gap" s_shows_gap ["table", "thing"] f25 fd25)
    {f26 : Addr} {fd26 : FuncData} (D_shows_both : Df K mg "shows_both" s_shows_both ["table", "thing"] f26 fd26)
    {f27 : Addr} {fd27 : FuncData} (D_pair_in_row : Df K mg "pair_in_row" s_pair_in_row ["thing", "size"] f27 fd27)
    {f29 : Addr} {fd29 : FuncData} (D_law_source : Df K mg "_law_source" s_law_source ["_law_script", "_law_index"] f29 fd29)
    {f30 : Addr} {fd30 : FuncData} (D_law_equal : Df K mg "_law_equal" s_law_equal ["_law_found", "_law_due"] f30 fd30)
    {f31 : Addr} {fd31 : FuncData} (D_law_holds : Df K mg "_law_holds" s_law_holds ["_law_source_here"] f31 fd31)
    {f32 : Addr} {fd32 : FuncData} (D_law : Df K mg "law" s_law ["_law_script"] f32 fd32)
    {c8 P8 : Addr} (L_nearest : DfC K "nearest" s_nearest f8 fd8 c8) (B_nearest : LamX.TabB base mg c8 P8)
    : FnOkG P w K mg base lawLevel f32 fd32 ["_law_script"] (spLaw K [P8]) := by
  have k_in_row := ok_inrow (P := P) (w := w) (base := base) (k := 0) T D_in_row
  have k_all_in_row := ok_allin (k := 0) T D_all_in_row k_in_row
  have k_nearness := ok_nearness (P := P) (w := w) (base := base) (k := 0) T D_nearness
  have k_needs := ok_needs (k := 0) T D_needs k_nearness
  have k_nearest := ok_nearest (Ps := [P8]) T D_nearest L_nearest B_nearest (by simp) k_nearness
  have k_put_into := ok_put T D_put_into k_nearest
  have k_cells_of := ok_cellsof T D_cells_of k_put_into
  have k_filled := ok_filled T D_filled k_put_into
  have k_taken_cells := ok_taken (P := P) (w := w) (base := base) (k := 0) T D_taken_cells
  have k_needed_cells := ok_needed (k := 0) T D_needed_cells k_needs
  have k_need_one_another := ok_mutual (k := 0) T D_need_one_another k_needed_cells
  have k_pair_in_row := ok_pair (k := 0) T D_pair_in_row k_all_in_row
  have k_shows_gap := ok_shows_gap T D_shows_gap k_pair_in_row k_needed_cells
  have k_shows_both := ok_shows_both T D_shows_both k_pair_in_row k_need_one_another
  have k_comes_after_needed := ok_after (k := 0) T D_comes_after_needed k_needed_cells
  have k_first_misfit := ok_misfit (k := 0) T D_first_misfit k_comes_after_needed
  have k_shows_order := ok_shows_order T D_shows_order k_all_in_row k_taken_cells k_first_misfit
  have k_ready_cells := ok_ready (k := 0) T D_ready_cells k_taken_cells k_comes_after_needed
  have k_first_gap := ok_first_gap (k := 0) T D_first_gap k_taken_cells k_needed_cells
  have k_first_both := ok_first_both (k := 0) T D_first_both k_taken_cells k_needed_cells k_need_one_another
  have k_first_going_on := ok_goon (k := 0) T D_first_going_on k_ready_cells
  have k_verdict := ok_verdict (k := 0) T D_verdict k_first_gap k_first_both k_first_going_on k_taken_cells
  have k_law_source := ok_source (P := P) (w := w) (base := base) (k := 0) T D_law_source
  have k_law_equal := ok_equal (P := P) (w := w) (base := base) T D_law_equal 5
  have kZ := ok_holds (Ps := [P8]) T D_law_holds k_nearest k_cells_of k_filled k_verdict k_shows_order k_shows_gap k_shows_both ⟨D_law_equal, k_law_equal⟩
  exact ok_law T D_law k_law_source ⟨D_law_holds, kZ⟩
end
theorem all_mk {l : PySem.W.OpenLaw} {w : World} {K : PySem.W.Frag} {h : Heap} {mg : Str → Option Value} {fa f4 f5 f6 f7 f8 f9 f10 f11 f13 f14 f15 f16 f17 f18 f19 f20 f21 f23 f24 f25 f26 f27 f29 f30 f31 f32 : Addr} (X : K.In h) (G : h.Ns mainGlobals mg) (hfa : mg "law" = some (.ref fa)) (tb : ∀ y ∈ (["nearest"] : List Str), TabAt mg h y)
    {od4 an4 od5 an5 od6 an6 od7 an7 od8 an8 od9 an9 od10 an10 od11 an11 od13 an13 od14 an14 od15 an15 od16 an16 od17 an17 od18 an18 od19 an19 od20 an20 od21 an21 od23 an23 od24 an24 od25 an25 od26 an26 od27 an27 od29 an29 od30 an30 od31 an31 od32 an32 : Option Addr} {sl4 sl5 sl6 sl7 sl8 sl9 sl10 sl11 sl13 sl14 sl15 sl16 sl17 sl18 sl19 sl20 sl21 sl23 sl24 sl25 sl26 sl27 sl29 sl30 sl31 sl32 : Array (Option Value)} {oc4 kV4 dc4 pm4 cd4 ct4 oc5 kV5 dc5 pm5 cd5 ct5 oc6 kV6 dc6 pm6 cd6 ct6 oc7 kV7 dc7 pm7 cd7 ct7 oc8 kV8 dc8 pm8 cd8 ct8 oc9 kV9 dc9 pm9 cd9 ct9 oc10 kV10 dc10 pm10 cd10 ct10 oc11 kV11 dc11 pm11 cd11 ct11 oc13 kV13 dc13 pm13 cd13 ct13 oc14 kV14 dc14 pm14 cd14 ct14 oc15 kV15 dc15 pm15 cd15 ct15 oc16 kV16 dc16 pm16 cd16 ct16 oc17 kV17 dc17 pm17 cd17 ct17 oc18 kV18 dc18 pm18 cd18 ct18 oc19 kV19 dc19 pm19 cd19 ct19 oc20 kV20 dc20 pm20 cd20 ct20 oc21 kV21 dc21 pm21 cd21 ct21 oc23 kV23 dc23 pm23 cd23 ct23 oc24 kV24 dc24 pm24 cd24 ct24 oc25 kV25 dc25 pm25 cd25 ct25 oc26 kV26 dc26 pm26 cd26 ct26 oc27 kV27 dc27 pm27 cd27 ct27 oc29 kV29 dc29 pm29 cd29 ct29 oc30 kV30 dc30 pm30 cd30 ct30 oc31 kV31 dc31 pm31 cd31 ct31 oc32 kV32 dc32 pm32 cd32 ct32 : Value}
    (a4 : PySem.W.nsIn K mainGlobals "in_row" = some (some (.ref f4))) (l4 : K.lookup f4 = some ⟨oc4, od4, .func (PySem.W.fnOf "in_row" "in_row" (defArgs s_in_row) (defBody s_in_row) (defScope s_in_row) .none kV4 dc4 pm4 an4 cd4 ct4), sl4⟩) (c4 : PySem.W.codeIn K cd4 "in_row" = true) (k4 : PySem.W.keepIn K (.ref f4) = true)
    (a5 : PySem.W.nsIn K mainGlobals "all_in_row" = some (some (.ref f5))) (l5 : K.lookup f5 = some ⟨oc5, od5, .func (PySem.W.fnOf "all_in_row" "all_in_row" (defArgs s_all_in_row) (defBody s_all_in_row) (defScope s_all_in_row) .none kV5 dc5 pm5 an5 cd5 ct5), sl5⟩) (c5 : PySem.W.codeIn K cd5 "all_in_row" = true) (k5 : PySem.W.keepIn K (.ref f5) = true)
    (a6 : PySem.W.nsIn K mainGlobals "nearness" = some (some (.ref f6))) (l6 : K.lookup f6 = some ⟨oc6, od6, .func (PySem.W.fnOf "nearness" "nearness" (defArgs s_nearness) (defBody s_nearness) (defScope s_nearness) .none kV6 dc6 pm6 an6 cd6 ct6), sl6⟩) (c6 : PySem.W.codeIn K cd6 "nearness" = true) (k6 : PySem.W.keepIn K (.ref f6) = true)
    (a7 : PySem.W.nsIn K mainGlobals "needs" = some (some (.ref f7))) (l7 : K.lookup f7 = some ⟨oc7, od7, .func (PySem.W.fnOf "needs" "needs" (defArgs s_needs) (defBody s_needs) (defScope s_needs) .none kV7 dc7 pm7 an7 cd7 ct7), sl7⟩) (c7 : PySem.W.codeIn K cd7 "needs" = true) (k7 : PySem.W.keepIn K (.ref f7) = true)
    (a8 : PySem.W.nsIn K mainGlobals "nearest" = some (some (.ref f8))) (l8 : K.lookup f8 = some ⟨oc8, od8, .func (PySem.W.fnOf "nearest" "nearest" (defArgs s_nearest) (defBody s_nearest) (defScope s_nearest) .none kV8 dc8 pm8 an8 cd8 ct8), sl8⟩) (c8 : PySem.W.codeIn K cd8 "nearest" = true) (k8 : PySem.W.keepIn K (.ref f8) = true)
    (a9 : PySem.W.nsIn K mainGlobals "put_into" = some (some (.ref f9))) (l9 : K.lookup f9 = some ⟨oc9, od9, .func (PySem.W.fnOf "put_into" "put_into" (defArgs s_put_into) (defBody s_put_into) (defScope s_put_into) .none kV9 dc9 pm9 an9 cd9 ct9), sl9⟩) (c9 : PySem.W.codeIn K cd9 "put_into" = true) (k9 : PySem.W.keepIn K (.ref f9) = true)
    (a10 : PySem.W.nsIn K mainGlobals "cells_of" = some (some (.ref f10))) (l10 : K.lookup f10 = some ⟨oc10, od10, .func (PySem.W.fnOf "cells_of" "cells_of" (defArgs s_cells_of) (defBody s_cells_of) (defScope s_cells_of) .none kV10 dc10 pm10 an10 cd10 ct10), sl10⟩) (c10 : PySem.W.codeIn K cd10 "cells_of" = true) (k10 : PySem.W.keepIn K (.ref f10) = true)
    (a11 : PySem.W.nsIn K mainGlobals "filled" = some (some (.ref f11))) (l11 : K.lookup f11 = some ⟨oc11, od11, .func (PySem.W.fnOf "filled" "filled" (defArgs s_filled) (defBody s_filled) (defScope s_filled) .none kV11 dc11 pm11 an11 cd11 ct11), sl11⟩) (c11 : PySem.W.codeIn K cd11 "filled" = true) (k11 : PySem.W.keepIn K (.ref f11) = true)
    (a13 : PySem.W.nsIn K mainGlobals "taken_cells" = some (some (.ref f13))) (l13 : K.lookup f13 = some ⟨oc13, od13, .func (PySem.W.fnOf "taken_cells" "taken_cells" (defArgs s_taken_cells) (defBody s_taken_cells) (defScope s_taken_cells) .none kV13 dc13 pm13 an13 cd13 ct13), sl13⟩) (c13 : PySem.W.codeIn K cd13 "taken_cells" = true) (k13 : PySem.W.keepIn K (.ref f13) = true)
    (a14 : PySem.W.nsIn K mainGlobals "needed_cells" = some (some (.ref f14))) (l14 : K.lookup f14 = some ⟨oc14, od14, .func (PySem.W.fnOf "needed_cells" "needed_cells" (defArgs s_needed_cells) (defBody s_needed_cells) (defScope s_needed_cells) .none kV14 dc14 pm14 an14 cd14 ct14), sl14⟩) (c14 : PySem.W.codeIn K cd14 "needed_cells" = true) (k14 : PySem.W.keepIn K (.ref f14) = true)
    (a15 : PySem.W.nsIn K mainGlobals "first_gap" = some (some (.ref f15))) (l15 : K.lookup f15 = some ⟨oc15, od15, .func (PySem.W.fnOf "first_gap" "first_gap" (defArgs s_first_gap) (defBody s_first_gap) (defScope s_first_gap) .none kV15 dc15 pm15 an15 cd15 ct15), sl15⟩) (c15 : PySem.W.codeIn K cd15 "first_gap" = true) (k15 : PySem.W.keepIn K (.ref f15) = true)
    (a16 : PySem.W.nsIn K mainGlobals "need_one_another" = some (some (.ref f16))) (l16 : K.lookup f16 = some ⟨oc16, od16, .func (PySem.W.fnOf "need_one_another" "need_one_another" (defArgs s_need_one_another) (defBody s_need_one_another) (defScope s_need_one_another) .none kV16 dc16 pm16 an16 cd16 ct16), sl16⟩) (c16 : PySem.W.codeIn K cd16 "need_one_another" = true) (k16 : PySem.W.keepIn K (.ref f16) = true)
    (a17 : PySem.W.nsIn K mainGlobals "first_both" = some (some (.ref f17))) (l17 : K.lookup f17 = some ⟨oc17, od17, .func (PySem.W.fnOf "first_both" "first_both" (defArgs s_first_both) (defBody s_first_both) (defScope s_first_both) .none kV17 dc17 pm17 an17 cd17 ct17), sl17⟩) (c17 : PySem.W.codeIn K cd17 "first_both" = true) (k17 : PySem.W.keepIn K (.ref f17) = true)
    (a18 : PySem.W.nsIn K mainGlobals "comes_after_needed" = some (some (.ref f18))) (l18 : K.lookup f18 = some ⟨oc18, od18, .func (PySem.W.fnOf "comes_after_needed" "comes_after_needed" (defArgs s_comes_after_needed) (defBody s_comes_after_needed) (defScope s_comes_after_needed) .none kV18 dc18 pm18 an18 cd18 ct18), sl18⟩) (c18 : PySem.W.codeIn K cd18 "comes_after_needed" = true) (k18 : PySem.W.keepIn K (.ref f18) = true)
    (a19 : PySem.W.nsIn K mainGlobals "first_misfit" = some (some (.ref f19))) (l19 : K.lookup f19 = some ⟨oc19, od19, .func (PySem.W.fnOf "first_misfit" "first_misfit" (defArgs s_first_misfit) (defBody s_first_misfit) (defScope s_first_misfit) .none kV19 dc19 pm19 an19 cd19 ct19), sl19⟩) (c19 : PySem.W.codeIn K cd19 "first_misfit" = true) (k19 : PySem.W.keepIn K (.ref f19) = true)
    (a20 : PySem.W.nsIn K mainGlobals "ready_cells" = some (some (.ref f20))) (l20 : K.lookup f20 = some ⟨oc20, od20, .func (PySem.W.fnOf "ready_cells" "ready_cells" (defArgs s_ready_cells) (defBody s_ready_cells) (defScope s_ready_cells) .none kV20 dc20 pm20 an20 cd20 ct20), sl20⟩) (c20 : PySem.W.codeIn K cd20 "ready_cells" = true) (k20 : PySem.W.keepIn K (.ref f20) = true)
    (a21 : PySem.W.nsIn K mainGlobals "first_going_on" = some (some (.ref f21))) (l21 : K.lookup f21 = some ⟨oc21, od21, .func (PySem.W.fnOf "first_going_on" "first_going_on" (defArgs s_first_going_on) (defBody s_first_going_on) (defScope s_first_going_on) .none kV21 dc21 pm21 an21 cd21 ct21), sl21⟩) (c21 : PySem.W.codeIn K cd21 "first_going_on" = true) (k21 : PySem.W.keepIn K (.ref f21) = true)
    (a23 : PySem.W.nsIn K mainGlobals "verdict" = some (some (.ref f23))) (l23 : K.lookup f23 = some ⟨oc23, od23, .func (PySem.W.fnOf "verdict" "verdict" (defArgs s_verdict) (defBody s_verdict) (defScope s_verdict) .none kV23 dc23 pm23 an23 cd23 ct23), sl23⟩) (c23 : PySem.W.codeIn K cd23 "verdict" = true) (k23 : PySem.W.keepIn K (.ref f23) = true)
    (a24 : PySem.W.nsIn K mainGlobals "shows_order" = some (some (.ref f24))) (l24 : K.lookup f24 = some ⟨oc24, od24, .func (PySem.W.fnOf "shows_order" "shows_order" (defArgs s_shows_order) (defBody s_shows_order) (defScope s_shows_order) .none kV24 dc24 pm24 an24 cd24 ct24), sl24⟩) (c24 : PySem.W.codeIn K cd24 "shows_order" = true) (k24 : PySem.W.keepIn K (.ref f24) = true)
    (a25 : PySem.W.nsIn K mainGlobals "shows_gap" = some (some (.ref f25))) (l25 : K.lookup f25 = some ⟨oc25, od25, .func (PySem.W.fnOf "shows_gap" "shows_gap" (defArgs s_shows_gap) (defBody s_shows_gap) (defScope s_shows_gap) .none kV25 dc25 pm25 an25 cd25 ct25), sl25⟩) (c25 : PySem.W.codeIn K cd25 "shows_gap" = true) (k25 : PySem.W.keepIn K (.ref f25) = true)
    (a26 : PySem.W.nsIn K mainGlobals "shows_both" = some (some (.ref f26))) (l26 : K.lookup f26 = some ⟨oc26, od26, .func (PySem.W.fnOf "shows_both" "shows_both" (defArgs s_shows_both) (defBody s_shows_both) (defScope s_shows_both) .none kV26 dc26 pm26 an26 cd26 ct26), sl26⟩) (c26 : PySem.W.codeIn K cd26 "shows_both" = true) (k26 : PySem.W.keepIn K (.ref f26) = true)
    (a27 : PySem.W.nsIn K mainGlobals "pair_in_row" = some (some (.ref f27))) (l27 : K.lookup f27 = some ⟨oc27, od27, .func (PySem.W.fnOf "pair_in_row" "pair_in_row" (defArgs s_pair_in_row) (defBody s_pair_in_row) (defScope s_pair_in_row) .none kV27 dc27 pm27 an27 cd27 ct27), sl27⟩) (c27 : PySem.W.codeIn K cd27 "pair_in_row" = true) (k27 : PySem.W.keepIn K (.ref f27) = true)
    (a29 : PySem.W.nsIn K mainGlobals "_law_source" = some (some (.ref f29))) (l29 : K.lookup f29 = some ⟨oc29, od29, .func (PySem.W.fnOf "_law_source" "_law_source" (defArgs s_law_source) (defBody s_law_source) (defScope s_law_source) .none kV29 dc29 pm29 an29 cd29 ct29), sl29⟩) (c29 : PySem.W.codeIn K cd29 "_law_source" = true) (k29 : PySem.W.keepIn K (.ref f29) = true)
    (a30 : PySem.W.nsIn K mainGlobals "_law_equal" = some (some (.ref f30))) (l30 : K.lookup f30 = some ⟨oc30, od30, .func (PySem.W.fnOf "_law_equal" "_law_equal" (defArgs s_law_equal) (defBody s_law_equal) (defScope s_law_equal) .none kV30 dc30 pm30 an30 cd30 ct30), sl30⟩) (c30 : PySem.W.codeIn K cd30 "_law_equal" = true) (k30 : PySem.W.keepIn K (.ref f30) = true)
    (a31 : PySem.W.nsIn K mainGlobals "_law_holds" = some (some (.ref f31))) (l31 : K.lookup f31 = some ⟨oc31, od31, .func (PySem.W.fnOf "_law_holds" "_law_holds" (defArgs s_law_holds) (defBody s_law_holds) (defScope s_law_holds) .none kV31 dc31 pm31 an31 cd31 ct31), sl31⟩) (c31 : PySem.W.codeIn K cd31 "_law_holds" = true) (k31 : PySem.W.keepIn K (.ref f31) = true)
    (a32 : PySem.W.nsIn K mainGlobals "law" = some (some (.ref f32))) (l32 : K.lookup f32 = some ⟨oc32, od32, .func (PySem.W.fnOf "law" "law" (defArgs s_law) (defBody s_law) (defScope s_law) .none kV32 dc32 pm32 an32 cd32 ct32), sl32⟩) (c32 : PySem.W.codeIn K cd32 "law" = true) (k32 : PySem.W.keepIn K (.ref f32) = true)
    (z_abs : PySem.W.nsIn K mainGlobals "abs" = some none) (z_all : PySem.W.nsIn K mainGlobals "all" = some none) (z_bool : PySem.W.nsIn K mainGlobals "bool" = some none) (z_enumerate : PySem.W.nsIn K mainGlobals "enumerate" = some none) (z_int : PySem.W.nsIn K mainGlobals "int" = some none) (z_isinstance : PySem.W.nsIn K mainGlobals "isinstance" = some none) (z_len : PySem.W.nsIn K mainGlobals "len" = some none) (z_list : PySem.W.nsIn K mainGlobals "list" = some none) (z_max : PySem.W.nsIn K mainGlobals "max" = some none) (z_min : PySem.W.nsIn K mainGlobals "min" = some none) (z_range : PySem.W.nsIn K mainGlobals "range" = some none) (z_sorted : PySem.W.nsIn K mainGlobals "sorted" = some none) (z_str : PySem.W.nsIn K mainGlobals "str" = some none) (z_tuple : PySem.W.nsIn K mainGlobals "tuple" = some none) (z_zip : PySem.W.nsIn K mainGlobals "zip" = some none)
    {tk_UNKNOWN : Tok} (u_UNKNOWN : PySem.W.nsIn K mainGlobals "UNKNOWN" = some (some (Value.str "?" tk_UNKNOWN))) :
    ∃ (fd : FuncData) (cs : List (Addr × Addr)), (∀ (s : Shared) (v : Value), BindsTo s fd ⟨[v], []⟩ [("_law_script", v)]) ∧ (∀ p ∈ cs, h.get? p.2 = some { cls := .none, data := .fields #[] } ∧ PySem.W.CodeHd h p.1 p.2) ∧ ∀ base : Heap, K.In base → base.Ns mainGlobals mg → (∀ p ∈ cs, LamX.TabB base mg p.1 p.2) → FnOkG l.prog w K mg base lawLevel fa fd ["_law_script"] (spLaw K (cs.map (·.2))) := by
  have e := hfa.symm.trans (PySem.W.mg_of X G a32)
  cases e
  have D4 : Df K mg "in_row" s_in_row ["thing", "size"] _ _ := ⟨fun_mk (st := s_in_row) l4 c4 k4, (fun_mk (st := s_in_row) l4 c4 k4).binds (ps := ["thing", "size"]) fun _ _ _ _ _ _ us hl => match us, hl with | [_, _], _ => rfl, PySem.W.mg_of X G a4⟩
  have D5 : Df K mg "all_in_row" s_all_in_row ["thing", "size"] _ _ := ⟨fun_mk (st := s_all_in_row) l5 c5 k5, (fun_mk (st := s_all_in_row) l5 c5 k5).binds (ps := ["thing", "size"]) fun _ _ _ _ _ _ us hl => match us, hl with | [_, _], _ => rfl, PySem.W.mg_of X G a5⟩
  have D6 : Df K mg "nearness" s_nearness ["cell", "wish"] _ _ := ⟨fun_mk (st := s_nearness) l6 c6 k6, (fun_mk (st := s_nearness) l6 c6 k6).binds (ps := ["cell", "wish"]) fun _ _ _ _ _ _ us hl => match us, hl with | [_, _], _ => rfl, PySem.W.mg_of X G a6⟩
  have D7 : Df K mg "needs" s_needs ["size", "cell", "wish"] _ _ := ⟨fun_mk (st := s_needs) l7 c7 k7, (fun_mk (st := s_needs) l7 c7 k7).binds (ps := ["size", "cell", "wish"]) fun _ _ _ _ _ _ us hl => match us, hl with | [_, _, _], _ => rfl, PySem.W.mg_of X G a7⟩
  have D8 : Df K mg "nearest" s_nearest ["table", "wish"] _ _ := ⟨fun_mk (st := s_nearest) l8 c8 k8, (fun_mk (st := s_nearest) l8 c8 k8).binds (ps := ["table", "wish"]) fun _ _ _ _ _ _ us hl => match us, hl with | [_, _], _ => rfl, PySem.W.mg_of X G a8⟩
  have D9 : Df K mg "put_into" s_put_into ["table", "wishes"] _ _ := ⟨fun_mk (st := s_put_into) l9 c9 k9, (fun_mk (st := s_put_into) l9 c9 k9).binds (ps := ["table", "wishes"]) fun _ _ _ _ _ _ us hl => match us, hl with | [_, _], _ => rfl, PySem.W.mg_of X G a9⟩
  have D10 : Df K mg "cells_of" s_cells_of ["size", "wishes"] _ _ := ⟨fun_mk (st := s_cells_of) l10 c10 k10, (fun_mk (st := s_cells_of) l10 c10 k10).binds (ps := ["size", "wishes"]) fun _ _ _ _ _ _ us hl => match us, hl with | [_, _], _ => rfl, PySem.W.mg_of X G a10⟩
  have D11 : Df K mg "filled" s_filled ["size", "wishes"] _ _ := ⟨fun_mk (st := s_filled) l11 c11 k11, (fun_mk (st := s_filled) l11 c11 k11).binds (ps := ["size", "wishes"]) fun _ _ _ _ _ _ us hl => match us, hl with | [_, _], _ => rfl, PySem.W.mg_of X G a11⟩
  have D13 : Df K mg "taken_cells" s_taken_cells ["table"] _ _ := ⟨fun_mk (st := s_taken_cells) l13 c13 k13, (fun_mk (st := s_taken_cells) l13 c13 k13).binds (ps := ["table"]) fun _ _ _ _ _ _ us hl => match us, hl with | [_], _ => rfl, PySem.W.mg_of X G a13⟩
  have D14 : Df K mg "needed_cells" s_needed_cells ["table", "cell"] _ _ := ⟨fun_mk (st := s_needed_cells) l14 c14 k14, (fun_mk (st := s_needed_cells) l14 c14 k14).binds (ps := ["table", "cell"]) fun _ _ _ _ _ _ us hl => match us, hl with | [_, _], _ => rfl, PySem.W.mg_of X G a14⟩
  have D15 : Df K mg "first_gap" s_first_gap ["table"] _ _ := ⟨fun_mk (st := s_first_gap) l15 c15 k15, (fun_mk (st := s_first_gap) l15 c15 k15).binds (ps := ["table"]) fun _ _ _ _ _ _ us hl => match us, hl with | [_], _ => rfl, PySem.W.mg_of X G a15⟩
  have D16 : Df K mg "need_one_another" s_need_one_another ["table", "one", "other"] _ _ := ⟨fun_mk (st := s_need_one_another) l16 c16 k16, (fun_mk (st := s_need_one_another) l16 c16 k16).binds (ps := ["table", "one", "other"]) fun _ _ _ _ _ _ us hl => match us, hl with | [_, _, _], _ => rfl, PySem.W.mg_of X G a16⟩
  have D17 : Df K mg "first_both" s_first_both ["table"] _ _ := ⟨fun_mk (st := s_first_both) l17 c17 k17, (fun_mk (st := s_first_both) l17 c17 k17).binds (ps := ["table"]) fun _ _ _ _ _ _ us hl => match us, hl with | [_], _ => rfl, PySem.W.mg_of X G a17⟩
  have D18 : Df K mg "comes_after_needed" s_comes_after_needed ["table", "cell", "came"] _ _ := ⟨fun_mk (st := s_comes_after_needed) l18 c18 k18, (fun_mk (st := s_comes_after_needed) l18 c18 k18).binds (ps := ["table", "cell", "came"]) fun _ _ _ _ _ _ us hl => match us, hl with | [_, _, _], _ => rfl, PySem.W.mg_of X G a18⟩
  have D19 : Df K mg "first_misfit" s_first_misfit ["table", "cells"] _ _ := ⟨fun_mk (st := s_first_misfit) l19 c19 k19, (fun_mk (st := s_first_misfit) l19 c19 k19).binds (ps := ["table", "cells"]) fun _ _ _ _ _ _ us hl => match us, hl with | [_, _], _ => rfl, PySem.W.mg_of X G a19⟩
  have D20 : Df K mg "ready_cells" s_ready_cells ["table", "came"] _ _ := ⟨fun_mk (st := s_ready_cells) l20 c20 k20, (fun_mk (st := s_ready_cells) l20 c20 k20).binds (ps := ["table", "came"]) fun _ _ _ _ _ _ us hl => match us, hl with | [_, _], _ => rfl, PySem.W.mg_of X G a20⟩
  have D21 : Df K mg "first_going_on" s_first_going_on ["table", "came", "cells"] _ _ := ⟨fun_mk (st := s_first_going_on) l21 c21 k21, (fun_mk (st := s_first_going_on) l21 c21 k21).binds (ps := ["table", "came", "cells"]) fun _ _ _ _ _ _ us hl => match us, hl with | [_, _, _], _ => rfl, PySem.W.mg_of X G a21⟩
  have D23 : Df K mg "verdict" s_verdict ["table"] _ _ := ⟨fun_mk (st := s_verdict) l23 c23 k23, (fun_mk (st := s_verdict) l23 c23 k23).binds (ps := ["table"]) fun _ _ _ _ _ _ us hl => match us, hl with | [_], _ => rfl, PySem.W.mg_of X G a23⟩
  have D24 : Df K mg "shows_order" s_shows_order ["table", "thing"] _ _ := ⟨fun_mk (st := s_shows_order) l24 c24 k24, (fun_mk (st := s_shows_order) l24 c24 k24).binds (ps := ["table", "thing"]) fun _ _ _ _ _ _ us hl => match us, hl with | [_, _], _ => rfl, PySem.W.mg_of X G a24⟩
  have D25 : Df K mg "shows_gap" s_shows_gap ["table", "thing"] _ _ := ⟨fun_mk (st := s_shows_gap) l25 c25 k25, (fun_mk (st := s_shows_gap) l25 c25 k25).binds (ps := ["table", "thing"]) fun _ _ _ _ _ _ us hl => match us, hl with | [_, _], _ => rfl, PySem.W.mg_of X G a25⟩
  have D26 : Df K mg "shows_both" s_shows_both ["table", "thing"] _ _ := ⟨fun_mk (st := s_shows_both) l26 c26 k26, (fun_mk (st := s_shows_both) l26 c26 k26).binds (ps := ["table", "thing"]) fun _ _ _ _ _ _ us hl => match us, hl with | [_, _], _ => rfl, PySem.W.mg_of X G a26⟩
  have D27 : Df K mg "pair_in_row" s_pair_in_row ["thing", "size"] _ _ := ⟨fun_mk (st := s_pair_in_row) l27 c27 k27, (fun_mk (st := s_pair_in_row) l27 c27 k27).binds (ps := ["thing", "size"]) fun _ _ _ _ _ _ us hl => match us, hl with | [_, _], _ => rfl, PySem.W.mg_of X G a27⟩
  have D29 : Df K mg "_law_source" s_law_source ["_law_script", "_law_index"] _ _ := ⟨fun_mk (st := s_law_source) l29 c29 k29, (fun_mk (st := s_law_source) l29 c29 k29).binds (ps := ["_law_script", "_law_index"]) fun _ _ _ _ _ _ us hl => match us, hl with | [_, _], _ => rfl, PySem.W.mg_of X G a29⟩
  have D30 : Df K mg "_law_equal" s_law_equal ["_law_found", "_law_due"] _ _ := ⟨fun_mk (st := s_law_equal) l30 c30 k30, (fun_mk (st := s_law_equal) l30 c30 k30).binds (ps := ["_law_found", "_law_due"]) fun _ _ _ _ _ _ us hl => match us, hl with | [_, _], _ => rfl, PySem.W.mg_of X G a30⟩
  have D31 : Df K mg "_law_holds" s_law_holds ["_law_source_here"] _ _ := ⟨fun_mk (st := s_law_holds) l31 c31 k31, (fun_mk (st := s_law_holds) l31 c31 k31).binds (ps := ["_law_source_here"]) fun _ _ _ _ _ _ us hl => match us, hl with | [_], _ => rfl, PySem.W.mg_of X G a31⟩
  have D32 : Df K mg "law" s_law ["_law_script"] _ _ := ⟨fun_mk (st := s_law) l32 c32 k32, (fun_mk (st := s_law) l32 c32 k32).binds (ps := ["_law_script"]) fun _ _ _ _ _ _ us hl => match us, hl with | [_], _ => rfl, PySem.W.mg_of X G a32⟩
  have T : Bt mg := ⟨PySem.W.mg_none_of X G z_abs, PySem.W.mg_none_of X G z_all, PySem.W.mg_none_of X G z_bool, PySem.W.mg_none_of X G z_enumerate, PySem.W.mg_none_of X G z_int, PySem.W.mg_none_of X G z_isinstance, PySem.W.mg_none_of X G z_len, PySem.W.mg_none_of X G z_list, PySem.W.mg_none_of X G z_max, PySem.W.mg_none_of X G z_min, PySem.W.mg_none_of X G z_range, PySem.W.mg_none_of X G z_sorted, PySem.W.mg_none_of X G z_str, PySem.W.mg_none_of X G z_tuple, PySem.W.mg_none_of X G z_zip, ⟨_, PySem.W.mg_of X G u_UNKNOWN⟩⟩
  obtain ⟨xc8, xP8, xe8, xh8, xg8⟩ := tab_at (tb "nearest" (by simp)) X D8.g l8
  have xq8 : cd8 = .ref xc8 := xe8
  subst xq8
  exact ⟨PySem.W.fnOf "law" "law" (defArgs s_law) (defBody s_law) (defScope s_law) .none kV32 dc32 pm32 an32 cd32 ct32, [(xc8, xP8)], fun s v => .of_eq rfl, List.forall_mem_cons.mpr ⟨⟨xg8, xh8⟩, (fun _ hp => nomatch hp)⟩, fun base _ _ TB => fin T D4 D5 D6 D7 D8 D9 D10 D11 D13 D14 D15 D16 D17 D18 D19 D20 D21 D23 D24 D25 D26 D27 D29 D30 D31 D32 ⟨_, _, _, _, _, _, _, _, rfl, l8, c8⟩ (TB (xc8, xP8) (by simp))⟩

end NS
open PySem PySem.W PyProof.Rows
set_option maxRecDepth 100000 in
set_option maxHeartbeats 0 in
theorem PySem.Challenge.cw_nearslot_k09_known_verdicts_holds : PySem.Challenge.rw_nearslot_k09_known_verdicts.Holds := by
  w_on; o_law; k_head; (case hw => w_witness2)
  k_fill
  refine NS.walkGT ["nearest"] (l := PySem.Challenge.rw_nearslot_k09_known_verdicts) (n := 63) (k := NS.lawLevel) (x := "_law_script") (sp := fun w cs => NS.spLaw _ (cs.map (·.2))) rfl (by decide) rfl ⟨rfl, by decide, by decide⟩ (List.forall_mem_cons.mpr ⟨by kernel_rfl, (fun _ hp => nomatch hp)⟩) (fun _ => by kernel_rfl) (fun w h Y => PySem.W.km_in_of Y) ?F NS.lawStart
  case F =>
    intro w mg fa h KX G hmg tb
    refine' NS.all_mk KX G hmg tb ?a4 ?l4 ?c4 ?k4 ?a5 ?l5 ?c5 ?k5 ?a6 ?l6 ?c6 ?k6 ?a7 ?l7 ?c7 ?k7 ?a8 ?l8 ?c8 ?k8 ?a9 ?l9 ?c9 ?k9 ?a10 ?l10 ?c10 ?k10 ?a11 ?l11 ?c11 ?k11 ?a13 ?l13 ?c13 ?k13 ?a14 ?l14 ?c14 ?k14 ?a15 ?l15 ?c15 ?k15 ?a16 ?l16 ?c16 ?k16 ?a17 ?l17 ?c17 ?k17 ?a18 ?l18 ?c18 ?k18 ?a19 ?l19 ?c19 ?k19 ?a20 ?l20 ?c20 ?k20 ?a21 ?l21 ?c21 ?k21 ?a23 ?l23 ?c23 ?k23 ?a24 ?l24 ?c24 ?k24 ?a25 ?l25 ?c25 ?k25 ?a26 ?l26 ?c26 ?k26 ?a27 ?l27 ?c27 ?k27 ?a29 ?l29 ?c29 ?k29 ?a30 ?l30 ?c30 ?k30 ?a31 ?l31 ?c31 ?k31 ?a32 ?l32 ?c32 ?k32 ?z_abs ?z_all ?z_bool ?z_enumerate ?z_int ?z_isinstance ?z_len ?z_list ?z_max ?z_min ?z_range ?z_sorted ?z_str ?z_tuple ?z_zip ?u_UNKNOWN
    (case a4 => k_is); (case l4 => k_is); (case c4 => k_is); (case k4 => k_is)
    (case a5 => k_is); (case l5 => k_is); (case c5 => k_is); (case k5 => k_is)
    (case a6 => k_is); (case l6 => k_is); (case c6 => k_is); (case k6 => k_is)
    (case a7 => k_is); (case l7 => k_is); (case c7 => k_is); (case k7 => k_is)
    (case a8 => k_is); (case l8 => k_is); (case c8 => k_is); (case k8 => k_is)
    (case a9 => k_is); (case l9 => k_is); (case c9 => k_is); (case k9 => k_is)
    (case a10 => k_is); (case l10 => k_is); (case c10 => k_is); (case k10 => k_is)
    (case a11 => k_is); (case l11 => k_is); (case c11 => k_is); (case k11 => k_is)
    (case a13 => k_is); (case l13 => k_is); (case c13 => k_is); (case k13 => k_is)
    (case a14 => k_is); (case l14 => k_is); (case c14 => k_is); (case k14 => k_is)
    (case a15 => k_is); (case l15 => k_is); (case c15 => k_is); (case k15 => k_is)
    (case a16 => k_is); (case l16 => k_is); (case c16 => k_is); (case k16 => k_is)
    (case a17 => k_is); (case l17 => k_is); (case c17 => k_is); (case k17 => k_is)
    (case a18 => k_is); (case l18 => k_is); (case c18 => k_is); (case k18 => k_is)
    (case a19 => k_is); (case l19 => k_is); (case c19 => k_is); (case k19 => k_is)
    (case a20 => k_is); (case l20 => k_is); (case c20 => k_is); (case k20 => k_is)
    (case a21 => k_is); (case l21 => k_is); (case c21 => k_is); (case k21 => k_is)
    (case a23 => k_is); (case l23 => k_is); (case c23 => k_is); (case k23 => k_is)
    (case a24 => k_is); (case l24 => k_is); (case c24 => k_is); (case k24 => k_is)
    (case a25 => k_is); (case l25 => k_is); (case c25 => k_is); (case k25 => k_is)
    (case a26 => k_is); (case l26 => k_is); (case c26 => k_is); (case k26 => k_is)
    (case a27 => k_is); (case l27 => k_is); (case c27 => k_is); (case k27 => k_is)
    (case a29 => k_is); (case l29 => k_is); (case c29 => k_is); (case k29 => k_is)
    (case a30 => k_is); (case l30 => k_is); (case c30 => k_is); (case k30 => k_is)
    (case a31 => k_is); (case l31 => k_is); (case c31 => k_is); (case k31 => k_is)
    (case a32 => k_is); (case l32 => k_is); (case c32 => k_is); (case k32 => k_is)
    (case z_abs => k_is)
    (case z_all => k_is)
    (case z_bool => k_is)
    (case z_enumerate => k_is)
    (case z_int => k_is)
    (case z_isinstance => k_is)
    (case z_len => k_is)
    (case z_list => k_is)
    (case z_max => k_is)
    (case z_min => k_is)
    (case z_range => k_is)
    (case z_sorted => k_is)
    (case z_str => k_is)
    (case z_tuple => k_is)
    (case z_zip => k_is)
    (case u_UNKNOWN => k_is)

