import PyProof.Rows.All
import Wide.All
import OpenK.AllK
import Wide.FinOn
import HandS.ForMost
import HandS.Zip
import HandS.IsInst
import HandS.Defaults

import KE.KMinKey
import HandS.Style
import KE.KRevSl
import HandS.TupAny
import HandS.TupMul
import HandS.More
import HandS.Conv
import HandS.Zip0
import HandS.Walk
import HandS.DictComp
import HandS.Strs
import HandS.SetFor
import PyProof.Rows.RegFStrParts
import PySem.Challenge.RW_nearslot_k07_reasons_shown_or_not
set_option Elab.async false
set_option linter.all false
set_option maxRecDepth 100000
set_option maxHeartbeats 4000000
namespace NS
open PySem L2
/-! ### a def of the text, what it keeps -/
structure Df (K : PySem.W.Frag) (mg : Str → Option Value) (x : Str) (st : Stmt) (ps : List Str) (f : Addr) (fd : FuncData) : Prop where
  F : Fun K x x st f fd
  b : Binds K fd ps []
  g : mg x = some (.ref f)
structure Kn (P : Program) (w : World) (K : PySem.W.Frag) (mg : Str → Option Value) (base : Heap) (k : Nat) (x : Str) (st : Stmt) (ps : List Str) (sp : Sp) (f : Addr) (fd : FuncData) : Prop where
  D : Df K mg x st ps f fd
  G : FnOk P w K mg base CX0 k f fd ps sp
/-! ### a call by keywords alone -/
def tCallN0 (m : Nat) (sp : Sp) (gV : List V → List V → List V) (E : XK) (tk : TA) : TE := fun σ H Q => tk σ H fun zs H2 => zs.length = m ∧ sp (gV [] zs) H2 Q E
theorem pe_callN0 {X : Cx} {CX : CXT} {k : Nat} {f : Addr} {fd : FuncData} {ps ks : List Str} {sp : Sp} {E : XK} {x : Str} {p pos : Pos} {kws : List Keyword} {tk : TA} {g : List Value → List Value → List Value} {gV : List V → List V → List V}
    (F : FnOk X.prog X.w X.K X.mg X.base CX k f fd ps sp) (hr : Room k X.A) (hg : Gl X x) (hm : X.mg x = some (.ref f)) (hk : PySem.W.keepIn X.K (.ref f) = true) (hb : KBn X.K fd ps 0 ks g gV) (hx : Passes CX X E)
    (hkw : PK X kws tk) (hall : (backToKw pos (keywordEach kws X.env)).all (·.1.isSome) = true := by rfl) (hks : (backToKw pos (keywordEach kws X.env)).filterMap (·.1) = ks := by rfl)
    (hdb : (x == ("__debug__" : Str)) = false := by decide)
    (hpl : (backToKw pos (keywordEach kws X.env)).any (·.1.isNone) = false := by rfl) :
    PE X (.Call (.Name x p) [] kws pos) (tCallN0 ks.length sp gV E tk) := by
  refine ⟨fun pins s σ H Q I h => ?_⟩
  refine PySem.wpAny_Call_Name_kw (ld_glob I hg hm ?_ hdb)
  refine PySem.W.callWith_KW0 (h₀ := X.base) I.ok.mod.kin hk hall (thn (hkw.run pos pins s σ H _ I h) fun ws s2 ⟨zs, H2, I2, rz, l2, q2⟩ => ⟨I2.kIn, ?_⟩) hpl
  rw [hks]
  exact run_fnN F hr hb hx I2 .nil rz rfl l2 q2
/-! ### heaps -/
theorem same_upd {H : Hp} {p : Addr} {o : HO} (h : H p = none) : Same H (upd H p o) := fun b x e => by
  rw [upd_ne (ne_of_none e h)]
  exact e
theorem Same.tup {K : PySem.W.Frag} {H H' : Hp} {a : Addr} {xs : List V} (e : Same H H') (h : SqT K H a xs) : SqT K H' a xs := by
  rcases h with (h | ⟨o, h⟩) | h
  · exact .inl (.inl (e _ _ h))
  · exact .inl (.inr ⟨o, e _ _ h⟩)
  · exact .inr h
theorem sqT {K : PySem.W.Frag} {H : Hp} {a : Addr} {xs : List V} (h : H a = some (.tup xs)) : SqT K H a xs := .inl (.inl h)
theorem sqL {K : PySem.W.Frag} {H : Hp} {a : Addr} {xs : List V} (h : H a = some (.lst xs)) : SqL K H a xs := .inl (.inl h)
/-- a new object that changes later on -/
theorem Same.mut {H H' : Hp} {p : Addr} {o : HO} (e : Same H H') (h : H p = none) : Same H (upd H' p o) := fun a u ha => by
  rw [upd_ne (ne_of_none ha h)]
  exact e a u ha
mutual
theorem dp_same {K : PySem.W.Frag} {H H' : Hp} (e : Same H H') : ∀ {v : V} {d : PyData}, Dp K H v d → Dp K H' v d
  | _, _, .non => .non
  | _, _, .bl b => .bl b
  | _, _, .int i => .int i
  | _, _, .str x => .str x
  | _, _, .lst h a => .lst (e.seq h) (dp_sameA e a)
  | _, _, .tup h a => .tup (Same.tup e h) (dp_sameA e a)
theorem dp_sameA {K : PySem.W.Frag} {H H' : Hp} (e : Same H H') : ∀ {vs : List V} {ds : List PyData}, DpAll K H vs ds → DpAll K H' vs ds
  | _, _, .nil => .nil
  | _, _, .cons a b => .cons (dp_same e a) (dp_sameA e b)
end
theorem small {n : Nat} (h : n ≤ 1000) : n ≤ sizeLine := Nat.le_of_lt (small1000 h)
/-! ### types -/
theorem tyL {K : PySem.W.Frag} {H : Hp} {a : Addr} {xs : List V} (h : SqL K H a xs) : TyX K H (.ref a) (.type "list") := by
  rcases h with (h | ⟨o, h⟩) | ⟨o, its, n, h, c, _⟩
  · exact .base (.lst h)
  · exact .base (.frz h)
  · exact .kList h c
theorem tyT {K : PySem.W.Frag} {H : Hp} {a : Addr} {xs : List V} (h : SqT K H a xs) : TyX K H (.ref a) (.type "tuple") := by
  rcases h with (h | ⟨o, h⟩) | ⟨o, its, n, h, c, _⟩
  · exact .base (.tup h)
  · exact .fTuple h
  · exact .kTuple h c
theorem kit_y {K : PySem.W.Frag} {t : Value} {b : String} {cs : List Value} (h : PySem.W.kitOne K t (.type b) = some true) : PySem.W.kitAny K t (.type b :: cs) = some true := kitAny_cons h (fun z => nomatch z) fun _ => rfl
theorem kit_n {K : PySem.W.Frag} {t : Value} {b : String} {cs : List Value} {r : Bool} (h : PySem.W.kitOne K t (.type b) = some false) (hr : PySem.W.kitAny K t cs = some r) : PySem.W.kitAny K t (.type b :: cs) = some r := kitAny_cons h (fun _ => hr) fun z => nomatch z
theorem dec_t {p : Prop} [Decidable p] (h : p) {Q : Bool → Prop} (q : Q true) : Q (decide p) := by
  rw [decide_eq_true h]
  exact q
/-! ### comprehensions over zip -/
theorem lc_zipL {K : PySem.W.Frag} {a b : Addr} {xs ys : List V} {g : TG} {tt : TT} {te : TE} {vs : List Nat} {σ : L2.St} {H1 : Hp} {D : Addr} {Qd : Hp → Prop} (hl : xs.length = ys.length) (Pv : Nat → Hp → Prop) (h0 : Pv 0 (upd H1 D (.lst []))) (hq : ∀ i H, Pv i H → SqL K H a xs ∧ SqL K H b ys)
    (hs : ∀ (i : Nat) (x y : V) (T : Addr) (H : Hp), xs[i]? = some x → ys[i]? = some y → Pv i H → H T = none → g (.ref T) (wipe σ vs) (upd H T (.tup [x, y])) fun σ2 H2 => wipe σ2 vs = wipe σ vs ∧ tt σ2 H2 fun b H3 =>
      if b = true then te σ2 H3 fun y H4 => ∃ acc, H4 D = some (.lst acc) ∧ acc.length < sizeLine ∧ Pv (i + 1) (upd H4 D (.lst (acc ++ [y]))) else Pv (i + 1) H3) (hd : ∀ H, Pv xs.length H → Qd H) :
    ∃ W : Nat → Nat → Hp → Prop, (∃ m, W 0 m (upd H1 D (.lst []))) ∧ ∀ i m H, W i m H →
      ((Itz K a b).stop i H ∧ Qd H) ∨ ((Itz K a b).go i H ∧ ∃ Nx : Hp → Prop, (∀ H', Nx H' → ∃ m', m' < m ∧ W (i + 1) m' H') ∧ ∀ x H', (Itz K a b).yld i H x H' → g x (wipe σ vs) H' fun σ2 H2 => wipe σ2 vs = wipe σ vs ∧ tt σ2 H2 fun b H3 =>
        if b = true then te σ2 H3 fun y H4 => ∃ acc, H4 D = some (.lst acc) ∧ acc.length < sizeLine ∧ Nx (upd H4 D (.lst (acc ++ [y]))) else Nx H3) := by
  refine ⟨fun i m H => m = xs.length - i ∧ i ≤ xs.length ∧ Pv i H, ⟨xs.length, by simp, Nat.zero_le _, h0⟩, ?_⟩
  rintro i m H ⟨rfl, hi, p⟩
  obtain ⟨qx, qy⟩ := hq i H p
  by_cases hlt : i < xs.length
  · have hx : xs[i]? = some xs[i] := List.getElem?_eq_getElem hlt
    have hlt2 : i < ys.length := by omega
    have hy : ys[i]? = some ys[i] := List.getElem?_eq_getElem hlt2
    refine .inr ⟨⟨xs, ys, _, _, qx, qy, hx, hy⟩, Pv (i + 1), fun H' p' => ⟨xs.length - (i + 1), by omega, rfl, hlt, p'⟩, fun v H' y => ?_⟩
    obtain ⟨T, x', y', rfl, hT, rfl, f1, f2⟩ := y
    exact hs i x' y' T H (f1 xs qx) (f2 ys qy) p hT
  · have e : i = xs.length := by omega
    subst e
    exact .inl ⟨⟨xs, ys, qx, qy, Or.inl (Nat.le_refl _)⟩, hd H p⟩
theorem lc_zipT {K : PySem.W.Frag} {a b : Addr} {xs ys : List V} {g : TG} {tt : TT} {te : TE} {vs : List Nat} {σ : L2.St} {H1 : Hp} {D : Addr} {Qd : Hp → Prop} (hl : xs.length = ys.length) (Pv : Nat → Hp → Prop) (h0 : Pv 0 (upd H1 D (.lst []))) (hq : ∀ i H, Pv i H → SqT K H a xs ∧ SqT K H b ys)
    (hs : ∀ (i : Nat) (x y : V) (T : Addr) (H : Hp), xs[i]? = some x → ys[i]? = some y → Pv i H → H T = none → g (.ref T) (wipe σ vs) (upd H T (.tup [x, y])) fun σ2 H2 => wipe σ2 vs = wipe σ vs ∧ tt σ2 H2 fun b H3 =>
      if b = true then te σ2 H3 fun y H4 => ∃ acc, H4 D = some (.lst acc) ∧ acc.length < sizeLine ∧ Pv (i + 1) (upd H4 D (.lst (acc ++ [y]))) else Pv (i + 1) H3) (hd : ∀ H, Pv xs.length H → Qd H) :
    ∃ W : Nat → Nat → Hp → Prop, (∃ m, W 0 m (upd H1 D (.lst []))) ∧ ∀ i m H, W i m H →
      ((RZ.ItzT K a b).stop i H ∧ Qd H) ∨ ((RZ.ItzT K a b).go i H ∧ ∃ Nx : Hp → Prop, (∀ H', Nx H' → ∃ m', m' < m ∧ W (i + 1) m' H') ∧ ∀ x H', (RZ.ItzT K a b).yld i H x H' → g x (wipe σ vs) H' fun σ2 H2 => wipe σ2 vs = wipe σ vs ∧ tt σ2 H2 fun b H3 =>
        if b = true then te σ2 H3 fun y H4 => ∃ acc, H4 D = some (.lst acc) ∧ acc.length < sizeLine ∧ Nx (upd H4 D (.lst (acc ++ [y]))) else Nx H3) := by
  refine ⟨fun i m H => m = xs.length - i ∧ i ≤ xs.length ∧ Pv i H, ⟨xs.length, by simp, Nat.zero_le _, h0⟩, ?_⟩
  rintro i m H ⟨rfl, hi, p⟩
  obtain ⟨qx, qy⟩ := hq i H p
  by_cases hlt : i < xs.length
  · have hx : xs[i]? = some xs[i] := List.getElem?_eq_getElem hlt
    have hlt2 : i < ys.length := by omega
    have hy : ys[i]? = some ys[i] := List.getElem?_eq_getElem hlt2
    refine .inr ⟨⟨xs, ys, _, _, qx, qy, hx, hy⟩, Pv (i + 1), fun H' p' => ⟨xs.length - (i + 1), by omega, rfl, hlt, p'⟩, fun v H' y => ?_⟩
    obtain ⟨T, x', y', rfl, hT, rfl, f1, f2⟩ := y
    exact hs i x' y' T H (f1 xs qx) (f2 ys qy) p hT
  · have e : i = xs.length := by omega
    subst e
    exact .inl ⟨⟨xs, ys, qx, qy, Or.inl (Nat.le_refl _)⟩, hd H p⟩
/-! ### the source of draws -/
/-- the object of a source that may be drawn from n times more -/
def SrcO (n : Nat) (o : HO) : Prop := ∃ a b c : Int, o = .lst [.int a, .int b, .int c] ∧ 0 ≤ a ∧ 0 ≤ b ∧ b < 2147483648 ∧ 0 ≤ c ∧ c + (n : Int) ≤ 1000000000000
def Src (H : Hp) (s : Addr) (n : Nat) : Prop := ∃ o, H s = some o ∧ SrcO n o
theorem SrcO.mono {n m : Nat} {o : HO} (h : SrcO n o) (l : m ≤ n) : SrcO m o := by
  obtain ⟨a, b, c, e, h1, h2, h3, h4, h5⟩ := h
  exact ⟨a, b, c, e, h1, h2, h3, h4, by omega⟩
theorem Src.mono {H : Hp} {s : Addr} {n m : Nat} (h : Src H s n) (l : m ≤ n) : Src H s m := let ⟨o, e, q⟩ := h; ⟨o, e, q.mono l⟩
def dist (c w : Int) : Int := if c - w < 0 then -(c - w) else c - w
def near (w c x : Int) : Bool := HT.lexLt [dist x w, x] [dist c w, c]
/-- what an object in c with the wish w needs, of a row of n cells -/
def needsL (n : Nat) (c w : Int) : List Int := ((List.range n).map fun (i : Nat) => (i : Int)).filter (near w c)
theorem needsL_succ (n : Nat) (c w : Int) : needsL (n + 1) c w = needsL n c w ++ (if near w c (n : Int) = true then [(n : Int)] else []) := by
  unfold needsL
  rw [List.range_succ, List.map_append, List.filter_append]
  congr 1
  simp only [List.map_cons, List.map_nil, List.filter_cons, List.filter_nil]
theorem needsL_len (n : Nat) (c w : Int) : (needsL n c w).length ≤ n := by
  unfold needsL
  refine Nat.le_trans (List.length_filter_le _ _) ?_
  simp
end NS
namespace NS
theorem src_a (z : Int) (k : Bool) : 0 ≤ (if z < 0 then -z else z) * (if k = true then 1 else 0) := by
  have h : 0 ≤ (if z < 0 then -z else z) := by split <;> omega
  generalize (if z < 0 then -z else z) = y at h
  cases k
  · rw [if_neg Bool.false_ne_true, Int.mul_zero]
    exact Int.le_refl 0
  · rw [if_pos rfl, Int.mul_one]
    exact h
theorem cmul_b (x : Int) (k : Bool) : L2.CMul x (if k = true then 1 else 0) := .inr (by cases k <;> exact ⟨by decide, by decide⟩)
section
open PySem L2
variable {X : Cx} {K : PySem.W.Frag}
theorem op_ltTK (e : X.K = K) (hu : X.A.units < cLine) : OpR X (compareOp .Lt) (rLtT K) := by subst e; exact op_ltT hu
theorem ix_listK (e : X.K = K) : IxR X (rIxL K) := by subst e; exact ix_list
theorem ix_tupK (e : X.K = K) : IxR X (rIxT K) := by subst e; exact ix_tup
theorem call_lenK (e : X.K = K) : CallR X (.builtin "len") (fun xs H Q => ∃ p ys, xs = [.ref p] ∧ (SqL K H p ys ∨ SqT K H p ys) ∧ Q (.int ys.length) H) := by subst e; exact call_len_seq
theorem call_isiKK (e : X.K = K) : CallR X (.builtin "isinstance") (rIsi K) := by subst e; exact call_isi
theorem call_isiTK (e : X.K = K) : CallR X (.builtin "isinstance") (rIsiT K) := by subst e; exact call_isiT
theorem op_inK (e : X.K = K) : OpR X (compareOp .In) (rIn K false) := by subst e; exact op_in_seq
theorem op_notInK (e : X.K = K) : OpR X (compareOp .NotIn) (rIn K true) := by subst e; exact op_notIn_seq
theorem cr_allK (e : X.K = K) (hc : X.calm = true) : CallR X (.builtin "all") (rAll K) := by subst e; exact cr_all hc
theorem cr_anyK (e : X.K = K) (hc : X.calm = true) : CallR X (.builtin "any") (rAny K) := by subst e; exact cr_any hc
theorem call_tupleK (e : X.K = K) : CallR X (.type "tuple") (fun xs H Q => ∃ p ys, xs = [.ref p] ∧ ((SqL K H p ys ∧ ∀ l, H l = none → Q (.ref l) (upd H l (.tup ys))) ∨ (SqT K H p ys ∧ Q (.ref p) H))) := by subst e; exact call_tuple_of
theorem call_listK (e : X.K = K) : CallR X (.type "list") (fun xs H Q => ∃ p ys, xs = [.ref p] ∧ (SqL K H p ys ∨ SqT K H p ys) ∧ ∀ l, H l = none → Q (.ref l) (upd H l (.lst ys))) := by subst e; exact call_list_of
theorem op_eqDK (e : X.K = K) (hu : X.A.units + 64 < cLine) : OpR X (compareOp .Eq) (rEqD K) := by subst e; exact op_eqD hu
theorem op_neDK (e : X.K = K) (hu : X.A.units + 64 < cLine) : OpR X (compareOp .NotEq) (rNeD K) := by subst e; exact op_neD hu
theorem pg_tupK {es : List Expr} {k : Nat} {pos : Pos} {t : TGs} {n : Nat} (e : X.K = K) (hc : X.calm = true) (h : PGs X es t)
    (hn : (assignEach es X.env).length = n := by rfl) (hst : (assignEach es X.env).findIdx? (·.1) = none := by rfl) : PG X (.Tuple es k pos) (gTup K n t) := by subst e; exact pg_tup hc h hn hst
end
end NS
namespace NS
open PySem L2
/-- all but s stays -/
def Stay (s : Addr) (H H' : Hp) : Prop := ∀ b o, b ≠ s → H b = some o → H' b = some o
theorem Stay.refl (s : Addr) (H : Hp) : Stay s H H := fun _ _ _ h => h
theorem Stay.trans {s : Addr} {H H1 H2 : Hp} (a : Stay s H H1) (b : Stay s H1 H2) : Stay s H H2 := fun c o n h => b c o n (a c o n h)
theorem stay_upd {s : Addr} {H : Hp} {o : HO} : Stay s H (upd H s o) := fun b x n e => by
  rw [upd_ne n]
  exact e
theorem Stay.of {s : Addr} {H H' : Hp} (e : Same H H') : Stay s H H' := fun b o _ h => e b o h
theorem same_stay {s : Addr} {H H' : Hp} {o : HO} (hn : H s = none) (e : Stay s (upd H s o) H') : Same H H' := fun b x h => by
  have nb : b ≠ s := ne_of_none h hn
  exact e b x nb (by rw [upd_ne nb]; exact h)
theorem Stay.mut {s : Addr} {H H' : Hp} {p : Addr} {o : HO} (e : Stay s H H') (h : H p = none) : Stay s H (upd H' p o) := fun a u n ha => by
  rw [upd_ne (ne_of_none ha h)]
  exact e a u n ha
theorem Stay.seq {K : PySem.W.Frag} {s : Addr} {H H' : Hp} {a : Addr} {xs : List V} (e : Stay s H H') (n : a ≠ s) (h : SqL K H a xs) : SqL K H' a xs := by
  rcases h with (h | ⟨o, h⟩) | h
  · exact .inl (.inl (e _ _ n h))
  · exact .inl (.inr ⟨o, e _ _ n h⟩)
  · exact .inr h
theorem Stay.tup {K : PySem.W.Frag} {s : Addr} {H H' : Hp} {a : Addr} {xs : List V} (e : Stay s H H') (n : a ≠ s) (h : SqT K H a xs) : SqT K H' a xs := by
  rcases h with (h | ⟨o, h⟩) | h
  · exact .inl (.inl (e _ _ n h))
  · exact .inl (.inr ⟨o, e _ _ n h⟩)
  · exact .inr h
/-! ### data -/
def dT (ns : List Int) : PyData := .tuple (ns.map PyData.int)
def dL (ns : List Int) : PyData := .list (ns.map PyData.int)
theorem dp_ints {K : PySem.W.Frag} {H : Hp} : ∀ ns : List Int, DpAll K H (ns.map V.int) (ns.map PyData.int)
  | [] => .nil
  | n :: ns => .cons (.int n) (dp_ints ns)
theorem dp_T {K : PySem.W.Frag} {H : Hp} {a : Addr} {ns : List Int} (h : SqT K H a (ns.map V.int)) : Dp K H (.ref a) (dT ns) := .tup h (dp_ints ns)
theorem dp_L {K : PySem.W.Frag} {H : Hp} {a : Addr} {ns : List Int} (h : SqL K H a (ns.map V.int)) : Dp K H (.ref a) (dL ns) := .lst h (dp_ints ns)
theorem atI_neg1 (x : Int) (r : List Int) : atI ((x :: r).map V.int) (-1) = some (.int ((x :: r).getLast (List.cons_ne_nil x r))) := by
  have hz : ((x :: r).map V.int) = ((x :: r).dropLast.map V.int) ++ [.int ((x :: r).getLast (List.cons_ne_nil _ _))] := by
    rw [← List.map_singleton, ← List.map_append, List.dropLast_concat_getLast]
  rw [hz]
  exact atI_last _ _
/-- the last and the first of what is needed lie beside the cell -/
def edgeB (n : Nat) (c w : Int) : Bool := match needsL n c w with
  | [] => true
  | x :: r => decide ((x :: r).getLast (List.cons_ne_nil x r) + 1 = c) || decide (x - 1 = c)
theorem edge_all : ((List.range 13).all fun n => (List.range n).all fun c => (List.range n).all fun w => edgeB n (c : Nat) (w : Nat)) = true := by decide +kernel
theorem edge {n c w : Nat} (hn : n ≤ 12) (hc : c < n) (hw : w < n) : edgeB n (c : Int) (w : Int) = true := by
  have h := edge_all
  rw [List.all_eq_true] at h
  have h1 := h n (List.mem_range.mpr (by omega))
  rw [List.all_eq_true] at h1
  have h2 := h1 c (List.mem_range.mpr hc)
  rw [List.all_eq_true] at h2
  exact h2 w (List.mem_range.mpr hw)
end NS
namespace NS
open PySem L2
theorem lay_ints : ∀ ns : List Int, PyData.canLayAll0 (ns.map PyData.int) = true
  | [] => rfl
  | _ :: r => by simp [PyData.canLayAll0, PyData.canLay0, lay_ints r]
theorem dep_ints : ∀ ns : List Int, PyData.depthAll (ns.map PyData.int) = 0
  | [] => rfl
  | _ :: r => by simp [PyData.depthAll, PyData.depth, dep_ints r]
theorem sh_T (ns : List Int) : SeqAt.shaped (dT ns) = true := by
  simp [SeqAt.shaped, dT, PyData.canLay0, PyData.depth, lay_ints, dep_ints]
theorem sh_L (ns : List Int) : SeqAt.shaped (dL ns) = true := by
  simp [SeqAt.shaped, dL, PyData.canLay0, PyData.depth, lay_ints, dep_ints]
end NS
namespace NS
open PySem L2
theorem nd_int {a b : Int} (h : a = b) (c : (!decide (V.int a = V.int b)) = true) : False := by
  rw [h, decide_eq_true rfl] at c
  cases c
end NS

/-! ### min of a list of tuples of ints -/
namespace NS
open PySem PySem.Spec PyProof.Rows L2
theorem lex_irr : ∀ a : List Int, HT.lexLt a a = false
  | [] => rfl
  | x :: xs => by rw [HT.lexLt_cons, if_pos rfl]; exact lex_irr xs
theorem lex_trans : ∀ {a b c : List Int}, HT.lexLt a b = true → HT.lexLt b c = true → HT.lexLt a c = true
  | [], [], _, h, _ => by cases h
  | [], _ :: _, [], _, h => by rw [HT.lexLt_cons_nil] at h; cases h
  | [], _ :: _, _ :: _, _, _ => rfl
  | _ :: _, [], _, h, _ => by rw [HT.lexLt_cons_nil] at h; cases h
  | _ :: _, _ :: _, [], _, h => by rw [HT.lexLt_cons_nil] at h; cases h
  | x :: xs, y :: ys, z :: zs, h1, h2 => by
    rw [HT.lexLt_cons] at h1 h2 ⊢
    by_cases e1 : x = y
    · rw [if_pos e1] at h1
      by_cases e2 : y = z
      · rw [if_pos e2] at h2
        rw [if_pos (e1.trans e2)]
        exact lex_trans h1 h2
      · rw [if_neg e2] at h2
        rw [if_neg (by omega), e1]
        exact h2
    · rw [if_neg e1] at h1
      have l1 : x < y := of_decide_eq_true h1
      by_cases e2 : y = z
      · rw [if_neg (by omega)]
        exact decide_eq_true (by omega)
      · rw [if_neg e2] at h2
        have l2 : y < z := of_decide_eq_true h2
        rw [if_neg (by omega)]
        exact decide_eq_true (by omega)
section
variable {prog : Program} {w : World} {A : Around} {E : Value → Shared → Prop} {s : Shared} {l S I : Addr} {vs : List Value} {R : Result → Shared → Prop} {Q : Value → Shared → Prop}
/-- the items' numbers, as they stand in h -/
def TupsAt (h : Heap) (vs : List Value) (nss : Nat → List Int) : Prop := ∀ (i : Nat) (v : Value), vs[i]? = some v → ∃ p items, v = .ref p ∧ IsTup h p items ∧ IntsAre items.toList (nss i)
theorem minT_loop {h₀ : Heap} (nss : Nat → List Int) (hh : A.handled = none) (hu : A.units + 1 < cLine) (hl : h₀.IsList l vs.toArray) (hT : TupsAt h₀ vs nss) (hlI : l ≠ I) (hSI : S ≠ I) (nS : h₀.get? S = none) (nI : h₀.get? I = none)
    (hR : ∀ i v h' tk', vs[i]? = some v → (∀ j, j < vs.length → HT.lexLt (nss j) (nss i) = false) → (∀ b o, h₀.get? b = some o → h'.get? b = some o) → R (.ok (.ret v)) { s with heap := h', toks := tk' }) :
    ∀ (r j i : Nat) (h : Heap) (tk : Nat) (vb : Value) (c : Nat), vs.length - (j + 1) = r → j + 1 ≤ vs.length → (∀ b o, h₀.get? b = some o → h.get? b = some o) →
      h.get? S = some (seqObj "list" #[vb, vb] c) → h.IsListIter I l (j + 1) → vs[i]? = some vb → i ≤ j → (∀ j', j' ≤ j → HT.lexLt (nss j') (nss i) = false) →
      codeAny (model prog w) A (.builtin "min.loop" ⟨[.ref I, .none, .ref S], []⟩) R { s with heap := h, toks := tk } := by
  have hname : (toString "min" ++ toString ".loop" : String) = "min.loop" := by decide
  have W := Walks.list (prog := prog) (w := w) (A := A.in1) hh I l hlI vs.toArray
  have hsz : vs.toArray.size = vs.length := List.size_toArray ..
  have listAt : ∀ h : Heap, (∀ b o, h₀.get? b = some o → h.get? b = some o) → h.IsList l vs.toArray := fun h k => hl.at fun o e => k l o e
  have neS : ∀ b o, h₀.get? b = some o → b ≠ S := fun b o e z => by rw [z, nS] at e; cases e
  have neI : ∀ b o, h₀.get? b = some o → b ≠ I := fun b o e z => by rw [z, nI] at e; cases e
  intro r
  induction r with
  | zero =>
    intro j i h tk vb c hr hj k gS hit hvb hij hbest
    have hin : j + 1 = vs.length := by omega
    refine codeAny_builtin PySem.F.entry_min_loop ?_
    rw [Around.under_plainId PySem.F.plain_min_loop _]
    show wpAny _ A.in1 (seqItems? (.ref S) >>= _) _ _ _
    refine wpAny_bind (wpAny_seqItems gS rfl ?_)
    show wpAny _ A.in1 (tryCatch (pyNext (.ref I)) _ >>= _) _ _ _
    refine wpAny_bind (wpAny_tryCatch (W.done _ _ _ ⟨by rw [hsz, ← hin]; exact hit, listAt h k⟩ fun h' tk' hk' => ?_))
    have hS' := hk' S _ (by simpa using hSI) gS
    have s1 := Heap.SameBut.update h' S (Obj.mapSeq fun _ => (#[] : Array Value))
    show wpAny _ A.in1 (updateSeq S (fun _ => #[]) >>= _) _ _ _
    refine wpAny_bind ?_
    refine wpAny_updateSeq hS' rfl (wpAny_bind (wpAny_letGo (wpAny_pure ?_)))
    exact hR i vb _ _ hvb (fun j' hj' => hbest j' (by omega)) fun b o e => (s1.2 b (neS b o e)).trans (hk' b o (by simpa using neI b o e) (k b o e))
  | succ r ih =>
    intro j i h tk vb c hr hj k gS hit hvb hij hbest
    have hlt : j + 1 < vs.length := by omega
    refine codeAny_builtin PySem.F.entry_min_loop ?_
    rw [Around.under_plainId PySem.F.plain_min_loop _]
    show wpAny _ A.in1 (seqItems? (.ref S) >>= _) _ _ _
    refine wpAny_bind (wpAny_seqItems gS rfl ?_)
    show wpAny _ A.in1 (tryCatch (pyNext (.ref I)) _ >>= _) _ _ _
    refine wpAny_bind (wpAny_tryCatch (W.item (j + 1) _ _ _ (by rw [hsz]; exact hlt) ⟨hit, listAt h k⟩ fun v h' tk' hP hst' hk' => ?_))
    have hv : vs[j + 1]? = some v := by simpa using hP
    have gS' := hk' S _ (by simpa using hSI) gS
    have k' : ∀ b o, h₀.get? b = some o → h'.get? b = some o := fun b o e => hk' b o (by simpa using neI b o e) (k b o e)
    obtain ⟨p1, it1, rfl, t1, i1⟩ := hT _ _ hv
    obtain ⟨p2, it2, rfl, t2, i2⟩ := hT _ _ hvb
    obtain ⟨⟨cls, dd, data, sl⟩, ho, hc, n, hd⟩ := id t1
    obtain ⟨⟨cls2, dd2, data2, sl2⟩, ho2, hc2, n2, hd2⟩ := id t2
    simp only at hc hd hc2 hd2
    subst hc hd hc2 hd2
    show wpAny _ A.in1 (pure (Value.ref p1) >>= _) _ _ _
    refine wpAny_bind (wpAny_pure ?_)
    show wpAny _ A.in1 (tryCatch (holding [.ref p1, .ref p1] (richCompare .Lt (.ref p1) (.ref p2) >>= _)) _ >>= _) _ _ _
    refine wpAny_bind (wpAny_tryCatch (wpAny_holding (wpAny_bind (richCompare_meets_room (op := .Lt) ⟨_, k' _ _ ho, rfl⟩ ⟨_, k' _ _ ho2, rfl⟩ PySem.F.slot_tuple_lt PySem.F.entry_tuple_lt (PySem.F.args_tuple_lt_2 _ _) (HT.tuple_lt_ints p1 p2 it1 it2 n n2 dd dd2 sl sl2 (nss (j + 1)) (nss i) i1 i2)
      ⟨k' _ _ ho, k' _ _ ho2, (fun x => nomatch x), ?_⟩ hu))))
    refine wpAny_bind (wpAny_holding (wpAny_truthy_bool ?_))
    refine wpAny_bind (wpAny_letGo (wpAny_pure ?_))
    by_cases hb' : HT.lexLt (nss (j + 1)) (nss i) = true
    · have s1 := Heap.SameBut.update h' S (Obj.mapSeq fun _ => #[Value.ref p1, Value.ref p1])
      obtain ⟨c2, hc2⟩ : ∃ c2, (h'.update S (Obj.mapSeq fun _ => #[Value.ref p1, Value.ref p1])).get? S = some (seqObj "list" #[Value.ref p1, Value.ref p1] c2) := ⟨_, get?_update_seq gS' fun _ => #[Value.ref p1, Value.ref p1]⟩
      simp only [hb', if_true]
      refine wpAny_bind ?_
      refine wpAny_updateSeq gS' rfl (wpAny_bind (wpAny_letGo ?_))
      rw [hname]
      refine wpAny_pure ⟨plainId_quiet PySem.F.plain_min_loop _, ih (j + 1) (j + 1) _ _ (.ref p1) c2 (by omega) hlt (fun b o e => (s1.2 b (neS b o e)).trans (k' b o e)) hc2 ?_ hv (Nat.le_refl _) fun j' hj' => ?_⟩
      · obtain ⟨oI', hoI', hoc, hod⟩ := hst'.1
        exact ⟨oI', (s1.2 I hSI.symm).trans hoI', hoc, hod⟩
      · by_cases e : j' = j + 1
        · subst e
          exact lex_irr _
        · have hb1 := hbest j' (by omega)
          cases q : HT.lexLt (nss j') (nss (j + 1)) with
          | false => rfl
          | true =>
            rw [lex_trans q hb'] at hb1
            cases hb1
    · have hb0 : HT.lexLt (nss (j + 1)) (nss i) = false := Bool.eq_false_iff.mpr hb'
      simp only [hb0, Bool.false_eq_true, if_false]
      refine wpAny_bind (wpAny_letGo ?_)
      rw [hname]
      refine wpAny_pure ⟨plainId_quiet PySem.F.plain_min_loop _, ih (j + 1) i _ _ (.ref p2) c (by omega) hlt k' gS' hst'.1 hvb (by omega) fun j' hj' => ?_⟩
      by_cases e : j' = j + 1
      · subst e
        exact hb0
      · exact hbest j' (by omega)
theorem min_tups (nss : Nat → List Int) (hh : A.handled = none) (hu : A.units + 1 < cLine) (hl : s.heap.IsList l vs.toArray) (hT : TupsAt s.heap vs nss) (hne : 0 < vs.length)
    (hQ : ∀ i v h' tk', vs[i]? = some v → (∀ j, j < vs.length → HT.lexLt (nss j) (nss i) = false) → (∀ b o, s.heap.get? b = some o → h'.get? b = some o) → Q v { s with heap := h', toks := tk' }) :
    wpAny (model prog w) A (call (.builtin "min") [.ref l]) Q E s := by
  have hname : (toString "min" ++ toString ".loop" : String) = "min.loop" := by decide
  obtain ⟨ol, hol, _⟩ := id hl
  have hll : l < s.heap.objs.size := Heap.lt_size hol
  refine call_function_tree PySem.F.kind_min PySem.F.plain_min PySem.F.entry_min (PySem.F.args_min1 _) ?_
  show wpAny _ A.in1 (Builtin.Builtins.bindParams "min" ["key", "default"] 0 ⟨[], []⟩ >>= _) _ _ s
  refine wpAny_bind (wpAny_of_eq (show Builtin.Builtins.bindParams "min" ["key", "default"] 0 ⟨[], []⟩ = pure [none, none] from rfl) ?_)
  refine wpAny_bind (wpAny_pure ?_)
  refine wpAny_bind (wpAny_pyIter_list hl ?_)
  refine wpAny_bind (wpAny_newList ?_ (Nat.zero_le _))
  rw [hname]
  have hS : (s.heap.push { cls := .type "list_iterator", data := .fields #[.ref l, .int 0 0] }).objs.size = s.heap.objs.size + 1 := size_push' ..
  have hlI : l ≠ s.heap.objs.size := Nat.ne_of_lt hll
  have hSI : (s.heap.push { cls := .type "list_iterator", data := .fields #[.ref l, .int 0 0] }).objs.size ≠ s.heap.objs.size := by rw [hS]; exact Nat.ne_of_gt (Nat.lt_succ_self _)
  have nI : s.heap.get? s.heap.objs.size = none := Heap.get?_none_of_le (Nat.le_refl _)
  have nS : s.heap.get? (s.heap.push { cls := .type "list_iterator", data := .fields #[.ref l, .int 0 0] }).objs.size = none := Heap.get?_none_of_le (by rw [hS]; exact Nat.le_succ _)
  refine wpAny_pure ⟨plainId_quiet PySem.F.plain_min_loop _, ?_⟩
  have gI : ((s.heap.push { cls := .type "list_iterator", data := .fields #[.ref l, .int 0 0] }).push (seqObj "list" #[] 0)).get? s.heap.objs.size = some { cls := .type "list_iterator", data := .fields #[.ref l, .int 0 0] } :=
    Heap.get?_push_of_some _ (Heap.get?_push_size _ rfl)
  have gS : ((s.heap.push { cls := .type "list_iterator", data := .fields #[.ref l, .int 0 0] }).push (seqObj "list" #[] 0)).get? (s.heap.push { cls := .type "list_iterator", data := .fields #[.ref l, .int 0 0] }).objs.size = some (seqObj "list" #[] 0) := Heap.get?_push_size _ rfl
  have k0 : ∀ b o, s.heap.get? b = some o → ((s.heap.push { cls := .type "list_iterator", data := .fields #[.ref l, .int 0 0] }).push (seqObj "list" #[] 0)).get? b = some o := fun b o e => Heap.get?_push_of_some _ (Heap.get?_push_of_some _ e)
  have neI : ∀ b o, s.heap.get? b = some o → b ≠ s.heap.objs.size := fun b o e => Nat.ne_of_lt (Heap.lt_size e)
  have W := Walks.list (prog := prog) (w := w) (A := A.in1) hh s.heap.objs.size l hlI vs.toArray
  have hsz : vs.toArray.size = vs.length := List.size_toArray ..
  refine codeAny_builtin PySem.F.entry_min_loop ?_
  rw [Around.under_plainId PySem.F.plain_min_loop _]
  show wpAny _ A.in1 (seqItems? (.ref _) >>= _) _ _ _
  refine wpAny_bind (wpAny_seqItems gS rfl ?_)
  show wpAny _ A.in1 (tryCatch (pyNext (.ref s.heap.objs.size)) _ >>= _) _ _ _
  refine wpAny_bind (wpAny_tryCatch (W.item 0 _ _ _ (by rw [hsz]; exact hne) ⟨⟨_, gI, rfl, rfl⟩, hl.at fun o e => k0 l o e⟩ fun v h' tk' hP hst' hk' => ?_))
  have hv : vs[0]? = some v := by simpa using hP
  have gS' := hk' _ _ (by simpa using hSI) gS
  show wpAny _ A.in1 (pure v >>= _) _ _ _
  refine wpAny_bind (wpAny_pure ?_)
  generalize hSd : (s.heap.push { cls := .type "list_iterator", data := .fields #[.ref l, .int 0 0] }).objs.size = S at *
  have s1 := Heap.SameBut.update h' S (Obj.mapSeq fun _ => #[v, v])
  obtain ⟨c2, hc2⟩ : ∃ c2, (h'.update S (Obj.mapSeq fun _ => #[v, v])).get? S = some (seqObj "list" #[v, v] c2) := ⟨_, get?_update_seq gS' fun _ => #[v, v]⟩
  show wpAny _ A.in1 (updateSeq S (fun _ => #[v, v]) >>= _) _ _ _
  refine wpAny_bind ?_
  refine wpAny_updateSeq gS' rfl ?_
  rw [hname]
  have neS : ∀ b o, s.heap.get? b = some o → b ≠ S := fun b o e z => by rw [z, nS] at e; cases e
  refine wpAny_pure ⟨plainId_quiet PySem.F.plain_min_loop _, minT_loop nss hh hu hl hT hlI hSI nS nI hQ _ 0 0 _ _ v c2 rfl hne (fun b o e => (s1.2 b (neS b o e)).trans (hk' b o (by simpa using neI b o e) (k0 b o e))) hc2 ?_ hv (Nat.le_refl _) fun j' hj' => ?_⟩
  · obtain ⟨oI', hoI', hoc, hod⟩ := hst'.1
    exact ⟨oI', (s1.2 _ hSI.symm).trans hoI', hoc, hod⟩
  · have e : j' = 0 := by omega
    subst e
    exact lex_irr _
end
/-- min(xs), xs a list of tuples of ints: one that no other is less than -/
def rMinT (K : PySem.W.Frag) : List V → Hp → VK → Prop := fun vs H Q => ∃ (a : Addr) (ps : List Addr) (nss : List (List Int)), vs = [V.ref a] ∧ SqL K H a (ps.map V.ref) ∧ ps.length = nss.length ∧ 0 < nss.length ∧
  (∀ (i : Nat) (p : Addr) (ns : List Int), ps[i]? = some p → nss[i]? = some ns → SqT K H p (ns.map V.int)) ∧ ∀ (i : Nat) (p : Addr) (ns : List Int), ps[i]? = some p → nss[i]? = some ns → (∀ ms ∈ nss, HT.lexLt ms ns = false) → Q (.ref p) H
theorem cr_minT {X : Cx} {K : PySem.W.Frag} (e : X.K = K) (hc : X.calm = true) (hu : X.A.units + 1 < cLine) : CallR X (.builtin "min") (rMinT K) := by
  subst e
  intro pins s σ H vs us Q I r h
  obtain ⟨a, ps, nss, rfl, hs, hlen, hne, hT, q⟩ := h
  obtain ⟨its, rv, hl, _⟩ := I.list hs
  rw [Vals.ref1 r]
  have hil : its.length = ps.length := by rw [← rv.length, List.length_map]
  have hget : ∀ (i : Nat) (v : Value), its[i]? = some v → ∃ (p : Addr) (ns : List Int), ps[i]? = some p ∧ nss[i]? = some ns ∧ v = Value.ref p := fun i v hv => by
    have h1 : i < its.length := (List.getElem?_eq_some_iff.mp hv).1
    have h2 : i < ps.length := by omega
    have h3 : i < nss.length := by omega
    obtain ⟨u, hu, ru⟩ := rv.get (i := i) (x := .ref ps[i]) (by rw [List.getElem?_map, List.getElem?_eq_getElem h2]; rfl)
    rw [hv] at hu
    cases hu
    exact ⟨ps[i], nss[i], List.getElem?_eq_getElem h2, List.getElem?_eq_getElem h3, ru⟩
  refine min_tups (fun i => nss.getD i []) (I.ok.hd hc) hu hl.isList (fun i v hv => ?_) (by omega) fun i v h' tk hv hb hk => ?_
  · obtain ⟨p, ns, e1, e2, rfl⟩ := hget i v hv
    obtain ⟨it2, r2, p2, _⟩ := I.tuple (hT i p ns e1 e2)
    refine ⟨p, it2.toArray, rfl, p2, ?_⟩
    have e3 : nss.getD i [] = ns := by rw [List.getD_eq_getElem?_getD, e2]; rfl
    show IntsAre it2.toArray.toList (nss.getD i [])
    rw [e3]
    exact intsAre_of r2
  · obtain ⟨p, ns, e1, e2, rfl⟩ := hget i v hv
    have e3 : nss.getD i [] = ns := by rw [List.getD_eq_getElem?_getD, e2]; rfl
    refine ⟨.ref p, H, I.kept hk, rfl, q i p ns e1 e2 fun ms hm => ?_⟩
    obtain ⟨j, hj, rfl⟩ := List.getElem_of_mem hm
    have hb2 : HT.lexLt (nss.getD j []) (nss.getD i []) = false := hb j (by omega)
    have e4 : nss.getD j [] = nss[j] := by
      rw [List.getD_eq_getElem?_getD, List.getElem?_eq_getElem hj]
      rfl
    rw [e3, e4] at hb2
    exact hb2
end NS

/-! ### own rules: numbers that may be bools, str, repr, t[::-1], xs[a:b] = ys -/
namespace NS
open PySem PySem.Spec PyProof.Rows L2
/-- an int, or a bool as one -/
inductive NumV : V → Int → Prop
  | int (i : Int) : NumV (.int i) i
  | bl (b : Bool) : NumV (.bl b) (if b = true then 1 else 0)
section
variable {X : Cx}
def rAddV : R2 := fun x y H Q => ∃ i j, NumV x i ∧ y = .int j ∧ Q (.int (i + j)) H
def rSubV : R2 := fun x y H Q => ∃ i j, NumV x i ∧ y = .int j ∧ Q (.int (i - j)) H
def rRsubV : R2 := fun x y H Q => ∃ i j, x = .int i ∧ NumV y j ∧ Q (.int (i - j)) H
theorem op_addV : OpR X (binaryOp .Add) rAddV := fun pins s σ H x y v u Q I rx ry h => by
  obtain ⟨i, j, nx, rfl, q⟩ := h
  obtain ⟨t, rfl⟩ := ry
  cases nx with
  | int i =>
    obtain ⟨t', rfl⟩ := rx
    exact add_int ⟨.int _, H, I.tok _, ⟨_, rfl⟩, q⟩
  | bl b =>
    cases rx
    exact PySem.IntBool.add_bool_int ⟨.int _, H, I.tok _, ⟨_, rfl⟩, q⟩
theorem op_subV : OpR X (binaryOp .Sub) rSubV := fun pins s σ H x y v u Q I rx ry h => by
  obtain ⟨i, j, nx, rfl, q⟩ := h
  obtain ⟨t, rfl⟩ := ry
  cases nx with
  | int i =>
    obtain ⟨t', rfl⟩ := rx
    exact sub_int ⟨.int _, H, I.tok _, ⟨_, rfl⟩, q⟩
  | bl b =>
    cases rx
    exact PySem.IntBool.sub_bool_int ⟨.int _, H, I.tok _, ⟨_, rfl⟩, q⟩
theorem op_rsubV : OpR X (binaryOp .Sub) rRsubV := fun pins s σ H x y v u Q I rx ry h => by
  obtain ⟨i, j, rfl, ny, q⟩ := h
  obtain ⟨t, rfl⟩ := rx
  cases ny with
  | int j =>
    obtain ⟨t', rfl⟩ := ry
    exact sub_int ⟨.int _, H, I.tok _, ⟨_, rfl⟩, q⟩
  | bl b =>
    cases ry
    exact PySem.IntBool.sub_int_bool ⟨.int _, H, I.tok _, ⟨_, rfl⟩, q⟩
/-- str of an int or of a bool: some text -/
def strV : V → Str
  | .int i => toString i
  | .bl b => if b then "True" else "False"
  | _ => ""
def rStrV : List V → Hp → VK → Prop := fun xs H Q => ∃ x, xs = [x] ∧ ((∃ i : Int, x = .int i ∧ i.natAbs.log2 < 1920) ∨ ∃ b, x = .bl b) ∧ Q (.str (strV x)) H
theorem call_strV : CallR X (.type "str") rStrV := fun pins s σ H xs us Q I r h => by
  obtain ⟨x, rfl, hx, q⟩ := h
  obtain ⟨u, rfl, rx⟩ := vals1 r
  rcases hx with ⟨i, rfl, hi⟩ | ⟨b, rfl⟩
  · obtain ⟨t, rfl⟩ := rx
    exact PySem.P.str_of_int hi ⟨.str _, H, I.tok _, ⟨_, rfl⟩, q⟩
  · cases rx
    exact PySem.P.str_of_bool ⟨.str _, H, I.tok _, ⟨_, rfl⟩, q⟩
/-- repr of data -/
theorem call_reprD {K : PySem.W.Frag} (e : X.K = K) (hg : X.A.guards = some []) (hu : X.A.units + 64 < cLine) : CallR X (.builtin "repr") (fun xs H Q => ∃ x d, xs = [x] ∧ Dp K H x d ∧ PyData.showable d = true ∧ d.hasDict = false ∧ d.depth ≤ 60 ∧ d.shown.length ≤ sizeLine ∧ Q (.str d.shown) H) := fun pins s σ H xs us Q I r h => by
  subst e
  obtain ⟨x, d, rfl, hd, hs, hn, hp, hz, q⟩ := h
  obtain ⟨u, rfl, rx⟩ := vals1 r
  obtain ⟨as, rd⟩ := Dp.reads I d x u hd rx
  cases hd with
  | non =>
    cases rx
    exact PySem.P.repr_of_none ⟨.str _, H, I.tok _, ⟨_, rfl⟩, q⟩
  | bl b =>
    cases rx
    exact PySem.P.repr_of_bool ⟨.str _, H, I.tok _, ⟨_, rfl⟩, q⟩
  | int i =>
    obtain ⟨t, rfl⟩ := rx
    exact PySem.P.repr_of_int (of_decide_eq_true hs) ⟨.str _, H, I.tok _, ⟨_, rfl⟩, q⟩
  | str z =>
    obtain ⟨t, rfl⟩ := rx
    exact PySem.P.repr_of_str ⟨.str _, H, I.tok _, ⟨_, rfl⟩, q⟩ hz
  | lst h1 h2 =>
    cases rx
    exact repr_of_reads' rd hs (PyData.noDict_hsm hn) hg (by omega) (fun b o z => z) (fun h' w tk hk => ⟨.str _, H, I.kept hk, ⟨_, rfl⟩, q⟩) hz
  | tup h1 h2 =>
    cases rx
    exact repr_of_reads' rd hs (PyData.noDict_hsm hn) hg (by omega) (fun b o z => z) (fun h' w tk hk => ⟨.str _, H, I.kept hk, ⟨_, rfl⟩, q⟩) hz
end
end NS

/-! ### t[::-1], xs[a:b] = ys -/
namespace NS
open PySem PySem.Spec PyProof.Rows L2
theorem rev_adj (n : Nat) : Builtin.Slice.sliceAdjust none none (-1) (n : Int) = ((n : Int) - 1, -1) := rfl
theorem rev_places (n : Nat) : Builtin.Slice.slicePlaces ((n : Int) - 1) (-1) (-1) = n := by
  unfold Builtin.Slice.slicePlaces
  rw [if_neg (by decide)]
  by_cases h : n = 0
  · subst h
    rfl
  · rw [if_pos (by omega), show (- -1 : Int) = 1 by decide, Int.ediv_one]
    omega
theorem fm_map {α β : Type} {f : α → Option β} {g : α → β} : ∀ {l : List α}, (∀ x ∈ l, f x = some (g x)) → l.filterMap f = l.map g
  | [], _ => rfl
  | x :: l, h => by
    rw [List.filterMap_cons_some (h x (List.mem_cons_self ..)), List.map_cons, fm_map fun y hy => h y (List.mem_cons_of_mem _ hy)]
theorem rev_pick (xs : List Value) : ((List.range xs.length).filterMap fun (k : Nat) => xs.toArray[(((xs.length : Int) - 1) + (k : Int) * (-1)).toNat]?) = xs.reverse := by
  apply List.ext_getElem?
  intro i
  have e : ((List.range xs.length).filterMap fun (k : Nat) => xs.toArray[(((xs.length : Int) - 1) + (k : Int) * (-1)).toNat]?) = (List.range xs.length).map fun k => xs.getD (xs.length - 1 - k) .none := by
    refine fm_map fun k hk => ?_
    have hk' := List.mem_range.mp hk
    have e1 : (((xs.length : Int) - 1) + (k : Int) * (-1)).toNat = xs.length - 1 - k := by omega
    rw [e1, List.getElem?_toArray, List.getElem?_eq_getElem (by omega)]
    show some _ = some (xs.getD (xs.length - 1 - k) .none)
    rw [List.getD_eq_getElem?_getD, List.getElem?_eq_getElem (by omega)]
    rfl
  rw [e, List.getElem?_map]
  by_cases hi : i < xs.length
  · rw [List.getElem?_range hi, List.getElem?_reverse hi]
    show some (xs.getD (xs.length - 1 - i) .none) = _
    rw [List.getD_eq_getElem?_getD, List.getElem?_eq_getElem (by omega)]
    rfl
  · rw [List.getElem?_eq_none (by rw [List.length_range]; omega), List.getElem?_eq_none (by rw [List.length_reverse]; omega)]
    rfl
section
variable {prog : Program} {w : World} {A : Around} {E : Value → Shared → Prop} {s : Shared}
theorem getItem_tup_rev {t sl : Addr} {xs : List Value} {vs : Value} {Q : Value → Shared → Prop} (ht : IsTup s.heap t xs.toArray) (hs : s.heap.IsSliceOf sl .none .none vs) (pv' : IsPart vs (some (-1)))
    (h : Q (.ref s.heap.objs.size) { s with heap := s.heap.push { cls := .type "tuple", data := .seq xs.reverse.toArray } })
    (hsz : xs.length ≤ sizeLine) : wpAny (model prog w) A (getItem (.ref t) (.ref sl)) Q E s := by
  have okSize : sizeOk (.seq xs.reverse.toArray) := by
    show xs.reverse.toArray.size ≤ sizeLine
    rw [List.size_toArray, List.length_reverse]
    exact hsz
  obtain ⟨os, hos, hcs, hds⟩ := id hs
  have tyS : s.TypeIs (.ref sl) "slice" := ⟨os, hos, hcs⟩
  have applied : ∀ {R : Int × Int × Nat → Shared → Prop}, R ((xs.length : Int) - 1, -1, xs.length) s → wpAny (model prog w) A.in1 (Builtin.Slice.sliceApplied (.ref sl) (pure ((xs.toArray.size : Nat) : Int))) R E s := fun {R} hR => by
    unfold Builtin.Slice.sliceApplied Builtin.Slice.sliceFields
    refine wpAny_bind (wpAny_bind (wpAny_field hos hds (x := .none) rfl (wpAny_bind (wpAny_field hos hds (x := .none) rfl (wpAny_bind (wpAny_field hos hds (x := vs) rfl (wpAny_pure ?_)))))))
    refine wpAny_bind (HT.slicePart_ pv' ?_)
    show wpAny _ _ (if ((-1 : Int) == 0) = true then _ else _) _ _ s
    rw [if_neg (by decide)]
    refine wpAny_bind (slicePart_none (wpAny_bind (slicePart_none (wpAny_bind (wpAny_pure ?_)))))
    show wpAny _ _ (match Builtin.Slice.sliceAdjust none none (-1) ((xs.toArray.size : Nat) : Int) with | (lo, hi) => pure (lo, (-1 : Int), Builtin.Slice.slicePlaces lo hi (-1))) _ _ s
    rw [List.size_toArray, rev_adj]
    show wpAny _ _ (pure ((xs.length : Int) - 1, (-1 : Int), Builtin.Slice.slicePlaces ((xs.length : Int) - 1) (-1) (-1))) _ _ s
    rw [rev_places]
    exact wpAny_pure hR
  unfold getItem
  try with_reducible refine wpAny_holding ?_
  first | refine wpAny_bind (wpAny_pure ?_) | skip
  refine wpAny_bind (wpAny_sequenceKey ht.typeIs (by decide) ?_)
  refine wpAny_bind (wpAny_callSpecial?_slot (name := Str.ofString "__getitem__") ht.typeIs PyProof.Rows.slot_tuple_getitem
    (wpAny_call_entry PyProof.Rows.slot_tuple_getitem ht.typeIs entry_tuple_getitem ?_ (args_tuple_getitem _ _)))
  show wpAny _ _ (Builtin.Tuple.tupleItemsOf (.ref t) >>= _) _ _ s
  refine wpAny_bind (tupleItemsOf_ ht (wpAny_bind (wpAny_typeOf tyS ?_)))
  rw [if_pos (by decide)]
  refine wpAny_bind (applied ?_)
  have notWhole : ¬ (((((xs.length : Int) - 1) == 0) && ((-1 : Int) == 1) && (xs.length == xs.toArray.size)) = true) := fun z => by
    rw [show ((-1 : Int) == 1) = false by decide, Bool.and_false, Bool.false_and] at z
    cases z
  show wpAny _ _ (if ((((xs.length : Int) - 1) == 0) && ((-1 : Int) == 1) && (xs.length == xs.toArray.size)) = true then _ else _) _ _ s
  rw [if_neg notWhole, rev_pick]
  first
    | exact wpAny_bind (m := Builtin.Tuple.tupleExact _) (wpAny_newObj_type (wpAny_pure ⟨_, rfl, wpAny_pure h⟩) okSize)
    | exact wpAny_bind (m := Builtin.Tuple.tupleExact _) (wpAny_newObj_type (wpAny_bind (wpAny_pure (wpAny_pure ⟨_, rfl, wpAny_pure h⟩))) okSize)
    | exact wpAny_bind (wpAny_bind (m := Builtin.Tuple.tupleExact _) (wpAny_newObj_type (wpAny_pure (wpAny_pure ⟨_, rfl, wpAny_pure h⟩)) okSize))
    | exact wpAny_bind (wpAny_bind (m := Builtin.Tuple.tupleExact _) (wpAny_newObj_type (wpAny_pure ⟨_, rfl, wpAny_pure h⟩) okSize))
end
section
variable {X : Cx}
def tRevT (K : PySem.W.Frag) (te : TE) : TE := fun σ H Q => te σ H fun x H1 => ∃ a xs, x = .ref a ∧ SqT K H1 a xs ∧ ∀ p, H1 p = none → Q (.ref p) (upd H1 p (.tup xs.reverse))
theorem pe_revT {e : Expr} {te : TE} {k : Nat} {p1 p2 p3 pos : Pos} (he : PE X e te) : PE X (.Subscript e (.Slice none none (some (.UnaryOp .USub (.Constant (.int 1) k p1) p2)) p3) pos) (tRevT X.K te) := by
  constructor
  intro pins s σ H Q I h
  refine Subscript_ (thn (he.run pins s σ H _ I h) fun v s1 ⟨x, H1, I1, r1, q1⟩ => ?_)
  obtain ⟨a, xs, ex, hx, q⟩ := q1
  subst ex
  cases r1
  have step : PO X (some (.UnaryOp .USub (.Constant (.int 1) k p1) p2)) (tPart (tUn (rU fun i => .int (-i)) (tC (.int 1)))) := po_some (pe_un un_neg pe_int)
  refine wpAny_Slice (thn (po_none.run pins s1 σ H1 (fun o H2 => o = none ∧ H2 = H1) I1 ⟨rfl, rfl⟩) fun vl s2 ⟨l, H2, I2, pl, el, e2⟩ => ?_)
  subst el e2
  cases pl
  refine thn (po_none.run pins s2 σ H2 (fun o H3 => o = none ∧ H3 = H2) I2 ⟨rfl, rfl⟩) fun vu s3 ⟨u, H3, I3, pu, eu, e3⟩ => ?_
  subst eu e3
  cases pu
  refine thn (step.run pins s3 σ H3 (fun o H4 => o = some (-1) ∧ H4 = H3) I3 ⟨1, rfl, -1, rfl, rfl, rfl⟩) fun vs s4 ⟨o, H4, I4, ps, eo, e4⟩ => ?_
  subst eo e4
  have I5 : L2.Inv X pins σ H4 { s4 with heap := s4.heap.push { cls := .type "slice", data := .fields #[.none, .none, vs] } } := I4.kept (t' := s4.toks) fun b ob z => Heap.get?_push_of_some _ z
  obtain ⟨its, r, ht, hz⟩ := I5.tuple hx
  have hlen := r.length
  show wpAny (model X.prog X.w) X.A (subscriptTail e (.Slice none none (some (.UnaryOp .USub (.Constant (.int 1) k p1) p2)) p3) (.ref a) (.ref s4.heap.objs.size)) (EP X pins σ Q) X.xe { s4 with heap := s4.heap.push { cls := .type "slice", data := .fields #[.none, .none, vs] } }
  refine tail_any (ops := [.ref a, .ref s4.heap.objs.size]) ht.typeIs (PyProof.Rows.slot_tuple_getitem.lookup) ?_ (by with_unfolding_all rfl)
  refine getItem_tup_rev ht (Heap.IsSliceOf.new _ .none .none vs) ps ?_ (by omega)
  refine ⟨.ref _, _, I5.laid (t' := s4.toks) (o := .tup xs.reverse) (fun b ob z => Heap.get?_push_of_some _ z) (Nat.le_refl _) ?_, rfl, q _ (I5.hok.fresh (Nat.le_refl _))⟩
  exact ⟨by rw [List.length_reverse]; exact hz, _, r.reverse, IsTup.new _ _⟩
end
section
variable {prog : Program} {w : World} {A : Around} {E : Value → Shared → Prop} {s : Shared}
theorem bounds_clip {a c n : Nat} (ha : a ≤ n) : sliceBounds (some (a : Int)) (some (c : Int)) none n = ((a : Int), ((min c n : Nat) : Int), 1) := by
  simp only [sliceBounds, Option.getD_none]
  have h1 : ¬ ((a : Int) < 0) := by omega
  have h2 : ¬ ((c : Int) < 0) := by omega
  simp only [h1, h2, if_false, show (1 : Int) > 0 by decide, if_true]
  refine Prod.ext ?_ (Prod.ext ?_ rfl)
  · show max 0 (min (a : Int) (n : Int)) = (a : Int)
    omega
  · show max 0 (min (c : Int) (n : Int)) = ((min c n : Nat) : Int)
    omega
theorem setItem_clip {l b sl : Addr} {items new : Array Value} {n n2 : Nat} {vl vu : Value} {a c : Nat} {Q : Unit → Shared → Prop}
    (e : s.heap.get? l = some { cls := .type "list", data := .seq items n }) (e2 : s.heap.get? b = some { cls := .type "list", data := .seq new n2 }) (hne : l ≠ b)
    (hs : s.heap.IsSliceOf sl vl vu .none) (pl : IsPart vl (some (a : Int))) (pu : IsPart vu (some (c : Int))) (hac : a ≤ c) (ha : a ≤ items.size)
    (hsz : items.size + new.size ≤ sizeLine) (h : Q () { s with heap := s.heap.update l (Obj.mapSeq fun xs => xs.extract 0 a ++ new ++ xs.extract (min c items.size) xs.size) }) :
    wpAny (model prog w) A (setItem (.ref l) (.ref sl) (.ref b)) Q E s := by
  have isl : s.heap.IsList l items := PySem.IsL.isList e
  have isb : s.heap.IsList b new := PySem.IsL.isList e2
  obtain ⟨os, hos, hcs, hds⟩ := id hs
  have tyS : s.TypeIs (.ref sl) "slice" := ⟨os, hos, hcs⟩
  have apart : Builtin.List.listSameRef (.ref l) (.ref b) = false := by
    unfold Builtin.List.listSameRef
    exact beq_eq_false_iff_ne.mpr hne
  have emax : (max (a : Int) ((min c items.size : Nat) : Int)).toNat = min c items.size := by omega
  have fits : ((fun xs : Array Value => xs.extract 0 a ++ new ++ xs.extract (min c items.size) xs.size) items).size ≤ sizeLine + 1 := by
    simp only [Array.size_append, Array.size_extract]
    omega
  unfold setItem
  try with_reducible refine wpAny_holding ?_
  first | refine wpAny_bind (wpAny_pure ?_) | skip
  refine wpAny_bind (wpAny_sequenceKey isl.typeIs (by decide) ?_)
  refine wpAny_bind (wpAny_callSpecial?_slot (name := Str.ofString "__setitem__") isl.typeIs slot_list_setitem
    (wpAny_call_entry slot_list_setitem isl.typeIs entry_list_setitem ?_ (args_list_setitem _ _ _)))
  show wpAny _ _ (Builtin.List.listSubscript? (.ref sl) >>= _) _ _ s
  refine wpAny_bind ?_
  unfold Builtin.List.listSubscript?
  refine wpAny_bind (wpAny_specialOf tyS slice_no_index ?_)
  simp only [Option.isNone_none, if_true]
  refine wpAny_pure ?_
  show wpAny _ _ (typeOf (.ref sl) >>= _) _ _ s
  refine wpAny_bind (wpAny_typeOf tyS ?_)
  first
    | rw [if_neg (by decide)]
    | refine PySem.W.KFB.if_not (by decide) ?_
  rw [listSliceParts_eq]
  refine wpAny_bind (wpAny_bind (wpAny_field hos hds (x := .none) rfl (wpAny_bind (wpAny_listPart .none ?_))))
  rw [if_neg (show ¬ ((rawPart none == rawInt 0) = true) from Bool.false_ne_true)]
  refine wpAny_bind (wpAny_field hos hds (x := vl) rfl (wpAny_bind (wpAny_listPart pl ?_)))
  refine wpAny_bind (wpAny_field hos hds (x := vu) rfl (wpAny_bind (wpAny_listPart pu (wpAny_pure ?_))))
  first
    | simp only [apart, Bool.false_eq_true, if_false]
    | refine PySem.W.KFB.if_not apart ?_
    | (dsimp only
       rw [if_neg (by rw [apart]; exact Bool.false_ne_true)])
  refine wpAny_bind (m := Builtin.List.listAllItems (.ref b) "must assign iterable to extended slice") ?_
  unfold Builtin.List.listAllItems
  refine wpAny_bind (wpAny_typeOf isb.typeIs ?_)
  first
    | refine PySem.W.KFB.if_so (by decide) ?_
    | rw [if_pos (by decide)]
    | simp only [beq_self_eq_true, Bool.true_or, if_true]
  unfold Builtin.List.listItems
  refine wpAny_bind (wpAny_seqItems e2 rfl (wpAny_pure ?_))
  refine wpAny_bind (wpAny_bind (wpAny_seqItems e rfl (wpAny_pure ?_)))
  refine wpAny_bind (wpAny_of_eq ((sliceIndices_raw (some (a : Int)) (some (c : Int)) none items.size (by simp)).trans (congrArg (pure : Int × Int × Int → Sem (Int × Int × Int)) (bounds_clip ha))) ?_)
  show wpAny _ _ (if ((1 : Int) == 1) = true then _ else _) _ _ s
  rw [if_pos (by decide)]
  refine wpAny_bind (wpAny_rule ?_)
  first
    | simp only [notLongL hsz, Bool.false_eq_true, if_false]
    | refine PySem.W.KFB.if_not (notLongL hsz) ?_
  first | refine wpAny_bind (wpAny_pure ?_) | skip
  show wpAny _ _ (updateSeq l (fun xs => xs.extract 0 ((a : Int)).toNat ++ new ++ xs.extract (max (a : Int) ((min c items.size : Nat) : Int)).toNat xs.size) >>= _) _ _ s
  rw [emax, Int.toNat_natCast]
  refine wpAny_bind (wpAny_updateSeq (hz := Nat.le_trans (Nat.le_add_right _ _) hsz) (_hz' := fits) e rfl ?_)
  refine wpAny_bind (wpAny_letGo ?_)
  first
    | exact wpAny_bind (wpAny_pure (wpAny_pure ⟨.none, rfl, wpAny_pure h⟩))
    | exact wpAny_pure ⟨.none, rfl, wpAny_pure h⟩
end
section
variable {X : Cx}
/-- xs[a:b] = ys, ys another list; b may lie beyond -/
def gSlL (to : TE) (tl th : TO) : TG := fun v σ H Q => to σ H fun o H1 => tl σ H1 fun lo H2 => th σ H2 fun hi H3 => ∃ (l b : Addr) (xs ys : List V) (a c : Nat), o = .ref l ∧ v = .ref b ∧ lo = some (a : Int) ∧ hi = some (c : Int) ∧
  H3 l = some (.lst xs) ∧ H3 b = some (.lst ys) ∧ l ≠ b ∧ a ≤ c ∧ a ≤ xs.length ∧ xs.length + ys.length ≤ sizeLine ∧ Q σ (upd H3 l (.lst (xs.take a ++ ys ++ xs.drop c)))
theorem pg_slc {o lo hi : Expr} {to : TE} {tl th : TO} {sp pos : Pos} (ho : PE X o to) (hlo : PO X (some lo) tl) (hhi : PO X (some hi) th)
    (ha : ∀ v, assign (.Subscript o (.Slice (some lo) (some hi) none sp) pos) X.env v = (do
      let ov ← holding [v] (eval o X.env)
      let iv ← holding [v, ov] (eval (.Slice (some lo) (some hi) none sp) X.env)
      standAt pos
      holding [v, ov, iv] (setItem ov iv v)
      release [iv, v, ov] []) := by intro _; rfl) : PG X (.Subscript o (.Slice (some lo) (some hi) none sp) pos) (gSlL to tl th) := by
  constructor
  intro pins s σ H v u Q I r h
  rw [ha]
  refine wpAny_bind (wpAny_holding (thn (ho.run pins s σ H _ I h) fun ov s1 ⟨x, H1, I1, r1, q1⟩ => wpAny_bind (wpAny_holding (wpAny_Slice ?_))))
  refine thn (hlo.run pins s1 σ H1 _ I1 q1) fun vl s2 ⟨oi, H2, I2, pl, q2⟩ => thn (hhi.run pins s2 σ H2 _ I2 q2) fun vu s3 ⟨oj, H3, I3, pu, q3⟩ => ?_
  refine thn (po_none.run pins s3 σ H3 (fun o H4 => o = none ∧ H4 = H3) I3 ⟨rfl, rfl⟩) fun vn s4 ⟨ok, H4, I4, pn, ek, e4⟩ => ?_
  subst ek e4
  cases pn
  obtain ⟨l, b, xs, ys, a, c, rfl, rfl, rfl, rfl, hl, hb, hne, hac, hax, hz, q⟩ := q3
  cases r1
  cases r
  have I5 : L2.Inv X pins σ H4 { s4 with heap := s4.heap.push { cls := .type "slice", data := .fields #[vl, vu, .none] } } := I4.kept (t' := s4.toks) fun b ob z => Heap.get?_push_of_some _ z
  obtain ⟨z, its, n, rel, hlen, e⟩ := I5.lstM hl
  obtain ⟨z2, its2, n2, rel2, hlen2, e2⟩ := I5.lstM hb
  refine wpAny_bind (wpAny_standAt (wpAny_bind (wpAny_holding ?_)))
  refine setItem_clip (a := a) (c := c) e e2 hne (Heap.IsSliceOf.new _ vl vu .none) pl pu hac (by rw [List.size_toArray]; omega) (by rw [List.size_toArray, List.size_toArray]; omega) ?_
  refine wpAny_release ?_
  refine ⟨_, _, I5.lset (its' := its.take a ++ its2 ++ its.drop c) (t' := s4.toks) hl e ?_ (Vals.append (Vals.append (rel.take _) rel2) (rel.drop _)) ?_, q⟩
  · show its.toArray.extract 0 a ++ its2.toArray ++ its.toArray.extract (min c its.toArray.size) its.toArray.size = (its.take a ++ its2 ++ its.drop c).toArray
    rw [splice_eq]
    congr 2
    rw [List.size_toArray]
    by_cases hc : c ≤ its.length
    · rw [Nat.min_eq_left hc]
    · rw [Nat.min_eq_right (by omega), List.drop_eq_nil_of_le (Nat.le_refl _), List.drop_eq_nil_of_le (by omega)]
  · rw [List.length_append, List.length_append, List.length_take, List.length_drop]
    omega
end
end NS

/-! ### defs that may ask for repr: promised where no repr is under way around them -/
namespace NS
open PySem PySem.Spec PyProof.Rows L2
structure FnOkG (P : Program) (w : World) (K : PySem.W.Frag) (mg : Str → Option Value) (base : Heap) (k : Nat) (f : Addr) (fd : FuncData) (ps : List Str) (sp : Sp) : Prop where
  len : ∀ vs H Q E, sp vs H Q E → vs.length = ps.length
  run : ∀ (A : Around) (outer : List Env) (s : Shared) (H : Hp) (args : Args) (us : List Value) (vs : List V) (Q : VK) (E : XK), A.guards = some [] → Room k A → Env0 P w K mg base A outer s H → BindsTo s fd args (ps.zip us) → Vals vs us → sp vs H Q E →
    codeAny (model P w) A (.call (.ref f) args) (CR CX0 outer P w H s Q E) s
theorem FnOkG.of {P : Program} {w : World} {K : PySem.W.Frag} {mg : Str → Option Value} {base : Heap} {k : Nat} {f : Addr} {fd : FuncData} {ps : List Str} {sp : Sp} (F : FnOk P w K mg base CX0 k f fd ps sp) : FnOkG P w K mg base k f fd ps sp :=
  ⟨F.len, fun A outer s H args us vs Q E _ => F.run A outer s H args us vs Q E⟩
section
variable {P : Program} {w : World} {K : PySem.W.Frag} {mg : Str → Option Value} {base : Heap}
theorem okG {x qual : Str} {st : Stmt} {f : Addr} {fd : FuncData} {N ps : List Str} {k : Nat} {sp : Sp} (F : Fun K x qual st f fd) (S : FnScope N ps (defScope st)) (len : ∀ vs H Q E, sp vs H Q E → vs.length = ps.length)
    (hbody : ∀ (cdv : Value) (A : Around) (outer : List Env) (s : Shared) (H : Hp) (vs : List V) (Q : VK) (E : XK), A.guards = some [] → Room k (A.deeper (envOfC qual (defScope st) s.heap.objs.size f cdv)) → sp vs H Q E →
      ∃ t, PSs (cxOf CX0 P w K mg base N qual (defScope st) f cdv A outer s H E).nox (defBody st) t ∧ t { nx := fun _ H' => Q .non H', rt := Q } (start N vs) H) : FnOkG P w K mg base (k + 1) f fd ps sp := by
  obtain ⟨oc, od, kV, doc, pm, an, cdv, ct, osl, efd, lk, hcd⟩ := F.ex
  subst efd
  refine ⟨len, fun A outer s H args us vs Q E hgd room en bnd rel promised => ?_⟩
  have lens := len _ _ _ _ promised
  have inK : K.In s.heap := en.mod.kin.keeps fun b o z => (en.bs b o z).1
  have lim : s.heap.NoLimit := en.mod.nolimit.keeps fun b o z => (en.bs b o z).1
  have kinds : ∀ y ∈ ps.zip us, (defScope st).names.lookup y.1 = some .local ∨ ((defScope st).names.lookup y.1 = some .cell ∧ ((cellsFrom (s.heap.objs.size + 1) (defScope st).names []).lookup y.1).isSome = true) := fun y hy => by
    rcases S.par y.1 (List.of_mem_zip hy).1 with z | z
    · exact .inl z
    · exact .inr ⟨z, PySem.W.cellsFrom_some _ _ _ (.inl z)⟩
  refine codeAny_call_function room.depth (inK _ _ lk) rfl S.co S.gen rfl (PySem.W.codeRec_of inK hcd) (bnd _ _ _ _ ?_)
  refine wpAny_newFunctionEnv_cells S.kind kinds fun env eenv s1 entered => ?_
  subst eenv
  refine ⟨lim.keeps entered.toInCall.keep, codeAny_func ?_⟩
  obtain ⟨t, der, rd⟩ := hbody cdv A outer s H vs Q E hgd (room.deeper _) promised
  have J0 : L2.Inv (cxOf CX0 P w K mg base N qual (defScope st) f cdv A outer s H E) [] (start N vs) H s1 := inv_start S room.hd en lens rel entered
  have done : ∀ {σ' : L2.St} {H' : Hp} {v : V} {u : Value} {s' : Shared}, L2.Inv (cxOf CX0 P w K mg base N qual (defScope st) f cdv A outer s H E) [] σ' H' s' → RelV v u → Q v H' → CE outer P w H s Q u s' :=
    fun {σ' H' v u s'} J rv q => ⟨v, H', J.os, J.bare, J.base, J.hok, rv, q⟩
  refine wpAny_mono (der.nox.run [] s1 (start N vs) H _ J0 rd) (fun fl s' out => ?_) fun ex s' out => out
  cases fl with
  | ret u =>
    obtain ⟨v, σ', H', J, rv, q⟩ := out
    exact done J rv q
  | next =>
    obtain ⟨σ', H', J, q⟩ := out
    exact done (v := V.non) (u := Value.none) J rfl q
  | brk => exact (out.elim fun _ z => z.elim fun _ z => z.2).elim
  | cont => exact (out.elim fun _ z => z.elim fun _ z => z.2).elim
end
section
variable {X : Cx} {k : Nat} {f : Addr} {fd : FuncData} {ps : List Str} {sp : Sp} {x : Str} {p pos : Pos} {e : Expr} {es : List Expr} {t : TA}
theorem pe_callG (hgd : X.A.guards = some []) (F : FnOkG X.prog X.w X.K X.mg X.base k f fd ps sp) (hr : Room k X.A) (hg : Gl X x) (hm : X.mg x = some (.ref f)) (hk : PySem.W.keepIn X.K (.ref f) = true) (hb : Binds X.K fd ps [])
    (ha : PA X (e :: es) t) (hdb : (x == ("__debug__" : Str)) = false := by decide) (he : starEach (e :: es) X.env = (false, eval e X.env) :: starEach es X.env := by rfl) (hpl : (backTo pos (starEach es X.env)).any (·.1) = false := by rfl) :
    PE X (.Call (.Name x p) (e :: es) [] pos) (tCall sp [] E0 t) := by
  constructor
  intro pins s σ H Q I h
  refine wpAny_Call_Name_kw (ld_glob I hg hm ?_ hdb)
  refine PySem.W.callWith_K (h₀ := X.base) I.ok.mod.kin hk (thn (ha.run pos pins s σ H _ I h) fun us s1 ⟨vs, H1, I1, r, q⟩ => ⟨I1.kIn, ?_⟩) he hpl
  have r2 : Vals (vs ++ []) (us ++ []) := r.append .nil
  have hl : (us ++ []).length = ps.length := r2.length.symm.trans (F.len _ _ _ _ q)
  refine wpAny_call (codeAny_mono (F.run X.A X.stack s1 H1 ⟨us, []⟩ (us ++ []) (vs ++ []) Q E0 hgd hr I1.env0 (hb s1 us I1.kIn hl) r2 q) fun res s' hq => ?_)
  cases res with
  | error ex => exact (show False from hq).elim
  | ok fl =>
    cases fl with
    | ret u => exact I1.after hq
    | next => exact False.elim hq
    | brk => exact False.elim hq
    | cont => exact False.elim hq
end
/-- the law's end, by a promise where no repr is under way -/
theorem lawG {P : Program} {w : World} {K : PySem.W.Frag} {mg mb : Str → Option Value} {k : Nat} {fa a : Addr} {fd : FuncData} {x : Str} {sp : Sp} {s₁ : Shared} {vs : List Value} {ns : List Int}
    (KX : K.In s₁.heap) (hns : s₁.heap.Ns mainGlobals mg) (hb : s₁.heap.Ns builtinsNs mb) (hbb : ∀ x : Str, x ≠ "__name__" → mb x = bootBuiltins x) (hlim : s₁.heap.NoLimit) (hgn : s₁.gens = #[])
    (ha : s₁.heap.get? a = some { cls := .type "list", data := .seq vs.toArray }) (hi : IntsAre vs ns) (hl : ns.length ≤ sizeLine) (room : Room k callerA)
    (F : ∀ base : Heap, K.In base → base.Ns mainGlobals mg → FnOkG P w K mg base k fa fd [x] sp) (hbind : ∀ (s : Shared) (u : Value), BindsTo s fd ⟨[u], []⟩ [(x, u)])
    (hsp : ∀ H : Hp, Only H → SqL K H a (ns.map V.int) → sp [.ref a] H (fun v _ => v = .bl true) fun _ _ _ => False) :
    codeAny (model P w) callerA (.call (.ref fa) ⟨[.ref a], []⟩) (fun r s' => r = .ok (.ret (.bool true)) ∧ OldK s₁.heap s'.heap ∧ s'.os = s₁.os ∧ AllBare s'.gens) s₁ := by
  have rv := vals_ints hi
  have lenV := hi.length
  have core : ∀ H : Hp, Only H → SqL K H a (ns.map V.int) → HOk P w H s₁.heap → (∀ b, H b ≠ none → b = a) → (H a ≠ none → K.lookup a = none) →
      codeAny (model P w) callerA (.call (.ref fa) ⟨[.ref a], []⟩) (fun r s' => r = .ok (.ret (.bool true)) ∧ OldK s₁.heap s'.heap ∧ s'.os = s₁.os ∧ AllBare s'.gens) s₁ := fun H hO hS hok hA hK => by
    have noA : ∀ {b : Addr} {o : Obj} {es : Array DictEntry} {ep : Nat}, s₁.heap.get? b = some o → o.data = .dict es ep → H b = none := fun {b o es ep} z d => by
      cases hq : H b with
      | none => rfl
      | some u =>
        have eb : b = a := hA b (by rw [hq]; exact fun z => nomatch z)
        subst eb
        rw [ha] at z
        cases z
        exact nomatch (show Data.seq vs.toArray _ = Data.dict es ep from d)
    have nsK : ∀ {b : Addr} {m : Str → Option Value}, s₁.heap.Ns b m → (hidT s₁.heap H).Ns b m := fun {b m} z => by
      obtain ⟨o, es, ep, g, d, r⟩ := z
      exact ⟨o, es, ep, hidT_get g (noA g d), d, r⟩
    have inB : K.In (hidT s₁.heap H) := fun b o z => hidT_get (KX b o z) (by
      cases hq : H b with
      | none => rfl
      | some u =>
        have eb : b = a := hA b (by rw [hq]; exact fun z => nomatch z)
        subst eb
        rw [hK (by rw [hq]; exact fun z => nomatch z)] at z
        cases z)
    have hM : Mod K mg (hidT s₁.heap H) := ⟨inB, nsK hns, ⟨mb, nsK hb, hbb⟩, hlim.elim fun mc z => ⟨mc, nsK z.1, z.2⟩⟩
    have en : Env0 P w K mg (hidT s₁.heap H) callerA [] s₁ H := ⟨rfl, hM, fun b o z => of_hidT z, Nat.le_of_eq (hidT_size _ _), trivial, fun b z => absurd (show b ∈ ([] : List Addr) from z) (by simp), hok, .of_eq hgn⟩
    refine codeAny_mono ((F _ inB (nsK hns)).run callerA [] s₁ H ⟨[.ref a], []⟩ [.ref a] [.ref a] _ _ rfl room en (hbind s₁ (.ref a)) (.cons rfl .nil) (hsp H hO hS)) fun res s' out => ?_
    cases res with
    | error ex => exact (show False from out).elim
    | ok fl =>
      cases fl with
      | next => exact False.elim out
      | brk => exact False.elim out
      | cont => exact False.elim out
      | ret u =>
        obtain ⟨v, H', os, bare, un, hok', rel, isT⟩ := out
        have isT' : v = .bl true := isT
        subst isT'
        obtain rfl : u = Value.bool true := rel
        refine ⟨rfl, OldK.of_keep fun b o z => ?_, os, bare⟩
        rcases hO b with hq | ⟨ob, xs, hq⟩
        · exact un.keep b o z hq (fun y => absurd (show b ∈ ([] : List Addr) from y) (by simp)) (by simp)
        · have z1 := (hok b _ hq).1
          have z2 := (hok' b _ (un.frzs b ob _ hq)).1
          rw [z] at z1
          cases z1
          exact z2
  cases hk : K.lookup a with
  | some o =>
    have z := KX a o hk
    rw [ha] at z
    cases z
    exact core (fun _ => none) (fun _ => .inl rfl) (.inr ⟨_, vs.toArray, _, hk, rfl, rfl, rfl, by rw [List.size_toArray, lenV]; exact hl, by simpa using rv⟩) (fun b u z => nomatch (show (none : Option HO) = some u from z)) (fun b z => absurd rfl z) fun z => absurd rfl z
  | none =>
    have fz : ∀ b, (if b = a then some (HO.frz { cls := .type "list", data := .seq vs.toArray } (.lst (ns.map V.int))) else none) ≠ none → b = a := fun b z => by
      by_cases hba : b = a
      · exact hba
      · exact absurd (if_neg hba) z
    refine core (fun b => if b = a then some (.frz { cls := .type "list", data := .seq vs.toArray } (.lst (ns.map V.int))) else none) (fun b => ?_) (.inl (.inr ⟨{ cls := .type "list", data := .seq vs.toArray }, if_pos rfl⟩)) (fun b u z => ?_) fz fun _ => hk
    · by_cases hba : b = a
      · exact .inr ⟨_, _, if_pos hba⟩
      · exact .inl (if_neg hba)
    · have hba : b = a := fz b (by rw [show (if b = a then some (HO.frz { cls := .type "list", data := .seq vs.toArray } (.lst (ns.map V.int))) else none) = some u from z]; exact fun y => nomatch y)
      have z' := (if_pos hba).symm.trans z
      cases z'
      subst hba
      exact ⟨ha, by rw [List.length_map]; exact hl, vs, _, rv, ha⟩
theorem walkG {l : PySem.W.OpenLaw} {n k : Nat} {q : Program} {loose : List Str} {XP : (Str → Option Value) → Heap → Prop} {YP : World → Heap → Prop} {d : DefRec} {K : Params → PySem.W.Frag} {sp : World → Sp} {x : Str}
    (hn : l.most = some n) (hn2 : n ≤ sizeLine) (hdf : d.params.defaults = []) (room : Room k callerA)
    (hY : ∀ (w : World) (h : Heap), YP w h → (K w.params).In h)
    (F : ∀ (w : World) (mg : Str → Option Value) (fa : Addr) (h : Heap), (K w.params).In h → h.Ns mainGlobals mg → mg d.name = some (.ref fa) →
      ∃ fd : FuncData, (∀ (s : Shared) (u : Value), BindsTo s fd ⟨[u], []⟩ [(x, u)]) ∧
        ∀ base : Heap, (K w.params).In base → base.Ns mainGlobals mg → FnOkG l.prog w (K w.params) mg base k fa fd [x] (sp w))
    (hsp : ∀ (w : World) (H : Hp) (a : Addr) (ns : List Int), ns.length ≤ n → Only H → SqL (K w.params) H a (ns.map V.int) → sp w [.ref a] H (fun v _ => v = .bl true) fun _ _ _ => False) :
    PySem.W.WalkO q loose XP YP l.row.toRowW d [] (fun f vs => PySem.call f vs) := by
  refine Att.attach_call hn hdf fun w s₀ s₁ mg mb fa o pm cd doc a vs ns G Y ho hd hcd hmg hobj hints hlen hgn => ?_
  obtain ⟨fd, bnd, kept⟩ := F w mg fa _ (hY w _ Y) G.T.g hmg
  exact lawG (hY w _ Y) G.T.g G.T.b G.T.builtins G.T.nolimit hgn hobj hints (Nat.le_trans hlen hn2) room kept bnd fun H hO hS => hsp w H a ns hlen hO hS
end NS
namespace NS
open PySem L2
structure KnG (P : Program) (w : World) (K : PySem.W.Frag) (mg : Str → Option Value) (base : Heap) (k : Nat) (x : Str) (st : Stmt) (ps : List Str) (sp : Sp) (f : Addr) (fd : FuncData) : Prop where
  D : Df K mg x st ps f fd
  G : FnOkG P w K mg base k f fd ps sp
end NS

namespace NS
open PySem L2
mutual
def depthD : PyData → Nat
  | .list ds => depthL ds + 1
  | .tuple ds => depthL ds + 1
  | _ => 0
def depthL : List PyData → Nat
  | [] => 0
  | d :: ds => max (depthD d) (depthL ds)
end
theorem depthL_get : ∀ {ds : List PyData} {d : PyData} {i : Nat}, ds[i]? = some d → depthD d ≤ depthL ds
  | [], d, i, h => by simp at h
  | e :: ds, d, 0, h => by
    have q : e = d := Option.some.inj h
    subst q
    unfold depthL
    exact Nat.le_max_left _ _
  | e :: ds, d, i + 1, h => by
    have q := depthL_get (ds := ds) (d := d) (i := i) (by simpa using h)
    unfold depthL
    exact Nat.le_trans q (Nat.le_max_right _ _)
theorem dpAll_len {K : PySem.W.Frag} {H : Hp} : ∀ {vs : List V} {ds : List PyData}, DpAll K H vs ds → vs.length = ds.length
  | _, _, .nil => rfl
  | _, _, .cons _ b => congrArg (· + 1) (dpAll_len b)
theorem dpAll_get {K : PySem.W.Frag} {H : Hp} : ∀ {vs : List V} {ds : List PyData} {i : Nat} {v : V}, DpAll K H vs ds → vs[i]? = some v → ∃ d, ds[i]? = some d ∧ Dp K H v d
  | _, _, _, _, .nil, h => by simp at h
  | _, _, 0, v, .cons a _, h => by
    have q := Option.some.inj h
    subst q
    exact ⟨_, rfl, a⟩
  | _, _, i + 1, v, .cons _ b, h => by
    obtain ⟨d, e, q⟩ := dpAll_get (i := i) (v := v) b (by simpa using h)
    exact ⟨d, by simpa using e, q⟩
mutual
def wideD : PyData → Nat
  | .list ds => max ds.length (wideL ds)
  | .tuple ds => max ds.length (wideL ds)
  | _ => 0
def wideL : List PyData → Nat
  | [] => 0
  | d :: ds => max (wideD d) (wideL ds)
end
theorem wideL_get : ∀ {ds : List PyData} {d : PyData} {i : Nat}, ds[i]? = some d → wideD d ≤ wideL ds
  | [], d, i, h => by simp at h
  | e :: ds, d, 0, h => by
    have q : e = d := Option.some.inj h
    subst q
    unfold wideL
    exact Nat.le_max_left _ _
  | e :: ds, d, i + 1, h => by
    have q := wideL_get (ds := ds) (d := d) (i := i) (by simpa using h)
    unfold wideL
    exact Nat.le_trans q (Nat.le_max_right _ _)
theorem depth_ints : ∀ ns : List Int, depthL (ns.map PyData.int) = 0
  | [] => by unfold depthL; rfl
  | n :: ns => by
    show depthL (PyData.int n :: ns.map PyData.int) = 0
    unfold depthL
    rw [depth_ints ns]
    unfold depthD
    rfl
theorem wide_ints : ∀ ns : List Int, wideL (ns.map PyData.int) = 0
  | [] => by unfold wideL; rfl
  | n :: ns => by
    show wideL (PyData.int n :: ns.map PyData.int) = 0
    unfold wideL
    rw [wide_ints ns]
    unfold wideD
    rfl
theorem depth_T (ns : List Int) : depthD (dT ns) = 1 := by
  unfold dT depthD
  rw [depth_ints]
theorem wide_T (ns : List Int) : wideD (dT ns) = ns.length := by
  unfold dT wideD
  rw [wide_ints, List.length_map]
  omega
theorem depth_L (ns : List Int) : depthD (dL ns) = 1 := by
  unfold dL depthD
  rw [depth_ints]
theorem wide_L (ns : List Int) : wideD (dL ns) = ns.length := by
  unfold dL wideD
  rw [wide_ints, List.length_map]
  omega
theorem depth_list (ds : List PyData) : depthD (.list ds) = depthL ds + 1 := by rw [depthD]
theorem depth_tuple (ds : List PyData) : depthD (.tuple ds) = depthL ds + 1 := by rw [depthD]
theorem depthL_nil : depthL [] = 0 := by rw [depthL]
theorem depthL_cons (d : PyData) (ds : List PyData) : depthL (d :: ds) = max (depthD d) (depthL ds) := by rw [depthL]
theorem wide_list (ds : List PyData) : wideD (.list ds) = max ds.length (wideL ds) := by rw [wideD]
theorem wide_tuple (ds : List PyData) : wideD (.tuple ds) = max ds.length (wideL ds) := by rw [wideD]
theorem wideL_nil : wideL [] = 0 := by rw [wideL]
theorem wideL_cons (d : PyData) (ds : List PyData) : wideL (d :: ds) = max (wideD d) (wideL ds) := by rw [wideL]
end NS

/-! ### the heap without s; what evaluates to which data -/
namespace NS
open PySem L2
def Hid (S : List Addr) (H : Hp) : Hp := fun b => if b ∈ S then none else H b
theorem nmem_ne {S : List Addr} {b s : Addr} (n : b ∉ S) (hs : s ∈ S) : b ≠ s := fun z => n (by rw [z]; exact hs)
theorem hid_ne {S : List Addr} {b : Addr} {H : Hp} (h : b ∉ S) : Hid S H b = H b := if_neg h
theorem hid_in {S : List Addr} {b : Addr} {H : Hp} (h : b ∈ S) : Hid S H b = none := if_pos h
theorem hid_some {S : List Addr} {b : Addr} {H : Hp} {o : HO} (h : Hid S H b = some o) : b ∉ S ∧ H b = some o := by
  by_cases e : b ∈ S
  · rw [hid_in e] at h
    cases h
  · rw [hid_ne e] at h
    exact ⟨e, h⟩
theorem same_hid {S : List Addr} {H : Hp} : Same (Hid S H) H := fun _ _ h => (hid_some h).2
theorem hid_mono {S : List Addr} {H H' : Hp} (e : Same H H') : Same (Hid S H) (Hid S H') := fun b o h => by
  obtain ⟨n, h⟩ := hid_some h
  rw [hid_ne n]
  exact e b o h
theorem hid_stay {S : List Addr} {s : Addr} {H H' : Hp} (hs : s ∈ S) (e : Stay s H H') : Same (Hid S H) (Hid S H') := fun b o h => by
  obtain ⟨n, h⟩ := hid_some h
  rw [hid_ne n]
  exact e b o (nmem_ne n hs) h
theorem hid_upd {S : List Addr} {s : Addr} {H : Hp} {o : HO} (hs : s ∈ S) : Hid S (upd H s o) = Hid S H := by
  funext b
  by_cases e : b ∈ S
  · rw [hid_in e, hid_in e]
  · rw [hid_ne e, hid_ne e, upd_ne (nmem_ne e hs)]
theorem hid_to {S : List Addr} {s : Addr} {H : Hp} {o : HO} (hs : s ∈ S) : Same (Hid S H) (upd H s o) := fun b x h => by
  obtain ⟨n, h⟩ := hid_some h
  rw [upd_ne (nmem_ne n hs)]
  exact h
/-- one more is hidden that was not there -/
theorem hid_more {S : List Addr} {p : Addr} {H H' : Hp} (hp : H p = none) (e : Same (Hid S H) (Hid S H')) : Same (Hid S H) (Hid (p :: S) H') := fun b o h => by
  obtain ⟨n, h'⟩ := hid_some h
  have nb : b ≠ p := ne_of_none h' hp
  rw [hid_ne (fun z => by
    rcases List.mem_cons.mp z with z | z
    · exact nb z
    · exact n z)]
  exact (hid_some (e b o h)).2
theorem hid_back {S : List Addr} {p : Addr} {H : Hp} {o : HO} : Same (Hid (p :: S) H) (Hid S (upd H p o)) := fun b x h => by
  obtain ⟨n, h'⟩ := hid_some h
  rw [hid_ne (fun z => n (List.mem_cons_of_mem _ z)), upd_ne (nmem_ne n (List.mem_cons_self ..))]
  exact h'
theorem hid_less {S : List Addr} {p : Addr} {H : Hp} : Same (Hid (p :: S) H) (Hid S H) := fun b x h => by
  obtain ⟨n, h'⟩ := hid_some h
  rw [hid_ne (fun z => n (List.mem_cons_of_mem _ z))]
  exact h'
/-- tracked -/
abbrev Has (H : Hp) (s : Addr) : Prop := ∃ o, H s = some o
abbrev HasA (H : Hp) (S : List Addr) : Prop := ∀ b ∈ S, Has H b
theorem has_same {H H' : Hp} {s : Addr} (h : Has H s) (e : Same H H') : Has H' s := h.elim fun o z => ⟨o, e s o z⟩
theorem hasA_same {H H' : Hp} {S : List Addr} (h : HasA H S) (e : Same H H') : HasA H' S := fun b hb => has_same (h b hb) e
theorem hasA_upd {H : Hp} {s : Addr} {S : List Addr} {o : HO} (h : HasA H S) : HasA (upd H s o) S := fun b hb => by
  by_cases e : b = s
  · rw [e]
    exact ⟨o, upd_same⟩
  · obtain ⟨x, z⟩ := h b hb
    exact ⟨x, by rw [upd_ne e]; exact z⟩
theorem hasA_stay {H H' : Hp} {s : Addr} {S : List Addr} (h : HasA H S) (e : Stay s H H') (hs : Has H' s) : HasA H' S := fun b hb => by
  by_cases z : b = s
  · rw [z]
    exact hs
  · obtain ⟨x, y⟩ := h b hb
    exact ⟨x, e b x z y⟩
theorem has_ne {H : Hp} {S : List Addr} {p : Addr} (h : HasA H S) (n : H p = none) : p ∉ S := fun e => by
  obtain ⟨o, z⟩ := h p e
  rw [n] at z
  cases z
theorem src_has {H : Hp} {s : Addr} {n : Nat} (h : Src H s n) : Has H s := h.elim fun o z => ⟨o, z.1⟩
section
variable {K : PySem.W.Frag} {S : List Addr} {σ : L2.St} {H : Hp} {te ta tb : TE} {d : PyData} {ds es : List PyData}
def EvE (K : PySem.W.Frag) (S : List Addr) (d : PyData) (te : TE) (σ : L2.St) (H : Hp) : Prop := ∀ H1, Same H H1 → ∀ Q : VK, (∀ v H2, Same H1 H2 → Dp K (Hid S H2) v d → Q v H2) → te σ H1 Q
def EvAx (K : PySem.W.Frag) (S : List Addr) (ds : List PyData) (ta : TA) (σ : L2.St) (H : Hp) : Prop := ∀ H1, Same H H1 → ∀ Q : List V → Hp → Prop, (∀ vs H2, Same H1 H2 → DpAll K (Hid S H2) vs ds → Q vs H2) → ta σ H1 Q
def EvLx (K : PySem.W.Frag) (S : List Addr) (ds : List PyData) (te : TE) (σ : L2.St) (H : Hp) : Prop := ∀ H1, Same H H1 → ∀ Q : VK, (∀ p xs H2, Same H1 H2 → p ∉ S → H2 p = some (.lst xs) → DpAll K (Hid S H2) xs ds → Q (.ref p) H2) → te σ H1 Q
theorem ee_non : EvE K S .none (tC .non) σ H := fun H1 _ _ q => q _ H1 (Same.refl _) .non
theorem ee_bl {b : Bool} : EvE K S (.bool b) (tC (.bl b)) σ H := fun H1 _ _ q => q _ H1 (Same.refl _) (.bl _)
theorem ee_int {i : Int} : EvE K S (.int i) (tC (.int i)) σ H := fun H1 _ _ q => q _ H1 (Same.refl _) (.int _)
theorem ee_str {x : Str} : EvE K S (.str x) (tC (.str x)) σ H := fun H1 _ _ q => q _ H1 (Same.refl _) (.str _)
theorem ee_neg {i : Int} : EvE K S (.int (-i)) (tUn (rU fun i => .int (-i)) (tC (.int i))) σ H := fun H1 _ _ q => ⟨i, rfl, q _ H1 (Same.refl _) (.int _)⟩
theorem ee_var {i : Nat} {v : V} (h : σ[i]? = some (some v)) (hd : Dp K (Hid S H) v d) : EvE K S d (tVar i) σ H := fun H1 e _ q => ⟨v, h, q _ H1 (Same.refl _) (dp_same (hid_mono e) hd)⟩
theorem el_var {i : Nat} {p : Addr} {xs : List V} (h : σ[i]? = some (some (.ref p))) (hp : p ∉ S) (hx : H p = some (.lst xs)) (hd : DpAll K (Hid S H) xs ds) : EvLx K S ds (tVar i) σ H := fun H1 e _ q => ⟨_, h, q p xs H1 (Same.refl _) hp (e _ _ hx) (dp_sameA (hid_mono e) hd)⟩
theorem ea_nil : EvAx K S [] tNil σ H := fun H1 _ _ q => q [] H1 (Same.refl _) .nil
theorem ea_cons {tr : TA} (h : EvE K S d te σ H) (hr : EvAx K S ds tr σ H) : EvAx K S (d :: ds) (tCons te tr) σ H := fun H1 e Q q =>
  h H1 e _ fun v H2 e2 hv => hr H2 (e.trans e2) _ fun vs H3 e3 hvs => q (v :: vs) H3 (e2.trans e3) (.cons (dp_same (hid_mono e3) hv) hvs)
theorem sqT_hid {p : Addr} {xs : List V} (hp : p ∉ S) (h : H p = some (.tup xs)) : SqT K (Hid S H) p xs := sqT (by rw [hid_ne hp]; exact h)
theorem sqL_hid {p : Addr} {xs : List V} (hp : p ∉ S) (h : H p = some (.lst xs)) : SqL K (Hid S H) p xs := sqL (by rw [hid_ne hp]; exact h)
theorem ee_tup {t : TA} (hs : HasA H S) (h : EvAx K S ds t σ H) (hz : ds.length ≤ 1000) : EvE K S (.tuple ds) (tTup t) σ H := fun H1 e Q q =>
  h H1 e _ fun vs H2 e2 hvs => ⟨small (by rw [dpAll_len hvs]; exact hz), fun p hp => by
    have np := has_ne (hasA_same hs (e.trans e2)) hp
    exact q _ _ (e2.trans (same_upd hp)) (.tup (sqT_hid np upd_same) (dp_sameA (hid_mono (same_upd hp)) hvs))⟩
theorem ee_lst {t : TA} (hs : HasA H S) (h : EvAx K S ds t σ H) (hz : ds.length ≤ 1000) : EvE K S (.list ds) (tLst t) σ H := fun H1 e Q q =>
  h H1 e _ fun vs H2 e2 hvs => ⟨small (by rw [dpAll_len hvs]; exact hz), fun p hp => by
    have np := has_ne (hasA_same hs (e.trans e2)) hp
    exact q _ _ (e2.trans (same_upd hp)) (.lst (sqL_hid np upd_same) (dp_sameA (hid_mono (same_upd hp)) hvs))⟩
theorem el_lst {t : TA} (hs : HasA H S) (h : EvAx K S ds t σ H) (hz : ds.length ≤ 1000) : EvLx K S ds (tLst t) σ H := fun H1 e Q q =>
  h H1 e _ fun vs H2 e2 hvs => ⟨small (by rw [dpAll_len hvs]; exact hz), fun p hp => by
    have np := has_ne (hasA_same hs (e.trans e2)) hp
    exact q _ _ _ (e2.trans (same_upd hp)) np upd_same (dp_sameA (hid_mono (same_upd hp)) hvs)⟩
theorem dpAll_app {H : Hp} : ∀ {xs ys : List V} {ds es : List PyData}, DpAll K H xs ds → DpAll K H ys es → DpAll K H (xs ++ ys) (ds ++ es)
  | _, _, _, _, .nil, h => h
  | _, _, _, _, .cons a b, h => .cons a (dpAll_app b h)
theorem el_cat (hs : HasA H S) (ha : EvLx K S ds ta σ H) (hb : EvLx K S es tb σ H) (hz : ds.length + es.length ≤ 1000) : EvLx K S (ds ++ es) (tOp rCat ta tb) σ H := fun H1 e Q q =>
  ha H1 e _ fun l xs H2 e2 nl hl hx => hb H2 (e.trans e2) _ fun b ys H3 e3 nb hb hy =>
    ⟨l, b, xs, ys, rfl, rfl, e3 _ _ hl, hb, small (by rw [dpAll_len hx, dpAll_len hy]; exact hz), fun p hp => by
      have np := has_ne (hasA_same hs ((e.trans e2).trans e3)) hp
      exact q p _ _ ((e2.trans e3).trans (same_upd hp)) np upd_same (dp_sameA (hid_mono (same_upd hp)) (dpAll_app (dp_sameA (hid_mono e3) hx) hy))⟩
theorem el_rep2 (hs : HasA H S) (ha : EvLx K S ds ta σ H) (hz : ds.length ≤ 500) : EvLx K S (ds ++ ds) (tOp rRep ta (tC (.int 2))) σ H := fun H1 e Q q =>
  ha H1 e _ fun l xs H2 e2 nl hl hx => ⟨l, 2, xs, rfl, rfl, hl, by decide, by decide, small (by rw [dpAll_len hx]; show ds.length * 2 ≤ 1000; omega), fun p hp => by
    have np := has_ne (hasA_same hs (e.trans e2)) hp
    refine q p _ _ (e2.trans (same_upd hp)) np upd_same (dp_sameA (hid_mono (same_upd hp)) ?_)
    have er : (List.replicate (2 : Int).toNat xs).flatten = xs ++ xs := by
      show (xs ++ (xs ++ [])) = xs ++ xs
      rw [List.append_nil]
    rw [er]
    exact dpAll_app hx hx⟩
/-- name = xs + ys: a new list, apart from what stands in it -/
theorem sl_catN {D : Ends} {i : Nat} (hs : HasA H S) (ha : EvLx K S ds ta σ H) (hb : EvLx K S es tb σ H) (hz : ds.length + es.length ≤ 1000)
    (k : ∀ p xs H2, Same H H2 → H p = none → p ∉ S → H2 p = some (.lst xs) → DpAll K (Hid (p :: S) H2) xs (ds ++ es) → D.nx (σ.set i (some (.ref p))) H2) : tAsg (tOp rCat ta tb) (gName i) D σ H :=
  ha H (Same.refl H) _ fun l xs H2 e2 nl hl hx => hb H2 e2 _ fun b ys H3 e3 nb hb hy =>
    ⟨l, b, xs, ys, rfl, rfl, e3 _ _ hl, hb, small (by rw [dpAll_len hx, dpAll_len hy]; exact hz), fun p hp => by
      have np := has_ne (hasA_same hs (e2.trans e3)) hp
      exact k p _ _ ((e2.trans e3).trans (same_upd hp)) (e2.free (e3.free hp)) np upd_same (dp_sameA (hid_more hp (hid_mono (same_upd hp))) (dpAll_app (dp_sameA (hid_mono e3) hx) hy))⟩
end
end NS

namespace NS
open PySem L2
def fitD (n : Int) : PyData → Bool
  | .none => true
  | .str x => decide (x = "?")
  | .int i => decide (0 ≤ i) && decide (i < n)
  | _ => false
def validD : PyData → Bool
  | .tuple ds => !ds.isEmpty && ds.all (fitD (ds.length : Int))
  | _ => false
def lenD : PyData → Nat
  | .tuple ds => ds.length
  | .list ds => ds.length
  | _ => 0
end NS
namespace NS
open PySem L2
def isIntD : PyData → Bool
  | .int _ => true
  | _ => false
theorem eqv_tup0 (ds : List PyData) : PyData.eqv (.tuple ds) (.tuple []) = ds.isEmpty := by
  cases ds with
  | nil => rfl
  | cons d r => rfl
theorem valid_ne {ds : List PyData} (h : ds ≠ []) : validD (.tuple ds) = ds.all (fitD (ds.length : Int)) := by
  cases ds with
  | nil => exact absurd rfl h
  | cons d r => rfl
theorem all_bad {f : PyData → Bool} : ∀ {ds : List PyData} {i : Nat} {d : PyData}, ds[i]? = some d → f d = false → ds.all f = false
  | [], _, _, h, _ => by simp at h
  | e :: ds, 0, d, h, hf => by
    have q : e = d := Option.some.inj h
    rw [List.all_cons, q, hf, Bool.false_and]
  | e :: ds, i + 1, d, h, hf => by
    rw [List.all_cons, all_bad (ds := ds) (i := i) (d := d) (by simpa using h) hf, Bool.and_false]
theorem all_more {f : PyData → Bool} {ds : List PyData} {i : Nat} {d : PyData} (h : ds[i]? = some d) (hf : f d = true) (hp : (ds.take i).all f = true) : (ds.take (i + 1)).all f = true := by
  rw [List.take_add_one, List.all_append, hp, h]
  show (true && (f d && true)) = true
  rw [hf]
  rfl
end NS
namespace NS
open PySem L2
def oddA : List PyData := [.none, .bool true, .bool false, .int 0, .int 1, .int (-1), .str "", .str "node", .tuple [], .list [], .tuple [.int 0], .list [.int 1], .tuple [.tuple []], .tuple [.tuple [], .tuple []], .tuple [.int 0, .int 1]]
def oddB : List PyData := [.tuple [.none, .int 0], .tuple [.none], .str "?", .int 2, .int 3]
/-- what is made of an int (or a bool as one) -/
def oddN (z : Int) (v : V) (d : PyData) : List PyData := [.int (z + 1), .int (z - 1), .int (0 - z), .str (strV v), .bool (PyData.eqv d (.int 1))]
/-- of a list's or tuple's items -/
def oddS (mk : List PyData → PyData) (ds : List PyData) : List PyData := [.list ds, .tuple ds, mk ds.reverse, mk (ds.drop 1), mk ds.dropLast]
def oddL : PyData → List PyData
  | .int i => (oddA ++ oddB) ++ (oddN i (.int i) (.int i) ++ oddN i (.int i) (.int i))
  | .bool b => (oddA ++ oddB) ++ (oddN (if b = true then 1 else 0) (.bl b) (.bool b) ++ oddN (if b = true then 1 else 0) (.bl b) (.bool b))
  | .list ds => (oddA ++ oddB) ++ (oddS .list ds ++ oddS .list ds)
  | .tuple ds => (oddA ++ oddB) ++ (oddS .tuple ds ++ oddS .tuple ds)
  | _ => oddA ++ oddB
def oddPre : PyData → Prop
  | .int i => i.natAbs.log2 < 1920
  | .list ds => ds.length ≤ 400
  | .tuple ds => ds.length ≤ 400
  | _ => True
theorem cut_from1 (xs : List V) : cutV xs (some 1) none = xs.drop 1 := by
  unfold cutV
  rw [show HT.sIx xs.length 0 (some 1) = min 1 xs.length from HT.sIx_nat xs.length 0 1, HT.sIx_none]
  by_cases h : 1 ≤ xs.length
  · rw [Nat.min_eq_left h]
    exact List.take_of_length_le (by rw [List.length_drop]; exact Nat.le_refl _)
  · have e : xs = [] := List.eq_nil_of_length_eq_zero (by omega)
    rw [e]
    rfl
theorem cut_butlast (xs : List V) : cutV xs none (some (-1)) = xs.dropLast := by
  unfold cutV
  rw [HT.sIx_none]
  have e : HT.sIx xs.length xs.length (some (-1)) = xs.length - 1 := by
    show (if (-1 : Int) < 0 then ((-1 : Int) + (xs.length : Int)).toNat else min (-1 : Int).toNat xs.length) = xs.length - 1
    rw [if_pos (by decide)]
    omega
  rw [e, Nat.sub_zero, List.dropLast_eq_take]
  rfl
theorem dpAll_rev {K : PySem.W.Frag} {H : Hp} : ∀ {xs : List V} {ds : List PyData}, DpAll K H xs ds → DpAll K H xs.reverse ds.reverse
  | _, _, .nil => .nil
  | _, _, .cons a b => by
    rw [List.reverse_cons, List.reverse_cons]
    exact dpAll_app (dpAll_rev b) (.cons a .nil)
theorem dpAll_take {K : PySem.W.Frag} {H : Hp} : ∀ {xs : List V} {ds : List PyData} (n : Nat), DpAll K H xs ds → DpAll K H (xs.take n) (ds.take n)
  | _, _, 0, _ => .nil
  | _, _, _ + 1, .nil => .nil
  | _, _, n + 1, .cons a b => .cons a (dpAll_take n b)
theorem dpAll_drop {K : PySem.W.Frag} {H : Hp} : ∀ {xs : List V} {ds : List PyData} (n : Nat), DpAll K H xs ds → DpAll K H (xs.drop n) (ds.drop n)
  | _, _, 0, h => h
  | _, _, _ + 1, .nil => .nil
  | _, _, n + 1, .cons _ b => dpAll_drop n b
theorem dpAll_dropLast {K : PySem.W.Frag} {H : Hp} {xs : List V} {ds : List PyData} (h : DpAll K H xs ds) : DpAll K H xs.dropLast ds.dropLast := by
  rw [List.dropLast_eq_take, List.dropLast_eq_take, dpAll_len h]
  exact dpAll_take _ h
theorem dpAll_set {K : PySem.W.Frag} {H : Hp} {v : V} {d : PyData} (hv : Dp K H v d) : ∀ {xs : List V} {ds : List PyData} (n : Nat), DpAll K H xs ds → DpAll K H (xs.set n v) (ds.set n d)
  | _, _, _, .nil => .nil
  | _, _, 0, .cons _ b => .cons hv b
  | _, _, n + 1, .cons a b => .cons a (dpAll_set hv n b)
theorem dpAll_erase {K : PySem.W.Frag} {H : Hp} : ∀ {xs : List V} {ds : List PyData} (n : Nat), DpAll K H xs ds → DpAll K H (xs.eraseIdx n) (ds.eraseIdx n)
  | _, _, _, .nil => .nil
  | _, _, 0, .cons _ b => b
  | _, _, n + 1, .cons a b => .cons a (dpAll_erase n b)
end NS

/-! ### small data -/
namespace NS
open PySem L2
mutual
def intsB (N : Nat) : PyData → Bool
  | .int i => decide (i.natAbs ≤ N)
  | .list ds => decide (ds.length ≤ N) && intsAll N ds
  | .tuple ds => decide (ds.length ≤ N) && intsAll N ds
  | .none => true
  | .bool _ => true
  | .str _ => true
  | .dict _ => true
def intsAll (N : Nat) : List PyData → Bool
  | [] => true
  | d :: ds => intsB N d && intsAll N ds
end
/-- items that fit: no sign of a text too high, not too deep, ints not too great, rows not too long -/
structure Itm (D N : Nat) (d : PyData) : Prop where
  lay : PyData.canLay0 d = true
  dep : PyData.depth d ≤ D
  num : intsB N d = true
structure Sm (D W N : Nat) (d : PyData) : Prop where
  itm : Itm D N d
  wt : PyData.weight d ≤ W
theorem layAll_iff : ∀ {ds : List PyData}, PyData.canLayAll0 ds = true ↔ ∀ x ∈ ds, PyData.canLay0 x = true
  | [] => ⟨(fun _ _ h => nomatch h), fun _ => rfl⟩
  | d :: ds => by
    rw [PyData.canLayAll0, Bool.and_eq_true, layAll_iff (ds := ds), List.forall_mem_cons]
theorem depAll_iff {D : Nat} : ∀ {ds : List PyData}, PyData.depthAll ds ≤ D ↔ ∀ x ∈ ds, PyData.depth x ≤ D
  | [] => ⟨(fun _ _ h => nomatch h), fun _ => Nat.zero_le _⟩
  | d :: ds => by
    rw [PyData.depthAll, Nat.max_le, depAll_iff (ds := ds), List.forall_mem_cons]
theorem intsAll_iff {N : Nat} : ∀ {ds : List PyData}, intsAll N ds = true ↔ ∀ x ∈ ds, intsB N x = true
  | [] => ⟨(fun _ _ h => nomatch h), fun _ => by rw [intsAll]⟩
  | d :: ds => by
    rw [intsAll, Bool.and_eq_true, intsAll_iff (ds := ds), List.forall_mem_cons]
theorem itm_list {D N : Nat} {ds : List PyData} : Itm (D + 1) N (.list ds) ↔ ds.length ≤ N ∧ ∀ x ∈ ds, Itm D N x := by
  constructor
  · intro h
    have h1 := h.lay
    have h2 := h.dep
    have h3 := h.num
    rw [PyData.canLay0, layAll_iff] at h1
    rw [PyData.depth] at h2
    have h2' := depAll_iff.mp (Nat.le_of_succ_le_succ h2)
    rw [intsB, Bool.and_eq_true, intsAll_iff, decide_eq_true_eq] at h3
    exact ⟨h3.1, fun x hx => ⟨h1 x hx, h2' x hx, h3.2 x hx⟩⟩
  · rintro ⟨hl, h⟩
    refine ⟨?_, ?_, ?_⟩
    · rw [PyData.canLay0, layAll_iff]
      exact fun x hx => (h x hx).lay
    · rw [PyData.depth]
      exact Nat.succ_le_succ (depAll_iff.mpr fun x hx => (h x hx).dep)
    · rw [intsB, Bool.and_eq_true, intsAll_iff, decide_eq_true_eq]
      exact ⟨hl, fun x hx => (h x hx).num⟩
theorem itm_tuple {D N : Nat} {ds : List PyData} : Itm (D + 1) N (.tuple ds) ↔ ds.length ≤ N ∧ ∀ x ∈ ds, Itm D N x := by
  constructor
  · intro h
    have h1 := h.lay
    have h2 := h.dep
    have h3 := h.num
    rw [PyData.canLay0, layAll_iff] at h1
    rw [PyData.depth] at h2
    have h2' := depAll_iff.mp (Nat.le_of_succ_le_succ h2)
    rw [intsB, Bool.and_eq_true, intsAll_iff, decide_eq_true_eq] at h3
    exact ⟨h3.1, fun x hx => ⟨h1 x hx, h2' x hx, h3.2 x hx⟩⟩
  · rintro ⟨hl, h⟩
    refine ⟨?_, ?_, ?_⟩
    · rw [PyData.canLay0, layAll_iff]
      exact fun x hx => (h x hx).lay
    · rw [PyData.depth]
      exact Nat.succ_le_succ (depAll_iff.mpr fun x hx => (h x hx).dep)
    · rw [intsB, Bool.and_eq_true, intsAll_iff, decide_eq_true_eq]
      exact ⟨hl, fun x hx => (h x hx).num⟩
mutual
theorem ints_mono {N M : Nat} (h : N ≤ M) : ∀ d : PyData, intsB N d = true → intsB M d = true
  | .int i, q => by
    rw [intsB, decide_eq_true_eq] at q ⊢
    omega
  | .list ds, q => by
    rw [intsB, Bool.and_eq_true, decide_eq_true_eq] at q ⊢
    exact ⟨Nat.le_trans q.1 h, ints_monoA h ds q.2⟩
  | .tuple ds, q => by
    rw [intsB, Bool.and_eq_true, decide_eq_true_eq] at q ⊢
    exact ⟨Nat.le_trans q.1 h, ints_monoA h ds q.2⟩
  | .none, _ => by rw [intsB]
  | .bool _, _ => by rw [intsB]
  | .str _, _ => by rw [intsB]
  | .dict _, _ => by rw [intsB]
theorem ints_monoA {N M : Nat} (h : N ≤ M) : ∀ ds : List PyData, intsAll N ds = true → intsAll M ds = true
  | [], _ => by rw [intsAll]
  | d :: ds, q => by
    rw [intsAll, Bool.and_eq_true] at q ⊢
    exact ⟨ints_mono h d q.1, ints_monoA h ds q.2⟩
end
theorem Itm.mono {D N D' N' : Nat} {d : PyData} (h : Itm D N d) (a : D ≤ D') (b : N ≤ N') : Itm D' N' d := ⟨h.lay, Nat.le_trans h.dep a, ints_mono b d h.num⟩
theorem Sm.mono {D W N D' W' N' : Nat} {d : PyData} (h : Sm D W N d) (a : D ≤ D') (w : W ≤ W') (b : N ≤ N') : Sm D' W' N' d := ⟨h.itm.mono a b, Nat.le_trans h.wt w⟩
/-- a test of it -/
def smB (D W N : Nat) (d : PyData) : Bool := PyData.canLay0 d && decide (PyData.depth d ≤ D) && decide (PyData.weight d ≤ W) && intsB N d
theorem sm_of {D W N : Nat} {d : PyData} (h : smB D W N d = true) : Sm D W N d := by
  unfold smB at h
  simp only [Bool.and_eq_true, decide_eq_true_eq] at h
  exact ⟨⟨h.1.1.1, h.1.1.2, h.2⟩, h.1.2⟩
/-! the weight of items -/
def wS (ds : List PyData) : Nat := (ds.map fun d => PyData.weight d + 1).sum
theorem wS_eq : ∀ ds : List PyData, PyData.weightAll ds = wS ds
  | [] => rfl
  | d :: ds => by
    rw [PyData.weightAll, wS_eq ds]
    show _ = ((PyData.weight d + 1) :: (ds.map fun d => PyData.weight d + 1)).sum
    rw [List.sum_cons]
    rfl
theorem wt_list (ds : List PyData) : PyData.weight (.list ds) = wS ds := by rw [PyData.weight, wS_eq]
theorem wt_tuple (ds : List PyData) : PyData.weight (.tuple ds) = wS ds := by rw [PyData.weight, wS_eq]
theorem wS_nil : wS [] = 0 := rfl
theorem wS_cons (d : PyData) (ds : List PyData) : wS (d :: ds) = PyData.weight d + 1 + wS ds := by
  show ((PyData.weight d + 1) :: (ds.map fun d => PyData.weight d + 1)).sum = _
  rw [List.sum_cons]
  rfl
theorem wS_app : ∀ (a b : List PyData), wS (a ++ b) = wS a + wS b
  | [], b => by rw [List.nil_append, wS_nil, Nat.zero_add]
  | d :: a, b => by
    rw [List.cons_append, wS_cons, wS_cons, wS_app a b]
    omega
theorem wS_rev : ∀ a : List PyData, wS a.reverse = wS a
  | [] => rfl
  | d :: a => by
    rw [List.reverse_cons, wS_app, wS_rev a, wS_cons, wS_cons, wS_nil]
    omega
theorem wS_td (a : List PyData) (n : Nat) : wS (a.take n) + wS (a.drop n) = wS a := by
  rw [← wS_app, List.take_append_drop]
theorem wS_len : ∀ a : List PyData, a.length ≤ wS a
  | [] => Nat.le_refl _
  | d :: a => by
    rw [wS_cons, List.length_cons]
    have := wS_len a
    omega
theorem wS_erase : ∀ (a : List PyData) (n : Nat), wS (a.eraseIdx n) ≤ wS a
  | [], _ => Nat.le_refl _
  | d :: a, 0 => by
    rw [List.eraseIdx_cons_zero, wS_cons]
    omega
  | d :: a, n + 1 => by
    rw [List.eraseIdx_cons_succ, wS_cons, wS_cons]
    have := wS_erase a n
    omega
theorem wS_set : ∀ (a : List PyData) (n : Nat) (x y : PyData), a[n]? = some x → wS (a.set n y) + PyData.weight x = wS a + PyData.weight y
  | [], _, _, _, h => by simp at h
  | d :: a, 0, x, y, h => by
    have e : d = x := Option.some.inj h
    rw [List.set_cons_zero, wS_cons, wS_cons, e]
    omega
  | d :: a, n + 1, x, y, h => by
    have ih := wS_set a n x y (by simpa using h)
    rw [List.set_cons_succ, wS_cons, wS_cons]
    omega
theorem wS_mem : ∀ {a : List PyData} {n : Nat} {x : PyData}, a[n]? = some x → PyData.weight x + 1 ≤ wS a
  | [], _, _, h => by simp at h
  | d :: a, 0, x, h => by
    have e : d = x := Option.some.inj h
    rw [wS_cons, e]
    omega
  | d :: a, n + 1, x, h => by
    have ih := wS_mem (a := a) (n := n) (x := x) (by simpa using h)
    rw [wS_cons]
    omega
theorem mem_erase {a : List PyData} {n : Nat} {x : PyData} (h : x ∈ a.eraseIdx n) : x ∈ a := List.mem_of_mem_eraseIdx h
theorem mem_set {a : List PyData} {n : Nat} {x y : PyData} (h : x ∈ a.set n y) : x ∈ a ∨ x = y := List.mem_or_eq_of_mem_set h
/-! texts of ints -/
theorem lay_int (i : Int) : PyData.canLay0 (.str (toString i : String)) = true := by
  rw [PyData.canLay0]
  unfold PyData.strOk
  rw [Array.all_eq_true]
  intro j hj
  have hm : ((toString i : String) : Str).cps[j] ∈ ((toString i : String) : Str).cps.toList := by simp
  have hf := PyProof.Rows.int_text_free' (((toString i : String) : Str).cps[j])
  refine decide_eq_true ?_
  by_cases h : ((toString i : String) : Str).cps[j] < 1114112
  · exact h
  · exact absurd hm (hf ⟨by omega, Or.inr (by omega)⟩ i)
theorem odd_const : ∀ d ∈ oddA ++ oddB, Sm 2 30 3 d := by
  have h : (oddA ++ oddB).all (smB 2 30 3) = true := by decide +kernel
  rw [List.all_eq_true] at h
  exact fun d hd => sm_of (h d hd)
theorem sm_int {i : Int} {N : Nat} (h : i.natAbs ≤ N) (hN : N ≤ 100000) : Sm 0 30 N (.int i) := by
  refine ⟨⟨by rw [PyData.canLay0], by rw [PyData.depth]; exact Nat.le_refl _, by rw [intsB]; exact decide_eq_true h⟩, ?_⟩
  rw [PyData.weight]
  split
  · exact Nat.zero_le _
  · have l : i.natAbs.log2 < 20 := by
      by_cases h0 : i.natAbs = 0
      · rw [h0]
        decide
      · exact (Nat.log2_lt h0).mpr (Nat.lt_of_le_of_lt (Nat.le_trans h hN) (by decide))
    omega
theorem sm_strI {i : Int} {N : Nat} (h : i.natAbs ≤ N) (hN : N ≤ 100000) : Sm 0 30 N (.str (toString i : String)) := by
  refine ⟨⟨lay_int i, by rw [PyData.depth]; exact Nat.le_refl _, by rw [intsB]⟩, ?_⟩
  rw [PyData.weight]
  show (Str.ofString (toString i)).length ≤ 30
  by_cases h0 : 0 ≤ i
  · have l := PyProof.Rows.toString_length_le (v := i) h0 (k := 6) (by decide) (by omega)
    omega
  · rw [PyProof.Rows.len_text_neg (by omega)]
    have l := PyProof.Rows.toString_length_le (v := 0 - i) (by omega) (k := 6) (by decide) (by omega)
    omega
theorem odd_num {D W N : Nat} {z : Int} {v : V} {d : PyData} (hz : z.natAbs ≤ N) (hN : N + 1 ≤ 100000) (hv : Sm 0 30 (N + 1) (.str (strV v))) : ∀ x ∈ oddN z v d, Sm (D + 2) (W + 30) (N + 1) x := by
  intro x hx
  have go : ∀ {y : PyData}, Sm 0 30 (N + 1) y → Sm (D + 2) (W + 30) (N + 1) y := fun h => h.mono (by omega) (by omega) (Nat.le_refl _)
  unfold oddN at hx
  simp only [List.mem_cons, List.not_mem_nil, or_false] at hx
  rcases hx with rfl | rfl | rfl | rfl | rfl
  · exact go (sm_int (by omega) hN)
  · exact go (sm_int (by omega) hN)
  · exact go (sm_int (by omega) hN)
  · exact go hv
  · exact go ⟨⟨by rw [PyData.canLay0], by rw [PyData.depth]; exact Nat.le_refl _, by rw [intsB]⟩, by rw [PyData.weight]; exact Nat.zero_le _⟩
theorem odd_seq {D W N : Nat} {ds : List PyData} (hl : ds.length ≤ N) (hi : ∀ x ∈ ds, Itm D N x) (hw : wS ds ≤ W) {mk : List PyData → PyData} (hm : mk = .list ∨ mk = .tuple) : ∀ x ∈ oddS mk ds, Sm (D + 1) W N x := by
  intro x hx
  have mkd : ∀ es : List PyData, es.length ≤ N → (∀ y ∈ es, Itm D N y) → wS es ≤ W → Sm (D + 1) W N (mk es) := fun es h0 h1 h2 => by
    rcases hm with rfl | rfl
    · exact ⟨itm_list.mpr ⟨h0, h1⟩, by rw [wt_list]; exact h2⟩
    · exact ⟨itm_tuple.mpr ⟨h0, h1⟩, by rw [wt_tuple]; exact h2⟩
  unfold oddS at hx
  simp only [List.mem_cons, List.not_mem_nil, or_false] at hx
  rcases hx with rfl | rfl | rfl | rfl | rfl
  · exact ⟨itm_list.mpr ⟨hl, hi⟩, by rw [wt_list]; exact hw⟩
  · exact ⟨itm_tuple.mpr ⟨hl, hi⟩, by rw [wt_tuple]; exact hw⟩
  · exact mkd _ (by rw [List.length_reverse]; exact hl) (fun y hy => hi y (List.mem_reverse.mp hy)) (by rw [wS_rev]; exact hw)
  · exact mkd _ (by rw [List.length_drop]; omega) (fun y hy => hi y (List.mem_of_mem_drop hy)) (by have := wS_td ds 1; omega)
  · refine mkd _ (by rw [List.length_dropLast]; omega) (fun y hy => hi y (List.dropLast_subset _ hy)) ?_
    rw [List.dropLast_eq_take]
    have := wS_td ds (ds.length - 1)
    omega
theorem itm_pred {D N : Nat} {ds : List PyData} (h : Itm D N (.list ds) ∨ Itm D N (.tuple ds)) : ∃ D', D = D' + 1 ∧ ds.length ≤ N ∧ ∀ x ∈ ds, Itm D' N x := by
  cases D with
  | zero =>
    rcases h with h | h
    · have := h.dep
      rw [PyData.depth] at this
      omega
    · have := h.dep
      rw [PyData.depth] at this
      omega
  | succ D' =>
    refine ⟨D', rfl, ?_⟩
    rcases h with h | h
    · exact itm_list.mp h
    · exact itm_tuple.mp h
theorem odd_sm {D W N : Nat} {d : PyData} (h : Sm D W N d) (h3 : 3 ≤ N) (hN : N + 1 ≤ 100000) : ∀ x ∈ oddL d, Sm (D + 2) (W + 30) (N + 1) x := by
  have base : ∀ x ∈ oddA ++ oddB, Sm (D + 2) (W + 30) (N + 1) x := fun x hx => (odd_const x hx).mono (by omega) (by omega) (by omega)
  intro x hx
  cases d with
  | none => exact base x hx
  | str z => exact base x hx
  | dict kvs => exact base x hx
  | int i =>
    have hi : i.natAbs ≤ N := by
      have := h.itm.num
      rw [intsB] at this
      exact of_decide_eq_true this
    have no := odd_num (D := D) (W := W) (v := .int i) (d := .int i) hi hN (sm_strI (by omega) hN)
    rcases List.mem_append.mp (show x ∈ (oddA ++ oddB) ++ (oddN i (.int i) (.int i) ++ oddN i (.int i) (.int i)) from hx) with q | q
    · exact base x q
    · rcases List.mem_append.mp q with q | q
      · exact no x q
      · exact no x q
  | bool b =>
    have no := odd_num (D := D) (W := W) (z := if b = true then 1 else 0) (v := .bl b) (d := .bool b) (by split <;> omega) hN ((sm_of (d := .str (strV (.bl b))) (D := 0) (W := 30) (N := 0) (by cases b <;> decide +kernel)).mono (Nat.le_refl _) (Nat.le_refl _) (Nat.zero_le _))
    rcases List.mem_append.mp (show x ∈ (oddA ++ oddB) ++ (oddN (if b = true then 1 else 0) (.bl b) (.bool b) ++ oddN (if b = true then 1 else 0) (.bl b) (.bool b)) from hx) with q | q
    · exact base x q
    · rcases List.mem_append.mp q with q | q
      · exact no x q
      · exact no x q
  | list ds =>
    obtain ⟨D', rfl, hl, hi⟩ := itm_pred (.inl h.itm)
    have hw := h.wt
    rw [wt_list] at hw
    have no := odd_seq hl hi hw (mk := .list) (.inl rfl)
    rcases List.mem_append.mp (show x ∈ (oddA ++ oddB) ++ (oddS .list ds ++ oddS .list ds) from hx) with q | q
    · exact base x q
    · rcases List.mem_append.mp q with q | q
      · exact (no x q).mono (by omega) (by omega) (by omega)
      · exact (no x q).mono (by omega) (by omega) (by omega)
  | tuple ds =>
    obtain ⟨D', rfl, hl, hi⟩ := itm_pred (.inr h.itm)
    have hw := h.wt
    rw [wt_tuple] at hw
    have no := odd_seq hl hi hw (mk := .tuple) (.inr rfl)
    rcases List.mem_append.mp (show x ∈ (oddA ++ oddB) ++ (oddS .tuple ds ++ oddS .tuple ds) from hx) with q | q
    · exact base x q
    · rcases List.mem_append.mp q with q | q
      · exact (no x q).mono (by omega) (by omega) (by omega)
      · exact (no x q).mono (by omega) (by omega) (by omega)
/-- what repr asks -/
theorem sm_show {D W N : Nat} {d : PyData} (h : Sm D W N d) (hD : D ≤ 60) (hW : W ≤ 1048576) (hN : N ≤ 100000) : SeqAt.shaped d = true ∧ PyData.depth d ≤ 60 := by
  have h1 := h.itm.lay
  have h2 := h.itm.dep
  unfold SeqAt.shaped
  rw [h1, Bool.true_and]
  exact ⟨decide_eq_true (by omega), by omega⟩
end NS
namespace NS
open PySem L2
theorem seqIx {a n : Nat} (h : a < n) : seqIndex? (a : Int) n = some a := by
  unfold seqIndex?
  simp
  omega
theorem ixn {a n : Nat} (h : a < n) : ixN n (a : Int) = some a := by
  unfold ixN
  rw [if_pos (by omega), if_pos (by omega)]
  simp
theorem cut_two {xs : List V} {a : Nat} (h : a < xs.length) : cutV xs (some (a : Int)) (some ((a : Int) + 2)) = (xs.drop a).take (min (a + 2) xs.length - a) := by
  unfold cutV
  have e : ((a : Int) + 2) = ((a + 2 : Nat) : Int) := by omega
  rw [e, HT.sIx_nat, HT.sIx_nat, Nat.min_eq_left (by omega : a ≤ xs.length)]
end NS
namespace NS
open PySem L2
theorem short_int {i : Int} (h : i.natAbs ≤ 100000) : (PyData.shown (.int i)).length ≤ 13 := by
  rw [PyData.shown]
  by_cases h0 : 0 ≤ i
  · have l := PyProof.Rows.toString_length_le (v := i) h0 (k := 6) (by decide) (by omega)
    omega
  · rw [PyProof.Rows.len_text_neg (by omega)]
    have l := PyProof.Rows.toString_length_le (v := 0 - i) (by omega) (k := 6) (by decide) (by omega)
    omega
mutual
theorem short_of {N : Nat} (hN : N ≤ 100000) : ∀ d : PyData, intsB N d = true → PyData.canLay0 d = true → PyData.intsShort 13 d = true ∧ PyData.showable d = true ∧ PyData.hasDict d = false
  | .int i, h, _ => by
    rw [intsB, decide_eq_true_eq] at h
    refine ⟨by rw [PyData.intsShort]; exact decide_eq_true (short_int (by omega)), ?_, by rw [PyData.hasDict]⟩
    rw [PyData.showable]
    refine decide_eq_true ?_
    by_cases h0 : i.natAbs = 0
    · rw [h0]
      decide
    · exact Nat.lt_of_lt_of_le ((Nat.log2_lt h0).mpr (Nat.lt_of_le_of_lt (Nat.le_trans h hN) (by decide : 100000 < 2 ^ 20))) (by decide)
  | .none, _, _ => ⟨by rw [PyData.intsShort], by rw [PyData.showable], by rw [PyData.hasDict]⟩
  | .bool _, _, _ => ⟨by rw [PyData.intsShort], by rw [PyData.showable], by rw [PyData.hasDict]⟩
  | .str _, _, _ => ⟨by rw [PyData.intsShort], by rw [PyData.showable], by rw [PyData.hasDict]⟩
  | .list ds, h, l => by
    rw [intsB, Bool.and_eq_true] at h
    rw [PyData.canLay0] at l
    rw [PyData.intsShort, PyData.showable, PyData.hasDict]
    exact short_ofA hN ds h.2 l
  | .tuple ds, h, l => by
    rw [intsB, Bool.and_eq_true] at h
    rw [PyData.canLay0] at l
    rw [PyData.intsShort, PyData.showable, PyData.hasDict]
    exact short_ofA hN ds h.2 l
  | .dict kvs, _, l => by
    rw [PyData.canLay0] at l
    cases l
theorem short_ofA {N : Nat} (hN : N ≤ 100000) : ∀ ds : List PyData, intsAll N ds = true → PyData.canLayAll0 ds = true → PyData.intsShortAll 13 ds = true ∧ PyData.showableAll ds = true ∧ PyData.hasDictAll ds = false
  | [], _, _ => ⟨by rw [PyData.intsShortAll], by rw [PyData.showableAll], by rw [PyData.hasDictAll]⟩
  | d :: ds, h, l => by
    rw [intsAll, Bool.and_eq_true] at h
    rw [PyData.canLayAll0, Bool.and_eq_true] at l
    obtain ⟨a1, a2, a3⟩ := short_of hN d h.1 l.1
    obtain ⟨b1, b2, b3⟩ := short_ofA hN ds h.2 l.2
    rw [PyData.intsShortAll, PyData.showableAll, PyData.hasDictAll, a1, a2, a3, b1, b2, b3]
    exact ⟨rfl, rfl, rfl⟩
end
theorem sm_repr {D W N : Nat} {d : PyData} (h : Sm D W N d) (hD : D ≤ 60) (hW : W ≤ 1048576) (hN : N ≤ 100000) : PyData.showable d = true ∧ d.hasDict = false ∧ d.depth ≤ 60 ∧ d.shown.length ≤ sizeLine := by
  obtain ⟨a1, a2, a3⟩ := short_of hN d h.itm.num h.itm.lay
  have hd := h.itm.dep
  have hw := h.wt
  have lay : PyData.layable0 d = true := by
    unfold PyData.layable0
    rw [h.itm.lay, decide_eq_true (by omega : PyData.depth d ≤ 64), decide_eq_true (Nat.le_trans hw (Nat.le_trans hW (by decide)) : PyData.weight d ≤ 2 ^ 20)]
    rfl
  exact ⟨a2, a3, by omega, Nat.le_trans (PyProof.Rows.shown_le13 lay a1) (by decide)⟩
end NS

/-! ### rows that are filled -/
namespace NS
open PySem L2
def oV : Option Int → V
  | none => .non
  | some h => .int h
/-- the free cells below i -/
def frees (sh : List (Option Int)) (i : Nat) : List Nat := (List.range i).filter fun x => (sh.getD x (some 0)).isNone
theorem frees_succ (sh : List (Option Int)) (i : Nat) : frees sh (i + 1) = frees sh i ++ (if (sh.getD i (some 0)).isNone = true then [i] else []) := by
  unfold frees
  rw [List.range_succ, List.filter_append]
  congr 1
  rw [List.filter_cons, List.filter_nil]
theorem frees_len (sh : List (Option Int)) (i : Nat) : (frees sh i).length ≤ i := by
  unfold frees
  refine Nat.le_trans (List.length_filter_le _ _) ?_
  rw [List.length_range]
  exact Nat.le_refl _
theorem mem_frees {sh : List (Option Int)} {i x : Nat} : x ∈ frees sh i ↔ x < i ∧ (sh.getD x (some 0)) = none := by
  unfold frees
  rw [List.mem_filter, List.mem_range, Option.isNone_iff_eq_none]
theorem getD_none {sh : List (Option Int)} {x : Nat} : sh.getD x (some 0) = none ↔ sh[x]? = some none := by
  rw [List.getD_eq_getElem?_getD]
  cases h : sh[x]? with
  | none => exact ⟨(fun z => nomatch z), (fun z => nomatch z)⟩
  | some o => exact ⟨fun z => congrArg some z, fun z => Option.some.inj z⟩
/-- the free cell that is nearest -/
structure Spot (n : Nat) (sh : List (Option Int)) (h : Int) (c : Nat) : Prop where
  lt : c < n
  free : sh[c]? = some none
  best : ∀ x : Nat, x < n → sh[x]? = some none → near h (c : Int) (x : Int) = false
inductive Fill (n : Nat) : List Int → List (Option Int) → List Int → Prop
  | nil : Fill n [] (List.replicate n none) []
  | snoc {hs : List Int} {sh : List (Option Int)} {qs : List Int} {h : Int} {c : Nat} : Fill n hs sh qs → Spot n sh h c → Fill n (hs ++ [h]) (sh.set c (some h)) (qs ++ [(c : Int)])
theorem Fill.len {n : Nat} {hs : List Int} {sh : List (Option Int)} {qs : List Int} (f : Fill n hs sh qs) : sh.length = n := by
  induction f with
  | nil => exact List.length_replicate
  | snoc _ _ ih => rw [List.length_set]; exact ih
def fr (sh : List (Option Int)) : Nat := (sh.filter Option.isNone).length
theorem fr_cons (o : Option Int) (sh : List (Option Int)) : fr (o :: sh) = (if o.isNone = true then 1 else 0) + fr sh := by
  unfold fr
  rw [List.filter_cons]
  split
  · rw [List.length_cons]
    omega
  · omega
theorem fr_set : ∀ {sh : List (Option Int)} {c : Nat} {h : Int}, sh[c]? = some none → fr (sh.set c (some h)) + 1 = fr sh
  | [], _, _, q => by simp at q
  | o :: sh, 0, h, q => by
    have e : o = none := Option.some.inj q
    subst e
    rw [List.set_cons_zero, fr_cons, fr_cons]
    show (0 + fr sh) + 1 = 1 + fr sh
    omega
  | o :: sh, c + 1, h, q => by
    have ih := fr_set (sh := sh) (c := c) (h := h) (by simpa using q)
    rw [List.set_cons_succ, fr_cons, fr_cons]
    omega
theorem fr_rep (n : Nat) : fr (List.replicate n none) = n := by
  induction n with
  | zero => rfl
  | succ n ih =>
    rw [List.replicate_succ, fr_cons, ih]
    show 1 + n = n + 1
    omega
theorem Fill.free {n : Nat} {hs : List Int} {sh : List (Option Int)} {qs : List Int} (f : Fill n hs sh qs) : fr sh + hs.length = n := by
  induction f with
  | nil => rw [fr_rep]; rfl
  | @snoc hs sh qs h c _ sp ih =>
    have e := fr_set (h := h) sp.free
    rw [List.length_append, List.length_singleton]
    omega
theorem fr_pos : ∀ {sh : List (Option Int)}, 0 < fr sh → ∃ c, c < sh.length ∧ sh[c]? = some none
  | [], h => absurd h (by decide)
  | none :: sh, _ => ⟨0, Nat.succ_pos _, rfl⟩
  | some z :: sh, h => by
    rw [fr_cons] at h
    obtain ⟨c, h1, h2⟩ := fr_pos (sh := sh) (by
      have e : (if (some z : Option Int).isNone = true then 1 else 0) = 0 := rfl
      omega)
    exact ⟨c + 1, Nat.succ_lt_succ h1, by simpa using h2⟩
theorem Fill.ent {n : Nat} {hs : List Int} {sh : List (Option Int)} {qs : List Int} (f : Fill n hs sh qs) : ∀ z : Int, some z ∈ sh → z ∈ hs := by
  induction f with
  | nil =>
    intro z hz
    have := List.eq_of_mem_replicate hz
    cases this
  | snoc _ _ ih =>
    intro z hz
    rcases List.mem_or_eq_of_mem_set hz with hz | hz
    · exact List.mem_append_left _ (ih z hz)
    · cases hz
      exact List.mem_append_right _ (List.mem_singleton.mpr rfl)
/-- some wishes are veiled -/
structure Veil (xs ys : List V) : Prop where
  len : ys.length = xs.length
  at_ : ∀ i : Nat, ys[i]? = xs[i]? ∨ (ys[i]? = some (.str "?") ∧ ∃ v, xs[i]? = some v ∧ v ≠ .non)
/-- an entry of a table of n cells -/
def TabV (n : Nat) (v : V) : Prop := v = .non ∨ v = .str "?" ∨ ∃ i : Nat, v = .int (i : Int) ∧ i < n
end NS
namespace NS
open PySem L2
theorem oV_isN (o : Option Int) : decide (oV o = V.non) = o.isNone := by
  cases o with
  | none => rfl
  | some h => exact decide_eq_false fun z => nomatch z
theorem oV_get {sh : List (Option Int)} {j : Nat} (h : j < sh.length) : (sh.map oV)[j]? = some (oV (sh.getD j (some 0))) := by
  rw [List.getElem?_map, List.getD_eq_getElem?_getD, List.getElem?_eq_getElem h]
  rfl
theorem spot_of {n : Nat} {sh : List (Option Int)} {h : Int} {i x : Nat} (hx : (frees sh n)[i]? = some x) (hb : ∀ ms ∈ (frees sh n).map (fun (x : Nat) => [dist (x : Int) h, (x : Int)]), HT.lexLt ms [dist (x : Int) h, (x : Int)] = false) : Spot n sh h x := by
  have hm := mem_frees.mp (List.mem_of_getElem? hx)
  refine ⟨hm.1, getD_none.mp hm.2, fun y hy hf => ?_⟩
  exact hb _ (List.mem_map.mpr ⟨y, mem_frees.mpr ⟨hy, getD_none.mpr hf⟩, rfl⟩)
theorem take_snoc {hs : List Int} {i : Nat} (h : i < hs.length) : hs.take (i + 1) = hs.take i ++ [hs[i]] := by
  rw [List.take_add_one, List.getElem?_eq_getElem h]
  rfl
end NS
namespace NS
open PySem L2
theorem ixn' {a n : Nat} (h : a < n) : ixN n (a : Int) = some a := by
  unfold ixN
  rw [if_pos (by omega), if_pos (by omega)]
  simp
theorem Fill.qlen {n : Nat} {hs : List Int} {sh : List (Option Int)} {qs : List Int} (f : Fill n hs sh qs) : qs.length = hs.length := by
  induction f with
  | nil => rfl
  | snoc _ _ ih => rw [List.length_append, List.length_append, ih]; rfl
theorem veil_tab {n : Nat} {hs : List Int} {sh : List (Option Int)} {qs : List Int} {ys : List V} (f : Fill n hs sh qs) (hr : ∀ h ∈ hs, 0 ≤ h ∧ h < (n : Int)) (v : Veil (sh.map oV) ys) : ys.length = n ∧ ∀ y ∈ ys, TabV n y := by
  have hl := v.len
  rw [List.length_map, f.len] at hl
  refine ⟨hl, fun y hy => ?_⟩
  obtain ⟨i, hi, rfl⟩ := List.getElem_of_mem hy
  have gi : ys[i]? = some ys[i] := List.getElem?_eq_getElem hi
  rcases v.at_ i with q | ⟨q, _⟩
  · rw [gi, List.getElem?_map] at q
    cases ho : sh[i]? with
    | none => rw [ho] at q; cases q
    | some o =>
      rw [ho] at q
      have e : ys[i] = oV o := Option.some.inj q
      rw [e]
      cases o with
      | none => exact .inl rfl
      | some z =>
        have := hr z (f.ent z (List.mem_of_getElem? ho))
        exact .inr (.inr ⟨z.toNat, by show V.int z = V.int ((z.toNat : Nat) : Int); congr 1; omega, by omega⟩)
  · rw [gi] at q
    exact .inr (.inl (Option.some.inj q))
end NS

/-! ### enumerate of a tuple -/
namespace NS
open PySem PySem.Spec PyProof.Rows L2
open AutoSeq1 (wpAny_loadPart')
section
variable {P : Program} {w : World} {A : Around} {E : Value → Shared → Prop} {s : Shared}
/-- the enumerate over the iterator at j, its number n; what it gave last -/
abbrev EnO (h : Heap) (c j : Addr) (n : Int) (v : Value) : Prop := IsEnum h c j n v
theorem en_new (t : Addr) (its : Array Value) (m : Nat) (dc : Option Addr) (sl : Array (Option Value)) :
    Meets (Builtin.«enumerate.__new__» ⟨[.type "enumerate", .ref t], []⟩) (fun _ R s => s.heap.get? t = some { cls := .type "tuple", dict := dc, data := .seq its m, slots := sl } ∧
      R (.ok (.ret (.ref (s.heap.push { cls := .type "tuple_iterator", data := .fields #[.ref t, .int 0 0] }).objs.size)))
        { s with heap := (s.heap.push { cls := .type "tuple_iterator", data := .fields #[.ref t, .int 0 0] }).push { cls := .type "enumerate", data := .fields #[.none, .bool false, .ref s.heap.objs.size, rawInt 0, .none, .none] } }) :=
  .of_wp fun P w A R s h => by
    obtain ⟨hp, g, dr, tk, os⟩ := s
    obtain ⟨ht, h⟩ := h
    have hs := sub_enumerate
    have hT : Heap.IsTuple (Shared.heap ⟨hp, g, dr, tk, os⟩) t its := ⟨_, ht, rfl, m, rfl⟩
    wp_walk using wpAny_loadPart' ht
    refine wpAny_stack_any fun st => wpAny_pure ?_
    split
    · rename_i c _ _ _ _ _
      cases (c == Value.type "enumerate") <;> (wp_walk using wpAny_loadPart' ht, wpAny_pyIter_tuple hT; exact ⟨_, rfl, h⟩)
    · (wp_walk using wpAny_loadPart' ht, wpAny_pyIter_tuple hT; exact ⟨_, rfl, h⟩)
theorem en_make {t : Addr} {its : Array Value} {Q : Value → Shared → Prop} (hT : s.heap.IsTuple t its)
    (h : ∀ h1, EnO h1 (s.heap.objs.size + 1) s.heap.objs.size 0 .none → h1.IsTupleIter s.heap.objs.size t 0 → (∀ b o, s.heap.get? b = some o → h1.get? b = some o) → Q (.ref (s.heap.objs.size + 1)) { s with heap := h1 }) :
    wpAny (model P w) A (call (.type "enumerate") [.ref t]) Q E s := by
  obtain ⟨⟨c, dc, dt, sl⟩, ht, hc, m, hd⟩ := hT
  cases (show c = .type "tuple" from hc)
  cases (show dt = .seq its m from hd)
  have z1 : (s.heap.push { cls := .type "tuple_iterator", data := .fields #[.ref t, .int 0 0] }).objs.size = s.heap.objs.size + 1 := Heap.size_push ..
  refine callType_new F.called_enumerate (by decide) (F.typeCall_enumerate_1 _) (F.newCall_enumerate_1 _) (fun o => F.args_object_init_2 o _) F.entry_enumerate_new (en_new t its m dc sl) ⟨ht, ?_⟩
  show _ ∧ _
  have hE : EnO ((s.heap.push { cls := .type "tuple_iterator", data := .fields #[.ref t, .int 0 0] }).push { cls := .type "enumerate", data := .fields #[.none, .bool false, .ref s.heap.objs.size, rawInt 0, .none, .none] }) (s.heap.objs.size + 1) s.heap.objs.size 0 .none := by
    rw [← z1]
    exact Heap.get?_push_size (s.heap.push { cls := .type "tuple_iterator", data := .fields #[.ref t, .int 0 0] }) (o := { cls := .type "enumerate", data := .fields #[.none, .bool false, .ref s.heap.objs.size, rawInt 0, .none, .none] }) rfl
  rw [z1]
  exact ⟨⟨_, hE, rfl⟩, h _ hE ⟨_, Heap.get?_push_of_some _ (Heap.get?_push_size _ rfl), rfl, rfl⟩ fun b o z => Heap.get?_push_of_some _ (Heap.get?_push_of_some _ z)⟩
/-- one more, whatever the iterator within is -/
theorem en_step {c j : Addr} {i : Nat} {x v0 : Value} {φ : Obj → Prop} {Q : Value → Shared → Prop} (he : EnO s.heap c j i v0) (hn : c ≠ j)
    (inner : ∀ Q1 : Value → Shared → Prop, (∀ h1, (∃ o, h1.get? j = some o ∧ φ o) → Heap.SameBut j s.heap h1 → Q1 x { s with heap := h1 }) → wpAny (model P w) A (Builtin.SmallTypes.nextOf (.ref j)) Q1 E s)
    (hQ : ∀ h1, IsEnumOut h1 c j ((i : Int) + 1) x s.heap.objs.size → (∃ o, h1.get? j = some o ∧ φ o) → h1.get? s.heap.objs.size = some { cls := .type "tuple", data := .seq #[.int i s.toks, x] } →
      (∀ b o, b ≠ c → b ≠ j → s.heap.get? b = some o → h1.get? b = some o) → Q (.ref s.heap.objs.size) { s with heap := h1, toks := s.toks + 1 }) :
    wpAny (model P w) A (Builtin.«enumerate.__next__» ⟨[.ref c], []⟩) (fun fin s' => ∃ v, fin = .done (.ret v) ∧ Q v s') E s := by
  obtain ⟨hp, g, dr, tk, os⟩ := s
  show wpAny _ _ (field (.ref c) 2 >>= _) _ _ _
  refine wpAny_bind (wpAny_field he rfl (x := .ref j) rfl (wpAny_bind (inner _ fun h1 gj1 s1 => ?_)))
  obtain ⟨oj, gj1, fj⟩ := gj1
  replace s1 : Heap.SameBut j hp h1 := s1
  have e1 : EnO h1 c j i v0 := (s1.2 c hn).trans he
  show wpAny _ _ (field (.ref c) 3 >>= _) _ _ ⟨h1, g, dr, tk, os⟩
  refine wpAny_bind (wpAny_field e1 rfl (x := rawInt i) rfl ?_)
  show wpAny _ _ (field (.ref c) 4 >>= _) _ _ ⟨h1, g, dr, tk, os⟩
  refine wpAny_bind (wpAny_field e1 rfl (x := .none) rfl ?_)
  show wpAny _ _ (mkInt i >>= _) _ _ ⟨h1, g, dr, tk, os⟩
  refine wpAny_bind (wpAny_mkInt ?_)
  show wpAny _ _ (setField (.ref c) 3 (rawInt ((i : Int) + 1)) >>= _) _ _ ⟨h1, g, dr, tk + 1, os⟩
  refine wpAny_bind (wpAny_setField_rec e1 (by simp) fun h2 e2 s2 => ?_)
  replace s2 : Heap.SameBut c h1 h2 := s2
  replace e2 : EnO h2 c j ((i : Int) + 1) v0 := e2
  show wpAny _ _ (setField (.ref c) 4 .none >>= _) _ _ ⟨h2, g, dr, tk + 1, os⟩
  refine wpAny_bind (wpAny_setField_rec e2 (by simp) fun h3 e3 s3 => ?_)
  replace s3 : Heap.SameBut c h2 h3 := s3
  replace e3 : EnO h3 c j ((i : Int) + 1) v0 := e3
  show wpAny _ _ (newTuple [.int i tk, x] >>= _) _ _ ⟨h3, g, dr, tk + 1, os⟩
  refine wpAny_bind (wpAny_newTuple ?_)
  have z3 : h3.objs.size = hp.objs.size := by rw [s3.1, s2.1, s1.1]
  have hc : c < hp.objs.size := Heap.lt_size he
  have e4 : EnO (h3.push { cls := .type "tuple", data := .seq #[.int i tk, x] }) c j ((i : Int) + 1) v0 := Heap.get?_push_of_some _ e3
  have t4 : (h3.push { cls := .type "tuple", data := .seq #[.int i tk, x] }).get? hp.objs.size = some { cls := .type "tuple", data := .seq #[.int i tk, x] } := by
    rw [← z3]
    exact Heap.get?_push_size _ rfl
  have j4 : (h3.push { cls := .type "tuple", data := .seq #[.int i tk, x] }).get? j = some oj := Heap.get?_push_of_some _ ((s3.2 j hn.symm).trans ((s2.2 j hn.symm).trans gj1))
  have k4 : ∀ b o, b ≠ c → b ≠ j → hp.get? b = some o → (h3.push { cls := .type "tuple", data := .seq #[.int i tk, x] }).get? b = some o := fun b o n1 n2 z =>
    Heap.get?_push_of_some _ ((s3.2 b n1).trans ((s2.2 b n1).trans ((s1.2 b n2).trans z)))
  generalize h3.push { cls := .type "tuple", data := .seq #[.int i tk, x] } = h4 at e4 t4 j4 k4
  show wpAny _ _ (Builtin.SmallTypes.ownedTupleIsFree (.ref c) >>= _) _ _ ⟨h4, g, dr, tk + 1, os⟩
  rw [z3]
  refine wpAny_bind ?_
  unfold Builtin.SmallTypes.ownedTupleIsFree
  refine wpAny_bind (wpAny_field e4 rfl (x := .none) rfl (wpAny_pure ?_))
  simp only [if_true]
  refine wpAny_bind (wpAny_rule (wpAny_bind (wpAny_field e4 rfl (x := v0) rfl (wpAny_bind (wpAny_setField_rec e4 (by simp) fun h5 e5 s5 => ?_)))))
  replace s5 : Heap.SameBut c h4 h5 := s5
  replace e5 : EnO h5 c j ((i : Int) + 1) x := e5
  show wpAny _ _ (Builtin.SmallTypes.ownedTupleHandOut (.ref c) (.ref hp.objs.size) >>= _) _ _ ⟨h5, g, dr, tk + 1, os⟩
  refine wpAny_bind ?_
  unfold Builtin.SmallTypes.ownedTupleHandOut
  refine wpAny_bind (wpAny_setField_rec e5 (by simp) fun h6 e6 s6 => ?_)
  replace s6 : Heap.SameBut c h5 h6 := s6
  replace e6 : IsEnumOut h6 c j ((i : Int) + 1) x hp.objs.size := e6
  refine wpAny_setField_rec e6 (by simp) fun h7 e7 s7 => ?_
  replace s7 : Heap.SameBut c h6 h7 := s7
  replace e7 : IsEnumOut h7 c j ((i : Int) + 1) x hp.objs.size := e7
  have up : ∀ b o, b ≠ c → h4.get? b = some o → h7.get? b = some o := fun b o n z => (s7.2 b n).trans ((s6.2 b n).trans ((s5.2 b n).trans z))
  exact wpAny_bind (wpAny_letGo (wpAny_pure ⟨_, rfl, hQ h7 e7 ⟨oj, up j _ hn.symm j4, fj⟩ (up _ _ (Nat.ne_of_gt hc) t4) fun b o n1 n2 z => up b o n1 (k4 b o n1 n2 z)⟩))
theorem en_next {c j t : Addr} {i : Nat} {its : Array Value} {x v0 : Value} {Q : Option Value → Shared → Prop} (he : EnO s.heap c j i v0) (hj : s.heap.IsTupleIter j t i) (ht : s.heap.IsTuple t its) (hx : its[i]? = some x) (hn : c ≠ j)
    (hQ : ∀ h1, IsEnumOut h1 c j ((i : Int) + 1) x s.heap.objs.size → h1.IsTupleIter j t (i + 1) → h1.get? s.heap.objs.size = some { cls := .type "tuple", data := .seq #[.int i s.toks, x] } →
      (∀ b o, b ≠ c → b ≠ j → s.heap.get? b = some o → h1.get? b = some o) → Q (some (.ref s.heap.objs.size)) { s with heap := h1, toks := s.toks + 1 }) : wpAny (model P w) A (pyNext (.ref c)) Q E s := by
  have hT : s.TypeIs (.ref c) "enumerate" := ⟨_, he, rfl⟩
  unfold pyNext
  refine wpAny_bind (wpAny_attempt (wpAny_callSpecial?_slot (name := Str.ofString "__next__") hT F.slot_enumerate_next (wpAny_call_entry F.slot_enumerate_next hT F.entry_enumerate_next ?_ (F.args_enumerate_next_1 _))))
  exact en_step (φ := fun o => o.cls = .type "tuple_iterator" ∧ o.data = .fields #[.ref t, .int ((i + 1 : Nat) : Int) 0]) he hn (fun Q1 q1 => RZ.nextOf_tuple_item hj ht hx fun h1 a b => q1 h1 a b) fun h1 a b z k => wpAny_pure (hQ h1 a b z k)
theorem en_end {c j t : Addr} {i : Nat} {its : Array Value} {v0 : Value} {Q : Option Value → Shared → Prop} (hh : A.handled = none) (he : EnO s.heap c j i v0) (hj : s.heap.IsTupleIter j t i) (ht : s.heap.IsTuple t its) (hx : its[i]? = none)
    (hQ : ∀ h1, Heap.ExtBut j s.heap h1 → Q none { s with heap := h1 }) : wpAny (model P w) A (pyNext (.ref c)) Q E s := by
  have hT : s.TypeIs (.ref c) "enumerate" := ⟨_, he, rfl⟩
  unfold pyNext
  refine wpAny_bind (wpAny_attempt (wpAny_callSpecial?_slot (name := Str.ofString "__next__") hT F.slot_enumerate_next (wpAny_call_entry F.slot_enumerate_next hT F.entry_enumerate_next ?_ (F.args_enumerate_next_1 _))))
  show wpAny _ _ (field (.ref c) 2 >>= _) _ _ _
  refine wpAny_bind (wpAny_field he rfl (x := .ref j) rfl (wpAny_bind (RZ.nextOf_tuple_end hh hj ht hx fun h1 x k ⟨o, ho, hc⟩ => ?_)))
  exact wpAny_bind (wpAny_isInstance (T := "StopIteration") (b := true) ⟨o, ho, hc⟩ isSubtype_stop (wpAny_pure (hQ _ k)))
end
/-- the tuple at a, each item in a new pair -/
def ItE (K : PySem.W.Frag) (a : Addr) : It :=
  ⟨fun i H => ∃ (xs : List V) (x : V), SqT K H a xs ∧ xs[i]? = some x, fun i H v H' => ∃ T x, v = .ref T ∧ H T = none ∧ H' = upd H T (.tup [.int (i : Nat), x]) ∧ ∀ xs, SqT K H a xs → xs[i]? = some x, fun i H => ∃ xs : List V, SqT K H a xs ∧ xs.length ≤ i⟩
theorem turn_enT {P : Program} {w : World} {K : PySem.W.Frag} {elts : List Expr} {kk : Nat} {tpos : Pos} (a c j : Addr) :
    Turn P w K (.Tuple elts kk tpos) (ItE K a) [c, j] c (fun i h => (∃ v0, EnO h c j ((i : Nat) : Int) v0) ∧ h.IsTupleIter j a i ∧ c ≠ j) where
  mem := by simp
  obj := fun i h st b hb => by
    obtain ⟨⟨v0, he⟩, ⟨o, ho, hc, hd⟩, _⟩ := st
    rcases (show b = c ∨ b = j by simpa using hb) with rfl | rfl
    · exact ⟨_, he, fun v q => nomatch q⟩
    · exact ⟨o, ho, fun v q => by rw [hd] at q; cases q⟩
  keep := fun i h h' st k => st.elim fun he z => ⟨he.elim fun v0 y => ⟨v0, k c (by simp) _ y⟩, z.1.at fun o y => k j (by simp) o y, z.2⟩
  item := by
    intro X hP hw hK hc i pins s σ H E I hf st hg
    subst hP hw hK
    obtain ⟨⟨v0, he⟩, hj, hn⟩ := st
    obtain ⟨xs, x, hq, hx⟩ := hg
    obtain ⟨its, rv, ht, hz⟩ := I.tuple hq
    obtain ⟨u, hu, ru⟩ := rv.get hx
    have hcl : c < s.heap.objs.size := Heap.lt_size he
    have hjl : j < s.heap.objs.size := hj.elim fun _ z => Heap.lt_size z.1
    refine en_next he hj ht (x := u) (by simpa using hu) hn fun h1 ho hj1 hT hk => ?_
    refine ⟨_, rfl, wpAny_letOwnedTupleGo_enum (s := { s with heap := h1, toks := s.toks + 1 }) ho fun h2 he2 sb => ?_⟩
    have hT2 : h2.get? s.heap.objs.size = some { cls := .type "tuple", data := .seq #[.int i s.toks, u] } := (sb.2 _ (Nat.ne_of_gt hcl)).trans hT
    have I1 : Inv X pins σ (upd H s.heap.objs.size (.tup [.int (i : Nat), x])) { s with heap := h2, toks := s.toks + 1 } :=
      I.turnedNew (ch := [c, j]) (fun b ob hb q => (sb.2 b (fun z => hb (by simp [z]))).trans (hk b ob (fun z => hb (by simp [z])) (fun z => hb (by simp [z])) q)) hf (Nat.le_refl _)
        ⟨by show 2 ≤ sizeLine; decide, [.int i s.toks, u], .cons ⟨_, rfl⟩ (.cons ru .nil), ⟨_, hT2, rfl, _, rfl⟩⟩
    refine ⟨.ref s.heap.objs.size, _, I1, rfl, ⟨_, x, rfl, I.hok.fresh (Nat.le_refl _), rfl, fun ys hy => by rw [I.tuple_inj hy hq]; exact hx⟩, ⟨⟨u, ?_⟩, hj1.at fun o q => (sb.2 j (Ne.symm hn)).trans q, hn⟩, fun b hb => ?_⟩
    · rw [show ((i + 1 : Nat) : Int) = (i : Int) + 1 by omega]
      exact he2
    · have hlt : b < s.heap.objs.size := by
        rcases (show b = c ∨ b = j by simpa using hb) with rfl | rfl
        · exact hcl
        · exact hjl
      rw [upd_ne (Nat.ne_of_lt hlt)]
      exact (hf b hb).1
  done := by
    intro X hP hw hK hc i pins s σ H E I hf st hg
    subst hP hw hK
    obtain ⟨⟨v0, he⟩, hj, hn⟩ := st
    obtain ⟨xs, hq, hx⟩ := hg
    obtain ⟨its, rv, ht, hz⟩ := I.tuple hq
    have hl := rv.length
    obtain ⟨f0, f1, f2, f3, f4, f5⟩ := hf j (by simp)
    exact en_end (I.ok.hd hc) he hj ht (by simp; omega) fun h1 eb => ⟨rfl, I.turned (t' := s.toks) (fun b o hb q => eb b o hb q) f0 f1 f3 f4 f5⟩
  self := fun A i s Q E st h => st.1.elim fun _ he => wpAny_pyIter_enum he h
def iEnT (K : PySem.W.Frag) (ta : TA) : TI := fun σ H R => ta σ H fun vs H1 => ∃ a xs, vs = [.ref a] ∧ SqT K H1 a xs ∧ R (ItE K a) H1
theorem pi_enT {X : Cx} {e : Expr} {ta : TA} {p pos tpos : Pos} {elts : List Expr} {kk : Nat} (hg : Gl X "enumerate") (hm : X.mg "enumerate" = none) (ha : PA X [e] ta) (hs : starEach [e] X.env = [(false, eval e X.env)] := by rfl) :
    PI X (.Tuple elts kk tpos) (.Call (.Name "enumerate" p) [e] [] pos) (iEnT X.K ta) := by
  constructor
  intro pins s σ H R I h
  refine Call_ (ld_blt I hg hm boot_enumerate (PyProof.Rows.callWith_type1 (thn (ha.run pos pins s σ H _ I h) fun us s1 ⟨vs, H1, I1, r1, q1⟩ => ?_) hs rfl))
  obtain ⟨a, xs, rfl, hq, q⟩ := q1
  cases r1 with
  | cons r rr =>
    cases rr
    cases r
    obtain ⟨its, rv, ht, hz⟩ := I1.tuple hq
    refine en_make ht fun h1 he hj hk => wpAny_pyIter_enum he ?_
    have I2 : Inv X pins σ H1 { s1 with heap := h1 } := I1.kept (t' := s1.toks) hk
    refine ⟨s1.heap.objs.size + 1, [s1.heap.objs.size + 1, s1.heap.objs.size], _, _, H1, rfl, I2, turn_enT a (s1.heap.objs.size + 1) s1.heap.objs.size, ⟨⟨.none, he⟩, hj, Nat.succ_ne_self _⟩, fun b hb => ?_, q⟩
    have hle : s1.heap.objs.size ≤ b := by
      rcases (show b = s1.heap.objs.size + 1 ∨ b = s1.heap.objs.size by simpa using hb) with rfl | rfl
      · exact Nat.le_succ _
      · exact Nat.le_refl _
    exact I1.fpOk hle (I1.hok.fresh hle)
/-- a comprehension over it -/
theorem lc_enT {K : PySem.W.Frag} {a : Addr} {xs : List V} {g : TG} {tt : TT} {te : TE} {vs : List Nat} {σ : L2.St} {H1 : Hp} {D : Addr} {Qd : Hp → Prop} (Pv : Nat → Hp → Prop) (h0 : Pv 0 (upd H1 D (.lst []))) (hq : ∀ i H, Pv i H → SqT K H a xs)
    (hs : ∀ (i : Nat) (x : V) (T : Addr) (H : Hp), xs[i]? = some x → Pv i H → H T = none → g (.ref T) (wipe σ vs) (upd H T (.tup [.int (i : Nat), x])) fun σ2 H2 => wipe σ2 vs = wipe σ vs ∧ tt σ2 H2 fun b H3 =>
      if b = true then te σ2 H3 fun y H4 => ∃ acc, H4 D = some (.lst acc) ∧ acc.length < sizeLine ∧ Pv (i + 1) (upd H4 D (.lst (acc ++ [y]))) else Pv (i + 1) H3) (hd : ∀ H, Pv xs.length H → Qd H) :
    ∃ W : Nat → Nat → Hp → Prop, (∃ m, W 0 m (upd H1 D (.lst []))) ∧ ∀ i m H, W i m H →
      ((ItE K a).stop i H ∧ Qd H) ∨ ((ItE K a).go i H ∧ ∃ Nx : Hp → Prop, (∀ H', Nx H' → ∃ m', m' < m ∧ W (i + 1) m' H') ∧ ∀ x H', (ItE K a).yld i H x H' → g x (wipe σ vs) H' fun σ2 H2 => wipe σ2 vs = wipe σ vs ∧ tt σ2 H2 fun b H3 =>
        if b = true then te σ2 H3 fun y H4 => ∃ acc, H4 D = some (.lst acc) ∧ acc.length < sizeLine ∧ Nx (upd H4 D (.lst (acc ++ [y]))) else Nx H3) := by
  refine ⟨fun i m H => m = xs.length - i ∧ i ≤ xs.length ∧ Pv i H, ⟨xs.length, by simp, Nat.zero_le _, h0⟩, ?_⟩
  rintro i m H ⟨rfl, hi, pv⟩
  have qx := hq i H pv
  by_cases hlt : i < xs.length
  · refine .inr ⟨⟨xs, xs[i], qx, by simp [hlt]⟩, Pv (i + 1), fun H' p' => ⟨xs.length - (i + 1), by omega, rfl, hlt, p'⟩, fun x H' y => ?_⟩
    obtain ⟨T, x', rfl, hT, rfl, hx⟩ := y
    exact hs i x' T H (hx xs qx) pv hT
  · have ei : i = xs.length := by omega
    subst ei
    exact .inl ⟨⟨xs, qx, Nat.le_refl _⟩, hd H pv⟩
end NS

/-! ### tables: the taken cells, what their objects want -/
namespace NS
open PySem L2
def isN : V → Bool
  | .non => true
  | _ => false
def fullN (ys : List V) (k : Nat) : List Int := ((List.range k).filter fun i => !isN (ys.getD i .non)).map fun (i : Nat) => (i : Int)
abbrev fullL (ys : List V) : List Int := fullN ys ys.length
theorem fullN_zero (ys : List V) : fullN ys 0 = [] := rfl
theorem fullN_succ (ys : List V) (k : Nat) : fullN ys (k + 1) = fullN ys k ++ (if isN (ys.getD k .non) = true then [] else [(k : Int)]) := by
  unfold fullN
  rw [List.range_succ, List.filter_append, List.map_append]
  congr 1
  cases h : isN (ys.getD k .non)
  · rw [List.filter_cons_of_pos (by rw [h]; rfl)]
    rfl
  · rw [List.filter_cons_of_neg (by rw [h]; decide)]
    rfl
theorem fullN_len (ys : List V) (k : Nat) : (fullN ys k).length ≤ k := by
  unfold fullN
  rw [List.length_map]
  exact Nat.le_trans (List.length_filter_le _ _) (by rw [List.length_range]; exact Nat.le_refl _)
theorem fullL_mem {ys : List V} {z : Int} : z ∈ fullL ys ↔ ∃ i : Nat, z = (i : Int) ∧ i < ys.length ∧ isN (ys.getD i .non) = false := by
  unfold fullL fullN
  constructor
  · intro h
    obtain ⟨i, hi, rfl⟩ := List.mem_map.mp h
    obtain ⟨h1, h2⟩ := List.mem_filter.mp hi
    exact ⟨i, rfl, List.mem_range.mp h1, by simpa using h2⟩
  · rintro ⟨i, rfl, h1, h2⟩
    exact List.mem_map.mpr ⟨i, List.mem_filter.mpr ⟨List.mem_range.mpr h1, by rw [h2]; rfl⟩, rfl⟩
/-- the cells that the object in c wants, by the entry there -/
def wantV (n : Nat) (c : Int) : V → List Int
  | .int w => needsL n c w
  | _ => []
def wantL (ys : List V) (c : Int) : List Int := wantV ys.length c (ys.getD c.toNat .non)
theorem wantV_len (n : Nat) (c : Int) (v : V) : (wantV n c v).length ≤ n := by
  cases v with
  | int w => exact needsL_len n c w
  | _ => exact Nat.zero_le _
theorem isN_dec (x : V) : isN x = decide (x = .non) := by cases x <;> simp [isN]
theorem inV_ints (c : Int) (xs : List Int) : inV (.int c) (xs.map V.int) = decide (c ∈ xs) := by
  unfold inV
  rw [Bool.eq_iff_iff, List.any_eq_true, decide_eq_true_eq]
  constructor
  · rintro ⟨y, hy, he⟩
    obtain ⟨z, hz, rfl⟩ := List.mem_map.mp hy
    have e : z = c := by simpa [eqV] using he
    rw [← e]
    exact hz
  · intro h
    exact ⟨_, List.mem_map.mpr ⟨c, h, rfl⟩, by simp [eqV]⟩
theorem flat_ints (xs : List Int) : (xs.map V.int).all flatV = true := by
  rw [List.all_eq_true]
  intro y hy
  obtain ⟨z, _, rfl⟩ := List.mem_map.mp hy
  rfl
theorem needsL_lt {n : Nat} {c w e : Int} (h : e ∈ needsL n c w) : ∃ j : Nat, e = (j : Int) ∧ j < n := by
  unfold needsL at h
  obtain ⟨j, hj, rfl⟩ := List.mem_map.mp (List.mem_filter.mp h).1
  exact ⟨j, rfl, List.mem_range.mp hj⟩
theorem wantL_lt {ys : List V} {c e : Int} (h : e ∈ wantL ys c) : ∃ j : Nat, e = (j : Int) ∧ j < ys.length := by
  unfold wantL at h
  cases hv : ys.getD c.toNat .non with
  | int w =>
    rw [hv] at h
    exact needsL_lt h
  | _ =>
    rw [hv] at h
    cases h
theorem isInt_ex {d : PyData} (h : isIntD d = true) : ∃ c, d = .int c := by
  cases d with
  | int c => exact ⟨c, rfl⟩
  | _ => cases h
/-- an entry of a taken cell -/
theorem tab_taken {ys : List V} {i : Nat} (tab : ∀ y ∈ ys, TabV ys.length y) (hi : i < ys.length) (h : isN (ys.getD i .non) = false) : ys[i]? = some (.str "?") ∨ ∃ w : Int, ys[i]? = some (.int w) := by
  have g : ys[i]? = some ys[i] := List.getElem?_eq_getElem hi
  have gd : ys.getD i .non = ys[i] := by rw [List.getD_eq_getElem?_getD, g]; rfl
  rw [gd] at h
  rcases tab _ (List.getElem_mem hi) with e | e | ⟨z, e, _⟩
  · rw [e] at h
    cases h
  · exact .inl (by rw [g, e])
  · exact .inr ⟨_, by rw [g, e]⟩
theorem lenD_num {N : Nat} {d : PyData} (h : intsB N d = true) : lenD d ≤ N := by
  cases d with
  | list ds =>
    rw [intsB, Bool.and_eq_true, decide_eq_true_eq] at h
    exact h.1
  | tuple ds =>
    rw [intsB, Bool.and_eq_true, decide_eq_true_eq] at h
    exact h.1
  | _ => exact Nat.zero_le _
/-! rules whose readings do not hang on the block -/
theorem pi_listK {X : Cx} {K : PySem.W.Frag} {tg l : Expr} {tl : TE} (e : X.K = K) (hl : PE X l tl) : PI X tg l (iList K tl) := by
  subst e
  exact pi_list hl
theorem pi_tupK {X : Cx} {K : PySem.W.Frag} {tg l : Expr} {tl : TE} (e : X.K = K) (hl : PE X l tl) : PI X tg l (iTup K tl) := by
  subst e
  exact pi_tup hl
theorem sl_tupAK {X : Cx} {K : PySem.W.Frag} (e : X.K = K) : SlR X (rSlA K) := by
  subst e
  exact sl_tupA
/-- a block within a block -/
theorem relabel_cf (env : Env) (y : Str) : ∀ {ns : List (Str × NameKind)}, ns.lookup y = some .cell ∨ ns.lookup y = some .free →
    (ns.map fun (n, k) => if (k == NameKind.free && env.scope.kind == .function && env.kindOf n == some .cell) then (n, NameKind.cell) else (n, k)).lookup y = some .cell ∨ (ns.map fun (n, k) => if (k == NameKind.free && env.scope.kind == .function && env.kindOf n == some .cell) then (n, NameKind.cell) else (n, k)).lookup y = some .free
  | [], h => by
    rcases h with h | h
    · cases h
    · cases h
  | (n, k) :: r, h => by
    have ih := relabel_cf env y (ns := r)
    rw [List.map_cons]
    cases hy : y == n with
    | true =>
      simp only [List.lookup_cons, hy, Option.some.injEq] at h
      by_cases c : (k == NameKind.free && env.scope.kind == .function && env.kindOf n == some .cell) = true
      · simp [c, List.lookup_cons, hy]
      · simp only [c, List.lookup_cons, hy, Option.some.injEq, Bool.false_eq_true, if_false]
        exact h
    | false =>
      simp only [List.lookup_cons, hy] at h
      by_cases c : (k == NameKind.free && env.scope.kind == .function && env.kindOf n == some .cell) = true
      · simp only [c, List.lookup_cons, hy, if_true]
        exact ih h
      · simp only [c, List.lookup_cons, hy, Bool.false_eq_true, if_false]
        exact ih h
theorem blkOk_sub {X : Cx} {s : Shared} {H : Hp} {sc scope : Scope} {cl : List (Str × Addr)} {C : Addr} {e : Env} {fp : List Addr} {N : List Str} {own : List (Str × Nat)} (h : blkC N sc scope own = true) : BlkOk N (X.blk s H sc (compEnvC sc cl C e) fp).env.scope scope own := by
  have k := blkOk_by h
  exact ⟨k.kind, k.uniq, k.ix, fun y hy hf => relabel_cf e y.1 (k.free y hy hf), k.own⟩
theorem sIx_le {n i : Nat} (h : i ≤ n) (d : Nat) : HT.sIx n d (some (i : Int)) = i := by
  unfold HT.sIx
  simp only
  split <;> omega
theorem cut_to {xs : List V} {i : Nat} (h : i ≤ xs.length) : cutV xs none (some (i : Int)) = xs.take i := by
  unfold cutV
  rw [sIx_le h]
  show (xs.drop 0).take (i - 0) = _
  rw [List.drop_zero, Nat.sub_zero]
/-- an order agrees: by its beginnings -/
def agB (ys : List V) (qs : List Int) (j : Nat) : Bool := (wantL ys (qs.getD j 0)).all fun e => decide (e ∈ qs.take j)
def agreesN (ys : List V) (qs : List Int) (k : Nat) : Bool := ((List.range k).map (agB ys qs)).all id
abbrev agreesL (ys : List V) (qs : List Int) : Bool := agreesN ys qs qs.length
theorem if_then {c : TT} {a b : TS} {D : Ends} {σ : L2.St} {H : Hp} (R : Hp → Prop) (k : ∀ H', R H' → D.nx σ H') (h : ∀ D' : Ends, (∀ H', R H' → D'.nx σ H') → tIfS c a b D' σ H) : tIfS c a b D σ H := h D k
end NS

/-! ### sorted of a tuple of ints -/
namespace NS
open PySem PySem.Spec PyProof.Rows L2
section
variable {prog : Program} {w : World} {A : Around} {E : Value → Shared → Prop} {s : Shared}
theorem gather_tup {t : Addr} {vs : List Value} {Q : List Value → Shared → Prop} (ht : s.heap.IsTuple t vs.toArray)
    (h : Q vs { s with heap := (s.heap.push (seqObj "list" #[] 0)).update s.heap.objs.size (Obj.mapSeq (· ++ vs.toArray)) }) (hz : vs.length ≤ sizeLine) : wpAny (model prog w) A (collect (.ref t)) Q E s := by
  obtain ⟨ob, hob, hcl, m, hdt⟩ := id ht
  have hob2 : (s.heap.push (seqObj "list" #[] 0)).get? t = some ob := Heap.get?_push_of_some _ hob
  have hnew : (s.heap.push (seqObj "list" #[] 0)).get? s.heap.objs.size = some (seqObj "list" #[] 0) := Heap.get?_push_size _ rfl
  unfold collect
  refine wpAny_bind (wpAny_runValue (codeAny_builtin entry_proto_collect' ?_))
  show wpAny _ _ (do again (.builtin "list.__iadd__" ⟨[← newList [], .ref t], []⟩)) _ _ s
  refine wpAny_bind (wpAny_newList (wpAny_pure ⟨Code.quiet_builtin _ (by decide +kernel), codeAny_builtin entry_list_iadd' ?_⟩))
  show wpAny _ _ (Builtin.List.listExtendWith (.ref s.heap.objs.size) (.ref t) (.ref s.heap.objs.size)) _ _ { s with heap := s.heap.push (seqObj "list" #[] 0) }
  unfold Builtin.List.listExtendWith
  refine wpAny_bind (wpAny_typeOf (T := "tuple") ⟨ob, hob2, hcl⟩ ?_)
  have hty : (Value.type "tuple" == Value.type "tuple") = true := by rfl
  rw [if_pos (by rw [hty]; simp)]
  refine wpAny_bind (listItems_at hob2 hdt (wpAny_bind (listItems_at (xs := #[]) (n := 0) hnew rfl ?_)))
  rw [if_neg (by simp)]
  refine wpAny_bind (listUpdate_at (xs := #[]) (n := 0) hnew rfl (wpAny_pure ?_) (Nat.zero_le _) (by show (#[] ++ vs.toArray).size ≤ sizeLine + 1; simp only [Array.size_append, List.size_toArray, List.length_nil]; omega))
  show wpAny (model prog w) A (do
      let o ← load s.heap.objs.size
      match o.data with
      | .seq ys _ => pure ys.toList
      | _ => unsupported "internal:collect") Q E { s with heap := (s.heap.push (seqObj "list" #[] 0)).update s.heap.objs.size (Obj.mapSeq (· ++ vs.toArray)) }
  refine wpAny_bind (wpAny_load (get?_update_seq hnew _) ?_)
  show wpAny _ _ (pure ((#[] : Array Value) ++ vs.toArray).toList) Q E _
  have ev : ((#[] : Array Value) ++ vs.toArray).toList = vs := by simp
  rw [ev]
  exact wpAny_pure h
theorem sorted_tupI {t : Addr} {vs : List Value} {ns : List Int} {Q : Value → Shared → Prop} (ht : s.heap.IsTuple t vs.toArray) (hI : IntsAre vs ns) (h64 : vs.length < 64)
    (h : ∀ (out : Array Value) (ms : List Int), IntsAre out.toList ms → ms.Perm ns → ms.Pairwise (· ≤ ·) → Q (.ref (s.heap.objs.size + 1)) { s with heap := sortedAll s.heap vs out }) :
    wpAny (model prog w) A (call (.builtin "sorted") [.ref t]) Q E s := by
  refine Calls.call_function_entry kind_sorted plain_sorted entry_sorted (args_sorted1 _) ?_
  unfold Builtin.«sorted»
  refine wpAny_bind (m := checkCount "sorted" 1 1 _) (wpAny_pure (wpAny_bind (gather_tup ht (wpAny_bind (wpAny_newList ?_)) (small64 h64))))
  have z1 : ((s.heap.push (seqObj "list" #[] 0)).update s.heap.objs.size (Obj.mapSeq (· ++ vs.toArray))).objs.size = s.heap.objs.size + 1 := by rw [Heap.size_update, size_push']
  have g1 : (((s.heap.push (seqObj "list" #[] 0)).update s.heap.objs.size (Obj.mapSeq (· ++ vs.toArray))).push (seqObj "list" vs.toArray 0)).get? (s.heap.objs.size + 1) = some (seqObj "list" vs.toArray 0) := by
    rw [← z1]
    exact Heap.get?_push_size _ rfl
  show wpAny _ _ _ _ _ { s with heap := ((s.heap.push (seqObj "list" #[] 0)).update s.heap.objs.size (Obj.mapSeq (· ++ vs.toArray))).push (seqObj "list" vs.toArray 0) }
  rw [z1]
  exact wpAny_bind (wpAny_holding (wpAny_call_entry slot_list_sort ⟨_, g1, rfl⟩ entry_list_sort (list_sort_tree g1 hI h64 fun out ms a1 a2 a3 => ⟨_, rfl, wpAny_pure ⟨_, rfl, h out ms a1 a2 a3⟩⟩) (args_list_sort _)))
end
def rSortT (K : PySem.W.Frag) : List V → Hp → VK → Prop := fun vs H Q => ∃ (a : Addr) (ns : List Int), vs = [V.ref a] ∧ SqT K H a (ns.map V.int) ∧ ns.length < 64 ∧
  ∀ (ms : List Int) (p : Addr), ms.Perm ns → ms.Pairwise (· ≤ ·) → H p = none → Q (.ref p) (upd H p (.lst (ms.map V.int)))
theorem cr_sortT {X : Cx} : CallR X (.builtin "sorted") (rSortT X.K) := by
  intro pins s σ H vs us Q I r h
  obtain ⟨a, ns, rfl, hs, h64, q⟩ := h
  obtain ⟨its, rv, ht, _⟩ := I.tuple hs
  rw [Vals.ref1 r]
  have hi := rv.ints
  refine sorted_tupI ht hi (by rw [hi.length]; exact h64) fun out ms h1 h2 h3 => ?_
  obtain ⟨ep, he⟩ := sortedAll_at s.heap its out
  have hn : H (s.heap.objs.size + 1) = none := I.hok.fresh (Nat.le_succ _)
  exact ⟨.ref _, upd H (s.heap.objs.size + 1) (.lst (ms.map V.int)), I.laid (t' := s.toks) (fun _ _ => sortedAll_old) (Nat.le_succ _) ⟨by rw [List.length_map, h2.length_eq]; exact small64 h64, out.toList, ep, vals_of_ints h1, he⟩, rfl, q ms _ h2 h3 hn⟩
end NS

/-! ### rows that are lists or tuples -/
namespace NS
open PySem PySem.Spec PyProof.Rows L2
abbrev Sq (K : PySem.W.Frag) (H : Hp) (a : Addr) (xs : List V) : Prop := SqL K H a xs ∨ SqT K H a xs
/-- the object at a is as it was -/
def AtS (a : Addr) (H H' : Hp) : Prop := ∀ o, H a = some o → H' a = some o
theorem ats_same {a : Addr} {H H' : Hp} (e : Same H H') : AtS a H H' := fun o h => e a o h
theorem ats_stay {s a : Addr} {H H' : Hp} (e : Stay s H H') (n : a ≠ s) : AtS a H H' := fun o h => e a o n h
theorem AtS.sqL {K : PySem.W.Frag} {a : Addr} {H H' : Hp} {xs : List V} (e : AtS a H H') (h : SqL K H a xs) : SqL K H' a xs := by
  rcases h with (h | ⟨o, h⟩) | h
  · exact .inl (.inl (e _ h))
  · exact .inl (.inr ⟨o, e _ h⟩)
  · exact .inr h
theorem AtS.sqT {K : PySem.W.Frag} {a : Addr} {H H' : Hp} {xs : List V} (e : AtS a H H') (h : SqT K H a xs) : SqT K H' a xs := by
  rcases h with (h | ⟨o, h⟩) | h
  · exact .inl (.inl (e _ h))
  · exact .inl (.inr ⟨o, e _ h⟩)
  · exact .inr h
theorem Same.sq {K : PySem.W.Frag} {a : Addr} {H H' : Hp} {xs : List V} (e : Same H H') (h : Sq K H a xs) : Sq K H' a xs :=
  h.imp (ats_same e).sqL (ats_same e).sqT
theorem sq_lst {K : PySem.W.Frag} {H : Hp} {a : Addr} {xs : List V} (h : H a = some (.lst xs)) : Sq K H a xs := .inl (sqL h)
theorem sq_tup {K : PySem.W.Frag} {H : Hp} {a : Addr} {xs : List V} (h : H a = some (.tup xs)) : Sq K H a xs := .inr (sqT h)
theorem walk_enT {K : PySem.W.Frag} {a : Addr} {xs : List V} : Walk (ItE K a) xs.length (fun H => SqT K H a xs) (YPair (fun i => some (.int (i : Nat))) (fun i => xs[i]?)) := by
  refine ⟨fun i H hi hG => ⟨xs, xs[i], hG, by simp [hi]⟩, fun H hG => ⟨xs, hG, Nat.le_refl _⟩, fun i H v H' hi hG hy => ?_⟩
  obtain ⟨T, x, e1, e2, e3, e4⟩ := hy
  exact ⟨T, _, x, e1, e2, e3, rfl, e4 xs hG⟩
theorem hu1 {k : Nat} {A : Around} (hr : Room k A) : A.units + 1 < cLine := Nat.lt_of_le_of_lt (by omega) hr.units
section
variable {X : Cx}
def rIxA (K : PySem.W.Frag) : R2 := fun x y H Q => ∃ p xs i v, x = .ref p ∧ y = .int i ∧ Sq K H p xs ∧ atI xs i = some v ∧ Q v H
theorem ix_seq : IxR X (rIxA X.K) := by
  intro e1 e2 pins s σ H x y v u Q I rx ry h hs
  obtain ⟨p, xs, i, z, h1, h2, hq, h3, q⟩ := h
  rcases hq with hq | hq
  · exact ix_list e1 e2 pins s σ H x y v u Q I rx ry ⟨p, xs, i, z, h1, h2, hq, h3, q⟩ hs
  · exact ix_tup e1 e2 pins s σ H x y v u Q I rx ry ⟨p, xs, i, z, h1, h2, hq, h3, q⟩ hs
theorem ix_seqK {K : PySem.W.Frag} (e : X.K = K) : IxR X (rIxA K) := by subst e; exact ix_seq
theorem op_catAK {K : PySem.W.Frag} (e : X.K = K) : OpR X (binaryOp .Add) (rCatA K) := by subst e; exact op_catA
/-- xs[lo:hi]: a row of the same kind -/
def rSlS (K : PySem.W.Frag) : V → Option Int → Option Int → Hp → VK → Prop := fun x lo hi H Q => ∃ a xs, x = .ref a ∧ Sq K H a xs ∧ ∀ p H', Same H H' → Sq K H' p (cutV xs lo hi) → Q (.ref p) H'
theorem sl_seq : SlR X (rSlS X.K) := by
  intro pins s σ H x v vl vu lo hi sl Q I rx hs pl pu h
  obtain ⟨a, xs, ex, hq, q⟩ := h
  rcases hq with hq | hq
  · exact sl_list pins s σ H x v vl vu lo hi sl Q I rx hs pl pu ⟨a, xs, ex, hq, fun p hp => q p _ (same_upd hp) (.inl (sqL upd_same))⟩
  · refine sl_tupA pins s σ H x v vl vu lo hi sl Q I rx hs pl pu ⟨a, xs, ex, hq, fun c => q a _ (Same.refl _) (.inr ?_), fun _ p hp => q p _ (same_upd hp) (.inr (sqT upd_same))⟩
    have e : cutV xs lo hi = xs := by
      unfold cutV
      rw [c.1, c.2, List.drop_zero, Nat.sub_zero, List.take_length]
    rw [e]
    exact hq
theorem sl_seqK {K : PySem.W.Frag} (e : X.K = K) : SlR X (rSlS K) := by subst e; exact sl_seq
def iSeq (K : PySem.W.Frag) (tl : TE) : TI := fun σ H R => tl σ H fun x H1 => ∃ a xs, x = .ref a ∧ Sq K H1 a xs ∧ ∀ J G, Walk J xs.length G (YAt xs) → (∀ H2, AtS a H1 H2 → G H2) → R J H1
theorem pi_seq {tg l : Expr} {tl : TE} (hl : PE X l tl) : PI X tg l (iSeq X.K tl) := by
  constructor
  intro pins s σ H R I h
  refine thn (hl.run pins s σ H _ I h) fun v s1 z => ?_
  obtain ⟨x, H1, I1, r1, a, xs, rfl, hq, q⟩ := z
  cases r1
  rcases hq with hq | hq
  · obtain ⟨its, rv, pl, _⟩ := I1.list hq
    exact wpAny_pyIter_list pl.isList (pi_one (tk := s1.toks) I1 _ (turn_list a _) ⟨_, Heap.get?_push_size _ rfl, rfl, rfl⟩ (q _ _ walk_list fun H2 e => e.sqL hq))
  · obtain ⟨its, rv, pl, _⟩ := I1.tuple hq
    exact wpAny_pyIter_tuple (show s1.heap.IsTuple a its.toArray from pl) (pi_one (tk := s1.toks) I1 _ (turn_tuple a _) ⟨_, Heap.get?_push_size _ rfl, rfl, rfl⟩ (q _ _ walk_tup fun H2 e => e.sqT hq))
theorem pi_seqK {K : PySem.W.Frag} {tg l : Expr} {tl : TE} (e : X.K = K) (hl : PE X l tl) : PI X tg l (iSeq K tl) := by subst e; exact pi_seq hl
def iEnS (K : PySem.W.Frag) (ta : TA) : TI := fun σ H R => ta σ H fun vs H1 => ∃ a xs, vs = [.ref a] ∧ Sq K H1 a xs ∧ ∀ J G, Walk J xs.length G (YPair (fun i => some (.int (i : Nat))) (fun i => xs[i]?)) → (∀ H2, AtS a H1 H2 → G H2) → R J H1
theorem pi_enS {e : Expr} {ta : TA} {p pos tpos : Pos} {elts : List Expr} {kk : Nat} (hg : Gl X "enumerate") (hm : X.mg "enumerate" = none) (ha : PA X [e] ta) (hs : starEach [e] X.env = [(false, eval e X.env)] := by rfl) :
    PI X (.Tuple elts kk tpos) (.Call (.Name "enumerate" p) [e] [] pos) (iEnS X.K ta) := by
  constructor
  intro pins s σ H R I h
  refine Call_ (ld_blt I hg hm boot_enumerate (PyProof.Rows.callWith_type1 (thn (ha.run pos pins s σ H _ I h) fun us s1 ⟨vs, H1, I1, r1, q1⟩ => ?_) hs rfl))
  obtain ⟨a, xs, rfl, hq, q⟩ := q1
  cases r1 with
  | cons r rr =>
    cases rr
    cases r
    have hfp : ∀ b ∈ [s1.heap.objs.size + 1, s1.heap.objs.size], FpOk X pins H1 b := fun b hb => by
      have hle : s1.heap.objs.size ≤ b := by
        rcases (show b = s1.heap.objs.size + 1 ∨ b = s1.heap.objs.size by simpa using hb) with rfl | rfl
        · exact Nat.le_succ _
        · exact Nat.le_refl _
      exact I1.fpOk hle (I1.hok.fresh hle)
    rcases hq with hq | hq
    · obtain ⟨its, rv, hl, _⟩ := I1.list hq
      refine call_enumerate_list hl.isList fun h1 he hj _ hk => wpAny_pyIter_enum he ?_
      exact ⟨_, _, _, _, H1, rfl, I1.kept (t' := s1.toks) hk, turn_enum a (s1.heap.objs.size + 1) s1.heap.objs.size, ⟨⟨.none, he⟩, hj, Nat.succ_ne_self _⟩, hfp, q _ _ walk_enum fun H2 e => e.sqL hq⟩
    · obtain ⟨its, rv, ht, _⟩ := I1.tuple hq
      refine en_make ht fun h1 he hj hk => wpAny_pyIter_enum he ?_
      exact ⟨_, _, _, _, H1, rfl, I1.kept (t' := s1.toks) hk, turn_enT a (s1.heap.objs.size + 1) s1.heap.objs.size, ⟨⟨.none, he⟩, hj, Nat.succ_ne_self _⟩, hfp, q _ _ walk_enT fun H2 e => e.sqT hq⟩
end
end NS
namespace NS
open PySem L2
/-- a statement that is never reached -/
theorem ps_never {X : Cx} {st : Stmt} : PS X st (fun _ _ _ => False) := ⟨fun _ _ _ _ _ _ h => h.elim⟩
/-- a comprehension with two fors: the outer one -/
theorem lc2_out {J : It} {n : Nat} {G : Hp → Prop} {Y : Nat → Hp → V → Hp → Prop} (w : Walk J n G Y) {st : Nat → Hp → V → (Hp → Prop) → Hp → Prop} {H1 : Hp} {D : Addr} {Qd : Hp → Prop} (Pv : Nat → Hp → Prop) (h0 : Pv 0 (upd H1 D (.lst []))) (hG : ∀ i H, i ≤ n → Pv i H → G H)
    (hs : ∀ i x H H', i < n → Pv i H → Y i H x H' → st i H x (Pv (i + 1)) H') (hd : ∀ H, Pv n H → Qd H) :
    ∃ W : Nat → Nat → Hp → Prop, (∃ m, W 0 m (upd H1 D (.lst []))) ∧ ∀ i m H, W i m H → (J.stop i H ∧ Qd H) ∨ (J.go i H ∧ ∃ Nx : Hp → Prop, (∀ H', Nx H' → ∃ m', m' < m ∧ W (i + 1) m' H') ∧ ∀ x H', J.yld i H x H' → st i H x Nx H') := by
  refine ⟨fun i m H => m + i = n ∧ Pv i H, ⟨n, Nat.add_zero n, h0⟩, fun i m H hW => ?_⟩
  obtain ⟨hm, pv⟩ := hW
  by_cases lt : i < n
  · exact .inr ⟨w.goes i H lt (hG i H (Nat.le_of_lt lt) pv), Pv (i + 1), fun H' p' => ⟨m - 1, by omega, by omega, p'⟩, fun x H' y => hs i x H H' lt pv (w.yields i H x H' lt (hG i H (Nat.le_of_lt lt) pv) y)⟩
  · have e : i = n := by omega
    subst e
    exact .inl ⟨w.stops H (hG i H (Nat.le_refl _) pv), hd H pv⟩
theorem lc2_in {J : It} {n : Nat} {G : Hp → Prop} {Y : Nat → Hp → V → Hp → Prop} (w : Walk J n G Y) {st : Nat → Hp → V → (Hp → Prop) → Hp → Prop} {H1 : Hp} {Nx : Hp → Prop} (Pv : Nat → Hp → Prop) (h0 : Pv 0 H1) (hG : ∀ i H, i ≤ n → Pv i H → G H)
    (hs : ∀ i x H H', i < n → Pv i H → Y i H x H' → st i H x (Pv (i + 1)) H') (hd : ∀ H, Pv n H → Nx H) :
    ∃ W : Nat → Nat → Hp → Prop, (∃ m, W 0 m H1) ∧ ∀ i m H, W i m H → (J.stop i H ∧ Nx H) ∨ (J.go i H ∧ ∃ N : Hp → Prop, (∀ H', N H' → ∃ m', m' < m ∧ W (i + 1) m' H') ∧ ∀ x H', J.yld i H x H' → st i H x N H') := by
  refine ⟨fun i m H => m + i = n ∧ Pv i H, ⟨n, Nat.add_zero n, h0⟩, fun i m H hW => ?_⟩
  obtain ⟨hm, pv⟩ := hW
  by_cases lt : i < n
  · exact .inr ⟨w.goes i H lt (hG i H (Nat.le_of_lt lt) pv), Pv (i + 1), fun H' p' => ⟨m - 1, by omega, by omega, p'⟩, fun x H' y => hs i x H H' lt pv (w.yields i H x H' lt (hG i H (Nat.le_of_lt lt) pv) y)⟩
  · have e : i = n := by omega
    subst e
    exact .inl ⟨w.stops H (hG i H (Nat.le_refl _) pv), hd H pv⟩
end NS

/-! ### the real order agrees -/
namespace NS
open PySem L2
structure FillF (n : Nat) (sh : List (Option Int)) (qs : List Int) : Prop where
  free : ∀ i : Nat, i < n → (sh[i]? = some none ↔ (i : Int) ∉ qs)
  cell : ∀ z ∈ qs, ∃ c : Nat, z = (c : Int) ∧ c < n
  nd : qs.Nodup
  ord : ∀ (j c : Nat) (h : Int) (x : Nat), qs[j]? = some (c : Int) → sh[c]? = some (some h) → x < n → near h (c : Int) (x : Int) = true → (x : Int) ∈ qs.take j
theorem Fill.facts {n : Nat} {hs : List Int} {sh : List (Option Int)} {qs : List Int} (f : Fill n hs sh qs) : FillF n sh qs := by
  induction f with
  | nil =>
    refine ⟨fun i hi => ⟨(fun _ h => nomatch h), fun _ => ?_⟩, (fun z h => nomatch h), List.nodup_nil, fun j c h x hj => ?_⟩
    · rw [List.getElem?_replicate, if_pos hi]
    · simp at hj
  | @snoc hs sh qs h c fl sp ih =>
    have hlen := fl.len
    have cfree : (c : Int) ∉ qs := (ih.free c sp.lt).mp sp.free
    refine ⟨fun i hi => ?_, fun z hz => ?_, ?_, fun j c' h' x hj hs' hx hn => ?_⟩
    · by_cases e : i = c
      · subst e
        have hcn := sp.lt
        rw [List.getElem?_set_self (by omega)]
        constructor
        · intro q
          cases q
        · intro q
          exact absurd (List.mem_append_right _ (List.mem_singleton.mpr rfl)) q
      · rw [List.getElem?_set_ne (Ne.symm e), ih.free i hi, List.mem_append, List.mem_singleton]
        constructor
        · rintro a (b | b)
          · exact a b
          · omega
        · exact fun a b => a (.inl b)
    · rcases List.mem_append.mp hz with hz | hz
      · exact ih.cell z hz
      · exact ⟨c, List.mem_singleton.mp hz, sp.lt⟩
    · rw [List.nodup_append]
      refine ⟨ih.nd, List.nodup_cons.mpr ⟨(fun q => nomatch q), List.nodup_nil⟩, fun a ha b hb => ?_⟩
      rw [List.mem_singleton.mp hb]
      exact fun e => cfree (by rw [← e]; exact ha)
    · by_cases hlt : j < qs.length
      · rw [List.getElem?_append_left hlt] at hj
        have ne : c ≠ c' := fun e => cfree (by rw [e]; exact List.mem_of_getElem? hj)
        rw [List.getElem?_set_ne ne] at hs'
        rw [List.take_append_of_le_length (Nat.le_of_lt hlt)]
        exact ih.ord j c' h' x hj hs' hx hn
      · have hj2 : j = qs.length := by
          have := (List.getElem?_eq_some_iff.mp hj).1
          rw [List.length_append] at this
          simp at this
          omega
        subst hj2
        rw [List.getElem?_append_right (Nat.le_refl _), Nat.sub_self] at hj
        have ec : c = c' := by
          have := Option.some.inj hj
          omega
        subst ec
        have hcn := sp.lt
        rw [List.getElem?_set_self (by omega)] at hs'
        have eh : h = h' := Option.some.inj (Option.some.inj hs')
        subst eh
        rw [List.take_left]
        by_cases hin : (x : Int) ∈ qs
        · exact hin
        · have := sp.best x hx ((ih.free x hx).mpr hin)
          rw [this] at hn
          cases hn
structure CaseF (ys : List V) (qs : List Int) : Prop where
  mem : ∀ z : Int, z ∈ qs ↔ z ∈ fullL ys
  nd : qs.Nodup
  ag : agreesL ys qs = true
theorem case_facts {n : Nat} {hs : List Int} {sh : List (Option Int)} {qs : List Int} {ys : List V} (f : Fill n hs sh qs) (v : Veil (sh.map oV) ys) : CaseF ys qs := by
  have F := f.facts
  have hyl : ys.length = n := by
    rw [v.len, List.length_map, f.len]
  have ent : ∀ i : Nat, i < n → (ys[i]? = (sh.map oV)[i]? ∨ ys[i]? = some (.str "?") ∧ ∃ u, (sh.map oV)[i]? = some u ∧ u ≠ .non) := fun i _ => v.at_ i
  have shg : ∀ i : Nat, i < n → ∃ o, sh[i]? = some o := fun i hi => ⟨_, List.getElem?_eq_getElem (by rw [f.len]; exact hi)⟩
  have full : ∀ i : Nat, i < n → (isN (ys.getD i .non) = false ↔ (i : Int) ∈ qs) := fun i hi => by
    obtain ⟨o, ho⟩ := shg i hi
    have hm : (sh.map oV)[i]? = some (oV o) := by rw [List.getElem?_map, ho]; rfl
    have fr := F.free i hi
    rw [ho] at fr
    cases o with
    | none =>
      have nq : (i : Int) ∉ qs := fr.mp rfl
      rcases ent i hi with e | ⟨_, u, e, ne⟩
      · rw [List.getD_eq_getElem?_getD, e, hm]
        exact ⟨(fun q => nomatch q), fun q => absurd q nq⟩
      · rw [hm] at e
        exact absurd (Option.some.inj e).symm ne
    | some z =>
      have iq : (i : Int) ∈ qs := by
        by_cases q : (i : Int) ∈ qs
        · exact q
        · have := fr.mpr q
          cases this
      rcases ent i hi with e | ⟨e, _⟩
      · rw [List.getD_eq_getElem?_getD, e, hm]
        exact ⟨fun _ => iq, fun _ => rfl⟩
      · rw [List.getD_eq_getElem?_getD, e]
        exact ⟨fun _ => iq, fun _ => rfl⟩
  refine ⟨fun z => ?_, F.nd, ?_⟩
  · rw [fullL_mem]
    constructor
    · intro hz
      obtain ⟨c, rfl, hc⟩ := F.cell z hz
      exact ⟨c, rfl, by omega, (full c hc).mpr hz⟩
    · rintro ⟨i, rfl, hi, hn⟩
      exact (full i (by omega)).mp hn
  · show ((List.range qs.length).map (agB ys qs)).all id = true
    rw [List.all_map, List.all_eq_true]
    intro j hj
    have hj' : j < qs.length := List.mem_range.mp hj
    obtain ⟨c, ec, hc⟩ := F.cell qs[j] (List.getElem_mem hj')
    have gj : qs[j]? = some (c : Int) := by rw [List.getElem?_eq_getElem hj', ec]
    have gd : qs.getD j 0 = (c : Int) := by rw [List.getD_eq_getElem?_getD, gj]; rfl
    show agB ys qs j = true
    unfold agB
    rw [gd, List.all_eq_true]
    intro e he
    refine decide_eq_true ?_
    unfold wantL at he
    rw [Int.toNat_natCast, hyl] at he
    cases hv : ys.getD c .non with
    | int w =>
      rw [hv] at he
      obtain ⟨x, rfl, hx⟩ := needsL_lt he
      have hn : near w (c : Int) (x : Int) = true := (List.mem_filter.mp he).2
      obtain ⟨o, ho⟩ := shg c hc
      have hm : (sh.map oV)[c]? = some (oV o) := by rw [List.getElem?_map, ho]; rfl
      have eo : o = some w := by
        rcases ent c hc with e | ⟨e, _⟩
        · rw [List.getD_eq_getElem?_getD, e, hm] at hv
          cases o with
          | none => cases hv
          | some z => cases hv; rfl
        · rw [List.getD_eq_getElem?_getD, e] at hv
          cases hv
      subst eo
      exact F.ord j c w x gj ho hx hn
    | _ =>
      rw [hv] at he
      cases he
end NS

/-! ### slices and sums of tuples, by data -/
namespace NS
open PySem L2
def cutL {α : Type} (xs : List α) (lo hi : Option Int) : List α := (xs.drop (HT.sIx xs.length 0 lo)).take (HT.sIx xs.length xs.length hi - HT.sIx xs.length 0 lo)
theorem cutL_sub {α : Type} {xs : List α} {lo hi : Option Int} {x : α} (h : x ∈ cutL xs lo hi) : x ∈ xs := List.mem_of_mem_drop (List.mem_of_mem_take h)
theorem cutL_len {α : Type} (xs : List α) (lo hi : Option Int) : (cutL xs lo hi).length ≤ xs.length := by
  unfold cutL
  rw [List.length_take, List.length_drop]
  omega
section
variable {K : PySem.W.Frag} {S : List Addr} {σ : L2.St} {H : Hp} {te ta tb : TE} {ds es : List PyData} {tl th : TO} {lo hi : Option Int}
def EvO (p : Option Int) (t : TO) (σ : L2.St) (H : Hp) : Prop := ∀ H1, Same H H1 → ∀ Q, Q p H1 → t σ H1 Q
theorem eo_none : EvO none tNoPart σ H := fun _ _ _ q => q
theorem eo_int {i : Int} : EvO (some i) (tPart (tC (.int i))) σ H := fun _ _ _ q => ⟨i, rfl, q⟩
theorem eo_var {j : Nat} {i : Int} (h : σ[j]? = some (some (.int i))) : EvO (some i) (tPart (tVar j)) σ H := fun _ _ _ q => ⟨_, h, i, rfl, q⟩
theorem eo_add {j : Nat} {i k : Int} (h : σ[j]? = some (some (.int i))) : EvO (some (i + k)) (tPart (tOp (rI0 fun i j => V.int (i + j)) (tVar j) (tC (.int k)))) σ H := fun _ _ _ q => ⟨_, h, _, _, rfl, rfl, _, rfl, q⟩
theorem ee_slA (hs : HasA H S) (h : EvE K S (.tuple ds) te σ H) (hl : EvO lo tl σ H) (hu : EvO hi th σ H) : EvE K S (.tuple (cutL ds lo hi)) (tSl (rSlA K) te tl th) σ H := fun H1 e Q q =>
  h H1 e _ fun v H2 e2 hv => hl H2 (e.trans e2) _ (hu H2 (e.trans e2) _ (by
    cases hv with
    | @tup a xs _ h1 h2 =>
      have hn := dpAll_len h2
      refine ⟨a, xs, rfl, Same.tup same_hid h1, fun c => ?_, fun c p hp => ?_⟩
      · have ec : cutL ds lo hi = ds := by
          unfold cutL
          rw [← hn, c.1, c.2, List.drop_zero, Nat.sub_zero, hn, List.take_length]
        exact q _ H2 e2 (by rw [ec]; exact .tup h1 h2)
      · have np := has_ne (hasA_same hs (e.trans e2)) hp
        refine q _ _ (e2.trans (same_upd hp)) (.tup (sqT_hid np upd_same) (dp_sameA (hid_mono (same_upd hp)) ?_))
        unfold cutV cutL
        rw [hn]
        exact dpAll_take _ (dpAll_drop _ h2)))
theorem ee_catA (hs : HasA H S) (ha : EvE K S (.tuple ds) ta σ H) (hb : EvE K S (.tuple es) tb σ H) (hz : ds.length + es.length ≤ 1000) : EvE K S (.tuple (ds ++ es)) (tOp (rCatA K) ta tb) σ H := fun H1 e Q q =>
  ha H1 e _ fun v H2 e2 hv => hb H2 (e.trans e2) _ fun u H3 e3 hu => by
    cases hv with
    | @tup a xs _ h1 h2 =>
      cases hu with
      | @tup b ys _ h3 h4 =>
        have hn := dpAll_len h2
        have hm := dpAll_len h4
        have h1' := Same.tup (hid_mono e3) h1
        have h2' := dp_sameA (hid_mono e3) h2
        refine ⟨a, b, xs, ys, rfl, rfl, Same.tup same_hid h1', Same.tup same_hid h3, small (by omega), fun c => ?_, fun _ c => ?_, fun _ _ p hp => ?_⟩
        · subst c
          have ed : ds = [] := List.eq_nil_of_length_eq_zero (by rw [← hn]; rfl)
          subst ed
          exact q _ _ (e2.trans e3) (.tup h3 h4)
        · subst c
          have ed : es = [] := List.eq_nil_of_length_eq_zero (by rw [← hm]; rfl)
          subst ed
          exact q _ _ (e2.trans e3) (by rw [List.append_nil]; exact .tup h1' h2')
        · have np := has_ne (hasA_same hs ((e.trans e2).trans e3)) hp
          exact q _ _ ((e2.trans e3).trans (same_upd hp)) (.tup (sqT_hid np upd_same) (dp_sameA (hid_mono (same_upd hp)) (dpAll_app h2' h4)))
theorem ee_revT (hs : HasA H S) (h : EvE K S (.tuple ds) te σ H) : EvE K S (.tuple ds.reverse) (tRevT K te) σ H := fun H1 e Q q =>
  h H1 e _ fun v H2 e2 hv => by
    cases hv with
    | @tup a xs _ h1 h2 =>
      refine ⟨a, xs, rfl, Same.tup same_hid h1, fun p hp => ?_⟩
      have np := has_ne (hasA_same hs (e.trans e2)) hp
      exact q _ _ (e2.trans (same_upd hp)) (.tup (sqT_hid np upd_same) (dp_sameA (hid_mono (same_upd hp)) (dpAll_rev h2)))
/-- list(t) of a tuple -/
theorem ee_lstOf (hs : HasA H S) (h : EvE K S (.tuple ds) te σ H) : EvE K S (.list ds) (tCB (fun xs H Q => ∃ p ys, xs = [V.ref p] ∧ (SqL K H p ys ∨ SqT K H p ys) ∧ ∀ (l : Addr), H l = none → Q (V.ref l) (upd H l (HO.lst ys))) (tCons te tNil)) σ H := fun H1 e Q q =>
  h H1 e _ fun v H2 e2 hv => by
    cases hv with
    | @tup a xs _ h1 h2 =>
      refine ⟨a, xs, rfl, .inr (Same.tup same_hid h1), fun p hp => ?_⟩
      have np := has_ne (hasA_same hs (e.trans e2)) hp
      exact q _ _ (e2.trans (same_upd hp)) (.lst (sqL_hid np upd_same) (dp_sameA (hid_mono (same_upd hp)) h2))
/-- small ints in a row -/
theorem sm_row {ds : List PyData} (h : ∀ x ∈ ds, Sm 0 4 8 x) (hl : ds.length ≤ 10) : Sm 2 60 10 (.tuple ds) ∧ Sm 2 60 10 (.list ds) := by
  have hw : wS ds ≤ 50 := by
    have : ∀ es : List PyData, (∀ x ∈ es, Sm 0 4 8 x) → wS es ≤ 5 * es.length := fun es => by
      induction es with
      | nil => intro _; exact Nat.le_refl _
      | cons z zs ih =>
        intro hz
        rw [wS_cons, List.length_cons]
        have h1 := (hz z (List.mem_cons_self ..)).wt
        have h2 := ih fun y hy => hz y (List.mem_cons_of_mem _ hy)
        omega
    have := this ds h
    omega
  have hi : ∀ x ∈ ds, Itm 1 10 x := fun x hx => (h x hx).itm.mono (by decide) (by decide)
  exact ⟨⟨itm_tuple.mpr ⟨hl, hi⟩, by rw [wt_tuple]; omega⟩, ⟨itm_list.mpr ⟨hl, hi⟩, by rw [wt_list]; omega⟩⟩
theorem sm_cell {z : Int} (h0 : 0 ≤ z) (h1 : z ≤ 8) : Sm 0 4 8 (.int z) := by
  have h8 : ∀ j : Fin 9, smB 0 4 8 (.int ((j : Nat) : Int)) = true := by decide +kernel
  have e : z = (((⟨z.toNat, by omega⟩ : Fin 9) : Nat) : Int) := by
    show z = (z.toNat : Int)
    omega
  rw [e]
  exact sm_of (h8 _)
theorem sm_bl (b : Bool) : Sm 0 4 8 (.bool b) := by cases b <;> exact sm_of (by decide +kernel)
end
/-- a list of values that grows at L, while draws are made at s -/
structure VI (K : PySem.W.Frag) (s L : Addr) (H0 H5 H' : Hp) (xs : List V) (es : List PyData) (k : Nat) : Prop where
  st : Stay s H0 H'
  kp : ∀ b o, b ≠ s → b ≠ L → H5 b = some o → H' b = some o
  sr : Src H' s k
  gL : H' L = some (.lst xs)
  dp : DpAll K (Hid [L, s] H') xs es
theorem VI.has {K : PySem.W.Frag} {s L : Addr} {H0 H5 H' : Hp} {xs : List V} {es : List PyData} {k : Nat} (h : VI K s L H0 H5 H' xs es k) : HasA H' [L, s] := fun b hb => by
  rcases List.mem_cons.mp hb with rfl | hb
  · exact ⟨_, h.gL⟩
  · rw [List.mem_singleton.mp hb]
    exact src_has h.sr
theorem VI.len {K : PySem.W.Frag} {s L : Addr} {H0 H5 H' : Hp} {xs : List V} {es : List PyData} {k : Nat} (h : VI K s L H0 H5 H' xs es k) : xs.length = es.length := dpAll_len h.dp
theorem VI.app {K : PySem.W.Frag} {s L : Addr} {H0 H5 Ha Hb : Hp} {xs : List V} {es : List PyData} {k kb : Nat} {v : V} {d : PyData} (h : VI K s L H0 H5 Ha xs es k) (nL : H0 L = none) (ne : L ≠ s) (st : Stay s Ha Hb) (sr : Src Hb s kb) (hd : Dp K (Hid [L, s] Hb) v d) :
    VI K s L H0 H5 (upd Hb L (.lst (xs ++ [v]))) (xs ++ [v]) (es ++ [d]) kb := by
  refine ⟨(h.st.trans st).mut nL, fun b o nb nbL hb => ?_, sr.elim fun o z => ⟨o, by rw [upd_ne ne.symm]; exact z.1, z.2⟩, upd_same, ?_⟩
  · rw [upd_ne nbL]
    exact st _ _ nb (h.kp b o nb nbL hb)
  · rw [hid_upd (List.mem_cons_self ..)]
    exact dpAll_app (dp_sameA (hid_stay (List.mem_cons_of_mem _ (List.mem_singleton.mpr rfl)) st) h.dp) (.cons hd .nil)
theorem VI.step {K : PySem.W.Frag} {s L : Addr} {H0 H5 Ha Hb : Hp} {xs : List V} {es : List PyData} {k kb : Nat} (h : VI K s L H0 H5 Ha xs es k) (ne : L ≠ s) (st : Stay s Ha Hb) (sr : Src Hb s kb) : VI K s L H0 H5 Hb xs es kb :=
  ⟨h.st.trans st, fun b o nb nL hb => st _ _ nb (h.kp b o nb nL hb), sr, st _ _ ne h.gL, dp_sameA (hid_stay (List.mem_cons_of_mem _ (List.mem_singleton.mpr rfl)) st) h.dp⟩
theorem cut3_len {α : Type} (ds : List α) (a : Nat) (h : a ≤ ds.length) : (cutL ds none (some (a : Int))).length + (cutL ds (some (a : Int)) (some ((a : Int) + 2))).length + (cutL ds (some ((a : Int) + 2)) none).length ≤ ds.length := by
  have e : ((a : Int) + 2) = ((a + 2 : Nat) : Int) := by omega
  unfold cutL
  simp only [e, HT.sIx_nat]
  show ((ds.drop 0).take (min a ds.length - 0)).length + _ + ((ds.drop (min (a + 2) ds.length)).take (ds.length - min (a + 2) ds.length)).length ≤ _
  rw [List.length_take, List.length_take, List.length_take, List.length_drop, List.length_drop, List.length_drop]
  omega
theorem if_thenS {c : TT} {a b : TS} {D : Ends} {σ : L2.St} {H : Hp} (R : L2.St → Hp → Prop) (k : ∀ σ' H', R σ' H' → D.nx σ' H') (h : ∀ D' : Ends, (∀ σ' H', R σ' H' → D'.nx σ' H') → tIfS c a b D' σ H) : tIfS c a b D σ H := h D k
end NS

/-! ### rows of ints -/
namespace NS
open PySem L2
theorem ints_inv {K : PySem.W.Frag} {H : Hp} : ∀ {ns : List Int} {xs : List V}, DpAll K H xs (ns.map PyData.int) → xs = ns.map V.int
  | [], _, h => by
    cases h
    rfl
  | n :: ns, _, h => by
    cases h with
    | cons a b =>
      cases a
      rw [ints_inv b]
      rfl
end NS

/-! ### rows of rows of ints in the heap -/
namespace NS
open PySem L2
section
variable {K : PySem.W.Frag}
theorem sqT_updL {H : Hp} {L a : Addr} {zs xs : List V} {o : HO} (hL : H L = some (.lst zs)) (h : SqT K H a xs) : SqT K (upd H L o) a xs := by
  rcases h with (h | ⟨o', h⟩) | h
  · exact .inl (.inl (by rw [upd_ne (fun e => by rw [e, hL] at h; cases h)]; exact h))
  · exact .inl (.inr ⟨o', by rw [upd_ne (fun e => by rw [e, hL] at h; cases h)]; exact h⟩)
  · exact .inr h
/-- a row of orders does not change with a list -/
theorem ords_upd {H : Hp} {L : Addr} {zs : List V} {o : HO} (hL : H L = some (.lst zs)) : ∀ {vs : List V} {os : List (List Int)}, DpAll K H vs (os.map dT) → DpAll K (upd H L o) vs (os.map dT)
  | _, [], .nil => .nil
  | _, q :: os, .cons h r => by
    refine .cons ?_ (ords_upd hL r)
    cases h with
    | @tup a xs _ h1 h2 =>
      obtain rfl := ints_inv h2
      exact dp_T (sqT_updL hL h1)
theorem ord_at {H : Hp} {v : V} {o : List Int} (h : Dp K H v (dT o)) : ∃ a, v = .ref a ∧ SqT K H a (o.map V.int) := by
  cases h with
  | @tup a xs _ h1 h2 =>
    obtain rfl := ints_inv h2
    exact ⟨a, rfl, h1⟩
theorem paired_imp {α β : Type} {F G : α → β → Prop} (h : ∀ a b, F a b → G a b) : ∀ {l₁ : List α} {l₂ : List β}, Paired F l₁ l₂ → Paired G l₁ l₂
  | _, _, .nil => .nil
  | _, _, .cons a r => .cons (h _ _ a) (paired_imp h r)
theorem merge_get {Pk : Key → V → Prop} {k : Key} : ∀ (kvs acc : List (Key × V)), (∀ kv ∈ kvs, Pk kv.1 kv.2) → (k ∈ kvs.map Prod.fst ∨ ∃ v, valV acc k = some v ∧ Pk k v) → ∃ v, valV (mergeK acc kvs) k = some v ∧ Pk k v
  | [], acc, _, h => by
    rcases h with h | h
    · cases h
    · exact h
  | kv :: r, acc, hp, h => by
    show ∃ v, valV (mergeK (putK acc kv.1 kv.2) r) k = some v ∧ Pk k v
    refine merge_get r _ (fun x hx => hp x (List.mem_cons_of_mem _ hx)) ?_
    by_cases hk : k ∈ r.map Prod.fst
    · exact .inl hk
    · refine .inr ?_
      rw [valV_put]
      by_cases e : k = kv.1
      · rw [if_pos e]
        exact ⟨kv.2, rfl, by rw [e]; exact hp kv (List.mem_cons_self ..)⟩
      · rw [if_neg e]
        rcases h with h | h
        · rw [List.map_cons] at h
          rcases List.mem_cons.mp h with h | h
          · exact absurd h e
          · exact absurd h hk
        · exact h
theorem line_ok {n : Nat} (h : n ≤ 1000000) : n < sizeLine := Nat.lt_of_le_of_lt h (by decide)
theorem cat_one {H : Hp} {b t : Addr} {so : List Int} {c : Int} {Q : VK} (hb : SqT K H b (so.map V.int)) (ht : H t = some (.tup [.int c])) (hz : so.length ≤ 1000)
    (q : ∀ p H', Same H H' → SqT K H' p ((so ++ [c]).map V.int) → Q (.ref p) H') : rCatA K (.ref b) (.ref t) H Q := by
  refine ⟨b, t, _, [.int c], rfl, rfl, hb, sqT ht, ?_, fun e0 => ?_, (fun _ e0 => nomatch e0), fun _ _ p hp => ?_⟩
  · rw [List.length_map]
    exact Nat.le_of_lt (line_ok (by simp; omega))
  · refine q t H (Same.refl _) ?_
    rw [List.map_append, e0]
    exact sqT ht
  · refine q p _ (same_upd hp) ?_
    rw [List.map_append]
    exact sqT upd_same
theorem fil_step {l : List Int} {p : Int → Bool} {i : Nat} {c : Int} (g : l[i]? = some c) : ((l.take (i + 1)).filter p).map V.int = ((l.take i).filter p).map V.int ++ (if p c = true then [V.int c] else []) := by
  rw [List.take_succ, g, List.filter_append, List.map_append]
  congr 1
  simp only [Option.toList_some]
  cases h : p c
  · rw [List.filter_cons_of_neg (by rw [h]; decide)]
    rfl
  · rw [List.filter_cons_of_pos h]
    rfl
theorem fil_small {l : List Int} {p : Int → Bool} {i : Nat} (h : l.length ≤ 1000) : (((l.take i).filter p).map V.int).length < sizeLine := by
  rw [List.length_map]
  refine small1000 (Nat.le_trans (List.length_filter_le _ _) ?_)
  rw [List.length_take]
  omega
end
end NS

/-! ### rows of ints, orders as values -/
namespace NS
open PySem L2
def intsD : List PyData → Option (List Int)
  | [] => some []
  | .int z :: r => (intsD r).map (z :: ·)
  | _ :: _ => none
theorem intsD_map : ∀ ns : List Int, intsD (ns.map PyData.int) = some ns
  | [] => rfl
  | n :: ns => by
    rw [List.map_cons, intsD, intsD_map ns]
    rfl
theorem ints_all : ∀ {ds : List PyData}, ds.all isIntD = true → ∃ ns : List Int, ds = ns.map PyData.int
  | [], _ => ⟨[], rfl⟩
  | d :: ds, h => by
    rw [List.all_cons, Bool.and_eq_true] at h
    obtain ⟨z, rfl⟩ := isInt_ex h.1
    obtain ⟨ns, rfl⟩ := ints_all h.2
    exact ⟨z :: ns, rfl⟩
theorem intsD_no : ∀ {ds : List PyData}, ds.all isIntD = false → intsD ds = none
  | [], h => nomatch h
  | d :: ds, h => by
    cases d with
    | int z =>
      rw [List.all_cons] at h
      rw [intsD, intsD_no (ds := ds) (by simpa [isIntD] using h)]
      rfl
    | _ => rfl
theorem eqvA_ints : ∀ a b : List Int, PyData.eqvAll (a.map PyData.int) (b.map PyData.int) = decide (a = b)
  | [], [] => by rw [List.map_nil, PyData.eqvAll]; rfl
  | [], _ :: _ => by rw [List.map_nil, List.map_cons, PyData.eqvAll]; rfl
  | _ :: _, [] => by rw [List.map_nil, List.map_cons, PyData.eqvAll]; rfl
  | x :: a, y :: b => by
    rw [List.map_cons, List.map_cons, PyData.eqvAll, PyData.eqv, eqvA_ints a b, Bool.eq_iff_iff]
    simp
theorem eqv_listI (a b : List Int) : PyData.eqv (.list (a.map PyData.int)) (.list (b.map PyData.int)) = decide (a = b) := by
  rw [PyData.eqv]
  exact eqvA_ints a b
theorem fullL_lt (ys : List V) : (fullL ys).Pairwise (· < ·) := by
  unfold fullL fullN
  rw [List.pairwise_map]
  exact (List.pairwise_lt_range.filter _).imp fun h => by omega
theorem fullL_nd (ys : List V) : (fullL ys).Nodup := (fullL_lt ys).imp fun h e => by omega
theorem sort_iff {ys : List V} {ms ns : List Int} (hp : ms.Perm ns) (hs : ms.Pairwise (· ≤ ·)) : decide (ms = fullL ys) = decide (ns.Perm (fullL ys)) := by
  rw [Bool.eq_iff_iff, decide_eq_true_eq, decide_eq_true_eq]
  constructor
  · intro e
    rw [← e]
    exact hp.symm
  · intro h
    exact List.Perm.eq_of_pairwise (le := (· ≤ ·)) (fun a b _ _ h1 h2 => by omega) hs ((fullL_lt ys).imp fun h => by omega) (hp.trans h)
/-- whether a value shows an order -/
def ordD (ys : List V) : PyData → Bool
  | .tuple ds => match intsD ds with
    | some ns => decide (ns.Perm (fullL ys)) && agreesL ys ns
    | none => false
  | _ => false
theorem ordD_ints (ys : List V) (ns : List Int) : ordD ys (.tuple (ns.map PyData.int)) = (decide (ns.Perm (fullL ys)) && agreesL ys ns) := by
  show (match intsD (ns.map PyData.int) with | some ns => decide (ns.Perm (fullL ys)) && agreesL ys ns | none => false) = _
  rw [intsD_map]
theorem ordD_no {ys : List V} {ds : List PyData} (h : ds.all isIntD = false) : ordD ys (.tuple ds) = false := by
  show (match intsD ds with | some ns => decide (ns.Perm (fullL ys)) && agreesL ys ns | none => false) = _
  rw [intsD_no h]
theorem ordD_case {ys : List V} {qs : List Int} (c : CaseF ys qs) : ordD ys (.tuple (qs.map PyData.int)) = true := by
  rw [ordD_ints, c.ag, Bool.and_true]
  exact decide_eq_true ((List.perm_ext_iff_of_nodup c.nd (fullL_nd ys)).mpr c.mem)
end NS

namespace NS
open PySem L2
def top (i : Nat) : Stmt := PySem.Challenge.pw_nearslot_k07_reasons_shown_or_not.main.body.getD i (.Pass ⟨0, 0, 0, 0⟩)
abbrev s_in_row : Stmt := top 2
abbrev s_all_in_row : Stmt := top 3
abbrev s_nearness : Stmt := top 4
abbrev s_needs : Stmt := top 5
abbrev s_needed_cells : Stmt := top 7
abbrev s_need_one_another : Stmt := top 8
abbrev s_shows_gap : Stmt := top 10
abbrev s_shows_both : Stmt := top 11
abbrev s_pair_in_row : Stmt := top 12
abbrev s_law_source : Stmt := top 14
abbrev s_law_draw : Stmt := top 15
abbrev s_law_choice : Stmt := top 16
abbrev s_law_equal : Stmt := top 17
abbrev s_law_odd : Stmt := top 18
abbrev s_law_bent : Stmt := top 19
abbrev s_law_integer : Stmt := top 20
abbrev s_law_needs : Stmt := top 21
abbrev s_law_fill : Stmt := top 22
abbrev s_law_hopes : Stmt := top 23
abbrev s_law_veiled : Stmt := top 24
abbrev s_law_case : Stmt := top 25
abbrev s_law_spoiled : Stmt := top 26
abbrev s_law_any : Stmt := top 27
abbrev s_law_full_spots : Stmt := top 28
abbrev s_law_wanted : Stmt := top 29
abbrev s_law_holds : Stmt := top 30
abbrev s_law : Stmt := top 31

theorem sc_in_row : FnScope ["thing", "size"] ["thing", "size"] (defScope s_in_row) := ⟨rfl, rfl, rfl, by decide +kernel, rfl, by decide +kernel, by decide +kernel⟩
theorem sc_all_in_row : FnScope ["thing", "size", "cell"] ["thing", "size"] (defScope s_all_in_row) := ⟨rfl, rfl, rfl, by decide +kernel, rfl, by decide +kernel, by decide +kernel⟩
theorem sc_nearness : FnScope ["cell", "wish"] ["cell", "wish"] (defScope s_nearness) := ⟨rfl, rfl, rfl, by decide +kernel, rfl, by decide +kernel, by decide +kernel⟩
theorem sc_needs : FnScope ["size", "cell", "wish", "own", "other"] ["size", "cell", "wish"] (defScope s_needs) := ⟨rfl, rfl, rfl, by decide +kernel, rfl, by decide +kernel, by decide +kernel⟩
theorem sc_needed_cells : FnScope ["table", "cell", "wish"] ["table", "cell"] (defScope s_needed_cells) := ⟨rfl, rfl, rfl, by decide +kernel, rfl, by decide +kernel, by decide +kernel⟩
theorem sc_need_one_another : FnScope ["table", "one", "other"] ["table", "one", "other"] (defScope s_need_one_another) := ⟨rfl, rfl, rfl, by decide +kernel, rfl, by decide +kernel, by decide +kernel⟩
theorem sc_shows_gap : FnScope ["table", "thing", "cell", "empty"] ["table", "thing"] (defScope s_shows_gap) := ⟨rfl, rfl, rfl, by decide +kernel, rfl, by decide +kernel, by decide +kernel⟩
theorem sc_shows_both : FnScope ["table", "thing", "one", "other"] ["table", "thing"] (defScope s_shows_both) := ⟨rfl, rfl, rfl, by decide +kernel, rfl, by decide +kernel, by decide +kernel⟩
theorem sc_pair_in_row : FnScope ["thing", "size"] ["thing", "size"] (defScope s_pair_in_row) := ⟨rfl, rfl, rfl, by decide +kernel, rfl, by decide +kernel, by decide +kernel⟩
theorem sc_law_source : FnScope ["_law_script", "_law_index", "_law_core"] ["_law_script", "_law_index"] (defScope s_law_source) := ⟨rfl, rfl, rfl, by decide +kernel, rfl, by decide +kernel, by decide +kernel⟩
theorem sc_law_draw : FnScope ["_law_source_here", "_law_bound", "_law_found", "_law_once"] ["_law_source_here", "_law_bound"] (defScope s_law_draw) := ⟨rfl, rfl, rfl, by decide +kernel, rfl, by decide +kernel, by decide +kernel⟩
theorem sc_law_choice : FnScope ["_law_source_here", "_law_row_here"] ["_law_source_here", "_law_row_here"] (defScope s_law_choice) := ⟨rfl, rfl, rfl, by decide +kernel, rfl, by decide +kernel, by decide +kernel⟩
theorem sc_law_equal : FnScope ["_law_found", "_law_due", "_law_lone", "_law_mate"] ["_law_found", "_law_due"] (defScope s_law_equal) := ⟨rfl, rfl, rfl, by decide +kernel, rfl, by decide +kernel, by decide +kernel⟩
theorem sc_law_odd : FnScope ["_law_source_here", "_law_value", "_law_some"] ["_law_source_here", "_law_value"] (defScope s_law_odd) := ⟨rfl, rfl, rfl, by decide +kernel, rfl, by decide +kernel, by decide +kernel⟩
theorem sc_law_bent : FnScope ["_law_source_here", "_law_value", "_law_at", "_law_made", "_law_way"] ["_law_source_here", "_law_value"] (defScope s_law_bent) := ⟨rfl, rfl, rfl, by decide +kernel, rfl, by decide +kernel, by decide +kernel⟩
theorem sc_law_integer : FnScope ["_law_value"] ["_law_value"] (defScope s_law_integer) := ⟨rfl, rfl, rfl, by decide +kernel, rfl, by decide +kernel, by decide +kernel⟩
theorem sc_law_needs : FnScope ["_law_width", "_law_spot", "_law_hope", "_law_at"] ["_law_width", "_law_spot", "_law_hope"] (defScope s_law_needs) := ⟨rfl, rfl, rfl, by decide +kernel, rfl, by decide +kernel, by decide +kernel⟩
theorem sc_law_fill : FnScope ["_law_width", "_law_hopes_here", "_law_shelf", "_law_queue", "_law_hope", "_law_spot", "_law_at"] ["_law_width", "_law_hopes_here"] (defScope s_law_fill) := ⟨rfl, rfl, rfl, by decide +kernel, rfl, by decide +kernel, by decide +kernel⟩
theorem sc_law_hopes : FnScope ["_law_source_here", "_law_width", "_law_near", "_law_way", "_law_found", "_law_turn", "_law_hope"] ["_law_source_here", "_law_width"] (defScope s_law_hopes) := ⟨rfl, rfl, rfl, by decide +kernel, rfl, by decide +kernel, by decide +kernel⟩
theorem sc_law_veiled : FnScope ["_law_source_here", "_law_shelf", "_law_odds", "_law_part"] ["_law_source_here", "_law_shelf"] (defScope s_law_veiled) := ⟨rfl, rfl, rfl, by decide +kernel, rfl, by decide +kernel, by decide +kernel⟩
theorem sc_law_case : FnScope ["_law_source_here", "_law_most", "_law_width", "_law_shelf", "_law_queue"] ["_law_source_here", "_law_most"] (defScope s_law_case) := ⟨rfl, rfl, rfl, by decide +kernel, rfl, by decide +kernel, by decide +kernel⟩
theorem sc_law_spoiled : FnScope ["_law_source_here", "_law_shelf", "_law_found", "_law_turn"] ["_law_source_here", "_law_shelf"] (defScope s_law_spoiled) := ⟨rfl, rfl, rfl, by decide +kernel, rfl, by decide +kernel, by decide +kernel⟩
theorem sc_law_any : FnScope ["_law_source_here", "_law_most", "_law_shelf", "_law_queue"] ["_law_source_here", "_law_most"] (defScope s_law_any) := ⟨rfl, rfl, rfl, by decide +kernel, rfl, by decide +kernel, by decide +kernel⟩
theorem sc_law_full_spots : FnScope ["_law_shelf", "_law_spot", "_law_part"] ["_law_shelf"] (defScope s_law_full_spots) := ⟨rfl, rfl, rfl, by decide +kernel, rfl, by decide +kernel, by decide +kernel⟩
theorem sc_law_wanted : FnScope ["_law_shelf", "_law_spot"] ["_law_shelf", "_law_spot"] (defScope s_law_wanted) := ⟨rfl, rfl, rfl, by decide +kernel, rfl, by decide +kernel, by decide +kernel⟩
theorem sc_law_holds : FnScope ["_law_source_here", "_law_shelf", "_law_spots", "_law_width", "_law_values", "_law_spot", "_law_turn", "_law_value", "_law_kept", "_law_due", "_law_told", "_law_named", "_law_mate", "_law_part"] ["_law_source_here"] (defScope s_law_holds) := ⟨rfl, rfl, rfl, by decide +kernel, rfl, by decide +kernel, by decide +kernel⟩
theorem sc_law : FnScope ["_law_script", "_law_index", "_law_source_here", "_law_turn"] ["_law_script"] (defScope s_law) := ⟨rfl, rfl, rfl, by decide +kernel, rfl, by decide +kernel, by decide +kernel⟩

def pm_kb_shows_gap_thing_table {α : Type} : List α → List α
  | [a0, a1] => [a1, a0]
  | l => l
theorem kb_shows_gap_thing_table {K : PySem.W.Frag} {f : Addr} {fd : FuncData} (F : Fun K "shows_gap" "shows_gap" s_shows_gap f fd) : KBn K fd ["table", "thing"] 0 ["thing", "table"] (fun _ ws => pm_kb_shows_gap_thing_table ws) (fun _ zs => pm_kb_shows_gap_thing_table zs) := by
  obtain ⟨oc, od, kV, doc, pm, an, cdv, ct, osl, rfl, lk, hcd⟩ := F.ex
  refine ⟨fun s us ws X l1 l2 => match us, ws, l1, l2 with | [], [_, _], _, _ => .of_eq rfl, fun {vs us zs ws} r1 r2 => ?_⟩
  exact (match r2 with
    | .nil => .nil
    | (.cons a0 .nil) => (.cons a0 .nil)
    | (.cons a0 (.cons a1 .nil)) => (.cons a1 (.cons a0 .nil))
    | (.cons a0 (.cons a1 (.cons b r))) => (.cons a0 (.cons a1 (.cons b r))))
def pm_kb_shows_both_thing_table {α : Type} : List α → List α
  | [a0, a1] => [a1, a0]
  | l => l
theorem kb_shows_both_thing_table {K : PySem.W.Frag} {f : Addr} {fd : FuncData} (F : Fun K "shows_both" "shows_both" s_shows_both f fd) : KBn K fd ["table", "thing"] 0 ["thing", "table"] (fun _ ws => pm_kb_shows_both_thing_table ws) (fun _ zs => pm_kb_shows_both_thing_table zs) := by
  obtain ⟨oc, od, kV, doc, pm, an, cdv, ct, osl, rfl, lk, hcd⟩ := F.ex
  refine ⟨fun s us ws X l1 l2 => match us, ws, l1, l2 with | [], [_, _], _, _ => .of_eq rfl, fun {vs us zs ws} r1 r2 => ?_⟩
  exact (match r2 with
    | .nil => .nil
    | (.cons a0 .nil) => (.cons a0 .nil)
    | (.cons a0 (.cons a1 .nil)) => (.cons a1 (.cons a0 .nil))
    | (.cons a0 (.cons a1 (.cons b r))) => (.cons a0 (.cons a1 (.cons b r))))

structure Bt (mg : Str → Option Value) : Prop where
  abs : mg "abs" = none
  all : mg "all" = none
  bool : mg "bool" = none
  enumerate : mg "enumerate" = none
  int : mg "int" = none
  isinstance : mg "isinstance" = none
  len : mg "len" = none
  list : mg "list" = none
  max : mg "max" = none
  min : mg "min" = none
  range : mg "range" = none
  repr : mg "repr" = none
  str : mg "str" = none
  tuple : mg "tuple" = none
  zip : mg "zip" = none
  c_UNKNOWN : ∃ t, mg "UNKNOWN" = some (Value.str "?" t)

section
variable {P : Program} {w : World} {K : PySem.W.Frag} {mg : Str → Option Value} {base : Heap}
/-! ### a def that tells by a table and a value -/
def spTell (K : PySem.W.Frag) (g : List V → PyData → Bool) : Sp := fun vs H Q _ => ∃ (a : Addr) (ys : List V) (x : V) (d : PyData), vs = [.ref a, x] ∧ (SqL K H a ys ∨ SqT K H a ys) ∧ 1 ≤ ys.length ∧ ys.length ≤ 100 ∧ (∀ y ∈ ys, TabV ys.length y) ∧ Dp K H x d ∧ SeqAt.shaped d = true ∧ lenD d ≤ 60 ∧ ∀ H', Same H H' → Q (.bl (g ys d)) H'

/-! ### what shows_gap, shows_both tell -/
def gapD (ys : List V) : PyData → Bool
  | .tuple [.int c, .int e] => decide (c ∈ fullL ys) && decide (e ∈ wantL ys c) && isN (ys.getD e.toNat .non)
  | _ => false
def bothD (ys : List V) : PyData → Bool
  | .tuple [.int c, .int e] => decide (c ∈ fullL ys) && decide (e ∈ wantL ys c) && (decide (e ∈ fullL ys) && decide (c ∈ wantL ys e))
  | _ => false
theorem tell_len {ys : List V} {ds : List PyData} (h : ds.length ≠ 2) : gapD ys (.tuple ds) = false ∧ bothD ys (.tuple ds) = false := by
  match ds, h with
  | [], _ => exact ⟨rfl, rfl⟩
  | [d], _ => cases d <;> exact ⟨rfl, rfl⟩
  | [_, _], h => exact absurd rfl h
  | d1 :: d2 :: _ :: _, _ => cases d1 <;> cases d2 <;> exact ⟨rfl, rfl⟩
theorem tell_int {ys : List V} {d1 d2 : PyData} (h : (isIntD d1 && isIntD d2) = false) : gapD ys (.tuple [d1, d2]) = false ∧ bothD ys (.tuple [d1, d2]) = false := by
  cases d1 with
  | int c =>
    cases d2 with
    | int e => cases h
    | _ => exact ⟨rfl, rfl⟩
  | _ => exact ⟨rfl, rfl⟩
theorem tell_pair {ys : List V} {c e : Int} (h : ¬ (c ∈ fullL ys ∧ e ∈ wantL ys c)) : gapD ys (.tuple [.int c, .int e]) = false ∧ bothD ys (.tuple [.int c, .int e]) = false := by
  have z : (decide (c ∈ fullL ys) && decide (e ∈ wantL ys c)) = false := by
    rw [← Bool.not_eq_true, Bool.and_eq_true, decide_eq_true_eq, decide_eq_true_eq]
    exact h
  constructor
  · show (decide (c ∈ fullL ys) && decide (e ∈ wantL ys c) && _) = false
    rw [z]
    rfl
  · show (decide (c ∈ fullL ys) && decide (e ∈ wantL ys c) && _) = false
    rw [z]
    rfl
theorem tell_yes {ys : List V} {c e : Int} (h1 : c ∈ fullL ys) (h2 : e ∈ wantL ys c) : gapD ys (.tuple [.int c, .int e]) = isN (ys.getD e.toNat .non) ∧ bothD ys (.tuple [.int c, .int e]) = (decide (e ∈ fullL ys) && decide (c ∈ wantL ys e)) := by
  constructor
  · show (decide (c ∈ fullL ys) && decide (e ∈ wantL ys c) && _) = _
    rw [decide_eq_true h1, decide_eq_true h2]
    rfl
  · show (decide (c ∈ fullL ys) && decide (e ∈ wantL ys c) && _) = _
    rw [decide_eq_true h1, decide_eq_true h2]
    rfl

/-! ### in_row -/
def inRowD (n : Int) : PyData → Bool
  | .int i => decide (0 ≤ i) && decide (i < n)
  | _ => false
def spInRow (K : PySem.W.Frag) : Sp := fun vs H Q _ => ∃ (x : V) (d : PyData) (n : Int), vs = [x, .int n] ∧ Dp K H x d ∧ Q (.bl (inRowD n d)) H
theorem ok_inrow (T : Bt mg) {f : Addr} {fd : FuncData} {k : Nat} (D : Df K mg "in_row" s_in_row ["thing", "size"] f fd) : Kn P w K mg base (k + 1) "in_row" s_in_row ["thing", "size"] (spInRow K) f fd := by
  refine ⟨D, D.F.ok sc_in_row (fun vs H Q E h => ?_) (fun cdv A outer s H vs Q E hr h => ?_)⟩
  · obtain ⟨x, d, n, rfl, _⟩ := h
    rfl
  obtain ⟨x, d, n, rfl, hd, q⟩ := h
  refine ⟨_, (pss_one (ps_ret (pe_and (pe_callB (call_isiKK (K := K) rfl) (by rfl) T.isinstance (by decide +kernel) (pa_cons (pv 0) (pa_cons (pe_bltn (v := .ty "int") (by rfl) T.int (by decide +kernel) rfl) pa_nil))) (pe_and (pe_not (pe_callB (call_isiKK (K := K) rfl) (by rfl) T.isinstance (by decide +kernel) (pa_cons (pv 0) (pa_cons (pe_bltn (v := .ty "bool") (by rfl) T.bool (by decide +kernel) rfl) pa_nil)))) (pe_one (pe_chain op_le op_lt pe_int (pv 0) (pv 1))))))), ?_⟩
  cases hd with
  | non => exact ⟨_, rfl, _, _, _, _, _, rfl, .ty _, .base .non, kit_ty (r := false) (by decide +kernel), _, rfl, iteF q⟩
  | bl b =>
    refine ⟨_, rfl, _, _, _, _, _, rfl, .ty _, .base (.bl _), kit_ty (r := true) (by decide +kernel), _, rfl, iteT ?_⟩
    exact ⟨_, rfl, _, _, _, _, _, rfl, .ty _, .base (.bl _), kit_ty (r := true) (by decide +kernel), _, rfl, false, rfl, iteF q⟩
  | int i =>
    refine ⟨_, rfl, _, _, _, _, _, rfl, .ty _, .base (.int _), kit_ty (r := true) (by decide +kernel), _, rfl, iteT ?_⟩
    refine ⟨_, rfl, _, _, _, _, _, rfl, .ty _, .base (.int _), kit_ty (r := false) (by decide +kernel), _, rfl, true, rfl, iteT ?_⟩
    refine ⟨_, rfl, _, _, rfl, rfl, _, rfl, ?_⟩
    by_cases h0 : 0 ≤ i
    · rw [decide_eq_true h0]
      refine iteT ⟨_, rfl, _, _, rfl, rfl, ?_⟩
      have e : inRowD n (.int i) = decide (i < n) := by
        show (decide (0 ≤ i) && decide (i < n)) = _
        rw [decide_eq_true h0, Bool.true_and]
      rw [e] at q
      exact q
    · rw [decide_eq_false h0]
      refine iteF ?_
      have e : inRowD n (.int i) = false := by
        show (decide (0 ≤ i) && decide (i < n)) = _
        rw [decide_eq_false h0, Bool.false_and]
      rw [← e]
      exact q
  | str z => exact ⟨_, rfl, _, _, _, _, _, rfl, .ty _, .base (.str _), kit_ty (r := false) (by decide +kernel), _, rfl, iteF q⟩
  | lst h1 h2 => exact ⟨_, rfl, _, _, _, _, _, rfl, .ty _, tyL h1, kit_ty (r := false) (by decide +kernel), _, rfl, iteF q⟩
  | tup h1 h2 => exact ⟨_, rfl, _, _, _, _, _, rfl, .ty _, tyT h1, kit_ty (r := false) (by decide +kernel), _, rfl, iteF q⟩
theorem inRow_ex {n : Nat} {d : PyData} (h : inRowD (n : Int) d = true) : ∃ i : Nat, d = .int (i : Int) ∧ i < n := by
  cases d with
  | int z =>
    have h' : (decide (0 ≤ z) && decide (z < (n : Int))) = true := h
    rw [Bool.and_eq_true, decide_eq_true_eq, decide_eq_true_eq] at h'
    refine ⟨z.toNat, ?_, by omega⟩
    rw [Int.toNat_of_nonneg h'.1]
  | _ => cases h
theorem inRow_int {d : PyData} {n : Int} (h : inRowD n d = true) : isIntD d = true := by
  cases d with
  | int z => rfl
  | _ => cases h
theorem inRow_nat {n i : Nat} (h : i < n) : inRowD (n : Int) (.int (i : Int)) = true := by
  show (decide (0 ≤ (i : Int)) && decide ((i : Int) < (n : Int))) = true
  rw [Bool.and_eq_true, decide_eq_true_eq, decide_eq_true_eq]
  omega

/-! ### all_in_row -/
def allInD (n : Int) : PyData → Bool
  | .tuple ds => ds.all (inRowD n)
  | _ => false
def spAllIn (K : PySem.W.Frag) : Sp := fun vs H Q _ => ∃ (x : V) (d : PyData) (n : Nat), vs = [x, .int n] ∧ Dp K H x d ∧ lenD d ≤ 900 ∧ ∀ H', Same H H' → Q (.bl (allInD n d)) H'
theorem ok_allin (T : Bt mg) {f f1 : Addr} {fd fd1 : FuncData} {k : Nat} (D : Df K mg "all_in_row" s_all_in_row ["thing", "size"] f fd) (k_in_row : Kn P w K mg base (k + 1) "in_row" s_in_row ["thing", "size"] (spInRow K) f1 fd1) : Kn P w K mg base (k + 2) "all_in_row" s_all_in_row ["thing", "size"] (spAllIn K) f fd := by
  refine ⟨D, D.F.ok sc_all_in_row (fun vs H Q E h => ?_) (fun cdv A outer s H vs Q E hr h => ?_)⟩
  · obtain ⟨x, d, n, rfl, _⟩ := h
    rfl
  obtain ⟨x, d, n, rfl, hd, hlen, q⟩ := h
  refine ⟨_, (pss_one (ps_ret (pe_and (pe_callB (call_isiKK (K := K) rfl) (by rfl) T.isinstance (by decide +kernel) (pa_cons (pv 0) (pa_cons (pe_bltn (v := .ty "tuple") (by rfl) T.tuple (by decide +kernel) rfl) pa_nil))) (pe_one (pe_callB (cr_allK (K := K) rfl rfl) (by rfl) T.all (by decide +kernel) (pa_cons (pe_lc (own := [("cell", 2)]) (by rfl) sc_all_in_row.nd (pi_tup (pv 0)) (blkOk_by (own := [("cell", 2)]) (N := ["thing", "size", "cell"]) (sc := defScope s_all_in_row) (by decide +kernel)) (fun _ _ _ _ _ => (pg_name (i := 2) sc_all_in_row.nd rfl (.inl rfl))) (fun _ _ _ _ _ => pts_nil) (fun _ _ _ _ _ => (pe_call k_in_row.G (hr.mono (by omega)) (by rfl) k_in_row.D.g k_in_row.D.F.kp k_in_row.D.b .nil pass0 (pa_cons (pv 2) (pa_cons (pv 1) pa_nil))))) pa_nil)))))), ?_⟩
  cases hd with
  | non => exact ⟨_, rfl, _, _, _, _, _, rfl, .ty _, .base .non, kit_ty (r := false) (by decide +kernel), _, rfl, iteF (q _ (Same.refl _))⟩
  | bl b => exact ⟨_, rfl, _, _, _, _, _, rfl, .ty _, .base (.bl _), kit_ty (r := false) (by decide +kernel), _, rfl, iteF (q _ (Same.refl _))⟩
  | int i => exact ⟨_, rfl, _, _, _, _, _, rfl, .ty _, .base (.int _), kit_ty (r := false) (by decide +kernel), _, rfl, iteF (q _ (Same.refl _))⟩
  | str z => exact ⟨_, rfl, _, _, _, _, _, rfl, .ty _, .base (.str _), kit_ty (r := false) (by decide +kernel), _, rfl, iteF (q _ (Same.refl _))⟩
  | lst h1 h2 => exact ⟨_, rfl, _, _, _, _, _, rfl, .ty _, tyL h1, kit_ty (r := false) (by decide +kernel), _, rfl, iteF (q _ (Same.refl _))⟩
  | @tup b xs ds h1 h2 =>
    have hl := dpAll_len h2
    have hz' : ds.length ≤ 900 := hlen
    refine ⟨_, rfl, _, _, _, _, _, rfl, .ty _, tyT h1, kit_ty (r := true) (by decide +kernel), _, rfl, iteT ?_⟩
    refine ⟨_, rfl, b, rfl, ⟨_, h1⟩, fun L hL => ?_⟩
    refine lc_tup (xs := xs) (fun i H2 => Same H H2 ∧ H2 L = some (.lst (((ds.map (inRowD (n : Int))).take i).map V.bl))) ⟨same_upd hL, upd_same⟩ (fun i H2 _ hP => Same.tup hP.1 h1) (fun i y H2 gy hP => ?_) (fun H2 hP => ?_)
    · obtain ⟨s2, e2⟩ := hP
      obtain ⟨d1, g1, p1⟩ := dpAll_get h2 gy
      have hi : i < xs.length := (List.getElem?_eq_some_iff.mp gy).1
      refine ⟨rfl, ?_⟩
      refine ⟨_, rfl, _, rfl, y, d1, (n : Int), rfl, dp_same s2 p1, ?_⟩
      refine ⟨_, e2, ?_, Same.mut s2 hL, ?_⟩
      · rw [List.length_map, List.length_take]
        exact small1000 (by omega)
      · rw [upd_same, List.take_add_one, List.getElem?_map, g1, List.map_append]
        rfl
    · obtain ⟨s2, e2⟩ := hP
      refine ⟨L, _, rfl, sqL e2, ?_⟩
      have ev : (((ds.map (inRowD (n : Int))).take xs.length).all id) = allInD n (.tuple ds) := by
        rw [hl, List.take_of_length_le (by rw [List.length_map]; exact Nat.le_refl _), List.all_map]
        rfl
      rw [ev]
      exact q _ s2
theorem allIn_ints {n : Nat} {d : PyData} (h : allInD n d = true) : ∃ ns : List Int, d = .tuple (ns.map PyData.int) ∧ ∀ z ∈ ns, ∃ i : Nat, z = (i : Int) ∧ i < n := by
  cases d with
  | tuple ds =>
    have h' : ds.all (inRowD n) = true := h
    obtain ⟨ns, rfl⟩ := ints_all (show ds.all isIntD = true by
      rw [List.all_eq_true] at h' ⊢
      exact fun d hd => inRow_int (h' d hd))
    refine ⟨ns, rfl, fun z hz => ?_⟩
    rw [List.all_map, List.all_eq_true] at h'
    obtain ⟨i, e, hi⟩ := inRow_ex (h' z hz)
    exact ⟨i, PyData.int.inj e, hi⟩
  | _ => cases h

/-! ### nearness -/
def spNearness : Sp := fun vs H Q _ => ∃ c w : Int, vs = [.int c, .int w] ∧ ∀ p, H p = none → Q (.ref p) (upd H p (.tup [.int (dist c w), .int c]))
theorem ok_nearness (T : Bt mg) {f : Addr} {fd : FuncData} {k : Nat} (D : Df K mg "nearness" s_nearness ["cell", "wish"] f fd) : Kn P w K mg base (k + 1) "nearness" s_nearness ["cell", "wish"] spNearness f fd := by
  refine ⟨D, D.F.ok sc_nearness (fun vs H Q E h => ?_) (fun cdv A outer s H vs Q E hr h => ?_)⟩
  · obtain ⟨a, ns, rfl, _⟩ := h
    rfl
  obtain ⟨c, w', rfl, q⟩ := h
  refine ⟨_, (pss_one (ps_ret (pe_tup (pa_cons (pe_callB call_abs (by rfl) T.abs (by decide +kernel) (pa_cons (pe_op op_sub (pv 0) (pv 1)) pa_nil)) (pa_cons (pv 0) pa_nil))))), ?_⟩
  exact ⟨_, rfl, _, rfl, _, _, rfl, rfl, _, rfl, _, rfl, (by show 2 ≤ sizeLine; decide), fun p hp => q p hp⟩

/-! ### needs -/
def spNeeds : Sp := fun vs H Q _ => ∃ (n : Nat) (c w : Int), vs = [.int n, .int c, .int w] ∧ n ≤ 100 ∧ ∀ p H', Same H H' → H p = none → H' p = some (.tup ((needsL n c w).map V.int)) → Q (.ref p) H'
theorem ok_needs (T : Bt mg) {f f1 : Addr} {fd fd1 : FuncData} {k : Nat} (D : Df K mg "needs" s_needs ["size", "cell", "wish"] f fd) (k_nearness : Kn P w K mg base (k + 1) "nearness" s_nearness ["cell", "wish"] spNearness f1 fd1) : Kn P w K mg base (k + 2) "needs" s_needs ["size", "cell", "wish"] spNeeds f fd := by
  refine ⟨D, D.F.ok sc_needs (fun vs H Q E h => ?_) (fun cdv A outer s H vs Q E hr h => ?_)⟩
  · obtain ⟨n, c, w', rfl, _⟩ := h
    rfl
  obtain ⟨n, c, w', rfl, hn, q⟩ := h
  refine ⟨_, (pss_cons (ps_set (i := 3) sc_needs.nd rfl (.inr rfl) (pe_call k_nearness.G (hr.mono (by omega)) (by rfl) k_nearness.D.g k_nearness.D.F.kp k_nearness.D.b .nil pass0 (pa_cons (pv 1) (pa_cons (pv 2) pa_nil))))
      (pss_one (ps_ret (pe_callTy (call_tupleK (K := K) rfl) (by rfl) T.tuple (by decide +kernel) (pa_cons (pe_lc (own := [("other", 4)]) (by rfl) sc_needs.nd (pi_range1 (by rfl) T.range (pa_cons (pv 0) pa_nil)) (blkOk_by (own := [("other", 4)]) (N := ["size", "cell", "wish", "own", "other"]) (sc := defScope s_needs) (by decide +kernel)) (fun _ _ _ _ _ => (pg_name (i := 4) sc_needs.nd rfl (.inl rfl))) (fun _ _ _ _ _ => (pts_one (pt_cmpR (op_ltTK (K := K) rfl hr.units0) (pe_call k_nearness.G (hr.mono (by omega)) (by rfl) k_nearness.D.g k_nearness.D.F.kp k_nearness.D.b .nil pass0 (pa_cons (pv 4) (pa_cons (pv 2) pa_nil))) (pv 3) (nomark _)))) (fun _ _ _ _ _ => (pv 4))) pa_nil))))), ?_⟩
  -- own = nearness(cell, wish)
  refine ⟨_, rfl, _, rfl, c, w', rfl, fun o ho => ?_⟩
  -- the comprehension
  refine ⟨_, rfl, (n : Int), rfl, by omega, by omega, fun D' hD => ?_⟩
  have so : Same H (upd H o (.tup [.int (dist c w'), .int c])) := same_upd ho
  have en : ((n : Int)).toNat = n := Int.toNat_natCast n
  rw [en]
  refine lc_range (lo := 0) (n := n) (fun i H2 => Same (upd H o (.tup [.int (dist c w'), .int c])) H2 ∧ H2 D' = some (.lst ((needsL i c w').map V.int))) ⟨same_upd hD, upd_same⟩ (fun i H2 hi hP => ?_) (fun H2 hP => ?_)
  · obtain ⟨s2, e2⟩ := hP
    refine ⟨rfl, _, rfl, _, rfl, _, _, rfl, fun p hp => ?_⟩
    have h1 : Same H2 (upd H2 p (.tup [.int (dist (0 + (i : Int)) w'), .int (0 + (i : Int))])) := same_upd hp
    refine ⟨_, rfl, p, o, [dist (0 + (i : Int)) w', 0 + (i : Int)], [dist c w', c], rfl, rfl, sqT upd_same, sqT (h1 _ _ (s2 _ _ upd_same)), _, rfl, ?_⟩
    have ez : (0 : Int) + (i : Int) = (i : Int) := Int.zero_add _
    have hsz : ((needsL i c w').map V.int).length < sizeLine := by
      rw [List.length_map]
      exact small1000 (Nat.le_trans (needsL_len i c w') (by omega))
    rw [ez]
    rw [ez] at h1
    refine ite2 (fun hb => ?_) (fun hb => ?_)
    · refine ⟨_, rfl, _, h1 _ _ e2, hsz, ?_, ?_⟩
      · exact Same.mut (s2.trans h1) hD
      · rw [upd_same, needsL_succ, if_pos (show near w' c (i : Int) = true from hb), List.map_append]
        rfl
    · refine ⟨s2.trans h1, ?_⟩
      rw [needsL_succ, if_neg (show ¬ near w' c (i : Int) = true from hb), List.append_nil]
      exact h1 _ _ e2
  · obtain ⟨s2, e2⟩ := hP
    refine ⟨D', _, rfl, .inl ⟨sqL e2, fun l hl => ?_⟩⟩
    exact q l _ ((so.trans s2).trans (same_upd hl)) (so.free (s2.free hl)) upd_same

/-! ### needed_cells -/
theorem shaped_i (z : Int) : SeqAt.shaped (.int z) = true := by
  unfold SeqAt.shaped
  rw [PyData.canLay0, PyData.depth]
  rfl
theorem shaped_qm : SeqAt.shaped (.str "?") = true := by decide +kernel
theorem eqv_i_q (z : Int) : PyData.eqv (.int z) (.str "?") = false := by rw [PyData.eqv] <;> simp
theorem eqv_q_q : PyData.eqv (.str "?") (.str "?") = true := by decide +kernel
def spNeeded (K : PySem.W.Frag) : Sp := fun vs H Q _ => ∃ (a : Addr) (ys : List V) (i : Nat), vs = [.ref a, .int i] ∧ Sq K H a ys ∧ ys.length ≤ 100 ∧ i < ys.length ∧ (∀ y ∈ ys, TabV ys.length y) ∧ ∀ p H', Same H H' → H p = none → H' p = some (.tup ((wantL ys i).map V.int)) → Q (.ref p) H'
theorem ok_needed (T : Bt mg) {f f1 : Addr} {fd fd1 : FuncData} {k : Nat} (D : Df K mg "needed_cells" s_needed_cells ["table", "cell"] f fd) (k_needs : Kn P w K mg base (k + 2) "needs" s_needs ["size", "cell", "wish"] spNeeds f1 fd1) : Kn P w K mg base (k + 3) "needed_cells" s_needed_cells ["table", "cell"] (spNeeded K) f fd := by
  refine ⟨D, D.F.ok sc_needed_cells (fun vs H Q E h => ?_) (fun cdv A outer s H vs Q E hr h => ?_)⟩
  · obtain ⟨a, ys, i, rfl, _⟩ := h
    rfl
  obtain ⟨a, ys, i, rfl, hS, hl, hi, tab, q⟩ := h
  obtain ⟨tc_UNKNOWN, gc_UNKNOWN⟩ := T.c_UNKNOWN
  refine ⟨_, (pss_cons (ps_set (i := 2) sc_needed_cells.nd rfl (.inl rfl) (pe_ix (ix_seqK (K := K) rfl) (pv 0) (pv 1) (fun _ _ => rfl)))
      (pss_cons (ps_if (PW.pt (pw_or (pt_cmpR op_isN (pv 2) pe_non (nomark _)) (pw_or1 (pt_cmpR (op_eqDK (K := K) rfl hr.units) (pv 2) (pe_glob (v := .str "?") (by rfl) gc_UNKNOWN ⟨_, rfl⟩) (nomark _))))) (pss_one (ps_ret (pe_tup pa_nil))) pss_nil)
      (pss_one (ps_ret (pe_call k_needs.G (hr.mono (by omega)) (by rfl) k_needs.D.g k_needs.D.F.kp k_needs.D.b .nil pass0 (pa_cons (pe_callB (call_lenK (K := K) rfl) (by rfl) T.len (by decide +kernel) (pa_cons (pv 0) pa_nil)) (pa_cons (pv 1) (pa_cons (pv 2) pa_nil)))))))), ?_⟩
  have gi : ys[i]? = some ys[i] := List.getElem?_eq_getElem hi
  have gd : ys.getD i .non = ys[i] := by rw [List.getD_eq_getElem?_getD, gi]; rfl
  have hw : wantL ys i = wantV ys.length i ys[i] := by
    unfold wantL
    rw [Int.toNat_natCast, gd]
  rw [hw] at q
  have ht := tab ys[i] (List.getElem_mem hi)
  refine ⟨_, rfl, _, rfl, a, ys, (i : Int), _, rfl, rfl, hS, atI_nat gi, ?_⟩
  generalize ys[i] = y at q ht
  rcases ht with rfl | rfl | ⟨z, rfl, hz⟩
  · refine ⟨_, rfl, rfl, _, rfl, iteT (iteT ⟨(by show 0 ≤ sizeLine; decide), fun p hp => q p _ (same_upd hp) hp ?_⟩)⟩
    exact upd_same
  · refine ⟨_, rfl, rfl, _, rfl, iteF ⟨_, rfl, .str "?", .str "?", .str _, .str _, shaped_qm, shaped_qm, _, rfl, ?_⟩⟩
    rw [eqv_q_q]
    refine iteT ⟨(by show 0 ≤ sizeLine; decide), fun p hp => q p _ (same_upd hp) hp ?_⟩
    exact upd_same
  · refine ⟨_, rfl, rfl, _, rfl, iteF ⟨_, rfl, .int (z : Int), .str "?", .int _, .str _, shaped_i _, shaped_qm, _, rfl, ?_⟩⟩
    rw [eqv_i_q]
    refine iteF ⟨_, rfl, a, ys, rfl, hS, _, rfl, _, rfl, ys.length, (i : Int), (z : Int), rfl, hl, fun p H1 s1 np g1 => q p H1 s1 np g1⟩

/-! ### need_one_another -/
def spMutual (K : PySem.W.Frag) : Sp := fun vs H Q _ => ∃ (a : Addr) (ys : List V) (i j : Nat), vs = [.ref a, .int i, .int j] ∧ Sq K H a ys ∧ ys.length ≤ 100 ∧ i < ys.length ∧ j < ys.length ∧ (∀ y ∈ ys, TabV ys.length y) ∧ ∀ H', Same H H' → Q (.bl (decide ((i : Int) ∈ wantL ys j) && decide ((j : Int) ∈ wantL ys i))) H'
theorem ok_mutual (T : Bt mg) {f f1 : Addr} {fd fd1 : FuncData} {k : Nat} (D : Df K mg "need_one_another" s_need_one_another ["table", "one", "other"] f fd) (k_needed_cells : Kn P w K mg base (k + 3) "needed_cells" s_needed_cells ["table", "cell"] (spNeeded K) f1 fd1) : Kn P w K mg base (k + 4) "need_one_another" s_need_one_another ["table", "one", "other"] (spMutual K) f fd := by
  refine ⟨D, D.F.ok sc_need_one_another (fun vs H Q E h => ?_) (fun cdv A outer s H vs Q E hr h => ?_)⟩
  · obtain ⟨a, ys, i, j, rfl, _⟩ := h
    rfl
  obtain ⟨a, ys, i, j, rfl, hS, hl, hi, hj, tab, q⟩ := h
  refine ⟨_, (pss_one (ps_ret (pe_and (pe_cmpR (op_inK (K := K) rfl) (pv 1) (pe_call k_needed_cells.G (hr.mono (by omega)) (by rfl) k_needed_cells.D.g k_needed_cells.D.F.kp k_needed_cells.D.b .nil pass0 (pa_cons (pv 0) (pa_cons (pv 2) pa_nil))) (by rfl)) (pe_one (pe_cmpR (op_inK (K := K) rfl) (pv 2) (pe_call k_needed_cells.G (hr.mono (by omega)) (by rfl) k_needed_cells.D.g k_needed_cells.D.F.kp k_needed_cells.D.b .nil pass0 (pa_cons (pv 0) (pa_cons (pv 1) pa_nil))) (by rfl)))))), ?_⟩
  refine ⟨_, rfl, _, rfl, _, rfl, a, ys, j, rfl, hS, hl, hj, tab, fun p H1 s1 np gp => ?_⟩
  refine ⟨p, _, rfl, .inr (sqT gp), rfl, flat_ints _, _, rfl, ?_⟩
  rw [if_neg Bool.false_ne_true, inV_ints]
  refine ite2 (fun c => ?_) (fun c => ?_)
  · rw [c, Bool.true_and] at q
    refine ⟨_, rfl, _, rfl, _, rfl, a, ys, i, rfl, Same.sq s1 hS, hl, hi, tab, fun p2 H2 s2 np2 gp2 => ?_⟩
    refine ⟨p2, _, rfl, .inr (sqT gp2), rfl, flat_ints _, ?_⟩
    rw [if_neg Bool.false_ne_true, inV_ints]
    exact q _ (s1.trans s2)
  · rw [Bool.eq_false_iff.mpr c, Bool.false_and] at q
    exact q _ s1

/-! ### pair_in_row, shows_gap, shows_both -/
def pairD (n : Nat) : PyData → Bool
  | .tuple [a, b] => inRowD (n : Int) a && inRowD (n : Int) b
  | _ => false
theorem pairD_len {n : Nat} {ds : List PyData} (h : ds.length ≠ 2) : pairD n (.tuple ds) = false := by
  match ds, h with
  | [], _ => rfl
  | [d], _ => rfl
  | [_, _], h => exact absurd rfl h
  | d1 :: d2 :: _ :: _, _ => rfl
theorem pairD_ex {n : Nat} {d : PyData} (h : pairD n d = true) : ∃ i j : Nat, d = .tuple [.int (i : Int), .int (j : Int)] ∧ i < n ∧ j < n := by
  match d, h with
  | .tuple [a, b], h =>
    have h' : (inRowD (n : Int) a && inRowD (n : Int) b) = true := h
    rw [Bool.and_eq_true] at h'
    obtain ⟨i, rfl, hi⟩ := inRow_ex h'.1
    obtain ⟨j, rfl, hj⟩ := inRow_ex h'.2
    exact ⟨i, j, rfl, hi, hj⟩
def spPair (K : PySem.W.Frag) : Sp := fun vs H Q _ => ∃ (x : V) (d : PyData) (n : Nat), vs = [x, .int n] ∧ Dp K H x d ∧ lenD d ≤ 900 ∧ ∀ H', Same H H' → Q (.bl (pairD n d)) H'
theorem pair_all {n : Nat} {d : PyData} (h : allInD n d = false) : pairD n d = false := by
  match d, h with
  | .tuple [a, b], h =>
    have h' : (inRowD (n : Int) a && (inRowD (n : Int) b && true)) = false := h
    rw [Bool.and_true] at h'
    exact h'
  | .tuple [], _ => rfl
  | .tuple [_], _ => rfl
  | .tuple (_ :: _ :: _ :: _), _ => rfl
  | .none, _ => rfl
  | .bool _, _ => rfl
  | .int _, _ => rfl
  | .str _, _ => rfl
  | .list _, _ => rfl
  | .dict _, _ => rfl
theorem pair_two {n : Nat} {ds : List PyData} (h : ds.all (inRowD (n : Int)) = true) : decide (ds.length = 2) = pairD n (.tuple ds) := by
  match ds, h with
  | [], _ => rfl
  | [_], _ => rfl
  | [a, b], h =>
    have h' : (inRowD (n : Int) a && (inRowD (n : Int) b && true)) = true := h
    rw [Bool.and_true] at h'
    exact h'.symm
  | _ :: _ :: _ :: _, _ => rfl
theorem ok_pair (T : Bt mg) {f f1 : Addr} {fd fd1 : FuncData} {k : Nat} (D : Df K mg "pair_in_row" s_pair_in_row ["thing", "size"] f fd) (k_all_in_row : Kn P w K mg base (k + 2) "all_in_row" s_all_in_row ["thing", "size"] (spAllIn K) f1 fd1) : Kn P w K mg base (k + 3) "pair_in_row" s_pair_in_row ["thing", "size"] (spPair K) f fd := by
  refine ⟨D, D.F.ok sc_pair_in_row (fun vs H Q E h => ?_) (fun cdv A outer s H vs Q E hr h => ?_)⟩
  · obtain ⟨x, d, n, rfl, _⟩ := h
    rfl
  obtain ⟨x, d, n, rfl, hd, hlen, q⟩ := h
  refine ⟨_, (pss_one (ps_ret (pe_and (pe_call k_all_in_row.G (hr.mono (by omega)) (by rfl) k_all_in_row.D.g k_all_in_row.D.F.kp k_all_in_row.D.b .nil pass0 (pa_cons (pv 0) (pa_cons (pv 1) pa_nil))) (pe_one (pe_cmpR op_eq (pe_callB (call_lenK (K := K) rfl) (by rfl) T.len (by decide +kernel) (pa_cons (pv 0) pa_nil)) pe_int (nomark _)))))), ?_⟩
  refine ⟨_, rfl, _, rfl, x, d, n, rfl, hd, hlen, fun H1 s1 => ⟨_, rfl, ?_⟩⟩
  cases hr' : allInD n d with
  | false =>
    rw [pair_all hr'] at q
    exact iteF (q _ s1)
  | true =>
    refine iteT ?_
    cases hd with
    | @tup b xs ds h1 h2 =>
      have hl := dpAll_len h2
      refine ⟨_, rfl, b, xs, rfl, .inr (Same.tup s1 h1), rfl, ?_⟩
      have e : decide (V.int (xs.length : Int) = V.int 2) = pairD n (.tuple ds) := by
        rw [← pair_two (show ds.all (inRowD (n : Int)) = true from hr'), Bool.eq_iff_iff, decide_eq_true_eq, decide_eq_true_eq, hl]
        constructor
        · intro h
          have := V.int.inj h
          omega
        · intro h
          rw [h]
          rfl
      rw [e]
      exact q _ s1
    | _ => cases hr'
theorem want_taken {ys : List V} {i : Nat} {e : Int} (h : e ∈ wantL ys i) (hi : i < ys.length) : (i : Int) ∈ fullL ys := by
  refine fullL_mem.mpr ⟨i, rfl, hi, ?_⟩
  unfold wantL at h
  rw [Int.toNat_natCast] at h
  cases hv : ys.getD i .non with
  | non =>
    rw [hv] at h
    cases h
  | _ => rfl
theorem gap_eq {ys : List V} {i j : Nat} (hi : i < ys.length) : gapD ys (.tuple [.int (i : Int), .int (j : Int)]) = (isN (ys.getD j .non) && decide ((j : Int) ∈ wantL ys i)) := by
  by_cases c : (j : Int) ∈ wantL ys i
  · rw [(tell_yes (want_taken c hi) c).1, decide_eq_true c, Bool.and_true, Int.toNat_natCast]
  · rw [(tell_pair fun h => c h.2).1, decide_eq_false c, Bool.and_false]
theorem both_eq {ys : List V} {i j : Nat} (hi : i < ys.length) (hj : j < ys.length) : bothD ys (.tuple [.int (i : Int), .int (j : Int)]) = (decide ((i : Int) ∈ wantL ys j) && decide ((j : Int) ∈ wantL ys i)) := by
  by_cases c : (j : Int) ∈ wantL ys i
  · rw [(tell_yes (want_taken c hi) c).2, decide_eq_true c, Bool.and_true]
    by_cases c2 : (i : Int) ∈ wantL ys j
    · rw [decide_eq_true c2, decide_eq_true (want_taken c2 hj)]
      rfl
    · rw [decide_eq_false c2, Bool.and_false]
  · rw [(tell_pair fun h => c h.2).2, decide_eq_false c, Bool.and_false]
theorem pair_no {ys : List V} {d : PyData} (h : pairD ys.length d = false) : gapD ys d = false ∧ bothD ys d = false := by
  by_cases hd : ∃ c e : Int, d = .tuple [.int c, .int e]
  · obtain ⟨c, e, rfl⟩ := hd
    refine tell_pair fun hh => ?_
    obtain ⟨i, rfl, hi, _⟩ := fullL_mem.mp hh.1
    obtain ⟨j, rfl, hj⟩ := wantL_lt hh.2
    have : pairD ys.length (.tuple [.int (i : Int), .int (j : Int)]) = true := by
      show (inRowD (ys.length : Int) _ && inRowD (ys.length : Int) _) = true
      rw [inRow_nat hi, inRow_nat hj]
      rfl
    rw [this] at h
    cases h
  · match d with
    | .tuple [d1, d2] =>
      refine tell_int ?_
      cases h1 : isIntD d1 with
      | false => rfl
      | true =>
        cases h2 : isIntD d2 with
        | false => rfl
        | true =>
          obtain ⟨c, rfl⟩ := isInt_ex h1
          obtain ⟨e, rfl⟩ := isInt_ex h2
          exact absurd ⟨c, e, rfl⟩ hd
    | .tuple [] => exact ⟨rfl, rfl⟩
    | .tuple [_] => exact tell_len (by simp)
    | .tuple (_ :: _ :: _ :: _) => exact tell_len (by simp)
    | .none => exact ⟨rfl, rfl⟩
    | .bool _ => exact ⟨rfl, rfl⟩
    | .int _ => exact ⟨rfl, rfl⟩
    | .str _ => exact ⟨rfl, rfl⟩
    | .list _ => exact ⟨rfl, rfl⟩
    | .dict _ => exact ⟨rfl, rfl⟩
theorem ok_shows_gap (T : Bt mg) {f f1 f2 : Addr} {fd fd1 fd2 : FuncData} (D : Df K mg "shows_gap" s_shows_gap ["table", "thing"] f fd) (k_pair_in_row : Kn P w K mg base 3 "pair_in_row" s_pair_in_row ["thing", "size"] (spPair K) f1 fd1)
    (k_needed_cells : Kn P w K mg base 3 "needed_cells" s_needed_cells ["table", "cell"] (spNeeded K) f2 fd2) : Kn P w K mg base 10 "shows_gap" s_shows_gap ["table", "thing"] (spTell K gapD) f fd := by
  refine ⟨D, D.F.ok sc_shows_gap (fun vs H Q E h => ?_) (fun cdv A outer s H vs Q E hr h => ?_)⟩
  · obtain ⟨a, ys, x, d, rfl, _⟩ := h
    rfl
  obtain ⟨a, ys, x, d, rfl, hS, l1, l2, tab, hd, hsh, hlen, q⟩ := h
  refine ⟨_, (pss_cons (ps_if (pt_not (pt_val (pe_call k_pair_in_row.G (hr.mono (by omega)) (by rfl) k_pair_in_row.D.g k_pair_in_row.D.F.kp k_pair_in_row.D.b .nil pass0 (pa_cons (pv 1) (pa_cons (pe_callB (call_lenK (K := K) rfl) (by rfl) T.len (by decide +kernel) (pa_cons (pv 0) pa_nil)) pa_nil))))) (pss_one (ps_ret pe_bl)) pss_nil)
      (pss_cons (ps_asg (pv 1) (pg_tup (by rfl) (pgs_cons (pg_name (i := 2) sc_shows_gap.nd rfl (.inl rfl)) (pgs_cons (pg_name (i := 3) sc_shows_gap.nd rfl (.inl rfl)) pgs_nil))))
      (pss_one (ps_ret (pe_and (pe_cmpR op_isN (pe_ix (ix_seqK (K := K) rfl) (pv 0) (pv 3) (fun _ _ => rfl)) pe_non (nomark _)) (pe_one (pe_cmpR (op_inK (K := K) rfl) (pv 3) (pe_call k_needed_cells.G (hr.mono (by omega)) (by rfl) k_needed_cells.D.g k_needed_cells.D.F.kp k_needed_cells.D.b .nil pass0 (pa_cons (pv 0) (pa_cons (pv 2) pa_nil))) (by rfl)))))))), ?_⟩
  refine ⟨_, rfl, _, rfl, a, ys, rfl, hS, x, d, ys.length, rfl, hd, by omega, fun H1 s1 => ⟨_, rfl, ?_⟩⟩
  cases hp : pairD ys.length d with
  | false =>
    rw [(pair_no hp).1] at q
    exact iteT (q _ s1)
  | true =>
    obtain ⟨i, j, rfl, hi, hj⟩ := pairD_ex hp
    cases hd with
    | @tup b xs ds h1 h2 =>
    obtain rfl := ints_inv (ns := [(i : Int), (j : Int)]) h2
    rw [gap_eq hi] at q
    have gj : ys[j]? = some ys[j] := List.getElem?_eq_getElem hj
    have gd : ys.getD j .non = ys[j] := by rw [List.getD_eq_getElem?_getD, gj]; rfl
    rw [gd, isN_dec] at q
    refine iteF ?_
    refine ⟨_, rfl, b, _, rfl, Same.tup s1 h1, rfl, .int (i : Int), _, rfl, .int (j : Int), _, rfl, rfl, ?_⟩
    refine ⟨_, rfl, _, rfl, a, ys, (j : Int), _, rfl, rfl, Same.sq s1 hS, atI_nat gj, rfl, _, rfl, ?_⟩
    refine ite2 (fun c => ?_) (fun c => ?_)
    · rw [c, Bool.true_and] at q
      refine ⟨_, rfl, _, rfl, _, rfl, a, ys, i, rfl, Same.sq s1 hS, l2, hi, tab, fun p H2 s2 np gp => ?_⟩
      refine ⟨p, _, rfl, .inr (sqT gp), rfl, flat_ints _, ?_⟩
      rw [if_neg Bool.false_ne_true, inV_ints]
      exact q _ (s1.trans s2)
    · rw [Bool.eq_false_iff.mpr c, Bool.false_and] at q
      exact q _ s1
theorem ok_shows_both (T : Bt mg) {f f1 f2 : Addr} {fd fd1 fd2 : FuncData} (D : Df K mg "shows_both" s_shows_both ["table", "thing"] f fd) (k_pair_in_row : Kn P w K mg base 3 "pair_in_row" s_pair_in_row ["thing", "size"] (spPair K) f1 fd1)
    (k_need_one_another : Kn P w K mg base 4 "need_one_another" s_need_one_another ["table", "one", "other"] (spMutual K) f2 fd2) : Kn P w K mg base 10 "shows_both" s_shows_both ["table", "thing"] (spTell K bothD) f fd := by
  refine ⟨D, D.F.ok sc_shows_both (fun vs H Q E h => ?_) (fun cdv A outer s H vs Q E hr h => ?_)⟩
  · obtain ⟨a, ys, x, d, rfl, _⟩ := h
    rfl
  obtain ⟨a, ys, x, d, rfl, hS, l1, l2, tab, hd, hsh, hlen, q⟩ := h
  refine ⟨_, (pss_cons (ps_if (pt_not (pt_val (pe_call k_pair_in_row.G (hr.mono (by omega)) (by rfl) k_pair_in_row.D.g k_pair_in_row.D.F.kp k_pair_in_row.D.b .nil pass0 (pa_cons (pv 1) (pa_cons (pe_callB (call_lenK (K := K) rfl) (by rfl) T.len (by decide +kernel) (pa_cons (pv 0) pa_nil)) pa_nil))))) (pss_one (ps_ret pe_bl)) pss_nil)
      (pss_cons (ps_asg (pv 1) (pg_tup (by rfl) (pgs_cons (pg_name (i := 2) sc_shows_both.nd rfl (.inl rfl)) (pgs_cons (pg_name (i := 3) sc_shows_both.nd rfl (.inl rfl)) pgs_nil))))
      (pss_one (ps_ret (pe_call k_need_one_another.G (hr.mono (by omega)) (by rfl) k_need_one_another.D.g k_need_one_another.D.F.kp k_need_one_another.D.b .nil pass0 (pa_cons (pv 0) (pa_cons (pv 2) (pa_cons (pv 3) pa_nil)))))))), ?_⟩
  refine ⟨_, rfl, _, rfl, a, ys, rfl, hS, x, d, ys.length, rfl, hd, by omega, fun H1 s1 => ⟨_, rfl, ?_⟩⟩
  cases hp : pairD ys.length d with
  | false =>
    rw [(pair_no hp).2] at q
    exact iteT (q _ s1)
  | true =>
    obtain ⟨i, j, rfl, hi, hj⟩ := pairD_ex hp
    cases hd with
    | @tup b xs ds h1 h2 =>
    obtain rfl := ints_inv (ns := [(i : Int), (j : Int)]) h2
    rw [both_eq hi hj] at q
    refine iteF ?_
    refine ⟨_, rfl, b, _, rfl, Same.tup s1 h1, rfl, .int (i : Int), _, rfl, .int (j : Int), _, rfl, rfl, ?_⟩
    exact ⟨_, rfl, _, rfl, _, rfl, a, ys, i, j, rfl, Same.sq s1 hS, l2, hi, hj, tab, fun H2 s2 => q _ (s1.trans s2)⟩

/-! ### _law_source -/
def spSource (K : PySem.W.Frag) : Sp := fun vs H Q _ => ∃ (a : Addr) (ns : List Int) (i : Nat), vs = [.ref a, .int i] ∧ SqL K H a (ns.map V.int) ∧ ns.length ≤ 63 ∧ i ≤ 63 ∧ ∀ p o, H p = none → SrcO 1000000000000 o → Q (.ref p) (upd H p o)
theorem ok_source (T : Bt mg) {f : Addr} {fd : FuncData} {k : Nat} (D : Df K mg "_law_source" s_law_source ["_law_script", "_law_index"] f fd) : Kn P w K mg base (k + 1) "_law_source" s_law_source ["_law_script", "_law_index"] (spSource K) f fd := by
  refine ⟨D, D.F.ok sc_law_source (fun vs H Q E h => ?_) (fun cdv A outer s H vs Q E hr h => ?_)⟩
  · obtain ⟨a, ns, i, rfl, _⟩ := h
    rfl
  obtain ⟨a, ns, i, rfl, hS, h63, hi, q⟩ := h
  refine ⟨_, (pss_cons (ps_set (i := 2) sc_law_source.nd rfl (.inl rfl) pe_int)
      (pss_cons (ps_if (pt_cmpR op_lt (pv 1) (pe_callB (call_lenK (K := K) rfl) (by rfl) T.len (by decide +kernel) (pa_cons (pv 0) pa_nil)) (nomark _)) (pss_one (ps_set (i := 2) sc_law_source.nd rfl (.inl rfl) (pe_ix (ix_listK (K := K) rfl) (pv 0) (pv 1) (fun _ _ => rfl)))) pss_nil)
      (pss_one (ps_ret (pe_lst (pa_cons (pe_op op_mul (pe_callB call_abs (by rfl) T.abs (by decide +kernel) (pa_cons (pv 2) pa_nil)) (pe_callTy call_int1 (by rfl) T.int (by decide +kernel) (pa_cons (pe_cmpR op_ge (pe_callB call_abs (by rfl) T.abs (by decide +kernel) (pa_cons (pv 2) pa_nil)) (pe_op op_pow pe_int pe_int) (nomark _)) pa_nil))) (pa_cons (pe_op op_mod (pe_op op_mul (pe_op op_add (pe_op op_add (pe_op op_mod (pv 2) pe_int) (pe_op op_mul pe_int (pv 1))) pe_int) pe_int) pe_int) (pa_cons pe_int pa_nil)))))))), ?_⟩
  refine ⟨_, rfl, _, rfl, a, _, rfl, .inl hS, _, _, rfl, rfl, _, rfl, ?_⟩
  refine ite2 (fun c => ?_) (fun c => ?_)
  · have c' : (i : Int) < (((ns.map V.int).length : Nat) : Int) := of_decide_eq_true c
    rw [List.length_map] at c'
    have g : (ns.map V.int)[i]? = some (.int ns[i]) := by
      rw [List.getElem?_map, List.getElem?_eq_getElem (by omega)]
      rfl
    refine ⟨_, rfl, _, rfl, a, _, _, _, rfl, rfl, hS, atI_nat g, ?_⟩
    generalize ns[i] = z
    refine ⟨_, rfl, _, rfl, _, rfl, _, rfl, _, _, rfl, rfl, ⟨by decide, by decide, by decide⟩, _, _, rfl, rfl, .inr ⟨_, rfl, _, _, rfl, rfl, cmul_b _ _, ?_⟩⟩
    refine ⟨_, rfl, _, _, rfl, rfl, (by show (0 : Int) < 2147483563; decide), _, rfl, _, _, rfl, rfl, .inl ⟨by decide, by decide⟩, _, _, rfl, rfl, _, _, rfl, rfl, _, _, rfl, rfl, .inr ⟨by decide, by decide⟩, _, _, rfl, rfl, (by show (0 : Int) < 2147483543; decide), (by show 3 ≤ sizeLine; decide), fun p hp => q p _ hp ?_⟩
    exact ⟨_, _, _, rfl, src_a z _, Int.emod_nonneg _ (by decide), Int.lt_trans (Int.emod_lt_of_pos _ (by decide)) (by decide), Int.le_refl 0, by decide⟩
  · refine ⟨_, rfl, _, rfl, _, rfl, _, rfl, _, _, rfl, rfl, ⟨by decide, by decide, by decide⟩, _, _, rfl, rfl, .inr ⟨_, rfl, _, _, rfl, rfl, cmul_b _ _, ?_⟩⟩
    refine ⟨_, rfl, _, _, rfl, rfl, (by show (0 : Int) < 2147483563; decide), _, rfl, _, _, rfl, rfl, .inl ⟨by decide, by decide⟩, _, _, rfl, rfl, _, _, rfl, rfl, _, _, rfl, rfl, .inr ⟨by decide, by decide⟩, _, _, rfl, rfl, (by show (0 : Int) < 2147483543; decide), (by show 3 ≤ sizeLine; decide), fun p hp => q p _ hp ?_⟩
    exact ⟨_, _, _, rfl, src_a 0 _, Int.emod_nonneg _ (by decide), Int.lt_trans (Int.emod_lt_of_pos _ (by decide)) (by decide), Int.le_refl 0, by decide⟩

/-! ### _law_draw, of at most ten million -/
def spDraw : Sp := fun vs H Q _ => ∃ (s : Addr) (m : Int) (n : Nat), vs = [.ref s, .int m] ∧ 0 < m ∧ m ≤ 10000000 ∧ Src H s (n + 1) ∧ ∀ r o, 0 ≤ r → r < m → SrcO n o → Q (.int r) (upd H s o)
theorem ok_draw (T : Bt mg) {f : Addr} {fd : FuncData} {k : Nat} (D : Df K mg "_law_draw" s_law_draw ["_law_source_here", "_law_bound"] f fd) : Kn P w K mg base (k + 1) "_law_draw" s_law_draw ["_law_source_here", "_law_bound"] spDraw f fd := by
  refine ⟨D, D.F.ok sc_law_draw (fun vs H Q E h => ?_) (fun cdv A outer s H vs Q E hr h => ?_)⟩
  · obtain ⟨a, m, n, rfl, _⟩ := h
    rfl
  obtain ⟨s', m, n, rfl, hm0, hm, ⟨_, hs, a, b, c, rfl, ha, hb0, hb, hc0, hc⟩, q⟩ := h
  refine ⟨_, (pss_cons (ps_if (pt_cmpR op_gt (pe_ix (ix_listK (K := K) rfl) (pv 0) pe_int (fun _ _ => rfl)) pe_int (nomark _)) (pss_cons (ps_set (i := 2) sc_law_draw.nd rfl (.inl rfl) (pe_op op_mod (pe_ix (ix_listK (K := K) rfl) (pv 0) pe_int (fun _ _ => rfl)) (pv 1)))
      (pss_cons (ps_asg (pe_op op_fdiv (pe_ix (ix_listK (K := K) rfl) (pv 0) pe_int (fun _ _ => rfl)) (pv 1)) (pg_sub (pv 0) pe_int set_list))
      (pss_one (ps_ret (pv 2))))) pss_nil)
      (pss_cons (ps_if (pt_cmpR op_gt (pv 1) (pe_op op_pow pe_int pe_int) (nomark _)) (pss_one ps_never) pss_nil)
      (pss_cons (ps_asg (pe_op op_add (pe_ix (ix_listK (K := K) rfl) (pv 0) pe_int (fun _ _ => rfl)) pe_int) (pg_sub (pv 0) pe_int set_list))
      (pss_cons (ps_set (i := 3) sc_law_draw.nd rfl (.inl rfl) (pe_op op_mod (pe_op op_pow (pe_op op_add (pe_ix (ix_listK (K := K) rfl) (pv 0) pe_int (fun _ _ => rfl)) (pe_op op_mul pe_int (pe_ix (ix_listK (K := K) rfl) (pv 0) pe_int (fun _ _ => rfl)))) pe_int) pe_int))
      (pss_one (ps_ret (pe_op op_mod (pe_op op_fdiv (pe_op op_mod (pe_op op_add (pe_op op_mul (pv 3) (pe_op op_add (pe_op op_mod (pv 3) pe_int) pe_int)) (pe_op op_mul (pe_ix (ix_listK (K := K) rfl) (pv 0) pe_int (fun _ _ => rfl)) pe_int)) pe_int) pe_int) (pv 1)))))))), ?_⟩
  refine ⟨_, rfl, s', _, _, _, rfl, rfl, sqL hs, atI_nat (j := 0) rfl, _, _, rfl, rfl, _, rfl, ?_⟩
  refine ite2 (fun hp => ?_) (fun hp => ?_)
  · refine ⟨_, rfl, s', _, _, _, rfl, rfl, sqL hs, atI_nat (j := 0) rfl, _, rfl, _, _, rfl, rfl, hm0, ?_⟩
    refine ⟨_, rfl, s', _, _, _, rfl, rfl, sqL hs, atI_nat (j := 0) rfl, _, rfl, _, _, rfl, rfl, ⟨hm0, by omega⟩, ?_⟩
    refine ⟨_, rfl, s', _, _, 0, rfl, rfl, hs, rfl, ?_⟩
    refine ⟨_, rfl, ?_⟩
    exact q _ _ (Int.emod_nonneg _ (by omega)) (Int.emod_lt_of_pos _ hm0) ⟨_, _, _, rfl, Int.ediv_nonneg ha (by omega), hb0, hb, hc0, by omega⟩
  · refine ⟨_, rfl, _, _, rfl, rfl, ⟨by decide, by decide, by decide⟩, _, _, rfl, rfl, _, rfl, ?_⟩
    refine ite2 (fun hp2 => ?_) (fun hp2 => ?_)
    · have z : ((10 : Int) ^ (7 : Int).toNat) < m := of_decide_eq_true hp2
      have z2 : ((10 : Int) ^ (7 : Int).toNat) = 10000000 := by decide
      rw [z2] at z
      omega
    · refine ⟨_, rfl, s', _, _, _, rfl, rfl, sqL hs, atI_nat (j := 2) rfl, _, _, rfl, rfl, ?_⟩
      refine ⟨_, rfl, s', _, _, 2, rfl, rfl, hs, rfl, ?_⟩
      have hs2 : (upd H s' (.lst [.int a, .int b, .int (c + 1)])) s' = some (.lst [.int a, .int b, .int (c + 1)]) := upd_same
      refine ⟨_, rfl, s', _, _, _, rfl, rfl, sqL hs2, atI_nat (j := 1) rfl, _, rfl, s', _, _, _, rfl, rfl, sqL hs2, atI_nat (j := 2) rfl, _, _, rfl, rfl, .inl ⟨by decide, by decide⟩, _, _, rfl, rfl, _, _, rfl, rfl, ⟨by decide, by decide, ?_⟩, _, _, rfl, rfl, (by show (0 : Int) < 2147483579; decide), ?_⟩
      · have h64 : (2 : Nat) ^ 64 = 18446744073709551616 := by decide
        rw [h64]
        omega
      · refine ⟨_, rfl, _, rfl, _, _, rfl, rfl, (by show (0 : Int) < 40009; decide), _, _, rfl, rfl, _, _, rfl, rfl, ?_, _, rfl, s', _, _, _, rfl, rfl, sqL hs2, atI_nat (j := 2) rfl, _, _, rfl, rfl, .inr ⟨by decide, by decide⟩, _, _, rfl, rfl, _, _, rfl, rfl, (by show (0 : Int) < 2147483647; decide), _, _, rfl, rfl, ⟨by decide, by decide⟩, _, rfl, _, _, rfl, rfl, hm0, ?_⟩
        · refine .inl ⟨?_, ?_⟩
          · exact Int.lt_of_lt_of_le (by decide) (Int.emod_nonneg _ (by decide))
          · exact Int.lt_trans (Int.emod_lt_of_pos _ (by decide)) (by decide)
        · exact q _ _ (Int.emod_nonneg _ (by omega)) (Int.emod_lt_of_pos _ hm0) ⟨_, _, _, rfl, ha, hb0, hb, by omega, by omega⟩

/-! ### _law_equal, of two values that are the same data -/
def spEqual (K : PySem.W.Frag) (n : Nat) : Sp := fun vs H Q _ => ∃ (x y : V) (d : PyData), vs = [x, y] ∧ Dp K H x d ∧ Dp K H y d ∧ depthD d + 1 ≤ n ∧ wideD d ≤ 500 ∧ ∀ H', Same H H' → Q (.bl true) H'
theorem all_rep (n : Nat) : (List.replicate n true).all id = true := by simp
theorem ok_equal1 (T : Bt mg) {f : Addr} {fd : FuncData} {n : Nat} (D : Df K mg "_law_equal" s_law_equal ["_law_found", "_law_due"] f fd) (G : FnOk P w K mg base CX0 n f fd ["_law_found", "_law_due"] (spEqual K n)) : FnOk P w K mg base CX0 (n + 1) f fd ["_law_found", "_law_due"] (spEqual K (n + 1)) := by
  have k_law_equal : Kn P w K mg base n "_law_equal" s_law_equal ["_law_found", "_law_due"] (spEqual K n) f fd := ⟨D, G⟩
  refine D.F.ok sc_law_equal (fun vs H Q E h => ?_) (fun cdv A outer s H vs Q E hr h => ?_)
  · obtain ⟨x, y, d, rfl, _⟩ := h
    rfl
  obtain ⟨x, y, d, rfl, hx, hy, hd, hw, q⟩ := h
  refine ⟨_, (pss_cons (ps_if (pt_val (pe_callB (call_isiTK (K := K) rfl) (by rfl) T.isinstance (by decide +kernel) (pa_cons (pv 1) (pa_cons (pe_tup (pa_cons (pe_bltn (v := .ty "list") (by rfl) T.list (by decide +kernel) rfl) (pa_cons (pe_bltn (v := .ty "tuple") (by rfl) T.tuple (by decide +kernel) rfl) pa_nil))) pa_nil)))) (pss_cons (ps_if (PW.pt (pw_or (pt_cmpR op_ne (pe_callB (call_isiKK (K := K) rfl) (by rfl) T.isinstance (by decide +kernel) (pa_cons (pv 0) (pa_cons (pe_bltn (v := .ty "list") (by rfl) T.list (by decide +kernel) rfl) pa_nil))) (pe_callB (call_isiKK (K := K) rfl) (by rfl) T.isinstance (by decide +kernel) (pa_cons (pv 1) (pa_cons (pe_bltn (v := .ty "list") (by rfl) T.list (by decide +kernel) rfl) pa_nil))) (nomark _)) (pw_or1 (pt_cmpR op_ne (pe_callB (call_isiKK (K := K) rfl) (by rfl) T.isinstance (by decide +kernel) (pa_cons (pv 0) (pa_cons (pe_bltn (v := .ty "tuple") (by rfl) T.tuple (by decide +kernel) rfl) pa_nil))) (pe_callB (call_isiKK (K := K) rfl) (by rfl) T.isinstance (by decide +kernel) (pa_cons (pv 1) (pa_cons (pe_bltn (v := .ty "tuple") (by rfl) T.tuple (by decide +kernel) rfl) pa_nil))) (nomark _))))) (pss_one (ps_ret pe_bl)) pss_nil)
      (pss_one (ps_ret (pe_and (pe_cmpR op_eq (pe_callB (call_lenK (K := K) rfl) (by rfl) T.len (by decide +kernel) (pa_cons (pv 0) pa_nil)) (pe_callB (call_lenK (K := K) rfl) (by rfl) T.len (by decide +kernel) (pa_cons (pv 1) pa_nil)) (nomark _)) (pe_one (pe_callB (cr_allK (K := K) rfl rfl) (by rfl) T.all (by decide +kernel) (pa_cons (pe_lc (own := [("_law_lone", 2), ("_law_mate", 3)]) (by rfl) sc_law_equal.nd (RZ.pi_zipA (by rfl) T.zip (pa_cons (pv 0) (pa_cons (pv 1) pa_nil))) (blkOk_by (own := [("_law_lone", 2), ("_law_mate", 3)]) (N := ["_law_found", "_law_due", "_law_lone", "_law_mate"]) (sc := defScope s_law_equal) (by decide +kernel)) (fun _ _ _ _ _ => (pg_tupK (K := K) (n := 2) rfl rfl (pgs_cons (pg_name (i := 2) sc_law_equal.nd rfl (.inl rfl)) (pgs_cons (pg_name (i := 3) sc_law_equal.nd rfl (.inl rfl)) pgs_nil)))) (fun _ _ _ _ _ => pts_nil) (fun _ _ _ _ _ => (pe_call k_law_equal.G (hr.mono (by omega)) (by rfl) k_law_equal.D.g k_law_equal.D.F.kp k_law_equal.D.b .nil pass0 (pa_cons (pv 2) (pa_cons (pv 3) pa_nil))))) pa_nil))))))) pss_nil)
      (pss_cons (ps_if (PW.pt (pw_or (pt_cmpR op_isN (pv 1) pe_non (nomark _)) (pw_or1 (pt_val (pe_callB (call_isiKK (K := K) rfl) (by rfl) T.isinstance (by decide +kernel) (pa_cons (pv 1) (pa_cons (pe_bltn (v := .ty "str") (by rfl) T.str (by decide +kernel) rfl) pa_nil))))))) (pss_one (ps_ret (pe_and (pe_cmpR op_eq (pv 0) (pv 1) (nomark _)) (pe_one (pe_cmpR op_eq (pe_callB (call_isiKK (K := K) rfl) (by rfl) T.isinstance (by decide +kernel) (pa_cons (pv 0) (pa_cons (pe_bltn (v := .ty "str") (by rfl) T.str (by decide +kernel) rfl) pa_nil))) (pe_callB (call_isiKK (K := K) rfl) (by rfl) T.isinstance (by decide +kernel) (pa_cons (pv 1) (pa_cons (pe_bltn (v := .ty "str") (by rfl) T.str (by decide +kernel) rfl) pa_nil))) (nomark _)))))) pss_nil)
      (pss_one (ps_ret (pe_and (pe_callB (call_isiKK (K := K) rfl) (by rfl) T.isinstance (by decide +kernel) (pa_cons (pv 0) (pa_cons (pe_bltn (v := .ty "int") (by rfl) T.int (by decide +kernel) rfl) pa_nil))) (pe_and (pe_cmpR op_eq (pe_callB (call_isiKK (K := K) rfl) (by rfl) T.isinstance (by decide +kernel) (pa_cons (pv 0) (pa_cons (pe_bltn (v := .ty "bool") (by rfl) T.bool (by decide +kernel) rfl) pa_nil))) (pe_callB (call_isiKK (K := K) rfl) (by rfl) T.isinstance (by decide +kernel) (pa_cons (pv 1) (pa_cons (pe_bltn (v := .ty "bool") (by rfl) T.bool (by decide +kernel) rfl) pa_nil))) (nomark _)) (pe_one (pe_cmpR op_eq (pv 0) (pv 1) (nomark _))))))))), ?_⟩
  have sb : ∀ {tp : Addr}, H tp = none → Same H (upd H tp (.tup [.ty "list", .ty "tuple"])) := fun h => same_upd h
  have cs2 : Paired ClsV [.ty "list", .ty "tuple"] [.type "list", .type "tuple"] := .cons (.ty _) (.cons (.ty _) .nil)
  cases hx with
  | non =>
    cases hy
    refine ⟨_, rfl, (by show 2 ≤ sizeLine; decide), fun tp htp => ⟨_, tp, _, _, _, _, rfl, upd_same, cs2, .base .non, kit_n (kit_ty (by decide +kernel)) (kit_n (kit_ty (by decide +kernel)) kitAny_nil), _, rfl, iteF ?_⟩⟩
    refine ⟨_, rfl, rfl, _, rfl, iteT ?_⟩
    refine iteT ?_
    refine ⟨_, rfl, _, rfl, rfl, true, rfl, ?_⟩
    refine iteT ?_
    refine ⟨_, rfl, _, _, _, _, _, rfl, .ty _, .base .non, kit_ty (r := false) (by decide +kernel), _, rfl, _, _, _, _, _, rfl, .ty _, .base .non, kit_ty (r := false) (by decide +kernel), rfl, ?_⟩
    exact q _ (sb htp)
  | bl b =>
    cases hy
    refine ⟨_, rfl, (by show 2 ≤ sizeLine; decide), fun tp htp => ⟨_, tp, _, _, _, _, rfl, upd_same, cs2, .base (.bl _), kit_n (kit_ty (by decide +kernel)) (kit_n (kit_ty (by decide +kernel)) kitAny_nil), _, rfl, iteF ?_⟩⟩
    refine ⟨_, rfl, rfl, _, rfl, ?_⟩
    refine iteF ?_
    refine ⟨_, rfl, _, _, _, _, _, rfl, .ty _, .base (.bl _), kit_ty (r := false) (by decide +kernel), _, rfl, iteF ?_⟩
    refine ⟨_, rfl, _, _, _, _, _, rfl, .ty _, .base (.bl _), kit_ty (r := true) (by decide +kernel), _, rfl, iteT ?_⟩
    refine ⟨_, rfl, _, _, _, _, _, rfl, .ty _, .base (.bl _), kit_ty (r := true) (by decide +kernel), _, rfl, _, _, _, _, _, rfl, .ty _, .base (.bl _), kit_ty (r := true) (by decide +kernel), rfl, true, rfl, iteT ?_⟩
    refine ⟨_, rfl, _, rfl, rfl, ?_⟩
    exact dec_t rfl (Q := fun b => Q (.bl b) _) (q _ (sb htp))
  | int i =>
    cases hy
    refine ⟨_, rfl, (by show 2 ≤ sizeLine; decide), fun tp htp => ⟨_, tp, _, _, _, _, rfl, upd_same, cs2, .base (.int _), kit_n (kit_ty (by decide +kernel)) (kit_n (kit_ty (by decide +kernel)) kitAny_nil), _, rfl, iteF ?_⟩⟩
    refine ⟨_, rfl, rfl, _, rfl, ?_⟩
    refine iteF ?_
    refine ⟨_, rfl, _, _, _, _, _, rfl, .ty _, .base (.int _), kit_ty (r := false) (by decide +kernel), _, rfl, iteF ?_⟩
    refine ⟨_, rfl, _, _, _, _, _, rfl, .ty _, .base (.int _), kit_ty (r := true) (by decide +kernel), _, rfl, iteT ?_⟩
    refine ⟨_, rfl, _, _, _, _, _, rfl, .ty _, .base (.int _), kit_ty (r := false) (by decide +kernel), _, rfl, _, _, _, _, _, rfl, .ty _, .base (.int _), kit_ty (r := false) (by decide +kernel), rfl, true, rfl, iteT ?_⟩
    refine ⟨_, rfl, _, rfl, rfl, ?_⟩
    exact dec_t rfl (Q := fun b => Q (.bl b) _) (q _ (sb htp))
  | str z =>
    cases hy
    refine ⟨_, rfl, (by show 2 ≤ sizeLine; decide), fun tp htp => ⟨_, tp, _, _, _, _, rfl, upd_same, cs2, .base (.str _), kit_n (kit_ty (by decide +kernel)) (kit_n (kit_ty (by decide +kernel)) kitAny_nil), _, rfl, iteF ?_⟩⟩
    refine ⟨_, rfl, rfl, _, rfl, ?_⟩
    refine iteF ?_
    refine ⟨_, rfl, _, _, _, _, _, rfl, .ty _, .base (.str _), kit_ty (r := true) (by decide +kernel), _, rfl, iteT ?_⟩
    refine ⟨_, rfl, _, rfl, rfl, true, dec_t (Q := fun b => V.bl b = V.bl true) rfl rfl, ?_⟩
    refine iteT ?_
    refine ⟨_, rfl, _, _, _, _, _, rfl, .ty _, .base (.str _), kit_ty (r := true) (by decide +kernel), _, rfl, _, _, _, _, _, rfl, .ty _, .base (.str _), kit_ty (r := true) (by decide +kernel), rfl, ?_⟩
    exact q _ (sb htp)
  | @lst a xs ds hS hA =>
    cases hy with
    | @lst b ys _ hS2 hA2 =>
    refine ⟨_, rfl, (by show 2 ≤ sizeLine; decide), fun tp htp => ⟨_, tp, _, _, _, _, rfl, upd_same, cs2, tyL ((sb htp).seq hS2), kit_y (kit_ty (by decide +kernel)), _, rfl, iteT ?_⟩⟩
    have hS' := (sb htp).seq hS
    have hS2' := (sb htp).seq hS2
    refine ⟨_, rfl, _, _, _, _, _, rfl, .ty _, tyL hS', kit_ty (r := true) (by decide +kernel), _, rfl, _, _, _, _, _, rfl, .ty _, tyL hS2', kit_ty (r := true) (by decide +kernel), rfl, false, rfl, iteF ?_⟩
    refine ⟨_, rfl, _, _, _, _, _, rfl, .ty _, tyL hS', kit_ty (r := false) (by decide +kernel), _, rfl, _, _, _, _, _, rfl, .ty _, tyL hS2', kit_ty (r := false) (by decide +kernel), rfl, false, rfl, iteF ?_⟩
    have l1 := dpAll_len hA
    have l2 := dpAll_len hA2
    have wl : ds.length ≤ 500 := Nat.le_trans (Nat.le_trans (Nat.le_max_left _ _) (by unfold wideD at hw; exact hw)) (Nat.le_refl _)
    have ww : wideL ds ≤ 500 := Nat.le_trans (Nat.le_trans (Nat.le_max_right _ _) (by unfold wideD at hw; exact hw)) (Nat.le_refl _)
    refine ⟨_, rfl, a, _, rfl, .inl hS', _, rfl, b, _, rfl, .inl hS2', rfl, true, dec_t (Q := fun b => V.bl b = V.bl true) (by rw [l1, l2]) rfl, iteT ?_⟩
    refine ⟨_, rfl, _, rfl, a, b, xs, ys, rfl, .inl ⟨hS', hS2', fun L hL => ?_⟩⟩
    refine lc_zipL (by rw [l1, l2]) (fun i H2 => Same (upd H tp (.tup [.ty "list", .ty "tuple"])) H2 ∧ H2 L = some (.lst ((List.replicate i true).map V.bl))) ⟨same_upd hL, upd_same⟩ (fun i H2 hP => ⟨hP.1.seq hS', hP.1.seq hS2'⟩) (fun i x y T' H2 gx gy hP hT => ?_) (fun H2 hP => ?_)
    · obtain ⟨s2, e2⟩ := hP
      have h1 : Same H2 (upd H2 T' (.tup [x, y])) := same_upd hT
      refine ⟨T', [x, y], rfl, sqT upd_same, rfl, x, [y], rfl, y, [], rfl, rfl, rfl, ?_⟩
      obtain ⟨d1, g1, p1⟩ := dpAll_get hA gx
      obtain ⟨d2, g2, p2⟩ := dpAll_get hA2 gy
      rw [g1] at g2
      cases g2
      have hdd := depthL_get g1
      have hww := wideL_get g1
      have hd' : depthL ds + 1 + 1 ≤ n + 1 := by unfold depthD at hd; exact hd
      refine ⟨_, rfl, _, rfl, x, y, d1, rfl, dp_same (((sb htp).trans s2).trans h1) p1, dp_same (((sb htp).trans s2).trans h1) p2, by omega, by omega, fun H3 h3 => ?_⟩
      have hi : i < xs.length := (List.getElem?_eq_some_iff.mp gx).1
      refine ⟨_, h3 _ _ (h1 _ _ e2), ?_, Same.mut ((s2.trans h1).trans h3) hL, ?_⟩
      · rw [List.length_map, List.length_replicate]
        exact small1000 (by omega)
      · rw [upd_same, List.replicate_succ', List.map_append]
        rfl
    · obtain ⟨s2, e2⟩ := hP
      refine ⟨L, _, rfl, sqL e2, ?_⟩
      rw [all_rep]
      exact q _ ((sb htp).trans s2)
  | @tup a xs ds hS hA =>
    cases hy with
    | @tup b ys _ hS2 hA2 =>
    refine ⟨_, rfl, (by show 2 ≤ sizeLine; decide), fun tp htp => ⟨_, tp, _, _, _, _, rfl, upd_same, cs2, tyT (Same.tup (sb htp) hS2), kit_n (kit_ty (by decide +kernel)) (kit_y (kit_ty (by decide +kernel))), _, rfl, iteT ?_⟩⟩
    have hS' := Same.tup (sb htp) hS
    have hS2' := Same.tup (sb htp) hS2
    refine ⟨_, rfl, _, _, _, _, _, rfl, .ty _, tyT hS', kit_ty (r := false) (by decide +kernel), _, rfl, _, _, _, _, _, rfl, .ty _, tyT hS2', kit_ty (r := false) (by decide +kernel), rfl, false, rfl, iteF ?_⟩
    refine ⟨_, rfl, _, _, _, _, _, rfl, .ty _, tyT hS', kit_ty (r := true) (by decide +kernel), _, rfl, _, _, _, _, _, rfl, .ty _, tyT hS2', kit_ty (r := true) (by decide +kernel), rfl, false, rfl, iteF ?_⟩
    have l1 := dpAll_len hA
    have l2 := dpAll_len hA2
    have wl : ds.length ≤ 500 := Nat.le_trans (Nat.le_trans (Nat.le_max_left _ _) (by unfold wideD at hw; exact hw)) (Nat.le_refl _)
    have ww : wideL ds ≤ 500 := Nat.le_trans (Nat.le_trans (Nat.le_max_right _ _) (by unfold wideD at hw; exact hw)) (Nat.le_refl _)
    refine ⟨_, rfl, a, _, rfl, .inr hS', _, rfl, b, _, rfl, .inr hS2', rfl, true, dec_t (Q := fun b => V.bl b = V.bl true) (by rw [l1, l2]) rfl, iteT ?_⟩
    refine ⟨_, rfl, _, rfl, a, b, xs, ys, rfl, .inr ⟨hS', hS2', fun L hL => ?_⟩⟩
    refine lc_zipT (by rw [l1, l2]) (fun i H2 => Same (upd H tp (.tup [.ty "list", .ty "tuple"])) H2 ∧ H2 L = some (.lst ((List.replicate i true).map V.bl))) ⟨same_upd hL, upd_same⟩ (fun i H2 hP => ⟨Same.tup hP.1 hS', Same.tup hP.1 hS2'⟩) (fun i x y T' H2 gx gy hP hT => ?_) (fun H2 hP => ?_)
    · obtain ⟨s2, e2⟩ := hP
      have h1 : Same H2 (upd H2 T' (.tup [x, y])) := same_upd hT
      refine ⟨T', [x, y], rfl, sqT upd_same, rfl, x, [y], rfl, y, [], rfl, rfl, rfl, ?_⟩
      obtain ⟨d1, g1, p1⟩ := dpAll_get hA gx
      obtain ⟨d2, g2, p2⟩ := dpAll_get hA2 gy
      rw [g1] at g2
      cases g2
      have hdd := depthL_get g1
      have hww := wideL_get g1
      have hd' : depthL ds + 1 + 1 ≤ n + 1 := by unfold depthD at hd; exact hd
      refine ⟨_, rfl, _, rfl, x, y, d1, rfl, dp_same (((sb htp).trans s2).trans h1) p1, dp_same (((sb htp).trans s2).trans h1) p2, by omega, by omega, fun H3 h3 => ?_⟩
      have hi : i < xs.length := (List.getElem?_eq_some_iff.mp gx).1
      refine ⟨_, h3 _ _ (h1 _ _ e2), ?_, Same.mut ((s2.trans h1).trans h3) hL, ?_⟩
      · rw [List.length_map, List.length_replicate]
        exact small1000 (by omega)
      · rw [upd_same, List.replicate_succ', List.map_append]
        rfl
    · obtain ⟨s2, e2⟩ := hP
      refine ⟨L, _, rfl, sqL e2, ?_⟩
      rw [all_rep]
      exact q _ ((sb htp).trans s2)
theorem ok_equal (T : Bt mg) {f : Addr} {fd : FuncData} (D : Df K mg "_law_equal" s_law_equal ["_law_found", "_law_due"] f fd) : ∀ n : Nat, FnOk P w K mg base CX0 n f fd ["_law_found", "_law_due"] (spEqual K n)
  | 0 => by
    have no : ∀ vs H Q E, ¬ spEqual K 0 vs H Q E := fun vs H Q E h => by
      obtain ⟨x, y, d, _, _, _, h1, _⟩ := h
      omega
    exact ⟨fun vs H Q E h => absurd h (no vs H Q E), fun A outer s H args us vs Q E _ _ _ _ h => absurd h (no vs H Q E)⟩
  | n + 1 => ok_equal1 T D (ok_equal T D n)

/-! ### _law_integer -/
def spInteger (K : PySem.W.Frag) : Sp := fun vs H Q _ => ∃ (x : V) (d : PyData), vs = [x] ∧ Dp K H x d ∧ Q (.bl (isIntD d)) H
theorem ok_integer (T : Bt mg) {f : Addr} {fd : FuncData} {k : Nat} (D : Df K mg "_law_integer" s_law_integer ["_law_value"] f fd) : Kn P w K mg base (k + 1) "_law_integer" s_law_integer ["_law_value"] (spInteger K) f fd := by
  refine ⟨D, D.F.ok sc_law_integer (fun vs H Q E h => ?_) (fun cdv A outer s H vs Q E hr h => ?_)⟩
  · obtain ⟨x, d, rfl, _⟩ := h
    rfl
  obtain ⟨x, d, rfl, hd, q⟩ := h
  refine ⟨_, (pss_one (ps_ret (pe_and (pe_callB (call_isiKK (K := K) rfl) (by rfl) T.isinstance (by decide +kernel) (pa_cons (pv 0) (pa_cons (pe_bltn (v := .ty "int") (by rfl) T.int (by decide +kernel) rfl) pa_nil))) (pe_one (pe_not (pe_callB (call_isiKK (K := K) rfl) (by rfl) T.isinstance (by decide +kernel) (pa_cons (pv 0) (pa_cons (pe_bltn (v := .ty "bool") (by rfl) T.bool (by decide +kernel) rfl) pa_nil)))))))), ?_⟩
  cases hd with
  | non => exact ⟨_, rfl, _, _, _, _, _, rfl, .ty _, .base .non, kit_ty (r := false) (by decide +kernel), _, rfl, iteF q⟩
  | bl b => exact ⟨_, rfl, _, _, _, _, _, rfl, .ty _, .base (.bl _), kit_ty (r := true) (by decide +kernel), _, rfl, iteT ⟨_, rfl, _, _, _, _, _, rfl, .ty _, .base (.bl _), kit_ty (r := true) (by decide +kernel), _, rfl, q⟩⟩
  | int i => exact ⟨_, rfl, _, _, _, _, _, rfl, .ty _, .base (.int _), kit_ty (r := true) (by decide +kernel), _, rfl, iteT ⟨_, rfl, _, _, _, _, _, rfl, .ty _, .base (.int _), kit_ty (r := false) (by decide +kernel), _, rfl, q⟩⟩
  | str z => exact ⟨_, rfl, _, _, _, _, _, rfl, .ty _, .base (.str _), kit_ty (r := false) (by decide +kernel), _, rfl, iteF q⟩
  | lst h1 h2 => exact ⟨_, rfl, _, _, _, _, _, rfl, .ty _, tyL h1, kit_ty (r := false) (by decide +kernel), _, rfl, iteF q⟩
  | tup h1 h2 => exact ⟨_, rfl, _, _, _, _, _, rfl, .ty _, tyT h1, kit_ty (r := false) (by decide +kernel), _, rfl, iteF q⟩

/-! ### _law_choice -/
def spChoice (K : PySem.W.Frag) : Sp := fun vs H Q _ => ∃ (s p : Addr) (xs : List V) (n : Nat), vs = [.ref s, .ref p] ∧ SqL K (Hid [s] H) p xs ∧ 0 < xs.length ∧ xs.length ≤ 1000 ∧ Src H s (n + 1) ∧ ∀ (i : Nat) (v : V) (o : HO), xs[i]? = some v → SrcO n o → Q v (upd H s o)
theorem ok_choice (T : Bt mg) {f f1 : Addr} {fd fd1 : FuncData} {k : Nat} (D : Df K mg "_law_choice" s_law_choice ["_law_source_here", "_law_row_here"] f fd) (k_law_draw : Kn P w K mg base (k + 1) "_law_draw" s_law_draw ["_law_source_here", "_law_bound"] spDraw f1 fd1) :
    Kn P w K mg base (k + 2) "_law_choice" s_law_choice ["_law_source_here", "_law_row_here"] (spChoice K) f fd := by
  refine ⟨D, D.F.ok sc_law_choice (fun vs H Q E h => ?_) (fun cdv A outer s H vs Q E hr h => ?_)⟩
  · obtain ⟨s', p, xs, n, rfl, _⟩ := h
    rfl
  obtain ⟨s', p, xs, n, rfl, hS, h0, h1, hsrc, q⟩ := h
  refine ⟨_, (pss_one (ps_ret (pe_ix (ix_listK (K := K) rfl) (pv 1) (pe_call k_law_draw.G (hr.mono (by omega)) (by rfl) k_law_draw.D.g k_law_draw.D.F.kp k_law_draw.D.b .nil pass0 (pa_cons (pv 0) (pa_cons (pe_callB (call_lenK (K := K) rfl) (by rfl) T.len (by decide +kernel) (pa_cons (pv 1) pa_nil)) pa_nil))) (fun _ _ => rfl)))), ?_⟩
  refine ⟨_, rfl, _, rfl, _, rfl, p, _, rfl, .inl (same_hid.seq hS), s', (xs.length : Int), n, rfl, by omega, by omega, hsrc, fun r o r0 r1 hO => ?_⟩
  have hi : r.toNat < xs.length := by omega
  have er : r = ((r.toNat : Nat) : Int) := by omega
  have ha : atI xs r = some xs[r.toNat] := at_of er (List.getElem?_eq_getElem hi)
  exact ⟨p, xs, r, _, rfl, rfl, (hid_to (List.mem_singleton.mpr rfl)).seq hS, ha, q _ _ _ (List.getElem?_eq_getElem hi) hO⟩

/-! ### _law_odd -/
def spOdd (K : PySem.W.Frag) : Sp := fun vs H Q _ => ∃ (s : Addr) (S : List Addr) (v : V) (d : PyData) (n : Nat), vs = [.ref s, v] ∧ s ∈ S ∧ HasA H S ∧ Dp K (Hid S H) v d ∧ oddPre d ∧ Src H s (n + 1) ∧ ∀ v' d' H', Stay s H H' → Src H' s n → Dp K (Hid S H') v' d' → d' ∈ oddL d → Q v' H'
theorem sl_asg {S : List Addr} {ds : List PyData} {te : TE} {D : Ends} {σ : L2.St} {H : Hp} {i : Nat} (h : EvLx K S ds te σ H) (k : ∀ p xs H2, Same H H2 → p ∉ S → H2 p = some (.lst xs) → DpAll K (Hid S H2) xs ds → D.nx (σ.set i (some (.ref p))) H2) : tAsg te (gName i) D σ H := h H (Same.refl H) _ k
theorem ok_odd (T : Bt mg) {f f1 : Addr} {fd fd1 : FuncData} {k : Nat} (D : Df K mg "_law_odd" s_law_odd ["_law_source_here", "_law_value"] f fd) (k_law_choice : Kn P w K mg base (k + 2) "_law_choice" s_law_choice ["_law_source_here", "_law_row_here"] (spChoice K) f1 fd1) :
    Kn P w K mg base (k + 3) "_law_odd" s_law_odd ["_law_source_here", "_law_value"] (spOdd K) f fd := by
  refine ⟨D, D.F.ok sc_law_odd (fun vs H Q E h => ?_) (fun cdv A outer s H vs Q E hr h => ?_)⟩
  · obtain ⟨s', S, v, d, n, rfl, _⟩ := h
    rfl
  obtain ⟨s', S, v, d, n, rfl, hS, has, hd, hpre, hsrc, q⟩ := h
  obtain ⟨so, hso, hSO⟩ := id hsrc
  have cs2 : Paired ClsV [.ty "list", .ty "tuple"] [.type "list", .type "tuple"] := .cons (.ty _) (.cons (.ty _) .nil)
  -- the end: one of them
  have fin : ∀ (p : Addr) (xs : List V) (H2 : Hp), Same H H2 → p ∉ S → H2 p = some (.lst xs) → DpAll K (Hid S H2) xs (oddL d) → (oddL d).length ≤ 900 → 0 < (oddL d).length →
      ∃ (s p' : Addr) (xs : List V) (n : Nat), [V.ref s', .ref p] = [.ref s, .ref p'] ∧ SqL K (Hid [s] H2) p' xs ∧ 0 < xs.length ∧ xs.length ≤ 1000 ∧ Src H2 s (n + 1) ∧ ∀ (i : Nat) (v : V) (o : HO), xs[i]? = some v → SrcO n o → Q v (upd H2 s o) := fun p xs H2 s2 np gp dp hz h0 => by
    have hl := dpAll_len dp
    refine ⟨s', p, xs, n, rfl, sqL_hid (fun z => nmem_ne np hS (List.mem_singleton.mp z)) gp, by omega, by omega, ⟨so, s2 _ _ hso, hSO⟩, fun i v' o gi hO => ?_⟩
    obtain ⟨d', gd, hd'⟩ := dpAll_get dp gi
    exact q v' d' _ ((Stay.of s2).trans stay_upd) ⟨o, upd_same, hO⟩ (by rw [hid_upd hS]; exact hd') (List.mem_of_getElem? gd)
  cases hd with
  | non =>
    refine ⟨_, (pss_cons (ps_set (i := 2) sc_law_odd.nd rfl (.inl rfl) (pe_lst (pa_cons pe_non (pa_cons pe_bl (pa_cons pe_bl (pa_cons pe_int (pa_cons pe_int (pa_cons (pe_un un_neg pe_int) (pa_cons pe_str (pa_cons pe_str (pa_cons (pe_tup pa_nil) (pa_cons (pe_lst pa_nil) (pa_cons (pe_tup (pa_cons pe_int pa_nil)) (pa_cons (pe_lst (pa_cons pe_int pa_nil)) (pa_cons (pe_tup (pa_cons (pe_tup pa_nil) pa_nil)) (pa_cons (pe_tup (pa_cons (pe_tup pa_nil) (pa_cons (pe_tup pa_nil) pa_nil))) (pa_cons (pe_tup (pa_cons pe_int (pa_cons pe_int pa_nil))) pa_nil)))))))))))))))))
      (pss_cons (ps_set (i := 2) sc_law_odd.nd rfl (.inl rfl) (pe_op op_cat (pv 2) (pe_lst (pa_cons (pe_tup (pa_cons pe_non (pa_cons pe_int pa_nil))) (pa_cons (pe_tup (pa_cons pe_non pa_nil)) (pa_cons pe_str (pa_cons pe_int (pa_cons pe_int pa_nil))))))))
      (pss_cons (ps_if (pt_val (pe_callB (call_isiKK (K := K) rfl) (by rfl) T.isinstance (by decide +kernel) (pa_cons (pv 1) (pa_cons (pe_bltn (v := .ty "int") (by rfl) T.int (by decide +kernel) rfl) pa_nil)))) (pss_one (ps_set (i := 2) sc_law_odd.nd rfl (.inl rfl) (pe_op op_cat (pv 2) (pe_op op_rep (pe_lst (pa_cons (pe_op op_addV (pv 1) pe_int) (pa_cons (pe_op op_subV (pv 1) pe_int) (pa_cons (pe_op op_rsubV pe_int (pv 1)) (pa_cons (pe_callTy call_strV (by rfl) T.str (by decide +kernel) (pa_cons (pv 1) pa_nil)) (pa_cons (pe_cmpR (op_eqDK (K := K) rfl hr.units) (pv 1) pe_int (nomark _)) pa_nil)))))) pe_int)))) pss_nil)
      (pss_cons (ps_if (pt_val (pe_callB (call_isiTK (K := K) rfl) (by rfl) T.isinstance (by decide +kernel) (pa_cons (pv 1) (pa_cons (pe_tup (pa_cons (pe_bltn (v := .ty "list") (by rfl) T.list (by decide +kernel) rfl) (pa_cons (pe_bltn (v := .ty "tuple") (by rfl) T.tuple (by decide +kernel) rfl) pa_nil))) pa_nil)))) (pss_one (ps_set (i := 2) sc_law_odd.nd rfl (.inl rfl) (pe_op op_cat (pv 2) (pe_op op_rep (pe_lst (pa_cons (pe_callTy (call_listK (K := K) rfl) (by rfl) T.list (by decide +kernel) (pa_cons (pv 1) pa_nil)) (pa_cons (pe_callTy (call_tupleK (K := K) rfl) (by rfl) T.tuple (by decide +kernel) (pa_cons (pv 1) pa_nil)) (pa_cons (pe_revL (pv 1)) (pa_cons (pe_slice sl_list (pv 1) (po_some pe_int) po_none) (pa_cons (pe_slice sl_list (pv 1) po_none (po_some (pe_un un_neg pe_int))) pa_nil)))))) pe_int)))) pss_nil)
      (pss_one (ps_ret (pe_call k_law_choice.G (hr.mono (by omega)) (by rfl) k_law_choice.D.g k_law_choice.D.F.kp k_law_choice.D.b .nil pass0 (pa_cons (pv 0) (pa_cons (pv 2) pa_nil))))))))), ?_⟩
    refine sl_asg (K := K) (el_lst (ds := oddA) has (by
      unfold oddA
      repeat' first | exact ea_nil | refine ea_cons ?_ ?_ | exact ee_non | exact ee_bl | exact ee_int | exact ee_str | exact ee_neg | refine ee_tup has ?_ (by decide) | refine ee_lst has ?_ (by decide)) (by decide)) fun p1 xs1 H1 s1 np1 g1 d1 => ?_
    refine sl_asg (K := K) (el_cat (es := oddB) (hasA_same has s1) (el_var rfl np1 g1 d1) (el_lst (hasA_same has s1) (by
      unfold oddB
      repeat' first | exact ea_nil | refine ea_cons ?_ ?_ | exact ee_non | exact ee_bl | exact ee_int | exact ee_str | exact ee_neg | refine ee_tup (hasA_same has s1) ?_ (by decide) | refine ee_lst (hasA_same has s1) ?_ (by decide)) (by decide)) (by decide)) fun p2 xs2 H2 s2 np2 g2 d2 => ?_
    have has2 : HasA H2 S := hasA_same has (s1.trans s2)
    refine ⟨_, rfl, _, _, _, _, _, rfl, .ty _, .base .non, kit_ty (r := false) (by decide +kernel), _, rfl, iteF ?_⟩
    refine ⟨_, rfl, (by show 2 ≤ sizeLine; decide), fun tp htp => ⟨_, tp, _, _, _, _, rfl, upd_same, cs2, .base .non, kit_n (kit_ty (by decide +kernel)) (kit_n (kit_ty (by decide +kernel)) kitAny_nil), _, rfl, iteF ?_⟩⟩
    exact ⟨_, rfl, _, rfl, fin p2 xs2 _ ((s1.trans s2).trans (same_upd htp)) np2 (same_upd htp _ _ g2) (dp_sameA (hid_mono (same_upd htp)) d2) (by show 20 ≤ 900; decide) (by show 0 < 20; decide)⟩
  | bl b =>
    refine ⟨_, (pss_cons (ps_set (i := 2) sc_law_odd.nd rfl (.inl rfl) (pe_lst (pa_cons pe_non (pa_cons pe_bl (pa_cons pe_bl (pa_cons pe_int (pa_cons pe_int (pa_cons (pe_un un_neg pe_int) (pa_cons pe_str (pa_cons pe_str (pa_cons (pe_tup pa_nil) (pa_cons (pe_lst pa_nil) (pa_cons (pe_tup (pa_cons pe_int pa_nil)) (pa_cons (pe_lst (pa_cons pe_int pa_nil)) (pa_cons (pe_tup (pa_cons (pe_tup pa_nil) pa_nil)) (pa_cons (pe_tup (pa_cons (pe_tup pa_nil) (pa_cons (pe_tup pa_nil) pa_nil))) (pa_cons (pe_tup (pa_cons pe_int (pa_cons pe_int pa_nil))) pa_nil)))))))))))))))))
      (pss_cons (ps_set (i := 2) sc_law_odd.nd rfl (.inl rfl) (pe_op op_cat (pv 2) (pe_lst (pa_cons (pe_tup (pa_cons pe_non (pa_cons pe_int pa_nil))) (pa_cons (pe_tup (pa_cons pe_non pa_nil)) (pa_cons pe_str (pa_cons pe_int (pa_cons pe_int pa_nil))))))))
      (pss_cons (ps_if (pt_val (pe_callB (call_isiKK (K := K) rfl) (by rfl) T.isinstance (by decide +kernel) (pa_cons (pv 1) (pa_cons (pe_bltn (v := .ty "int") (by rfl) T.int (by decide +kernel) rfl) pa_nil)))) (pss_one (ps_set (i := 2) sc_law_odd.nd rfl (.inl rfl) (pe_op op_cat (pv 2) (pe_op op_rep (pe_lst (pa_cons (pe_op op_addV (pv 1) pe_int) (pa_cons (pe_op op_subV (pv 1) pe_int) (pa_cons (pe_op op_rsubV pe_int (pv 1)) (pa_cons (pe_callTy call_strV (by rfl) T.str (by decide +kernel) (pa_cons (pv 1) pa_nil)) (pa_cons (pe_cmpR (op_eqDK (K := K) rfl hr.units) (pv 1) pe_int (nomark _)) pa_nil)))))) pe_int)))) pss_nil)
      (pss_cons (ps_if (pt_val (pe_callB (call_isiTK (K := K) rfl) (by rfl) T.isinstance (by decide +kernel) (pa_cons (pv 1) (pa_cons (pe_tup (pa_cons (pe_bltn (v := .ty "list") (by rfl) T.list (by decide +kernel) rfl) (pa_cons (pe_bltn (v := .ty "tuple") (by rfl) T.tuple (by decide +kernel) rfl) pa_nil))) pa_nil)))) (pss_one (ps_set (i := 2) sc_law_odd.nd rfl (.inl rfl) (pe_op op_cat (pv 2) (pe_op op_rep (pe_lst (pa_cons (pe_callTy (call_listK (K := K) rfl) (by rfl) T.list (by decide +kernel) (pa_cons (pv 1) pa_nil)) (pa_cons (pe_callTy (call_tupleK (K := K) rfl) (by rfl) T.tuple (by decide +kernel) (pa_cons (pv 1) pa_nil)) (pa_cons (pe_revL (pv 1)) (pa_cons (pe_slice sl_list (pv 1) (po_some pe_int) po_none) (pa_cons (pe_slice sl_list (pv 1) po_none (po_some (pe_un un_neg pe_int))) pa_nil)))))) pe_int)))) pss_nil)
      (pss_one (ps_ret (pe_call k_law_choice.G (hr.mono (by omega)) (by rfl) k_law_choice.D.g k_law_choice.D.F.kp k_law_choice.D.b .nil pass0 (pa_cons (pv 0) (pa_cons (pv 2) pa_nil))))))))), ?_⟩
    refine sl_asg (K := K) (el_lst (ds := oddA) has (by
      unfold oddA
      repeat' first | exact ea_nil | refine ea_cons ?_ ?_ | exact ee_non | exact ee_bl | exact ee_int | exact ee_str | exact ee_neg | refine ee_tup has ?_ (by decide) | refine ee_lst has ?_ (by decide)) (by decide)) fun p1 xs1 H1 s1 np1 g1 d1 => ?_
    refine sl_asg (K := K) (el_cat (es := oddB) (hasA_same has s1) (el_var rfl np1 g1 d1) (el_lst (hasA_same has s1) (by
      unfold oddB
      repeat' first | exact ea_nil | refine ea_cons ?_ ?_ | exact ee_non | exact ee_bl | exact ee_int | exact ee_str | exact ee_neg | refine ee_tup (hasA_same has s1) ?_ (by decide) | refine ee_lst (hasA_same has s1) ?_ (by decide)) (by decide)) (by decide)) fun p2 xs2 H2 s2 np2 g2 d2 => ?_
    have has2 : HasA H2 S := hasA_same has (s1.trans s2)
    refine ⟨_, rfl, _, _, _, _, _, rfl, .ty _, .base (.bl _), kit_ty (r := true) (by decide +kernel), _, rfl, iteT ?_⟩
    have args : EvAx K S (oddN (if b = true then 1 else 0) (.bl b) (.bool b)) _ _ H2 := ea_cons (te := tOp rAddV (tVar 1) (tC (.int 1))) (fun H3 e3 Q3 q3 => ⟨_, rfl, _, _, .bl _, rfl, q3 _ _ (Same.refl _) (.int _)⟩)
      (ea_cons (te := tOp rSubV (tVar 1) (tC (.int 1))) (fun H3 e3 Q3 q3 => ⟨_, rfl, _, _, .bl _, rfl, q3 _ _ (Same.refl _) (.int _)⟩)
      (ea_cons (te := tOp rRsubV (tC (.int 0)) (tVar 1)) (fun H3 e3 Q3 q3 => ⟨_, rfl, _, _, rfl, .bl _, q3 _ _ (Same.refl _) (.int _)⟩)
      (ea_cons (te := tCB rStrV (tCons (tVar 1) tNil)) (fun H3 e3 Q3 q3 => ⟨_, rfl, _, rfl, .inr ⟨_, rfl⟩, q3 _ _ (Same.refl _) (.str _)⟩)
      (ea_cons (te := tOp (rEqD K) (tVar 1) (tC (.int 1))) (fun H3 e3 Q3 q3 => ⟨_, rfl, (.bool b), .int 1, (.bl _), .int _, rfl, rfl, q3 _ _ (Same.refl _) (.bl _)⟩) (ea_nil (σ := [some (.ref s'), some (.bl b), some (.ref p2)]))))))
    refine sl_asg (K := K) (el_cat has2 (el_var rfl np2 g2 d2) (el_rep2 has2 (el_lst has2 args (by show 5 ≤ 1000; decide)) (by show 5 ≤ 500; decide)) (by show 30 ≤ 1000; decide)) fun p3 xs3 H3 s3 np3 g3 d3 => ?_
    refine ⟨_, rfl, (by show 2 ≤ sizeLine; decide), fun tp htp => ⟨_, tp, _, _, _, _, rfl, upd_same, cs2, .base (.bl _), kit_n (kit_ty (by decide +kernel)) (kit_n (kit_ty (by decide +kernel)) kitAny_nil), _, rfl, iteF ?_⟩⟩
    exact ⟨_, rfl, _, rfl, fin p3 xs3 _ (((s1.trans s2).trans s3).trans (same_upd htp)) np3 (same_upd htp _ _ g3) (dp_sameA (hid_mono (same_upd htp)) d3) (by show 30 ≤ 900; decide) (by show 0 < 30; decide)⟩
  | int i =>
    refine ⟨_, (pss_cons (ps_set (i := 2) sc_law_odd.nd rfl (.inl rfl) (pe_lst (pa_cons pe_non (pa_cons pe_bl (pa_cons pe_bl (pa_cons pe_int (pa_cons pe_int (pa_cons (pe_un un_neg pe_int) (pa_cons pe_str (pa_cons pe_str (pa_cons (pe_tup pa_nil) (pa_cons (pe_lst pa_nil) (pa_cons (pe_tup (pa_cons pe_int pa_nil)) (pa_cons (pe_lst (pa_cons pe_int pa_nil)) (pa_cons (pe_tup (pa_cons (pe_tup pa_nil) pa_nil)) (pa_cons (pe_tup (pa_cons (pe_tup pa_nil) (pa_cons (pe_tup pa_nil) pa_nil))) (pa_cons (pe_tup (pa_cons pe_int (pa_cons pe_int pa_nil))) pa_nil)))))))))))))))))
      (pss_cons (ps_set (i := 2) sc_law_odd.nd rfl (.inl rfl) (pe_op op_cat (pv 2) (pe_lst (pa_cons (pe_tup (pa_cons pe_non (pa_cons pe_int pa_nil))) (pa_cons (pe_tup (pa_cons pe_non pa_nil)) (pa_cons pe_str (pa_cons pe_int (pa_cons pe_int pa_nil))))))))
      (pss_cons (ps_if (pt_val (pe_callB (call_isiKK (K := K) rfl) (by rfl) T.isinstance (by decide +kernel) (pa_cons (pv 1) (pa_cons (pe_bltn (v := .ty "int") (by rfl) T.int (by decide +kernel) rfl) pa_nil)))) (pss_one (ps_set (i := 2) sc_law_odd.nd rfl (.inl rfl) (pe_op op_cat (pv 2) (pe_op op_rep (pe_lst (pa_cons (pe_op op_addV (pv 1) pe_int) (pa_cons (pe_op op_subV (pv 1) pe_int) (pa_cons (pe_op op_rsubV pe_int (pv 1)) (pa_cons (pe_callTy call_strV (by rfl) T.str (by decide +kernel) (pa_cons (pv 1) pa_nil)) (pa_cons (pe_cmpR (op_eqDK (K := K) rfl hr.units) (pv 1) pe_int (nomark _)) pa_nil)))))) pe_int)))) pss_nil)
      (pss_cons (ps_if (pt_val (pe_callB (call_isiTK (K := K) rfl) (by rfl) T.isinstance (by decide +kernel) (pa_cons (pv 1) (pa_cons (pe_tup (pa_cons (pe_bltn (v := .ty "list") (by rfl) T.list (by decide +kernel) rfl) (pa_cons (pe_bltn (v := .ty "tuple") (by rfl) T.tuple (by decide +kernel) rfl) pa_nil))) pa_nil)))) (pss_one (ps_set (i := 2) sc_law_odd.nd rfl (.inl rfl) (pe_op op_cat (pv 2) (pe_op op_rep (pe_lst (pa_cons (pe_callTy (call_listK (K := K) rfl) (by rfl) T.list (by decide +kernel) (pa_cons (pv 1) pa_nil)) (pa_cons (pe_callTy (call_tupleK (K := K) rfl) (by rfl) T.tuple (by decide +kernel) (pa_cons (pv 1) pa_nil)) (pa_cons (pe_revL (pv 1)) (pa_cons (pe_slice sl_list (pv 1) (po_some pe_int) po_none) (pa_cons (pe_slice sl_list (pv 1) po_none (po_some (pe_un un_neg pe_int))) pa_nil)))))) pe_int)))) pss_nil)
      (pss_one (ps_ret (pe_call k_law_choice.G (hr.mono (by omega)) (by rfl) k_law_choice.D.g k_law_choice.D.F.kp k_law_choice.D.b .nil pass0 (pa_cons (pv 0) (pa_cons (pv 2) pa_nil))))))))), ?_⟩
    refine sl_asg (K := K) (el_lst (ds := oddA) has (by
      unfold oddA
      repeat' first | exact ea_nil | refine ea_cons ?_ ?_ | exact ee_non | exact ee_bl | exact ee_int | exact ee_str | exact ee_neg | refine ee_tup has ?_ (by decide) | refine ee_lst has ?_ (by decide)) (by decide)) fun p1 xs1 H1 s1 np1 g1 d1 => ?_
    refine sl_asg (K := K) (el_cat (es := oddB) (hasA_same has s1) (el_var rfl np1 g1 d1) (el_lst (hasA_same has s1) (by
      unfold oddB
      repeat' first | exact ea_nil | refine ea_cons ?_ ?_ | exact ee_non | exact ee_bl | exact ee_int | exact ee_str | exact ee_neg | refine ee_tup (hasA_same has s1) ?_ (by decide) | refine ee_lst (hasA_same has s1) ?_ (by decide)) (by decide)) (by decide)) fun p2 xs2 H2 s2 np2 g2 d2 => ?_
    have has2 : HasA H2 S := hasA_same has (s1.trans s2)
    refine ⟨_, rfl, _, _, _, _, _, rfl, .ty _, .base (.int _), kit_ty (r := true) (by decide +kernel), _, rfl, iteT ?_⟩
    have args : EvAx K S (oddN i (.int i) (.int i)) _ _ H2 := ea_cons (te := tOp rAddV (tVar 1) (tC (.int 1))) (fun H3 e3 Q3 q3 => ⟨_, rfl, _, _, .int _, rfl, q3 _ _ (Same.refl _) (.int _)⟩)
      (ea_cons (te := tOp rSubV (tVar 1) (tC (.int 1))) (fun H3 e3 Q3 q3 => ⟨_, rfl, _, _, .int _, rfl, q3 _ _ (Same.refl _) (.int _)⟩)
      (ea_cons (te := tOp rRsubV (tC (.int 0)) (tVar 1)) (fun H3 e3 Q3 q3 => ⟨_, rfl, _, _, rfl, .int _, q3 _ _ (Same.refl _) (.int _)⟩)
      (ea_cons (te := tCB rStrV (tCons (tVar 1) tNil)) (fun H3 e3 Q3 q3 => ⟨_, rfl, _, rfl, .inl ⟨_, rfl, hpre⟩, q3 _ _ (Same.refl _) (.str _)⟩)
      (ea_cons (te := tOp (rEqD K) (tVar 1) (tC (.int 1))) (fun H3 e3 Q3 q3 => ⟨_, rfl, (.int i), .int 1, (.int _), .int _, rfl, rfl, q3 _ _ (Same.refl _) (.bl _)⟩) (ea_nil (σ := [some (.ref s'), some (.int i), some (.ref p2)]))))))
    refine sl_asg (K := K) (el_cat has2 (el_var rfl np2 g2 d2) (el_rep2 has2 (el_lst has2 args (by show 5 ≤ 1000; decide)) (by show 5 ≤ 500; decide)) (by show 30 ≤ 1000; decide)) fun p3 xs3 H3 s3 np3 g3 d3 => ?_
    refine ⟨_, rfl, (by show 2 ≤ sizeLine; decide), fun tp htp => ⟨_, tp, _, _, _, _, rfl, upd_same, cs2, .base (.int _), kit_n (kit_ty (by decide +kernel)) (kit_n (kit_ty (by decide +kernel)) kitAny_nil), _, rfl, iteF ?_⟩⟩
    exact ⟨_, rfl, _, rfl, fin p3 xs3 _ (((s1.trans s2).trans s3).trans (same_upd htp)) np3 (same_upd htp _ _ g3) (dp_sameA (hid_mono (same_upd htp)) d3) (by show 30 ≤ 900; decide) (by show 0 < 30; decide)⟩
  | str z =>
    refine ⟨_, (pss_cons (ps_set (i := 2) sc_law_odd.nd rfl (.inl rfl) (pe_lst (pa_cons pe_non (pa_cons pe_bl (pa_cons pe_bl (pa_cons pe_int (pa_cons pe_int (pa_cons (pe_un un_neg pe_int) (pa_cons pe_str (pa_cons pe_str (pa_cons (pe_tup pa_nil) (pa_cons (pe_lst pa_nil) (pa_cons (pe_tup (pa_cons pe_int pa_nil)) (pa_cons (pe_lst (pa_cons pe_int pa_nil)) (pa_cons (pe_tup (pa_cons (pe_tup pa_nil) pa_nil)) (pa_cons (pe_tup (pa_cons (pe_tup pa_nil) (pa_cons (pe_tup pa_nil) pa_nil))) (pa_cons (pe_tup (pa_cons pe_int (pa_cons pe_int pa_nil))) pa_nil)))))))))))))))))
      (pss_cons (ps_set (i := 2) sc_law_odd.nd rfl (.inl rfl) (pe_op op_cat (pv 2) (pe_lst (pa_cons (pe_tup (pa_cons pe_non (pa_cons pe_int pa_nil))) (pa_cons (pe_tup (pa_cons pe_non pa_nil)) (pa_cons pe_str (pa_cons pe_int (pa_cons pe_int pa_nil))))))))
      (pss_cons (ps_if (pt_val (pe_callB (call_isiKK (K := K) rfl) (by rfl) T.isinstance (by decide +kernel) (pa_cons (pv 1) (pa_cons (pe_bltn (v := .ty "int") (by rfl) T.int (by decide +kernel) rfl) pa_nil)))) (pss_one (ps_set (i := 2) sc_law_odd.nd rfl (.inl rfl) (pe_op op_cat (pv 2) (pe_op op_rep (pe_lst (pa_cons (pe_op op_addV (pv 1) pe_int) (pa_cons (pe_op op_subV (pv 1) pe_int) (pa_cons (pe_op op_rsubV pe_int (pv 1)) (pa_cons (pe_callTy call_strV (by rfl) T.str (by decide +kernel) (pa_cons (pv 1) pa_nil)) (pa_cons (pe_cmpR (op_eqDK (K := K) rfl hr.units) (pv 1) pe_int (nomark _)) pa_nil)))))) pe_int)))) pss_nil)
      (pss_cons (ps_if (pt_val (pe_callB (call_isiTK (K := K) rfl) (by rfl) T.isinstance (by decide +kernel) (pa_cons (pv 1) (pa_cons (pe_tup (pa_cons (pe_bltn (v := .ty "list") (by rfl) T.list (by decide +kernel) rfl) (pa_cons (pe_bltn (v := .ty "tuple") (by rfl) T.tuple (by decide +kernel) rfl) pa_nil))) pa_nil)))) (pss_one (ps_set (i := 2) sc_law_odd.nd rfl (.inl rfl) (pe_op op_cat (pv 2) (pe_op op_rep (pe_lst (pa_cons (pe_callTy (call_listK (K := K) rfl) (by rfl) T.list (by decide +kernel) (pa_cons (pv 1) pa_nil)) (pa_cons (pe_callTy (call_tupleK (K := K) rfl) (by rfl) T.tuple (by decide +kernel) (pa_cons (pv 1) pa_nil)) (pa_cons (pe_revL (pv 1)) (pa_cons (pe_slice sl_list (pv 1) (po_some pe_int) po_none) (pa_cons (pe_slice sl_list (pv 1) po_none (po_some (pe_un un_neg pe_int))) pa_nil)))))) pe_int)))) pss_nil)
      (pss_one (ps_ret (pe_call k_law_choice.G (hr.mono (by omega)) (by rfl) k_law_choice.D.g k_law_choice.D.F.kp k_law_choice.D.b .nil pass0 (pa_cons (pv 0) (pa_cons (pv 2) pa_nil))))))))), ?_⟩
    refine sl_asg (K := K) (el_lst (ds := oddA) has (by
      unfold oddA
      repeat' first | exact ea_nil | refine ea_cons ?_ ?_ | exact ee_non | exact ee_bl | exact ee_int | exact ee_str | exact ee_neg | refine ee_tup has ?_ (by decide) | refine ee_lst has ?_ (by decide)) (by decide)) fun p1 xs1 H1 s1 np1 g1 d1 => ?_
    refine sl_asg (K := K) (el_cat (es := oddB) (hasA_same has s1) (el_var rfl np1 g1 d1) (el_lst (hasA_same has s1) (by
      unfold oddB
      repeat' first | exact ea_nil | refine ea_cons ?_ ?_ | exact ee_non | exact ee_bl | exact ee_int | exact ee_str | exact ee_neg | refine ee_tup (hasA_same has s1) ?_ (by decide) | refine ee_lst (hasA_same has s1) ?_ (by decide)) (by decide)) (by decide)) fun p2 xs2 H2 s2 np2 g2 d2 => ?_
    have has2 : HasA H2 S := hasA_same has (s1.trans s2)
    refine ⟨_, rfl, _, _, _, _, _, rfl, .ty _, .base (.str _), kit_ty (r := false) (by decide +kernel), _, rfl, iteF ?_⟩
    refine ⟨_, rfl, (by show 2 ≤ sizeLine; decide), fun tp htp => ⟨_, tp, _, _, _, _, rfl, upd_same, cs2, .base (.str _), kit_n (kit_ty (by decide +kernel)) (kit_n (kit_ty (by decide +kernel)) kitAny_nil), _, rfl, iteF ?_⟩⟩
    exact ⟨_, rfl, _, rfl, fin p2 xs2 _ ((s1.trans s2).trans (same_upd htp)) np2 (same_upd htp _ _ g2) (dp_sameA (hid_mono (same_upd htp)) d2) (by show 20 ≤ 900; decide) (by show 0 < 20; decide)⟩
  | @lst a xs ds h1 h2 =>
    refine ⟨_, (pss_cons (ps_set (i := 2) sc_law_odd.nd rfl (.inl rfl) (pe_lst (pa_cons pe_non (pa_cons pe_bl (pa_cons pe_bl (pa_cons pe_int (pa_cons pe_int (pa_cons (pe_un un_neg pe_int) (pa_cons pe_str (pa_cons pe_str (pa_cons (pe_tup pa_nil) (pa_cons (pe_lst pa_nil) (pa_cons (pe_tup (pa_cons pe_int pa_nil)) (pa_cons (pe_lst (pa_cons pe_int pa_nil)) (pa_cons (pe_tup (pa_cons (pe_tup pa_nil) pa_nil)) (pa_cons (pe_tup (pa_cons (pe_tup pa_nil) (pa_cons (pe_tup pa_nil) pa_nil))) (pa_cons (pe_tup (pa_cons pe_int (pa_cons pe_int pa_nil))) pa_nil)))))))))))))))))
      (pss_cons (ps_set (i := 2) sc_law_odd.nd rfl (.inl rfl) (pe_op op_cat (pv 2) (pe_lst (pa_cons (pe_tup (pa_cons pe_non (pa_cons pe_int pa_nil))) (pa_cons (pe_tup (pa_cons pe_non pa_nil)) (pa_cons pe_str (pa_cons pe_int (pa_cons pe_int pa_nil))))))))
      (pss_cons (ps_if (pt_val (pe_callB (call_isiKK (K := K) rfl) (by rfl) T.isinstance (by decide +kernel) (pa_cons (pv 1) (pa_cons (pe_bltn (v := .ty "int") (by rfl) T.int (by decide +kernel) rfl) pa_nil)))) (pss_one (ps_set (i := 2) sc_law_odd.nd rfl (.inl rfl) (pe_op op_cat (pv 2) (pe_op op_rep (pe_lst (pa_cons (pe_op op_addV (pv 1) pe_int) (pa_cons (pe_op op_subV (pv 1) pe_int) (pa_cons (pe_op op_rsubV pe_int (pv 1)) (pa_cons (pe_callTy call_strV (by rfl) T.str (by decide +kernel) (pa_cons (pv 1) pa_nil)) (pa_cons (pe_cmpR (op_eqDK (K := K) rfl hr.units) (pv 1) pe_int (nomark _)) pa_nil)))))) pe_int)))) pss_nil)
      (pss_cons (ps_if (pt_val (pe_callB (call_isiTK (K := K) rfl) (by rfl) T.isinstance (by decide +kernel) (pa_cons (pv 1) (pa_cons (pe_tup (pa_cons (pe_bltn (v := .ty "list") (by rfl) T.list (by decide +kernel) rfl) (pa_cons (pe_bltn (v := .ty "tuple") (by rfl) T.tuple (by decide +kernel) rfl) pa_nil))) pa_nil)))) (pss_one (ps_set (i := 2) sc_law_odd.nd rfl (.inl rfl) (pe_op op_cat (pv 2) (pe_op op_rep (pe_lst (pa_cons (pe_callTy (call_listK (K := K) rfl) (by rfl) T.list (by decide +kernel) (pa_cons (pv 1) pa_nil)) (pa_cons (pe_callTy (call_tupleK (K := K) rfl) (by rfl) T.tuple (by decide +kernel) (pa_cons (pv 1) pa_nil)) (pa_cons (pe_revL (pv 1)) (pa_cons (pe_slice sl_list (pv 1) (po_some pe_int) po_none) (pa_cons (pe_slice sl_list (pv 1) po_none (po_some (pe_un un_neg pe_int))) pa_nil)))))) pe_int)))) pss_nil)
      (pss_one (ps_ret (pe_call k_law_choice.G (hr.mono (by omega)) (by rfl) k_law_choice.D.g k_law_choice.D.F.kp k_law_choice.D.b .nil pass0 (pa_cons (pv 0) (pa_cons (pv 2) pa_nil))))))))), ?_⟩
    refine sl_asg (K := K) (el_lst (ds := oddA) has (by
      unfold oddA
      repeat' first | exact ea_nil | refine ea_cons ?_ ?_ | exact ee_non | exact ee_bl | exact ee_int | exact ee_str | exact ee_neg | refine ee_tup has ?_ (by decide) | refine ee_lst has ?_ (by decide)) (by decide)) fun p1 xs1 H1 s1 np1 g1 d1 => ?_
    refine sl_asg (K := K) (el_cat (es := oddB) (hasA_same has s1) (el_var rfl np1 g1 d1) (el_lst (hasA_same has s1) (by
      unfold oddB
      repeat' first | exact ea_nil | refine ea_cons ?_ ?_ | exact ee_non | exact ee_bl | exact ee_int | exact ee_str | exact ee_neg | refine ee_tup (hasA_same has s1) ?_ (by decide) | refine ee_lst (hasA_same has s1) ?_ (by decide)) (by decide)) (by decide)) fun p2 xs2 H2 s2 np2 g2 d2 => ?_
    have has2 : HasA H2 S := hasA_same has (s1.trans s2)
    have hl := dpAll_len h2
    have hpre' : ds.length ≤ 400 := hpre
    have h1' := (hid_mono (s1.trans s2)).seq h1
    have h2' := dp_sameA (hid_mono (s1.trans s2)) h2
    refine ⟨_, rfl, _, _, _, _, _, rfl, .ty _, tyL (same_hid.seq h1'), kit_ty (r := false) (by decide +kernel), _, rfl, iteF ?_⟩
    refine ⟨_, rfl, (by show 2 ≤ sizeLine; decide), fun tp htp => ⟨_, tp, _, _, _, _, rfl, upd_same, cs2, tyL ((same_upd htp).seq (same_hid.seq h1')), kit_y (kit_ty (by decide +kernel)), _, rfl, iteT ?_⟩⟩
    have st := same_upd (o := .tup [.ty "list", .ty "tuple"]) htp
    have has3 := hasA_same has2 st
    have g2' := st _ _ g2
    have d2' := dp_sameA (hid_mono (S := S) st) d2
    have h1'' := (hid_mono (S := S) st).seq h1'
    have h2'' := dp_sameA (hid_mono (S := S) st) h2'
    generalize upd H2 tp (.tup [.ty "list", .ty "tuple"]) = H3 at *
    have newL : ∀ {H4 : Hp} {ys : List V} {es : List PyData} {p : Addr}, Same H3 H4 → H4 p = none → DpAll K (Hid S H4) ys es → Dp K (Hid S (upd H4 p (.lst ys))) (.ref p) (.list es) := fun {H4 ys es p} s4 hp hy =>
      .lst (sqL_hid (has_ne (hasA_same has3 s4) hp) upd_same) (dp_sameA (hid_mono (same_upd hp)) hy)
    have newT : ∀ {H4 : Hp} {ys : List V} {es : List PyData} {p : Addr}, Same H3 H4 → H4 p = none → DpAll K (Hid S H4) ys es → Dp K (Hid S (upd H4 p (.tup ys))) (.ref p) (.tuple es) := fun {H4 ys es p} s4 hp hy =>
      .tup (sqT_hid (has_ne (hasA_same has3 s4) hp) upd_same) (dp_sameA (hid_mono (same_upd hp)) hy)
    refine sl_asg (K := K) (el_cat has3 (el_var rfl np2 g2' d2') (el_rep2 has3 (el_lst (ds := oddS .list ds) has3 (ea_cons ?a1 (ea_cons ?a2 (ea_cons ?a3 (ea_cons ?a4 (ea_cons ?a5 ea_nil))))) (by show 5 ≤ 1000; decide)) (by show 5 ≤ 500; decide)) (by show 30 ≤ 1000; decide)) fun p3 xs3 H5 s3 np3 g3 d3 => ?rest
    case a1 => exact fun H4 e4 Q4 q4 => ⟨_, rfl, a, xs, rfl, .inl ((same_hid.trans e4).seq h1''), fun l hl' => q4 _ _ (same_upd hl') (newL e4 hl' (dp_sameA (hid_mono e4) h2''))⟩
    case a2 => exact fun H4 e4 Q4 q4 => ⟨_, rfl, a, xs, rfl, .inl ⟨(same_hid.trans e4).seq h1'', fun l hl' => q4 _ _ (same_upd hl') (newT e4 hl' (dp_sameA (hid_mono e4) h2''))⟩⟩
    case a3 => exact fun H4 e4 Q4 q4 => ⟨_, rfl, a, xs, rfl, (same_hid.trans e4).seq h1'', fun l hl' => q4 _ _ (same_upd hl') (newL e4 hl' (dpAll_rev (dp_sameA (hid_mono e4) h2'')))⟩
    case a4 => exact fun H4 e4 Q4 q4 => ⟨_, rfl, 1, rfl, a, xs, rfl, (same_hid.trans e4).seq h1'', fun l hl' => q4 _ _ (same_upd hl') (newL e4 hl' (by rw [cut_from1]; exact dpAll_drop 1 (dp_sameA (hid_mono e4) h2'')))⟩
    case a5 => exact fun H4 e4 Q4 q4 => ⟨_, rfl, 1, rfl, -1, rfl, a, xs, rfl, (same_hid.trans e4).seq h1'', fun l hl' => q4 _ _ (same_upd hl') (newL e4 hl' (by rw [cut_butlast]; exact dpAll_dropLast (dp_sameA (hid_mono e4) h2'')))⟩
    case rest => exact ⟨_, rfl, _, rfl, fin p3 xs3 _ (((s1.trans s2).trans st).trans s3) np3 g3 d3 (by show 30 ≤ 900; decide) (by show 0 < 30; decide)⟩
  | @tup a xs ds h1 h2 =>
    refine ⟨_, (pss_cons (ps_set (i := 2) sc_law_odd.nd rfl (.inl rfl) (pe_lst (pa_cons pe_non (pa_cons pe_bl (pa_cons pe_bl (pa_cons pe_int (pa_cons pe_int (pa_cons (pe_un un_neg pe_int) (pa_cons pe_str (pa_cons pe_str (pa_cons (pe_tup pa_nil) (pa_cons (pe_lst pa_nil) (pa_cons (pe_tup (pa_cons pe_int pa_nil)) (pa_cons (pe_lst (pa_cons pe_int pa_nil)) (pa_cons (pe_tup (pa_cons (pe_tup pa_nil) pa_nil)) (pa_cons (pe_tup (pa_cons (pe_tup pa_nil) (pa_cons (pe_tup pa_nil) pa_nil))) (pa_cons (pe_tup (pa_cons pe_int (pa_cons pe_int pa_nil))) pa_nil)))))))))))))))))
      (pss_cons (ps_set (i := 2) sc_law_odd.nd rfl (.inl rfl) (pe_op op_cat (pv 2) (pe_lst (pa_cons (pe_tup (pa_cons pe_non (pa_cons pe_int pa_nil))) (pa_cons (pe_tup (pa_cons pe_non pa_nil)) (pa_cons pe_str (pa_cons pe_int (pa_cons pe_int pa_nil))))))))
      (pss_cons (ps_if (pt_val (pe_callB (call_isiKK (K := K) rfl) (by rfl) T.isinstance (by decide +kernel) (pa_cons (pv 1) (pa_cons (pe_bltn (v := .ty "int") (by rfl) T.int (by decide +kernel) rfl) pa_nil)))) (pss_one (ps_set (i := 2) sc_law_odd.nd rfl (.inl rfl) (pe_op op_cat (pv 2) (pe_op op_rep (pe_lst (pa_cons (pe_op op_addV (pv 1) pe_int) (pa_cons (pe_op op_subV (pv 1) pe_int) (pa_cons (pe_op op_rsubV pe_int (pv 1)) (pa_cons (pe_callTy call_strV (by rfl) T.str (by decide +kernel) (pa_cons (pv 1) pa_nil)) (pa_cons (pe_cmpR (op_eqDK (K := K) rfl hr.units) (pv 1) pe_int (nomark _)) pa_nil)))))) pe_int)))) pss_nil)
      (pss_cons (ps_if (pt_val (pe_callB (call_isiTK (K := K) rfl) (by rfl) T.isinstance (by decide +kernel) (pa_cons (pv 1) (pa_cons (pe_tup (pa_cons (pe_bltn (v := .ty "list") (by rfl) T.list (by decide +kernel) rfl) (pa_cons (pe_bltn (v := .ty "tuple") (by rfl) T.tuple (by decide +kernel) rfl) pa_nil))) pa_nil)))) (pss_one (ps_set (i := 2) sc_law_odd.nd rfl (.inl rfl) (pe_op op_cat (pv 2) (pe_op op_rep (pe_lst (pa_cons (pe_callTy (call_listK (K := K) rfl) (by rfl) T.list (by decide +kernel) (pa_cons (pv 1) pa_nil)) (pa_cons (pe_callTy (call_tupleK (K := K) rfl) (by rfl) T.tuple (by decide +kernel) (pa_cons (pv 1) pa_nil)) (pa_cons (pe_revT (pv 1)) (pa_cons (pe_slice sl_tupA (pv 1) (po_some pe_int) po_none) (pa_cons (pe_slice sl_tupA (pv 1) po_none (po_some (pe_un un_neg pe_int))) pa_nil)))))) pe_int)))) pss_nil)
      (pss_one (ps_ret (pe_call k_law_choice.G (hr.mono (by omega)) (by rfl) k_law_choice.D.g k_law_choice.D.F.kp k_law_choice.D.b .nil pass0 (pa_cons (pv 0) (pa_cons (pv 2) pa_nil))))))))), ?_⟩
    refine sl_asg (K := K) (el_lst (ds := oddA) has (by
      unfold oddA
      repeat' first | exact ea_nil | refine ea_cons ?_ ?_ | exact ee_non | exact ee_bl | exact ee_int | exact ee_str | exact ee_neg | refine ee_tup has ?_ (by decide) | refine ee_lst has ?_ (by decide)) (by decide)) fun p1 xs1 H1 s1 np1 g1 d1 => ?_
    refine sl_asg (K := K) (el_cat (es := oddB) (hasA_same has s1) (el_var rfl np1 g1 d1) (el_lst (hasA_same has s1) (by
      unfold oddB
      repeat' first | exact ea_nil | refine ea_cons ?_ ?_ | exact ee_non | exact ee_bl | exact ee_int | exact ee_str | exact ee_neg | refine ee_tup (hasA_same has s1) ?_ (by decide) | refine ee_lst (hasA_same has s1) ?_ (by decide)) (by decide)) (by decide)) fun p2 xs2 H2 s2 np2 g2 d2 => ?_
    have has2 : HasA H2 S := hasA_same has (s1.trans s2)
    have hl := dpAll_len h2
    have hpre' : ds.length ≤ 400 := hpre
    have h1' := Same.tup (hid_mono (s1.trans s2)) h1
    have h2' := dp_sameA (hid_mono (s1.trans s2)) h2
    refine ⟨_, rfl, _, _, _, _, _, rfl, .ty _, tyT (Same.tup same_hid h1'), kit_ty (r := false) (by decide +kernel), _, rfl, iteF ?_⟩
    refine ⟨_, rfl, (by show 2 ≤ sizeLine; decide), fun tp htp => ⟨_, tp, _, _, _, _, rfl, upd_same, cs2, tyT (Same.tup (same_upd htp) (Same.tup same_hid h1')), kit_n (kit_ty (by decide +kernel)) (kit_y (kit_ty (by decide +kernel))), _, rfl, iteT ?_⟩⟩
    have st := same_upd (o := .tup [.ty "list", .ty "tuple"]) htp
    have has3 := hasA_same has2 st
    have g2' := st _ _ g2
    have d2' := dp_sameA (hid_mono (S := S) st) d2
    have h1'' := Same.tup (hid_mono (S := S) st) h1'
    have h2'' := dp_sameA (hid_mono (S := S) st) h2'
    generalize upd H2 tp (.tup [.ty "list", .ty "tuple"]) = H3 at *
    have newL : ∀ {H4 : Hp} {ys : List V} {es : List PyData} {p : Addr}, Same H3 H4 → H4 p = none → DpAll K (Hid S H4) ys es → Dp K (Hid S (upd H4 p (.lst ys))) (.ref p) (.list es) := fun {H4 ys es p} s4 hp hy =>
      .lst (sqL_hid (has_ne (hasA_same has3 s4) hp) upd_same) (dp_sameA (hid_mono (same_upd hp)) hy)
    have newT : ∀ {H4 : Hp} {ys : List V} {es : List PyData} {p : Addr}, Same H3 H4 → H4 p = none → DpAll K (Hid S H4) ys es → Dp K (Hid S (upd H4 p (.tup ys))) (.ref p) (.tuple es) := fun {H4 ys es p} s4 hp hy =>
      .tup (sqT_hid (has_ne (hasA_same has3 s4) hp) upd_same) (dp_sameA (hid_mono (same_upd hp)) hy)
    refine sl_asg (K := K) (el_cat has3 (el_var rfl np2 g2' d2') (el_rep2 has3 (el_lst (ds := oddS .tuple ds) has3 (ea_cons ?a1 (ea_cons ?a2 (ea_cons ?a3 (ea_cons ?a4 (ea_cons ?a5 ea_nil))))) (by show 5 ≤ 1000; decide)) (by show 5 ≤ 500; decide)) (by show 30 ≤ 1000; decide)) fun p3 xs3 H5 s3 np3 g3 d3 => ?rest
    case a1 => exact fun H4 e4 Q4 q4 => ⟨_, rfl, a, xs, rfl, .inr (Same.tup (same_hid.trans e4) h1''), fun l hl' => q4 _ _ (same_upd hl') (newL e4 hl' (dp_sameA (hid_mono e4) h2''))⟩
    case a2 => exact fun H4 e4 Q4 q4 => ⟨_, rfl, a, xs, rfl, .inr ⟨Same.tup (same_hid.trans e4) h1'', q4 _ _ (Same.refl _) (.tup (Same.tup (hid_mono e4) h1'') (dp_sameA (hid_mono e4) h2''))⟩⟩
    case a3 => exact fun H4 e4 Q4 q4 => ⟨_, rfl, a, xs, rfl, Same.tup (same_hid.trans e4) h1'', fun l hl' => q4 _ _ (same_upd hl') (newT e4 hl' (dpAll_rev (dp_sameA (hid_mono e4) h2'')))⟩
    case a4 =>
      refine fun H4 e4 Q4 q4 => ⟨_, rfl, 1, rfl, a, xs, rfl, Same.tup (same_hid.trans e4) h1'', fun hw => ?_, fun _ l hl' => q4 _ _ (same_upd hl') (newT e4 hl' (by rw [cut_from1]; exact dpAll_drop 1 (dp_sameA (hid_mono e4) h2'')))⟩
      have e0 : xs = [] := List.eq_nil_of_length_eq_zero (by
        have w1 : HT.sIx xs.length 0 (some ((1 : Nat) : Int)) = 0 := hw.1
        rw [HT.sIx_nat] at w1
        omega)
      have e1 : ds.drop 1 = ds := by
        have : ds = [] := List.eq_nil_of_length_eq_zero (by rw [← hl, e0]; rfl)
        rw [this]
        rfl
      refine q4 _ _ (Same.refl _) ?_
      rw [e1]
      exact .tup (Same.tup (hid_mono e4) h1'') (dp_sameA (hid_mono e4) h2'')
    case a5 =>
      refine fun H4 e4 Q4 q4 => ⟨_, rfl, 1, rfl, -1, rfl, a, xs, rfl, Same.tup (same_hid.trans e4) h1'', fun hw => ?_, fun _ l hl' => q4 _ _ (same_upd hl') (newT e4 hl' (by rw [cut_butlast]; exact dpAll_dropLast (dp_sameA (hid_mono e4) h2'')))⟩
      have e0 : xs = [] := List.eq_nil_of_length_eq_zero (by
        have w1 : (if (-1 : Int) < 0 then ((-1 : Int) + (xs.length : Int)).toNat else min (-1 : Int).toNat xs.length) = xs.length := hw.2
        rw [if_pos (by decide)] at w1
        omega)
      have e1 : ds.dropLast = ds := by
        have : ds = [] := List.eq_nil_of_length_eq_zero (by rw [← hl, e0]; rfl)
        rw [this]
        rfl
      refine q4 _ _ (Same.refl _) ?_
      rw [e1]
      exact .tup (Same.tup (hid_mono e4) h1'') (dp_sameA (hid_mono e4) h2'')
    case rest => exact ⟨_, rfl, _, rfl, fin p3 xs3 _ (((s1.trans s2).trans st).trans s3) np3 g3 d3 (by show 30 ≤ 900; decide) (by show 0 < 30; decide)⟩

/-! ### _law_bent -/
def spBent (K : PySem.W.Frag) (n : Nat) : Sp := fun vs H Q _ => ∃ (s : Addr) (S : List Addr) (v : V) (d : PyData) (D W N b : Nat), vs = [.ref s, v] ∧ s ∈ S ∧ HasA H S ∧ Dp K (Hid S H) v d ∧ Sm D W N d ∧ D + 1 ≤ n ∧ 3 ≤ N ∧ N + n ≤ 390 ∧ Src H s (b + 4 * n) ∧
  ∀ v' d' H', Stay s H H' → Src H' s b → Dp K (Hid S H') v' d' → Sm (D + 2) (2 * W + 30) (N + 1) d' → Q v' H'
theorem sm_pre {D W N : Nat} {d : PyData} (h : Sm D W N d) (hN : N ≤ 390) : oddPre d := by
  have hn := h.itm.num
  cases d with
  | int i =>
    rw [intsB] at hn
    have hi : i.natAbs ≤ N := of_decide_eq_true hn
    show i.natAbs.log2 < 1920
    by_cases h0 : i.natAbs = 0
    · rw [h0]
      decide
    · exact Nat.lt_of_lt_of_le ((Nat.log2_lt h0).mpr (Nat.lt_of_le_of_lt (Nat.le_trans hi hN) (by decide : 390 < 2 ^ 10))) (by decide)
  | list ds =>
    rw [intsB, Bool.and_eq_true, decide_eq_true_eq] at hn
    show ds.length ≤ 400
    omega
  | tuple ds =>
    rw [intsB, Bool.and_eq_true, decide_eq_true_eq] at hn
    show ds.length ≤ 400
    omega
  | none => trivial
  | bool b => trivial
  | str x => trivial
  | dict x => trivial
theorem ok_bent1 (T : Bt mg) {f f1 f2 : Addr} {fd fd1 fd2 : FuncData} {n : Nat} (D : Df K mg "_law_bent" s_law_bent ["_law_source_here", "_law_value"] f fd) (k_law_odd : Kn P w K mg base 3 "_law_odd" s_law_odd ["_law_source_here", "_law_value"] (spOdd K) f1 fd1) (k_law_draw : Kn P w K mg base 1 "_law_draw" s_law_draw ["_law_source_here", "_law_bound"] spDraw f2 fd2)
    (G : FnOk P w K mg base CX0 (n + 3) f fd ["_law_source_here", "_law_value"] (spBent K n)) : FnOk P w K mg base CX0 (n + 4) f fd ["_law_source_here", "_law_value"] (spBent K (n + 1)) := by
  have k_law_bent : Kn P w K mg base (n + 3) "_law_bent" s_law_bent ["_law_source_here", "_law_value"] (spBent K n) f fd := ⟨D, G⟩
  refine D.F.ok sc_law_bent (fun vs H Q E h => ?_) (fun cdv A outer s H vs Q E hr h => ?_)
  · obtain ⟨s', S, v, d, D', W, N, b, rfl, _⟩ := h
    rfl
  obtain ⟨s', S, v, d, D', W, N, b, rfl, hS, has, hd, hsm, hDn, hN3, hNn, hsrc, q⟩ := h
  obtain ⟨so, hso, hSO⟩ := id hsrc
  have cs2 : Paired ClsV [.ty "list", .ty "tuple"] [.type "list", .type "tuple"] := .cons (.ty _) (.cons (.ty _) .nil)
  -- a call of odd from a heap H2 that has kept all else
  have odd : ∀ (H2 : Hp) (m : Nat), Stay s' H H2 → Src H2 s' (m + 1) → b ≤ m → spOdd K [.ref s', v] H2 Q E0 := fun H2 m st sr hm =>
    ⟨s', S, v, d, m, rfl, hS, hasA_stay has st (src_has sr), dp_same (hid_stay hS st) hd, sm_pre hsm (by omega), sr, fun v' d' H' st2 sr2 hd' hmem =>
      q v' d' H' (st.trans st2) (sr2.mono hm) hd' ((odd_sm hsm hN3 (by omega) d' hmem).mono (Nat.le_refl _) (by omega) (Nat.le_refl _))⟩
  refine ⟨_, (pss_cons (ps_if (PW.pt (pw_or (pt_not (pt_val (pe_callB (call_isiTK (K := K) rfl) (by rfl) T.isinstance (by decide +kernel) (pa_cons (pv 1) (pa_cons (pe_tup (pa_cons (pe_bltn (v := .ty "list") (by rfl) T.list (by decide +kernel) rfl) (pa_cons (pe_bltn (v := .ty "tuple") (by rfl) T.tuple (by decide +kernel) rfl) pa_nil))) pa_nil))))) (pw_or (pt_cmpR op_eq (pe_callB (call_lenK (K := K) rfl) (by rfl) T.len (by decide +kernel) (pa_cons (pv 1) pa_nil)) pe_int (nomark _)) (pw_or1 (pt_cmpR op_eq (pe_call k_law_draw.G (hr.mono (by omega)) (by rfl) k_law_draw.D.g k_law_draw.D.F.kp k_law_draw.D.b .nil pass0 (pa_cons (pv 0) (pa_cons pe_int pa_nil))) pe_int (nomark _)))))) (pss_one (ps_ret (pe_call k_law_odd.G (hr.mono (by omega)) (by rfl) k_law_odd.D.g k_law_odd.D.F.kp k_law_odd.D.b .nil pass0 (pa_cons (pv 0) (pa_cons (pv 1) pa_nil))))) pss_nil)
      (pss_cons (ps_par3 (i := 2) (j := 3) (l := 4) (by rfl) sc_law_bent.nd rfl rfl rfl (by decide) (by decide) (by decide) rfl rfl rfl (pa_cons (pe_call k_law_draw.G (hr.mono (by omega)) (by rfl) k_law_draw.D.g k_law_draw.D.F.kp k_law_draw.D.b .nil pass0 (pa_cons (pv 0) (pa_cons (pe_callB (call_lenK (K := K) rfl) (by rfl) T.len (by decide +kernel) (pa_cons (pv 1) pa_nil)) pa_nil))) (pa_cons (pe_callTy (call_listK (K := K) rfl) (by rfl) T.list (by decide +kernel) (pa_cons (pv 1) pa_nil)) (pa_cons (pe_call k_law_draw.G (hr.mono (by omega)) (by rfl) k_law_draw.D.g k_law_draw.D.F.kp k_law_draw.D.b .nil pass0 (pa_cons (pv 0) (pa_cons pe_int pa_nil))) pa_nil))) (by rfl))
      (pss_cons (ps_if (pt_cmpR op_eq (pv 4) pe_int (nomark _)) (pss_one (ps_expr (pe_bm PySem.F.plainAttrs_list PySem.F.slot_list_pop PySem.F.type_list_pop mt_popAt (pv 3) (pa_cons (pv 2) pa_nil)))) (pss_one (ps_if (pt_cmpR op_eq (pv 4) pe_int (nomark _)) (pss_one (ps_expr (pe_bm PySem.F.plainAttrs_list PySem.F.slot_list_insert PySem.F.type_list_insert mt_insert (pv 3) (pa_cons (pv 2) (pa_cons (pe_ix (ix_listK (K := K) rfl) (pv 3) (pv 2) (fun _ _ => rfl)) pa_nil))))) (pss_one (ps_if (pt_cmpR op_eq (pv 4) pe_int (nomark _)) (pss_one (ps_asg (pe_revL (pe_slice sl_list (pv 3) (po_some (pv 2)) (po_some (pe_op op_add (pv 2) pe_int)))) (pg_slc (pv 3) (po_some (pv 2)) (po_some (pe_op op_add (pv 2) pe_int))))) (pss_one (ps_asg (pe_call k_law_bent.G (hr.mono (by omega)) (by rfl) k_law_bent.D.g k_law_bent.D.F.kp k_law_bent.D.b .nil pass0 (pa_cons (pv 0) (pa_cons (pe_ix (ix_listK (K := K) rfl) (pv 3) (pv 2) (fun _ _ => rfl)) pa_nil))) (pg_sub (pv 3) (pv 2) set_list))))))))
      (pss_one (ps_ret (pe_ifExp (pt_val (pe_callB (call_isiKK (K := K) rfl) (by rfl) T.isinstance (by decide +kernel) (pa_cons (pv 1) (pa_cons (pe_bltn (v := .ty "list") (by rfl) T.list (by decide +kernel) rfl) pa_nil)))) (pv 3) (pe_callTy (call_tupleK (K := K) rfl) (by rfl) T.tuple (by decide +kernel) (pa_cons (pv 3) pa_nil)))))))), ?_⟩
  cases hd with
  | non =>
    refine ⟨_, rfl, (by show 2 ≤ sizeLine; decide), fun tp htp => ⟨_, tp, _, _, _, _, rfl, upd_same, cs2, .base .non, kit_n (kit_ty (by decide +kernel)) (kit_n (kit_ty (by decide +kernel)) kitAny_nil), _, rfl, iteT (iteT ?_)⟩⟩
    exact ⟨_, rfl, _, rfl, odd _ (b + 4 * n + 3) (Stay.of (same_upd htp)) ⟨so, same_upd htp _ _ hso, hSO.mono (by omega)⟩ (by omega)⟩
  | bl bb =>
    refine ⟨_, rfl, (by show 2 ≤ sizeLine; decide), fun tp htp => ⟨_, tp, _, _, _, _, rfl, upd_same, cs2, .base (.bl _), kit_n (kit_ty (by decide +kernel)) (kit_n (kit_ty (by decide +kernel)) kitAny_nil), _, rfl, iteT (iteT ?_)⟩⟩
    exact ⟨_, rfl, _, rfl, odd _ (b + 4 * n + 3) (Stay.of (same_upd htp)) ⟨so, same_upd htp _ _ hso, hSO.mono (by omega)⟩ (by omega)⟩
  | int i =>
    refine ⟨_, rfl, (by show 2 ≤ sizeLine; decide), fun tp htp => ⟨_, tp, _, _, _, _, rfl, upd_same, cs2, .base (.int _), kit_n (kit_ty (by decide +kernel)) (kit_n (kit_ty (by decide +kernel)) kitAny_nil), _, rfl, iteT (iteT ?_)⟩⟩
    exact ⟨_, rfl, _, rfl, odd _ (b + 4 * n + 3) (Stay.of (same_upd htp)) ⟨so, same_upd htp _ _ hso, hSO.mono (by omega)⟩ (by omega)⟩
  | str z =>
    refine ⟨_, rfl, (by show 2 ≤ sizeLine; decide), fun tp htp => ⟨_, tp, _, _, _, _, rfl, upd_same, cs2, .base (.str _), kit_n (kit_ty (by decide +kernel)) (kit_n (kit_ty (by decide +kernel)) kitAny_nil), _, rfl, iteT (iteT ?_)⟩⟩
    exact ⟨_, rfl, _, rfl, odd _ (b + 4 * n + 3) (Stay.of (same_upd htp)) ⟨so, same_upd htp _ _ hso, hSO.mono (by omega)⟩ (by omega)⟩
  | @lst a xs ds h1 h2 =>
    have hl := dpAll_len h2
    have hw := hsm.wt
    rw [wt_list] at hw
    obtain ⟨D1, rfl, hlen, hitm⟩ := itm_pred (.inl hsm.itm)
    refine ⟨_, rfl, (by show 2 ≤ sizeLine; decide), fun tp htp => ⟨_, tp, _, _, _, _, rfl, upd_same, cs2, tyL ((same_hid.trans (same_upd htp)).seq h1), kit_y (kit_ty (by decide +kernel)), _, rfl, iteF ?_⟩⟩
    have st1 : Stay s' H (upd H tp (.tup [.ty "list", .ty "tuple"])) := Stay.of (same_upd htp)
    have sr1 : Src (upd H tp (.tup [.ty "list", .ty "tuple"])) s' (b + 4 * (n + 1)) := ⟨so, same_upd htp _ _ hso, hSO⟩
    generalize upd H tp (.tup [.ty "list", .ty "tuple"]) = H1 at st1 sr1
    have h1a := (hid_stay hS st1).seq h1
    refine ⟨_, rfl, a, xs, rfl, .inl ((same_hid).seq h1a), rfl, _, rfl, ?_⟩
    refine ite2 (fun c => ?_) (fun c => ?_)
    · exact iteT ⟨_, rfl, _, rfl, odd H1 (b + 4 * n + 3) st1 (sr1.mono (by omega)) (by omega)⟩
    have hpos : 0 < xs.length := by
      cases hx : xs.length with
      | zero => exact absurd (decide_eq_true (congrArg V.int (by rw [hx]; rfl))) c
      | succ m => omega
    refine ⟨_, rfl, s', 6, b + 4 * n + 3, rfl, by decide, by decide, sr1.mono (by omega), fun r0 o0 r0a r0b hO0 => ⟨rfl, _, rfl, ?_⟩⟩
    have st2 : Stay s' H (upd H1 s' o0) := st1.trans stay_upd
    have sr2 : Src (upd H1 s' o0) s' (b + 4 * n + 3) := ⟨o0, upd_same, hO0⟩
    generalize upd H1 s' o0 = H2 at st2 sr2
    refine ite2 (fun c0 => ?_) (fun c0 => ?_)
    · exact ⟨_, rfl, _, rfl, odd H2 (b + 4 * n + 2) st2 sr2 (by omega)⟩
    -- at, made, way
    have h1b := (hid_stay hS st2).seq h1
    refine ⟨_, rfl, _, rfl, a, xs, rfl, .inl ((same_hid).seq h1b), s', (xs.length : Int), b + 4 * n + 2, rfl, by omega, by omega, sr2, fun rat o1 ra rb hO1 => ?_⟩
    have st3 : Stay s' H (upd H2 s' o1) := st2.trans stay_upd
    have sr3 : Src (upd H2 s' o1) s' (b + 4 * n + 2) := ⟨o1, upd_same, hO1⟩
    generalize upd H2 s' o1 = H3 at st3 sr3
    have h1c := (hid_stay hS st3).seq h1
    have h2c := dp_sameA (hid_stay hS st3) h2
    refine ⟨_, rfl, a, xs, rfl, .inl ((same_hid).seq h1c), fun made hmade => ?_⟩
    have nS : made ∉ S := has_ne (hasA_stay has st3 (src_has sr3)) hmade
    have hasM : made ≠ s' := nmem_ne nS hS
    have st4 : Stay s' H (upd H3 made (.lst xs)) := st3.trans (Stay.of (same_upd hmade))
    have sr4 : Src (upd H3 made (.lst xs)) s' (b + 4 * n + 2) := sr3.elim fun o z => ⟨o, same_upd hmade _ _ z.1, z.2⟩
    have g4 : (upd H3 made (.lst xs)) made = some (.lst xs) := upd_same
    have h2d := dp_sameA (hid_mono (S := S) (same_upd (o := .lst xs) hmade)) h2c
    have nmade : H made = none := by
      cases hq : H made with
      | none => rfl
      | some u =>
        have := st3 made u hasM hq
        rw [hmade] at this
        cases this
    generalize upd H3 made (.lst xs) = H4 at st4 sr4 g4 h2d
    refine ⟨_, rfl, s', 8, b + 4 * n + 1, rfl, by decide, by decide, sr4, fun rway o2 wa wb hO2 => ⟨_, _, _, rfl, ?_⟩⟩
    have st5 : Stay s' H (upd H4 s' o2) := st4.trans stay_upd
    have sr5 : Src (upd H4 s' o2) s' (b + 4 * n + 1) := ⟨o2, upd_same, hO2⟩
    have g5 : (upd H4 s' o2) made = some (.lst xs) := by
      rw [upd_ne hasM]
      exact g4
    have h2e : DpAll K (Hid S (upd H4 s' o2)) xs ds := by
      rw [hid_upd hS]
      exact h2d
    generalize upd H4 s' o2 = H5 at st5 sr5 g5 h2e
    obtain ⟨at', hat⟩ : ∃ at' : Nat, rat = (at' : Int) := ⟨rat.toNat, by omega⟩
    subst hat
    have hlt : at' < xs.length := by omega
    have hltd : at' < ds.length := by omega
    have hgx : xs[at']? = some xs[at'] := List.getElem?_eq_getElem hlt
    obtain ⟨dx, hgd, hdx⟩ := dpAll_get h2 hgx
    have hwx := wS_mem hgd
    refine ⟨_, rfl, rfl, _, rfl, ?_⟩
    refine ite2 (fun c1 => ?_) (fun c1 => ?_)
    · -- pop
      refine ⟨_, rfl, .inl ⟨rfl, _, sqL g5⟩, _, rfl, made, xs, (at' : Int), at', _, rfl, rfl, g5, by omega, by omega, seqIx hlt, hgx, ?_⟩
      have ST : Stay s' H (upd H5 made (.lst (xs.eraseIdx at'))) := st5.mut nmade
      have SR : Src (upd H5 made (.lst (xs.eraseIdx at'))) s' b := sr5.elim fun o z => ⟨o, by rw [upd_ne hasM.symm]; exact z.1, z.2.mono (by omega)⟩
      have gL : (upd H5 made (.lst (xs.eraseIdx at'))) made = some (.lst (xs.eraseIdx at')) := upd_same
      have dE := dpAll_erase at' (dp_sameA (hid_stay hS ST) h2)
      have itE : ∀ x ∈ ds.eraseIdx at', Itm (D1 + 2) (N + 1) x := fun x hx => (hitm x (mem_erase hx)).mono (by omega) (by omega)
      have wE : wS (ds.eraseIdx at') ≤ 2 * W + 30 := by have := wS_erase ds at'; omega
      refine ⟨_, rfl, _, _, _, _, _, rfl, .ty _, tyL (same_hid.seq ((hid_stay hS ST).seq h1)), kit_ty (r := true) (by decide +kernel), _, rfl, iteT ?_⟩
      exact ⟨_, rfl, q _ _ _ ST SR (.lst (sqL_hid nS gL) dE) ⟨(itm_list.mpr ⟨by rw [List.length_eraseIdx_of_lt hltd]; omega, itE⟩).mono (by omega) (Nat.le_refl _), by rw [wt_list]; exact wE⟩⟩
    refine ⟨_, rfl, rfl, _, rfl, ?_⟩
    refine ite2 (fun c2 => ?_) (fun c2 => ?_)
    · -- insert
      refine ⟨_, rfl, .inl ⟨rfl, _, sqL g5⟩, _, rfl, _, rfl, _, rfl, made, xs, (at' : Int), _, rfl, rfl, sqL g5, atI_nat hgx, made, xs, (at' : Int), _, rfl, rfl, g5, small1000 (by omega), by omega, by omega, ?_⟩
      rw [Int.toNat_natCast]
      have ST : Stay s' H (upd H5 made (.lst (xs.take at' ++ [xs[at']] ++ xs.drop at'))) := st5.mut nmade
      have SR : Src (upd H5 made (.lst (xs.take at' ++ [xs[at']] ++ xs.drop at'))) s' b := sr5.elim fun o z => ⟨o, by rw [upd_ne hasM.symm]; exact z.1, z.2.mono (by omega)⟩
      have gL : (upd H5 made (.lst (xs.take at' ++ [xs[at']] ++ xs.drop at'))) made = some (.lst (xs.take at' ++ [xs[at']] ++ xs.drop at')) := upd_same
      have dE := dpAll_app (dpAll_app (dpAll_take at' (dp_sameA (hid_stay hS ST) h2)) (.cons (dp_same (hid_stay hS ST) hdx) .nil)) (dpAll_drop at' (dp_sameA (hid_stay hS ST) h2))
      have itE : ∀ x ∈ ds.take at' ++ [dx] ++ ds.drop at', Itm (D1 + 2) (N + 1) x := fun x hx => by
        have hx' : x ∈ ds := by
          rcases List.mem_append.mp hx with hx | hx
          · rcases List.mem_append.mp hx with hx | hx
            · exact List.mem_of_mem_take hx
            · rw [List.mem_singleton.mp hx]
              exact List.mem_of_getElem? hgd
          · exact List.mem_of_mem_drop hx
        exact (hitm x hx').mono (by omega) (by omega)
      have wE : wS (ds.take at' ++ [dx] ++ ds.drop at') ≤ 2 * W + 30 := by
        rw [wS_app, wS_app, wS_cons, wS_nil]
        have := wS_td ds at'
        omega
      refine ⟨_, rfl, _, _, _, _, _, rfl, .ty _, tyL (same_hid.seq ((hid_stay hS ST).seq h1)), kit_ty (r := true) (by decide +kernel), _, rfl, iteT ?_⟩
      exact ⟨_, rfl, q _ _ _ ST SR (.lst (sqL_hid nS gL) dE) ⟨(itm_list.mpr ⟨by rw [List.length_append, List.length_append, List.length_take, List.length_drop]; show min at' ds.length + 1 + (ds.length - at') ≤ N + 1; omega, itE⟩).mono (by omega) (Nat.le_refl _), by rw [wt_list]; exact wE⟩⟩
    refine ⟨_, rfl, rfl, _, rfl, ?_⟩
    refine ite2 (fun c3 => ?_) (fun c3 => ?_)
    · -- two turned round
      refine ⟨_, rfl, _, rfl, _, rfl, _, rfl, _, _, rfl, rfl, _, rfl, made, xs, rfl, sqL g5, fun p6 hp6 => ?_⟩
      have s6 := same_upd (o := .lst (cutV xs (some (at' : Int)) (some ((at' : Int) + 2)))) hp6
      refine ⟨p6, _, rfl, sqL upd_same, fun p7 hp7 => ?_⟩
      have s7 := same_upd (o := .lst (cutV xs (some (at' : Int)) (some ((at' : Int) + 2))).reverse) hp7
      have ne7 : made ≠ p7 := ne_of_none (s6 _ _ g5) hp7
      refine ⟨_, rfl, _, rfl, _, rfl, _, rfl, _, _, rfl, rfl, _, rfl, made, p7, xs, _, at', at' + 2, rfl, rfl, rfl, by rfl, s7 _ _ (s6 _ _ g5), upd_same, ne7, by omega, by omega, ?_, ?_⟩
      · rw [List.length_reverse, cut_two hlt, List.length_take, List.length_drop]
        exact small (by omega)
      · have st7 : Stay s' H (upd (upd H5 p6 (.lst (cutV xs (some (at' : Int)) (some ((at' : Int) + 2))))) p7 (.lst (cutV xs (some (at' : Int)) (some ((at' : Int) + 2))).reverse)) := st5.trans (Stay.of (s6.trans s7))
        have sr7 : Src (upd (upd H5 p6 (.lst (cutV xs (some (at' : Int)) (some ((at' : Int) + 2))))) p7 (.lst (cutV xs (some (at' : Int)) (some ((at' : Int) + 2))).reverse)) s' b := sr5.elim fun o z => ⟨o, s7 _ _ (s6 _ _ z.1), z.2.mono (by omega)⟩
        have h2f := dp_sameA (hid_mono (S := S) (s6.trans s7)) h2e
        generalize upd (upd H5 p6 (.lst (cutV xs (some (at' : Int)) (some ((at' : Int) + 2))))) p7 (.lst (cutV xs (some (at' : Int)) (some ((at' : Int) + 2))).reverse) = H7 at st7 sr7 h2f
        rw [cut_two hlt]
        have ST : Stay s' H (upd H7 made (.lst (xs.take at' ++ ((xs.drop at').take (min (at' + 2) xs.length - at')).reverse ++ xs.drop (at' + 2)))) := st7.mut nmade
        have SR : Src (upd H7 made (.lst (xs.take at' ++ ((xs.drop at').take (min (at' + 2) xs.length - at')).reverse ++ xs.drop (at' + 2)))) s' b := sr7.elim fun o z => ⟨o, by rw [upd_ne hasM.symm]; exact z.1, z.2⟩
        have gL : (upd H7 made (.lst (xs.take at' ++ ((xs.drop at').take (min (at' + 2) xs.length - at')).reverse ++ xs.drop (at' + 2)))) made = some (.lst (xs.take at' ++ ((xs.drop at').take (min (at' + 2) xs.length - at')).reverse ++ xs.drop (at' + 2))) := upd_same
        have h2g := dp_sameA (hid_stay hS ST) h2
        have dE := dpAll_app (dpAll_app (dpAll_take at' h2g) (dpAll_rev (dpAll_take (min (at' + 2) xs.length - at') (dpAll_drop at' h2g)))) (dpAll_drop (at' + 2) h2g)
        have itE : ∀ x ∈ ds.take at' ++ ((ds.drop at').take (min (at' + 2) xs.length - at')).reverse ++ ds.drop (at' + 2), Itm (D1 + 2) (N + 1) x := fun x hx => by
          have hx' : x ∈ ds := by
            rcases List.mem_append.mp hx with hx | hx
            · rcases List.mem_append.mp hx with hx | hx
              · exact List.mem_of_mem_take hx
              · exact List.mem_of_mem_drop (List.mem_of_mem_take (List.mem_reverse.mp hx))
            · exact List.mem_of_mem_drop hx
          exact (hitm x hx').mono (by omega) (by omega)
        have wE : wS (ds.take at' ++ ((ds.drop at').take (min (at' + 2) xs.length - at')).reverse ++ ds.drop (at' + 2)) ≤ 2 * W + 30 := by
          rw [wS_app, wS_app, wS_rev]
          have w1 := wS_td ds at'
          have w2 := wS_td (ds.drop at') 2
          have w3 := wS_td (ds.drop at') (min (at' + 2) xs.length - at')
          rw [List.drop_drop] at w2
          omega
        refine ⟨_, rfl, _, _, _, _, _, rfl, .ty _, tyL (same_hid.seq ((hid_stay hS ST).seq h1)), kit_ty (r := true) (by decide +kernel), _, rfl, iteT ?_⟩
        exact ⟨_, rfl, q _ _ _ ST SR (.lst (sqL_hid nS gL) dE) ⟨(itm_list.mpr ⟨by rw [List.length_append, List.length_append, List.length_take, List.length_reverse, List.length_take, List.length_drop, List.length_drop]; omega, itE⟩).mono (by omega) (Nat.le_refl _), by rw [wt_list]; exact wE⟩⟩
    · -- deeper
      refine ⟨_, rfl, _, rfl, _, rfl, made, xs, (at' : Int), _, rfl, rfl, sqL g5, atI_nat hgx, ?_⟩
      refine ⟨s', made :: S, xs[at'], dx, D1, PyData.weight dx, N, b, rfl, List.mem_cons_of_mem _ hS, ?_, dp_same (hid_more nmade (hid_stay hS st5)) hdx, ⟨hitm dx (List.mem_of_getElem? hgd), Nat.le_refl _⟩, by omega, hN3, by omega, sr5.mono (by omega), fun v' d' H6 st6 sr6 hd' sm' => ?_⟩
      · intro z hz
        rcases List.mem_cons.mp hz with hz | hz
        · rw [hz]
          exact ⟨_, g5⟩
        · exact hasA_stay has st5 (src_has sr5) z hz
      have g6 : H6 made = some (.lst xs) := st6 _ _ hasM g5
      refine ⟨_, rfl, _, rfl, made, xs, (at' : Int), at', rfl, rfl, g6, ixn hlt, ?_⟩
      have ST : Stay s' H (upd H6 made (.lst (xs.set at' v'))) := (st5.trans st6).mut nmade
      have SR : Src (upd H6 made (.lst (xs.set at' v'))) s' b := sr6.elim fun o z => ⟨o, by rw [upd_ne hasM.symm]; exact z.1, z.2⟩
      have gL : (upd H6 made (.lst (xs.set at' v'))) made = some (.lst (xs.set at' v')) := upd_same
      have dE := dpAll_set (dp_same hid_back hd') at' (dp_sameA (hid_stay hS ST) h2)
      have itE : ∀ x ∈ ds.set at' d', Itm (D1 + 2) (N + 1) x := fun x hx => by
        rcases mem_set hx with hx | hx
        · exact (hitm x hx).mono (by omega) (by omega)
        · rw [hx]
          exact sm'.itm
      have wE : wS (ds.set at' d') ≤ 2 * W + 30 := by
        have := wS_set ds at' dx d' hgd
        have := sm'.wt
        omega
      refine ⟨_, rfl, _, _, _, _, _, rfl, .ty _, tyL (same_hid.seq ((hid_stay hS ST).seq h1)), kit_ty (r := true) (by decide +kernel), _, rfl, iteT ?_⟩
      exact ⟨_, rfl, q _ _ _ ST SR (.lst (sqL_hid nS gL) dE) ⟨(itm_list.mpr ⟨by rw [List.length_set]; omega, itE⟩).mono (by omega) (Nat.le_refl _), by rw [wt_list]; exact wE⟩⟩
  | @tup a xs ds h1 h2 =>
    have hl := dpAll_len h2
    have hw := hsm.wt
    rw [wt_tuple] at hw
    obtain ⟨D1, rfl, hlen, hitm⟩ := itm_pred (.inr hsm.itm)
    refine ⟨_, rfl, (by show 2 ≤ sizeLine; decide), fun tp htp => ⟨_, tp, _, _, _, _, rfl, upd_same, cs2, tyT (Same.tup (same_hid.trans (same_upd htp)) h1), kit_n (kit_ty (by decide +kernel)) (kit_y (kit_ty (by decide +kernel))), _, rfl, iteF ?_⟩⟩
    have st1 : Stay s' H (upd H tp (.tup [.ty "list", .ty "tuple"])) := Stay.of (same_upd htp)
    have sr1 : Src (upd H tp (.tup [.ty "list", .ty "tuple"])) s' (b + 4 * (n + 1)) := ⟨so, same_upd htp _ _ hso, hSO⟩
    generalize upd H tp (.tup [.ty "list", .ty "tuple"]) = H1 at st1 sr1
    have h1a := Same.tup (hid_stay hS st1) h1
    refine ⟨_, rfl, a, xs, rfl, .inr (Same.tup (same_hid) h1a), rfl, _, rfl, ?_⟩
    refine ite2 (fun c => ?_) (fun c => ?_)
    · exact iteT ⟨_, rfl, _, rfl, odd H1 (b + 4 * n + 3) st1 (sr1.mono (by omega)) (by omega)⟩
    have hpos : 0 < xs.length := by
      cases hx : xs.length with
      | zero => exact absurd (decide_eq_true (congrArg V.int (by rw [hx]; rfl))) c
      | succ m => omega
    refine ⟨_, rfl, s', 6, b + 4 * n + 3, rfl, by decide, by decide, sr1.mono (by omega), fun r0 o0 r0a r0b hO0 => ⟨rfl, _, rfl, ?_⟩⟩
    have st2 : Stay s' H (upd H1 s' o0) := st1.trans stay_upd
    have sr2 : Src (upd H1 s' o0) s' (b + 4 * n + 3) := ⟨o0, upd_same, hO0⟩
    generalize upd H1 s' o0 = H2 at st2 sr2
    refine ite2 (fun c0 => ?_) (fun c0 => ?_)
    · exact ⟨_, rfl, _, rfl, odd H2 (b + 4 * n + 2) st2 sr2 (by omega)⟩
    -- at, made, way
    have h1b := Same.tup (hid_stay hS st2) h1
    refine ⟨_, rfl, _, rfl, a, xs, rfl, .inr (Same.tup (same_hid) h1b), s', (xs.length : Int), b + 4 * n + 2, rfl, by omega, by omega, sr2, fun rat o1 ra rb hO1 => ?_⟩
    have st3 : Stay s' H (upd H2 s' o1) := st2.trans stay_upd
    have sr3 : Src (upd H2 s' o1) s' (b + 4 * n + 2) := ⟨o1, upd_same, hO1⟩
    generalize upd H2 s' o1 = H3 at st3 sr3
    have h1c := Same.tup (hid_stay hS st3) h1
    have h2c := dp_sameA (hid_stay hS st3) h2
    refine ⟨_, rfl, a, xs, rfl, .inr (Same.tup (same_hid) h1c), fun made hmade => ?_⟩
    have nS : made ∉ S := has_ne (hasA_stay has st3 (src_has sr3)) hmade
    have hasM : made ≠ s' := nmem_ne nS hS
    have st4 : Stay s' H (upd H3 made (.lst xs)) := st3.trans (Stay.of (same_upd hmade))
    have sr4 : Src (upd H3 made (.lst xs)) s' (b + 4 * n + 2) := sr3.elim fun o z => ⟨o, same_upd hmade _ _ z.1, z.2⟩
    have g4 : (upd H3 made (.lst xs)) made = some (.lst xs) := upd_same
    have h2d := dp_sameA (hid_mono (S := S) (same_upd (o := .lst xs) hmade)) h2c
    have nmade : H made = none := by
      cases hq : H made with
      | none => rfl
      | some u =>
        have := st3 made u hasM hq
        rw [hmade] at this
        cases this
    generalize upd H3 made (.lst xs) = H4 at st4 sr4 g4 h2d
    refine ⟨_, rfl, s', 8, b + 4 * n + 1, rfl, by decide, by decide, sr4, fun rway o2 wa wb hO2 => ⟨_, _, _, rfl, ?_⟩⟩
    have st5 : Stay s' H (upd H4 s' o2) := st4.trans stay_upd
    have sr5 : Src (upd H4 s' o2) s' (b + 4 * n + 1) := ⟨o2, upd_same, hO2⟩
    have g5 : (upd H4 s' o2) made = some (.lst xs) := by
      rw [upd_ne hasM]
      exact g4
    have h2e : DpAll K (Hid S (upd H4 s' o2)) xs ds := by
      rw [hid_upd hS]
      exact h2d
    generalize upd H4 s' o2 = H5 at st5 sr5 g5 h2e
    obtain ⟨at', hat⟩ : ∃ at' : Nat, rat = (at' : Int) := ⟨rat.toNat, by omega⟩
    subst hat
    have hlt : at' < xs.length := by omega
    have hltd : at' < ds.length := by omega
    have hgx : xs[at']? = some xs[at'] := List.getElem?_eq_getElem hlt
    obtain ⟨dx, hgd, hdx⟩ := dpAll_get h2 hgx
    have hwx := wS_mem hgd
    refine ⟨_, rfl, rfl, _, rfl, ?_⟩
    refine ite2 (fun c1 => ?_) (fun c1 => ?_)
    · -- pop
      refine ⟨_, rfl, .inl ⟨rfl, _, sqL g5⟩, _, rfl, made, xs, (at' : Int), at', _, rfl, rfl, g5, by omega, by omega, seqIx hlt, hgx, ?_⟩
      have ST : Stay s' H (upd H5 made (.lst (xs.eraseIdx at'))) := st5.mut nmade
      have SR : Src (upd H5 made (.lst (xs.eraseIdx at'))) s' b := sr5.elim fun o z => ⟨o, by rw [upd_ne hasM.symm]; exact z.1, z.2.mono (by omega)⟩
      have gL : (upd H5 made (.lst (xs.eraseIdx at'))) made = some (.lst (xs.eraseIdx at')) := upd_same
      have dE := dpAll_erase at' (dp_sameA (hid_stay hS ST) h2)
      have itE : ∀ x ∈ ds.eraseIdx at', Itm (D1 + 2) (N + 1) x := fun x hx => (hitm x (mem_erase hx)).mono (by omega) (by omega)
      have wE : wS (ds.eraseIdx at') ≤ 2 * W + 30 := by have := wS_erase ds at'; omega
      refine ⟨_, rfl, _, _, _, _, _, rfl, .ty _, tyT (Same.tup same_hid (Same.tup (hid_stay hS ST) h1)), kit_ty (r := false) (by decide +kernel), _, rfl, iteF ?_⟩
      refine ⟨_, rfl, made, _, rfl, .inl ⟨sqL gL, fun l hl' => ?_⟩⟩
      exact q _ _ _ (ST.trans (Stay.of (same_upd hl'))) (SR.elim fun o z => ⟨o, same_upd hl' _ _ z.1, z.2⟩) (.tup (sqT_hid (has_ne (hasA_stay has ST (src_has SR)) hl') upd_same) (dp_sameA (hid_mono (same_upd hl')) dE)) ⟨(itm_tuple.mpr ⟨by rw [List.length_eraseIdx_of_lt hltd]; omega, itE⟩).mono (by omega) (Nat.le_refl _), by rw [wt_tuple]; exact wE⟩
    refine ⟨_, rfl, rfl, _, rfl, ?_⟩
    refine ite2 (fun c2 => ?_) (fun c2 => ?_)
    · -- insert
      refine ⟨_, rfl, .inl ⟨rfl, _, sqL g5⟩, _, rfl, _, rfl, _, rfl, made, xs, (at' : Int), _, rfl, rfl, sqL g5, atI_nat hgx, made, xs, (at' : Int), _, rfl, rfl, g5, small1000 (by omega), by omega, by omega, ?_⟩
      rw [Int.toNat_natCast]
      have ST : Stay s' H (upd H5 made (.lst (xs.take at' ++ [xs[at']] ++ xs.drop at'))) := st5.mut nmade
      have SR : Src (upd H5 made (.lst (xs.take at' ++ [xs[at']] ++ xs.drop at'))) s' b := sr5.elim fun o z => ⟨o, by rw [upd_ne hasM.symm]; exact z.1, z.2.mono (by omega)⟩
      have gL : (upd H5 made (.lst (xs.take at' ++ [xs[at']] ++ xs.drop at'))) made = some (.lst (xs.take at' ++ [xs[at']] ++ xs.drop at')) := upd_same
      have dE := dpAll_app (dpAll_app (dpAll_take at' (dp_sameA (hid_stay hS ST) h2)) (.cons (dp_same (hid_stay hS ST) hdx) .nil)) (dpAll_drop at' (dp_sameA (hid_stay hS ST) h2))
      have itE : ∀ x ∈ ds.take at' ++ [dx] ++ ds.drop at', Itm (D1 + 2) (N + 1) x := fun x hx => by
        have hx' : x ∈ ds := by
          rcases List.mem_append.mp hx with hx | hx
          · rcases List.mem_append.mp hx with hx | hx
            · exact List.mem_of_mem_take hx
            · rw [List.mem_singleton.mp hx]
              exact List.mem_of_getElem? hgd
          · exact List.mem_of_mem_drop hx
        exact (hitm x hx').mono (by omega) (by omega)
      have wE : wS (ds.take at' ++ [dx] ++ ds.drop at') ≤ 2 * W + 30 := by
        rw [wS_app, wS_app, wS_cons, wS_nil]
        have := wS_td ds at'
        omega
      refine ⟨_, rfl, _, _, _, _, _, rfl, .ty _, tyT (Same.tup same_hid (Same.tup (hid_stay hS ST) h1)), kit_ty (r := false) (by decide +kernel), _, rfl, iteF ?_⟩
      refine ⟨_, rfl, made, _, rfl, .inl ⟨sqL gL, fun l hl' => ?_⟩⟩
      exact q _ _ _ (ST.trans (Stay.of (same_upd hl'))) (SR.elim fun o z => ⟨o, same_upd hl' _ _ z.1, z.2⟩) (.tup (sqT_hid (has_ne (hasA_stay has ST (src_has SR)) hl') upd_same) (dp_sameA (hid_mono (same_upd hl')) dE)) ⟨(itm_tuple.mpr ⟨by rw [List.length_append, List.length_append, List.length_take, List.length_drop]; show min at' ds.length + 1 + (ds.length - at') ≤ N + 1; omega, itE⟩).mono (by omega) (Nat.le_refl _), by rw [wt_tuple]; exact wE⟩
    refine ⟨_, rfl, rfl, _, rfl, ?_⟩
    refine ite2 (fun c3 => ?_) (fun c3 => ?_)
    · -- two turned round
      refine ⟨_, rfl, _, rfl, _, rfl, _, rfl, _, _, rfl, rfl, _, rfl, made, xs, rfl, sqL g5, fun p6 hp6 => ?_⟩
      have s6 := same_upd (o := .lst (cutV xs (some (at' : Int)) (some ((at' : Int) + 2)))) hp6
      refine ⟨p6, _, rfl, sqL upd_same, fun p7 hp7 => ?_⟩
      have s7 := same_upd (o := .lst (cutV xs (some (at' : Int)) (some ((at' : Int) + 2))).reverse) hp7
      have ne7 : made ≠ p7 := ne_of_none (s6 _ _ g5) hp7
      refine ⟨_, rfl, _, rfl, _, rfl, _, rfl, _, _, rfl, rfl, _, rfl, made, p7, xs, _, at', at' + 2, rfl, rfl, rfl, by rfl, s7 _ _ (s6 _ _ g5), upd_same, ne7, by omega, by omega, ?_, ?_⟩
      · rw [List.length_reverse, cut_two hlt, List.length_take, List.length_drop]
        exact small (by omega)
      · have st7 : Stay s' H (upd (upd H5 p6 (.lst (cutV xs (some (at' : Int)) (some ((at' : Int) + 2))))) p7 (.lst (cutV xs (some (at' : Int)) (some ((at' : Int) + 2))).reverse)) := st5.trans (Stay.of (s6.trans s7))
        have sr7 : Src (upd (upd H5 p6 (.lst (cutV xs (some (at' : Int)) (some ((at' : Int) + 2))))) p7 (.lst (cutV xs (some (at' : Int)) (some ((at' : Int) + 2))).reverse)) s' b := sr5.elim fun o z => ⟨o, s7 _ _ (s6 _ _ z.1), z.2.mono (by omega)⟩
        have h2f := dp_sameA (hid_mono (S := S) (s6.trans s7)) h2e
        generalize upd (upd H5 p6 (.lst (cutV xs (some (at' : Int)) (some ((at' : Int) + 2))))) p7 (.lst (cutV xs (some (at' : Int)) (some ((at' : Int) + 2))).reverse) = H7 at st7 sr7 h2f
        rw [cut_two hlt]
        have ST : Stay s' H (upd H7 made (.lst (xs.take at' ++ ((xs.drop at').take (min (at' + 2) xs.length - at')).reverse ++ xs.drop (at' + 2)))) := st7.mut nmade
        have SR : Src (upd H7 made (.lst (xs.take at' ++ ((xs.drop at').take (min (at' + 2) xs.length - at')).reverse ++ xs.drop (at' + 2)))) s' b := sr7.elim fun o z => ⟨o, by rw [upd_ne hasM.symm]; exact z.1, z.2⟩
        have gL : (upd H7 made (.lst (xs.take at' ++ ((xs.drop at').take (min (at' + 2) xs.length - at')).reverse ++ xs.drop (at' + 2)))) made = some (.lst (xs.take at' ++ ((xs.drop at').take (min (at' + 2) xs.length - at')).reverse ++ xs.drop (at' + 2))) := upd_same
        have h2g := dp_sameA (hid_stay hS ST) h2
        have dE := dpAll_app (dpAll_app (dpAll_take at' h2g) (dpAll_rev (dpAll_take (min (at' + 2) xs.length - at') (dpAll_drop at' h2g)))) (dpAll_drop (at' + 2) h2g)
        have itE : ∀ x ∈ ds.take at' ++ ((ds.drop at').take (min (at' + 2) xs.length - at')).reverse ++ ds.drop (at' + 2), Itm (D1 + 2) (N + 1) x := fun x hx => by
          have hx' : x ∈ ds := by
            rcases List.mem_append.mp hx with hx | hx
            · rcases List.mem_append.mp hx with hx | hx
              · exact List.mem_of_mem_take hx
              · exact List.mem_of_mem_drop (List.mem_of_mem_take (List.mem_reverse.mp hx))
            · exact List.mem_of_mem_drop hx
          exact (hitm x hx').mono (by omega) (by omega)
        have wE : wS (ds.take at' ++ ((ds.drop at').take (min (at' + 2) xs.length - at')).reverse ++ ds.drop (at' + 2)) ≤ 2 * W + 30 := by
          rw [wS_app, wS_app, wS_rev]
          have w1 := wS_td ds at'
          have w2 := wS_td (ds.drop at') 2
          have w3 := wS_td (ds.drop at') (min (at' + 2) xs.length - at')
          rw [List.drop_drop] at w2
          omega
        refine ⟨_, rfl, _, _, _, _, _, rfl, .ty _, tyT (Same.tup same_hid (Same.tup (hid_stay hS ST) h1)), kit_ty (r := false) (by decide +kernel), _, rfl, iteF ?_⟩
        refine ⟨_, rfl, made, _, rfl, .inl ⟨sqL gL, fun l hl' => ?_⟩⟩
        exact q _ _ _ (ST.trans (Stay.of (same_upd hl'))) (SR.elim fun o z => ⟨o, same_upd hl' _ _ z.1, z.2⟩) (.tup (sqT_hid (has_ne (hasA_stay has ST (src_has SR)) hl') upd_same) (dp_sameA (hid_mono (same_upd hl')) dE)) ⟨(itm_tuple.mpr ⟨by rw [List.length_append, List.length_append, List.length_take, List.length_reverse, List.length_take, List.length_drop, List.length_drop]; omega, itE⟩).mono (by omega) (Nat.le_refl _), by rw [wt_tuple]; exact wE⟩
    · -- deeper
      refine ⟨_, rfl, _, rfl, _, rfl, made, xs, (at' : Int), _, rfl, rfl, sqL g5, atI_nat hgx, ?_⟩
      refine ⟨s', made :: S, xs[at'], dx, D1, PyData.weight dx, N, b, rfl, List.mem_cons_of_mem _ hS, ?_, dp_same (hid_more nmade (hid_stay hS st5)) hdx, ⟨hitm dx (List.mem_of_getElem? hgd), Nat.le_refl _⟩, by omega, hN3, by omega, sr5.mono (by omega), fun v' d' H6 st6 sr6 hd' sm' => ?_⟩
      · intro z hz
        rcases List.mem_cons.mp hz with hz | hz
        · rw [hz]
          exact ⟨_, g5⟩
        · exact hasA_stay has st5 (src_has sr5) z hz
      have g6 : H6 made = some (.lst xs) := st6 _ _ hasM g5
      refine ⟨_, rfl, _, rfl, made, xs, (at' : Int), at', rfl, rfl, g6, ixn hlt, ?_⟩
      have ST : Stay s' H (upd H6 made (.lst (xs.set at' v'))) := (st5.trans st6).mut nmade
      have SR : Src (upd H6 made (.lst (xs.set at' v'))) s' b := sr6.elim fun o z => ⟨o, by rw [upd_ne hasM.symm]; exact z.1, z.2⟩
      have gL : (upd H6 made (.lst (xs.set at' v'))) made = some (.lst (xs.set at' v')) := upd_same
      have dE := dpAll_set (dp_same hid_back hd') at' (dp_sameA (hid_stay hS ST) h2)
      have itE : ∀ x ∈ ds.set at' d', Itm (D1 + 2) (N + 1) x := fun x hx => by
        rcases mem_set hx with hx | hx
        · exact (hitm x hx).mono (by omega) (by omega)
        · rw [hx]
          exact sm'.itm
      have wE : wS (ds.set at' d') ≤ 2 * W + 30 := by
        have := wS_set ds at' dx d' hgd
        have := sm'.wt
        omega
      refine ⟨_, rfl, _, _, _, _, _, rfl, .ty _, tyT (Same.tup same_hid (Same.tup (hid_stay hS ST) h1)), kit_ty (r := false) (by decide +kernel), _, rfl, iteF ?_⟩
      refine ⟨_, rfl, made, _, rfl, .inl ⟨sqL gL, fun l hl' => ?_⟩⟩
      exact q _ _ _ (ST.trans (Stay.of (same_upd hl'))) (SR.elim fun o z => ⟨o, same_upd hl' _ _ z.1, z.2⟩) (.tup (sqT_hid (has_ne (hasA_stay has ST (src_has SR)) hl') upd_same) (dp_sameA (hid_mono (same_upd hl')) dE)) ⟨(itm_tuple.mpr ⟨by rw [List.length_set]; omega, itE⟩).mono (by omega) (Nat.le_refl _), by rw [wt_tuple]; exact wE⟩
theorem ok_bent (T : Bt mg) {f f1 f2 : Addr} {fd fd1 fd2 : FuncData} (D : Df K mg "_law_bent" s_law_bent ["_law_source_here", "_law_value"] f fd) (k_law_odd : Kn P w K mg base 3 "_law_odd" s_law_odd ["_law_source_here", "_law_value"] (spOdd K) f1 fd1) (k_law_draw : Kn P w K mg base 1 "_law_draw" s_law_draw ["_law_source_here", "_law_bound"] spDraw f2 fd2) :
    ∀ n : Nat, FnOk P w K mg base CX0 (n + 3) f fd ["_law_source_here", "_law_value"] (spBent K n)
  | 0 => by
    have no : ∀ vs H Q E, ¬ spBent K 0 vs H Q E := fun vs H Q E h => by
      obtain ⟨s, S, v, d, D, W, N, b, _, _, _, _, _, h1, _⟩ := h
      omega
    exact ⟨fun vs H Q E h => absurd h (no vs H Q E), fun A outer s H args us vs Q E _ _ _ _ h => absurd h (no vs H Q E)⟩
  | n + 1 => ok_bent1 T D k_law_odd k_law_draw (ok_bent T D k_law_odd k_law_draw n)

/-! ### _law_needs -/
def spLawNeeds : Sp := fun vs H Q _ => ∃ (n : Nat) (c w : Int), vs = [.int n, .int c, .int w] ∧ n ≤ 100 ∧ ∀ p H', Same H H' → H p = none → H' p = some (.lst ((needsL n c w).map V.int)) → Q (.ref p) H'
theorem ok_lawneeds (T : Bt mg) {f : Addr} {fd : FuncData} {k : Nat} (D : Df K mg "_law_needs" s_law_needs ["_law_width", "_law_spot", "_law_hope"] f fd) : Kn P w K mg base (k + 1) "_law_needs" s_law_needs ["_law_width", "_law_spot", "_law_hope"] spLawNeeds f fd := by
  refine ⟨D, D.F.ok sc_law_needs (fun vs H Q E h => ?_) (fun cdv A outer s H vs Q E hr h => ?_)⟩
  · obtain ⟨n, c, w', rfl, _⟩ := h
    rfl
  obtain ⟨n, c, w', rfl, hn, q⟩ := h
  refine ⟨_, (pss_one (ps_ret (pe_lc (own := [("_law_at", 3)]) (by rfl) sc_law_needs.nd (pi_range1 (by rfl) T.range (pa_cons (pv 0) pa_nil)) (blkOk_by (own := [("_law_at", 3)]) (N := ["_law_width", "_law_spot", "_law_hope", "_law_at"]) (sc := defScope s_law_needs) (by decide +kernel)) (fun _ _ _ _ _ => (pg_name (i := 3) sc_law_needs.nd rfl (.inl rfl))) (fun _ _ _ _ _ => (pts_one (pt_cmpR (op_ltTK (K := K) rfl hr.units0) (pe_tup (pa_cons (pe_callB call_abs (by rfl) T.abs (by decide +kernel) (pa_cons (pe_op op_sub (pv 3) (pv 2)) pa_nil)) (pa_cons (pv 3) pa_nil))) (pe_tup (pa_cons (pe_callB call_abs (by rfl) T.abs (by decide +kernel) (pa_cons (pe_op op_sub (pv 1) (pv 2)) pa_nil)) (pa_cons (pv 1) pa_nil))) (nomark _)))) (fun _ _ _ _ _ => (pv 3))))), ?_⟩
  refine ⟨_, rfl, (n : Int), rfl, by omega, by omega, fun D' hD => ?_⟩
  have en : ((n : Int)).toNat = n := Int.toNat_natCast n
  rw [en]
  refine lc_range (lo := 0) (n := n) (fun i H2 => Same H H2 ∧ H2 D' = some (.lst ((needsL i c w').map V.int))) ⟨same_upd hD, upd_same⟩ (fun i H2 hi hP => ?_) (fun H2 hP => q D' H2 hP.1 hD hP.2)
  obtain ⟨s2, e2⟩ := hP
  have ez : (0 : Int) + (i : Int) = (i : Int) := Int.zero_add _
  rw [ez]
  refine ⟨rfl, _, rfl, _, rfl, _, _, rfl, rfl, _, rfl, _, rfl, (by show 2 ≤ sizeLine; decide), fun p hp => ?_⟩
  have h1 : Same H2 (upd H2 p (.tup [.int (dist (i : Int) w'), .int (i : Int)])) := same_upd hp
  refine ⟨_, rfl, _, rfl, _, _, rfl, rfl, _, rfl, _, rfl, (by show 2 ≤ sizeLine; decide), fun p2 hp2 => ?_⟩
  have h2 : Same (upd H2 p (.tup [.int (dist (i : Int) w'), .int (i : Int)])) (upd (upd H2 p (.tup [.int (dist (i : Int) w'), .int (i : Int)])) p2 (.tup [.int (dist c w'), .int c])) := same_upd hp2
  refine ⟨p, p2, [dist (i : Int) w', (i : Int)], [dist c w', c], rfl, rfl, sqT (h2 _ _ upd_same), sqT upd_same, _, rfl, ?_⟩
  have hsz : ((needsL i c w').map V.int).length < sizeLine := by
    rw [List.length_map]
    exact small1000 (Nat.le_trans (needsL_len i c w') (by omega))
  refine ite2 (fun hb => ?_) (fun hb => ?_)
  · refine ⟨_, rfl, _, h2 _ _ (h1 _ _ e2), hsz, Same.mut ((s2.trans h1).trans h2) hD, ?_⟩
    rw [upd_same, needsL_succ, if_pos (show near w' c (i : Int) = true from hb), List.map_append]
    rfl
  · refine ⟨(s2.trans h1).trans h2, ?_⟩
    rw [needsL_succ, if_neg (show ¬ near w' c (i : Int) = true from hb), List.append_nil]
    exact h2 _ _ (h1 _ _ e2)

/-! ### _law_full_spots, _law_wanted -/
def spSpots (K : PySem.W.Frag) : Sp := fun vs H Q _ => ∃ (a : Addr) (ys : List V), vs = [.ref a] ∧ SqT K H a ys ∧ ys.length ≤ 100 ∧ ∀ p H', Same H H' → H p = none → H' p = some (.lst ((fullL ys).map V.int)) → Q (.ref p) H'
theorem ok_spots (T : Bt mg) {f : Addr} {fd : FuncData} {k : Nat} (D : Df K mg "_law_full_spots" s_law_full_spots ["_law_shelf"] f fd) : Kn P w K mg base (k + 1) "_law_full_spots" s_law_full_spots ["_law_shelf"] (spSpots K) f fd := by
  refine ⟨D, D.F.ok sc_law_full_spots (fun vs H Q E h => ?_) (fun cdv A outer s H vs Q E hr h => ?_)⟩
  · obtain ⟨a, ys, rfl, _⟩ := h
    rfl
  obtain ⟨a, ys, rfl, hS, hl, q⟩ := h
  refine ⟨_, (pss_one (ps_ret (pe_lc (own := [("_law_spot", 1), ("_law_part", 2)]) (by rfl) sc_law_full_spots.nd (pi_enT (by rfl) T.enumerate (pa_cons (pv 0) pa_nil)) (blkOk_by (own := [("_law_spot", 1), ("_law_part", 2)]) (N := ["_law_shelf", "_law_spot", "_law_part"]) (sc := defScope s_law_full_spots) (by decide +kernel)) (fun _ _ _ _ _ => (pg_tupK (K := K) (n := 2) rfl rfl (pgs_cons (pg_name (i := 1) sc_law_full_spots.nd rfl (.inl rfl)) (pgs_cons (pg_name (i := 2) sc_law_full_spots.nd rfl (.inl rfl)) pgs_nil)))) (fun _ _ _ _ _ => (pts_one (pt_cmpR op_notN (pv 2) pe_non (nomark _)))) (fun _ _ _ _ _ => (pv 1))))), ?_⟩
  refine ⟨_, rfl, a, ys, rfl, hS, fun D' hD => ?_⟩
  refine lc_enT (fun i H2 => Same H H2 ∧ H2 D' = some (.lst ((fullN ys i).map V.int))) ⟨same_upd hD, upd_same⟩ (fun i H2 hP => Same.tup hP.1 hS) (fun i x T' H2 gx hP hT => ?_) (fun H2 hP => q D' H2 hP.1 hD hP.2)
  obtain ⟨s2, e2⟩ := hP
  have h1 : Same H2 (upd H2 T' (.tup [.int (i : Nat), x])) := same_upd hT
  have hi : i < ys.length := (List.getElem?_eq_some_iff.mp gx).1
  have gd : ys.getD i .non = x := by rw [List.getD_eq_getElem?_getD, gx]; rfl
  refine ⟨T', [.int (i : Nat), x], rfl, sqT upd_same, rfl, .int (i : Nat), [x], rfl, x, [], rfl, rfl, rfl, ?_⟩
  refine ⟨_, rfl, rfl, _, rfl, ?_⟩
  have e4 := h1 _ _ e2
  have hsz : ((fullN ys i).map V.int).length < sizeLine := by
    rw [List.length_map]
    exact small1000 (Nat.le_trans (fullN_len ys i) (by omega))
  have en : isN x = decide (x = .non) := by cases x <;> simp [isN]
  refine ite2 (fun c => ?_) (fun c => ?_)
  · refine ⟨_, rfl, _, e4, hsz, Same.mut (s2.trans h1) hD, ?_⟩
    rw [upd_same, fullN_succ, gd, en, if_neg (by simpa using c), List.map_append]
    rfl
  · refine ⟨s2.trans h1, ?_⟩
    rw [fullN_succ, gd, en, if_pos (by simpa using c), List.append_nil]
    exact e4
theorem shaped_int (z : Int) : SeqAt.shaped (.int z) = true := by
  unfold SeqAt.shaped
  rw [PyData.canLay0, PyData.depth]
  rfl
theorem shaped_q : SeqAt.shaped (.str "?") = true := by decide +kernel
theorem eqv_iq (z : Int) : PyData.eqv (.int z) (.str "?") = false := by rw [PyData.eqv] <;> simp
theorem eqv_qq : PyData.eqv (.str "?") (.str "?") = true := by decide +kernel
def spWanted (K : PySem.W.Frag) : Sp := fun vs H Q _ => ∃ (a : Addr) (ys : List V) (i : Nat), vs = [.ref a, .int i] ∧ SqT K H a ys ∧ ys.length ≤ 100 ∧ (ys[i]? = some (.str "?") ∨ ∃ w : Int, ys[i]? = some (.int w)) ∧ ∀ p H', Same H H' → H p = none → H' p = some (.lst ((wantL ys i).map V.int)) → Q (.ref p) H'
theorem ok_wanted (T : Bt mg) {f f1 : Addr} {fd fd1 : FuncData} {k : Nat} (D : Df K mg "_law_wanted" s_law_wanted ["_law_shelf", "_law_spot"] f fd) (k_law_needs : Kn P w K mg base (k + 1) "_law_needs" s_law_needs ["_law_width", "_law_spot", "_law_hope"] spLawNeeds f1 fd1) : Kn P w K mg base (k + 2) "_law_wanted" s_law_wanted ["_law_shelf", "_law_spot"] (spWanted K) f fd := by
  refine ⟨D, D.F.ok sc_law_wanted (fun vs H Q E h => ?_) (fun cdv A outer s H vs Q E hr h => ?_)⟩
  · obtain ⟨a, ys, i, rfl, _⟩ := h
    rfl
  obtain ⟨a, ys, i, rfl, hS, hl, he, q⟩ := h
  refine ⟨_, (pss_one (ps_ret (pe_ifExp (pt_cmpR (op_eqDK (K := K) rfl hr.units) (pe_ix (ix_tupK (K := K) rfl) (pv 0) (pv 1) (fun _ _ => rfl)) pe_str (nomark _)) (pe_lst pa_nil) (pe_call k_law_needs.G (hr.mono (by omega)) (by rfl) k_law_needs.D.g k_law_needs.D.F.kp k_law_needs.D.b .nil pass0 (pa_cons (pe_callB (call_lenK (K := K) rfl) (by rfl) T.len (by decide +kernel) (pa_cons (pv 0) pa_nil)) (pa_cons (pv 1) (pa_cons (pe_ix (ix_tupK (K := K) rfl) (pv 0) (pv 1) (fun _ _ => rfl)) pa_nil))))))), ?_⟩
  rcases he with he | ⟨w', he⟩
  · have gd : ys.getD i .non = .str "?" := by rw [List.getD_eq_getElem?_getD, he]; rfl
    refine ⟨_, rfl, _, rfl, a, ys, (i : Int), _, rfl, rfl, hS, atI_nat he, ?_⟩
    refine ⟨.str "?", .str "?", .str _, .str _, shaped_q, shaped_q, _, rfl, ?_⟩
    rw [eqv_qq]
    refine iteT ⟨(by show 0 ≤ sizeLine; decide), fun p hp => q p _ (same_upd hp) hp ?_⟩
    rw [upd_same]
    unfold wantL
    rw [Int.toNat_natCast, gd]
    rfl
  · have gd : ys.getD i .non = .int w' := by rw [List.getD_eq_getElem?_getD, he]; rfl
    refine ⟨_, rfl, _, rfl, a, ys, (i : Int), _, rfl, rfl, hS, atI_nat he, ?_⟩
    refine ⟨.int w', .str "?", .int _, .str _, shaped_int _, shaped_q, _, rfl, ?_⟩
    rw [eqv_iq]
    refine iteF ⟨_, rfl, a, ys, rfl, .inr hS, _, rfl, _, rfl, _, rfl, a, ys, (i : Int), _, rfl, rfl, hS, atI_nat he, ys.length, (i : Int), w', rfl, hl, fun p H1 s1 np g1 => q p H1 s1 np ?_⟩
    rw [g1]
    unfold wantL
    rw [Int.toNat_natCast, gd]
    rfl

/-! ### _law_hopes -/
def spHopes : Sp := fun vs H Q _ => ∃ (s : Addr) (n b : Nat), vs = [.ref s, .int n] ∧ 1 ≤ n ∧ n ≤ 100 ∧ Src H s (b + n + 3) ∧
  ∀ (p : Addr) (hs : List Int) (H' : Hp), Stay s H H' → Src H' s b → H p = none → p ≠ s → H' p = some (.lst (hs.map V.int)) → hs.length ≤ n → (∀ h ∈ hs, 0 ≤ h ∧ h < (n : Int)) → Q (.ref p) H'
theorem clip {n : Nat} (hn : 1 ≤ n) (z : Int) : 0 ≤ (if (if z < (n : Int) - 1 then z else (n : Int) - 1) > 0 then (if z < (n : Int) - 1 then z else (n : Int) - 1) else 0) ∧ (if (if z < (n : Int) - 1 then z else (n : Int) - 1) > 0 then (if z < (n : Int) - 1 then z else (n : Int) - 1) else 0) < (n : Int) := by
  split <;> split <;> omega
theorem ok_hopes (T : Bt mg) {f f1 : Addr} {fd fd1 : FuncData} {k : Nat} (D : Df K mg "_law_hopes" s_law_hopes ["_law_source_here", "_law_width"] f fd) (k_law_draw : Kn P w K mg base (k + 1) "_law_draw" s_law_draw ["_law_source_here", "_law_bound"] spDraw f1 fd1) :
    Kn P w K mg base (k + 2) "_law_hopes" s_law_hopes ["_law_source_here", "_law_width"] spHopes f fd := by
  refine ⟨D, D.F.ok sc_law_hopes (fun vs H Q E h => ?_) (fun cdv A outer s H vs Q E hr h => ?_)⟩
  · obtain ⟨s', n, b, rfl, _⟩ := h
    rfl
  obtain ⟨s', n, b, rfl, hn1, hn, hsrc, q⟩ := h
  refine ⟨_, (pss_cons (ps_par (i := 2) (j := 3) (by rfl) sc_law_hopes.nd rfl rfl (by decide) rfl rfl (pa_cons (pe_call k_law_draw.G (hr.mono (by omega)) (by rfl) k_law_draw.D.g k_law_draw.D.F.kp k_law_draw.D.b .nil pass0 (pa_cons (pv 0) (pa_cons (pv 1) pa_nil))) (pa_cons (pe_call k_law_draw.G (hr.mono (by omega)) (by rfl) k_law_draw.D.g k_law_draw.D.F.kp k_law_draw.D.b .nil pass0 (pa_cons (pv 0) (pa_cons pe_int pa_nil))) pa_nil)) (by rfl))
      (pss_cons (ps_set (i := 4) sc_law_hopes.nd rfl (.inl rfl) (pe_lst pa_nil))
      (pss_cons (ps_for PassesOwn.never rfl (pi_range1 (by rfl) T.range (pa_cons (pe_call k_law_draw.G (hr.mono (by omega)) (by rfl) k_law_draw.D.g k_law_draw.D.F.kp k_law_draw.D.b .nil pass0 (pa_cons (pv 0) (pa_cons (pe_op op_add (pv 1) pe_int) pa_nil))) pa_nil)) (pg_name (i := 5) sc_law_hopes.nd rfl (.inl rfl)) (pss_cons (ps_set (i := 6) sc_law_hopes.nd rfl (.inl rfl) (pe_ifExp (pt_cmpR op_gt (pv 3) pe_int (nomark _)) (pe_call k_law_draw.G (hr.mono (by omega)) (by rfl) k_law_draw.D.g k_law_draw.D.F.kp k_law_draw.D.b .nil pass0 (pa_cons (pv 0) (pa_cons (pv 1) pa_nil))) (pe_op op_sub (pe_op op_add (pv 2) (pe_call k_law_draw.G (hr.mono (by omega)) (by rfl) k_law_draw.D.g k_law_draw.D.F.kp k_law_draw.D.b .nil pass0 (pa_cons (pv 0) (pa_cons pe_int pa_nil)))) pe_int)))
      (pss_one (ps_expr (pe_bm PySem.F.plainAttrs_list PySem.F.slot_list_append PySem.F.type_list_append mt_append (pv 4) (pa_cons (pe_callB (call_max2 rfl) (by rfl) T.max (by decide +kernel) (pa_cons pe_int (pa_cons (pe_callB (call_min2 rfl) (by rfl) T.min (by decide +kernel) (pa_cons (pe_op op_sub (pv 1) pe_int) (pa_cons (pv 6) pa_nil))) pa_nil))) pa_nil))))))
      (pss_one (ps_ret (pv 4)))))), ?_⟩
  refine ⟨_, rfl, _, rfl, s', (n : Int), b + n + 2, rfl, by omega, by omega, hsrc, fun r0 o0 a0 b0 hO0 => ?_⟩
  have st1 : Stay s' H (upd H s' o0) := stay_upd
  have sr1 : Src (upd H s' o0) s' (b + n + 2) := ⟨o0, upd_same, hO0⟩
  generalize upd H s' o0 = H1 at st1 sr1
  refine ⟨_, rfl, s', 3, b + n + 1, rfl, by decide, by decide, sr1, fun r1 o1 a1 b1 hO1 => ⟨_, _, rfl, ?_⟩⟩
  have st2 : Stay s' H (upd H1 s' o1) := st1.trans stay_upd
  have sr2 : Src (upd H1 s' o1) s' (b + n + 1) := ⟨o1, upd_same, hO1⟩
  generalize upd H1 s' o1 = H2 at st2 sr2
  refine ⟨(by show 0 ≤ sizeLine; decide), fun p hp => ?_⟩
  have np : p ≠ s' := fun e => by
    obtain ⟨o, z⟩ := src_has sr2
    rw [← e, hp] at z
    cases z
  have nH : H p = none := by
    cases hq : H p with
    | none => rfl
    | some u =>
      have := st2 p u np hq
      rw [hp] at this
      cases this
  have st3 : Stay s' H (upd H2 p (.lst [])) := st2.mut nH
  have sr3 : Src (upd H2 p (.lst [])) s' (b + n + 1) := sr2.elim fun o z => ⟨o, same_upd hp _ _ z.1, z.2⟩
  have g3 : (upd H2 p (.lst [])) p = some (.lst []) := upd_same
  generalize upd H2 p (.lst []) = H3 at st3 sr3 g3
  refine ⟨_, rfl, _, rfl, _, _, rfl, rfl, s', (n : Int) + 1, b + n, rfl, by omega, by omega, sr3, fun r2 o2 a2 b2 hO2 => ?_⟩
  have st4 : Stay s' H (upd H3 s' o2) := st3.trans stay_upd
  have sr4 : Src (upd H3 s' o2) s' (b + n) := ⟨o2, upd_same, hO2⟩
  have g4 : (upd H3 s' o2) p = some (.lst []) := by
    rw [upd_ne np]
    exact g3
  generalize upd H3 s' o2 = H4 at st4 sr4 g4
  obtain ⟨m, hm⟩ : ∃ m : Nat, r2 = (m : Int) := ⟨r2.toNat, by omega⟩
  subst hm
  refine ⟨(m : Int), rfl, by omega, by omega, ?_⟩
  have en : ((m : Int)).toNat = m := Int.toNat_natCast m
  rw [en]
  refine for_range (lo := 0) (n := m) (fun i σ H' => ∃ (hs : List Int) (y5 y6 : Option V), σ = [some (.ref s'), some (.int (n : Int)), some (.int r0), some (.int r1), some (.ref p), y5, y6] ∧ Stay s' H H' ∧ Src H' s' (b + (n - i)) ∧ H' p = some (.lst (hs.map V.int)) ∧ hs.length = i ∧ ∀ h ∈ hs, 0 ≤ h ∧ h < (n : Int))
    ⟨[], _, _, rfl, st4, sr4, g4, rfl, fun h hh => nomatch hh⟩ (fun i σ H5 hi hP => ?_) (fun σ H5 hP => ?_)
  · obtain ⟨hs, y5, y6, rfl, st5, sr5, g5, hlen, hall⟩ := hP
    have fin : ∀ (z : Int) (H6 : Hp), Stay s' H H6 → Src H6 s' (b + (n - (i + 1))) → H6 p = some (.lst (hs.map V.int)) → ∃ (hs2 : List Int) (y5 y6 : Option V), [some (V.ref s'), some (.int (n : Int)), some (.int r0), some (.int r1), some (.ref p), some (.int (0 + (i : Int))), some (.int z)] = [some (.ref s'), some (.int (n : Int)), some (.int r0), some (.int r1), some (.ref p), y5, y6] ∧
        Stay s' H (upd H6 p (.lst (hs.map V.int ++ [.int (if (if z < (n : Int) - 1 then z else (n : Int) - 1) > 0 then (if z < (n : Int) - 1 then z else (n : Int) - 1) else 0)]))) ∧ Src (upd H6 p (.lst (hs.map V.int ++ [.int (if (if z < (n : Int) - 1 then z else (n : Int) - 1) > 0 then (if z < (n : Int) - 1 then z else (n : Int) - 1) else 0)]))) s' (b + (n - (i + 1))) ∧
        (upd H6 p (.lst (hs.map V.int ++ [.int (if (if z < (n : Int) - 1 then z else (n : Int) - 1) > 0 then (if z < (n : Int) - 1 then z else (n : Int) - 1) else 0)]))) p = some (.lst (hs2.map V.int)) ∧ hs2.length = i + 1 ∧ ∀ h ∈ hs2, 0 ≤ h ∧ h < (n : Int) := fun z H6 st6 sr6 g6 => by
      refine ⟨hs ++ [_], _, _, rfl, st6.mut nH, sr6.elim fun o y => ⟨o, by rw [upd_ne np.symm]; exact y.1, y.2⟩, by rw [upd_same, List.map_append]; rfl, by rw [List.length_append, hlen]; rfl, fun h hh => ?_⟩
      rcases List.mem_append.mp hh with hh | hh
      · exact hall h hh
      · rw [List.mem_singleton.mp hh]
        exact clip hn1 z
    refine ⟨_, rfl, _, _, rfl, rfl, _, rfl, ite2 (fun c => ?_) (fun c => ?_)⟩
    · refine ⟨_, rfl, _, rfl, s', (n : Int), b + (n - (i + 1)), rfl, by omega, by omega, sr5.mono (by omega), fun r o ra rb hO => ?_⟩
      have g6 : (upd H5 s' o) p = some (.lst (hs.map V.int)) := by
        rw [upd_ne np]
        exact g5
      refine ⟨_, rfl, .inl ⟨rfl, _, sqL g6⟩, _, rfl, _, _, rfl, rfl, _, rfl, _, _, rfl, _, _, rfl, p, _, _, rfl, rfl, g6, ?_, fin r _ (st5.trans stay_upd) ⟨o, upd_same, hO⟩ g6⟩
      rw [List.length_map]
      exact small1000 (by omega)
    · refine ⟨_, rfl, _, rfl, s', 3, b + (n - (i + 1)), rfl, by decide, by decide, sr5.mono (by omega), fun r o ra rb hO => ?_⟩
      have g6 : (upd H5 s' o) p = some (.lst (hs.map V.int)) := by
        rw [upd_ne np]
        exact g5
      refine ⟨_, _, rfl, rfl, _, _, rfl, rfl, ?_⟩
      refine ⟨_, rfl, .inl ⟨rfl, _, sqL g6⟩, _, rfl, _, _, rfl, rfl, _, rfl, _, _, rfl, _, _, rfl, p, _, _, rfl, rfl, g6, ?_, fin (r0 + r - 1) _ (st5.trans stay_upd) ⟨o, upd_same, hO⟩ g6⟩
      rw [List.length_map]
      exact small1000 (by omega)
  · obtain ⟨hs, y5, y6, rfl, st5, sr5, g5, hlen, hall⟩ := hP
    exact ⟨_, rfl, q p hs H5 st5 (sr5.mono (by omega)) nH np g5 (by omega) hall⟩

/-! ### _law_fill -/
def spFill (K : PySem.W.Frag) : Sp := fun vs H Q _ => ∃ (n : Nat) (a : Addr) (hs : List Int), vs = [.int n, .ref a] ∧ SqL K H a (hs.map V.int) ∧ n ≤ 100 ∧ hs.length ≤ n ∧
  ∀ (t p q : Addr) (sh : List (Option Int)) (qs : List Int) (H' : Hp), Same H H' → H t = none → H p = none → H q = none → H' t = some (.tup [.ref p, .ref q]) → H' p = some (.tup (sh.map oV)) → H' q = some (.tup (qs.map V.int)) → Fill n hs sh qs → Q (.ref t) H'
theorem rep_non (n : Nat) : (List.replicate ((n : Int)).toNat [V.non]).flatten = (List.replicate n (none : Option Int)).map oV := by
  rw [Int.toNat_natCast]
  induction n with
  | zero => rfl
  | succ n ih =>
    rw [List.replicate_succ, List.replicate_succ, List.flatten_cons, ih]
    rfl
theorem ok_fill (T : Bt mg) {f : Addr} {fd : FuncData} {k : Nat} (D : Df K mg "_law_fill" s_law_fill ["_law_width", "_law_hopes_here"] f fd) : Kn P w K mg base (k + 1) "_law_fill" s_law_fill ["_law_width", "_law_hopes_here"] (spFill K) f fd := by
  refine ⟨D, D.F.ok sc_law_fill (fun vs H Q E h => ?_) (fun cdv A outer s H vs Q E hr h => ?_)⟩
  · obtain ⟨n, a, hs, rfl, _⟩ := h
    rfl
  obtain ⟨n, a, hs, rfl, hA, hn, hlen, q⟩ := h
  refine ⟨_, (pss_cons (ps_asg (pe_tup (pa_cons (pe_op op_rep (pe_lst (pa_cons pe_non pa_nil)) (pv 0)) (pa_cons (pe_lst pa_nil) pa_nil))) (pg_tup (by rfl) (pgs_cons (pg_name (i := 2) sc_law_fill.nd rfl (.inr rfl)) (pgs_cons (pg_name (i := 3) sc_law_fill.nd rfl (.inl rfl)) pgs_nil))))
      (pss_cons (ps_for PassesOwn.never rfl (pi_list (pv 1)) (pg_name (i := 4) sc_law_fill.nd rfl (.inr rfl)) (pss_cons (ps_set (i := 5) sc_law_fill.nd rfl (.inl rfl) (pe_ix (ix_tupK (K := K) rfl) (pe_callB (cr_minT (K := K) rfl rfl (hu_of hr)) (by rfl) T.min (by decide +kernel) (pa_cons (pe_lc (own := [("_law_at", 6)]) (by rfl) sc_law_fill.nd (pi_range1 (by rfl) T.range (pa_cons (pv 0) pa_nil)) (blkOk_by (own := [("_law_at", 6)]) (N := ["_law_width", "_law_hopes_here", "_law_shelf", "_law_queue", "_law_hope", "_law_spot", "_law_at"]) (sc := defScope s_law_fill) (by decide +kernel)) (fun _ _ _ _ _ => (pg_name (i := 6) sc_law_fill.nd rfl (.inl rfl))) (fun _ _ _ _ _ => (pts_one (pt_cmpR op_isN (pe_ix (ix_listK (K := K) rfl) (pv 2) (pv 6) (fun _ _ => rfl)) pe_non (nomark _)))) (fun _ _ _ _ _ => (pe_tup (pa_cons (pe_callB call_abs (by rfl) T.abs (by decide +kernel) (pa_cons (pe_op op_sub (pv 6) (pv 4)) pa_nil)) (pa_cons (pv 6) pa_nil))))) pa_nil)) pe_int (fun _ _ => rfl)))
      (pss_cons (ps_asg (pv 4) (pg_sub (pv 2) (pv 5) set_list))
      (pss_one (ps_expr (pe_bm PySem.F.plainAttrs_list PySem.F.slot_list_append PySem.F.type_list_append mt_append (pv 3) (pa_cons (pv 5) pa_nil)))))))
      (pss_one (ps_ret (pe_tup (pa_cons (pe_callTy (call_tupleK (K := K) rfl) (by rfl) T.tuple (by decide +kernel) (pa_cons (pv 2) pa_nil)) (pa_cons (pe_callTy (call_tupleK (K := K) rfl) (by rfl) T.tuple (by decide +kernel) (pa_cons (pv 3) pa_nil)) pa_nil))))))), ?_⟩
  refine ⟨(by show 1 ≤ sizeLine; decide), fun l0 hl0 => ?_⟩
  have s0 := same_upd (o := .lst [.non]) hl0
  refine ⟨_, rfl, l0, (n : Int), _, rfl, rfl, upd_same, by omega, by omega, small (by rw [Int.toNat_natCast]; show 1 * n ≤ 1000; omega), fun shelf hshelf => ?_⟩
  rw [rep_non]
  have s1 := same_upd (o := .lst ((List.replicate n (none : Option Int)).map oV)) hshelf
  have nsh : H shelf = none := s0.free hshelf
  have g1 : (upd (upd H l0 (.lst [.non])) shelf (.lst ((List.replicate n (none : Option Int)).map oV))) shelf = some (.lst ((List.replicate n (none : Option Int)).map oV)) := upd_same
  have t1 := s0.trans s1
  generalize upd (upd H l0 (.lst [.non])) shelf (.lst ((List.replicate n (none : Option Int)).map oV)) = H1 at t1 g1
  refine ⟨(by show 0 ≤ sizeLine; decide), fun queue hqueue => ?_⟩
  have s2 := same_upd (o := .lst []) hqueue
  have nqu : H queue = none := t1.free hqueue
  have g2 : (upd H1 queue (.lst [])) queue = some (.lst []) := upd_same
  have t2 := t1.trans s2
  have g1' := s2 _ _ g1
  generalize upd H1 queue (.lst []) = H2 at t2 g2 g1'
  refine ⟨(by show 2 ≤ sizeLine; decide), fun tt htt => ?_⟩
  have s3 := same_upd (o := .tup [.ref shelf, .ref queue]) htt
  have t3 := t2.trans s3
  refine ⟨tt, [.ref shelf, .ref queue], rfl, sqT upd_same, rfl, .ref shelf, [.ref queue], rfl, .ref queue, [], rfl, rfl, ?_⟩
  have g1'' := s3 _ _ g1'
  have g2' := s3 _ _ g2
  generalize upd H2 tt (.tup [.ref shelf, .ref queue]) = H3 at t3 g1'' g2'
  have nsq : shelf ≠ queue := fun e => by
    rw [e, hqueue] at g1
    cases g1
  refine ⟨_, rfl, a, rfl, ⟨_, t3.seq hA⟩, ?_⟩
  refine for_list (xs := hs.map V.int) (fun i σ H' => ∃ (sh : List (Option Int)) (qs : List Int) (y4 y5 : Option V), σ = [some (.int (n : Int)), some (.ref a), some (.ref shelf), some (.ref queue), y4, y5, none] ∧ Same H H' ∧ H' shelf = some (.lst (sh.map oV)) ∧ H' queue = some (.lst (qs.map V.int)) ∧ Fill n (hs.take i) sh qs)
    ⟨_, [], _, _, rfl, t3, g1'', g2', Fill.nil⟩ (fun i σ H' _ hP => ?_) (fun i x σ H4 gx hP => ?_) (fun σ H4 hP => ?_)
  · obtain ⟨_, _, _, _, _, t4, _⟩ := hP
    exact t4.seq hA
  · obtain ⟨sh, qs, y4, y5, rfl, t4, gs, gq, fl⟩ := hP
    have hi : i < hs.length := by
      have := (List.getElem?_eq_some_iff.mp gx).1
      rw [List.length_map] at this
      exact this
    have ex : x = .int hs[i] := by
      rw [List.getElem?_map, List.getElem?_eq_getElem hi] at gx
      exact (Option.some.inj gx).symm
    subst ex
    generalize hh : hs[i] = h
    have hsl := fl.len
    have hpos : 0 < fr sh := by
      have := fl.free
      rw [List.length_take, Nat.min_eq_left (by omega)] at this
      omega
    obtain ⟨c0, hc0, hf0⟩ := fr_pos hpos
    -- the pairs
    refine ⟨_, rfl, (n : Int), rfl, by omega, by omega, fun L hL => ?_⟩
    have en : ((n : Int)).toNat = n := Int.toNat_natCast n
    rw [en]
    refine lc_range (lo := 0) (n := n) (fun j H5 => ∃ ps : List Addr, Same H4 H5 ∧ H5 L = some (.lst (ps.map V.ref)) ∧ ps.length = (frees sh j).length ∧ ∀ (k : Nat) (p : Addr) (x : Nat), ps[k]? = some p → (frees sh j)[k]? = some x → H5 p = some (.tup [.int (dist (x : Int) h), .int (x : Int)]))
      ⟨[], same_upd hL, upd_same, rfl, fun k p x gp _ => by simp at gp⟩ (fun j H5 hj hP5 => ?_) (fun H5 hP5 => ?_)
    · obtain ⟨ps, t5, gL, hpl, hps⟩ := hP5
      have ez : (0 : Int) + (j : Int) = (j : Int) := Int.zero_add _
      rw [ez]
      refine ⟨rfl, _, rfl, _, rfl, shelf, _, _, _, rfl, rfl, sqL (t5 _ _ gs), atI_nat (oV_get (by omega)), rfl, _, rfl, ?_⟩
      rw [oV_isN]
      refine ite2 (fun c => ?_) (fun c => ?_)
      · refine ⟨_, rfl, _, rfl, _, _, rfl, rfl, _, rfl, _, rfl, (by show 2 ≤ sizeLine; decide), fun p hp => ?_⟩
        have t6 := same_upd (o := .tup [.int (dist (j : Int) h), .int (j : Int)]) hp
        have gp6 : (upd H5 p (.tup [.int (dist (j : Int) h), .int (j : Int)])) p = some (.tup [.int (dist (j : Int) h), .int (j : Int)]) := upd_same
        refine ⟨_, t6 _ _ gL, ?_, ps ++ [p], Same.mut (t5.trans t6) hL, ?_, ?_, fun k p' x gp gx' => ?_⟩
        · rw [List.length_map, hpl]
          have := frees_len sh j
          exact small1000 (by omega)
        · rw [upd_same, List.map_append]
          rfl
        · rw [List.length_append, frees_succ, if_pos c, List.length_append, hpl]
          rfl
        · have old : ∀ p' : Addr, ∀ o : List V, (upd H5 p (.tup [.int (dist (j : Int) h), .int (j : Int)])) p' = some (.tup o) → (upd (upd H5 p (.tup [.int (dist (j : Int) h), .int (j : Int)])) L (.lst (ps.map V.ref ++ [.ref p]))) p' = some (.tup o) := fun p' o z => by
            have ne : p' ≠ L := fun e => by
              rw [e, t6 _ _ gL] at z
              cases z
            rw [upd_ne ne]
            exact z
          rw [frees_succ, if_pos c] at gx'
          by_cases hk : k < ps.length
          · rw [List.getElem?_append_left hk] at gp
            rw [List.getElem?_append_left (by omega)] at gx'
            exact old _ _ (t6 _ _ (hps k p' x gp gx'))
          · rw [List.getElem?_append_right (by omega)] at gp
            rw [List.getElem?_append_right (by omega), ← hpl] at gx'
            have hk0 : k - ps.length = 0 := by
              have := (List.getElem?_eq_some_iff.mp gp).1
              rw [List.length_singleton] at this
              omega
            rw [hk0] at gp gx'
            have e1 : p = p' := Option.some.inj gp
            have e2 : j = x := Option.some.inj gx'
            subst e1 e2
            exact old _ _ gp6
      · refine ⟨ps, t5, gL, ?_, fun k p x gp gx' => ?_⟩
        · rw [frees_succ, if_neg c, List.append_nil]
          exact hpl
        · rw [frees_succ, if_neg c, List.append_nil] at gx'
          exact hps k p x gp gx'
    · obtain ⟨ps, t5, gL, hpl, hps⟩ := hP5
      refine ⟨L, ps, (frees sh n).map (fun (x : Nat) => [dist (x : Int) h, (x : Int)]), rfl, sqL gL, by rw [List.length_map]; exact hpl, ?_, fun i p ns gp gn => ?_, fun i p ns gp gn hb => ?_⟩
      · rw [List.length_map]
        have := mem_frees.mpr ⟨(by omega : c0 < n), getD_none.mpr hf0⟩
        exact List.length_pos_of_mem this
      · rw [List.getElem?_map] at gn
        cases gx' : (frees sh n)[i]? with
        | none => rw [gx'] at gn; cases gn
        | some x =>
          rw [gx'] at gn
          cases gn
          exact sqT (hps i p x gp gx')
      · rw [List.getElem?_map] at gn
        cases gx' : (frees sh n)[i]? with
        | none => rw [gx'] at gn; cases gn
        | some x =>
          rw [gx'] at gn
          cases gn
          have sp := spot_of gx' hb
          refine ⟨p, _, 1, .int (x : Int), rfl, rfl, sqT (hps i p x gp gx'), atI_nat (j := 1) rfl, ?_⟩
          -- shelf[spot] = hope, queue.append(spot)
          have gs5 := t5 _ _ gs
          have gq5 := t5 _ _ gq
          refine ⟨_, rfl, _, rfl, _, rfl, shelf, _, _, x, rfl, rfl, gs5, ixn' (by rw [List.length_map, hsl]; exact sp.lt), ?_⟩
          have e6 : (sh.map oV).set x (.int h) = (sh.set x (some h)).map oV := by
            rw [List.map_set]
            rfl
          rw [e6]
          have t6 : Same H (upd H5 shelf (.lst ((sh.set x (some h)).map oV))) := Same.mut (t4.trans t5) nsh
          have gq6 : (upd H5 shelf (.lst ((sh.set x (some h)).map oV))) queue = some (.lst (qs.map V.int)) := by
            rw [upd_ne nsq.symm]
            exact gq5
          have gs6 : (upd H5 shelf (.lst ((sh.set x (some h)).map oV))) shelf = some (.lst ((sh.set x (some h)).map oV)) := upd_same
          generalize upd H5 shelf (.lst ((sh.set x (some h)).map oV)) = H6 at t6 gq6 gs6
          have ql : qs.length ≤ 100 := by
            have := fl.qlen
            rw [List.length_take, Nat.min_eq_left (by omega)] at this
            omega
          refine ⟨_, rfl, .inl ⟨rfl, _, sqL gq6⟩, _, rfl, queue, _, _, rfl, rfl, gq6, by rw [List.length_map]; exact small1000 (by omega), ?_⟩
          refine ⟨sh.set x (some h), qs ++ [(x : Int)], _, _, rfl, Same.mut t6 nqu, ?_, ?_, ?_⟩
          · rw [upd_ne nsq]
            exact gs6
          · rw [upd_same, List.map_append]
            rfl
          · rw [take_snoc hi, hh]
            exact Fill.snoc fl sp
  · obtain ⟨sh, qs, y4, y5, rfl, t4, gs, gq, fl⟩ := hP
    rw [List.length_map, List.take_length] at fl
    refine ⟨_, rfl, shelf, _, rfl, .inl ⟨sqL gs, fun p hp => ?_⟩⟩
    have t5 := same_upd (o := .tup (sh.map oV)) hp
    refine ⟨_, rfl, queue, _, rfl, .inl ⟨sqL (t5 _ _ gq), fun q' hq' => ?_⟩⟩
    have t6 := same_upd (o := .tup (qs.map V.int)) hq'
    refine ⟨(by show 2 ≤ sizeLine; decide), fun t ht => ?_⟩
    have t7 := same_upd (o := .tup [.ref p, .ref q']) ht
    exact q t p q' sh qs _ (((t4.trans t5).trans t6).trans t7) (t4.free (t5.free (t6.free ht))) (t4.free hp) (t4.free (t5.free hq')) upd_same (t7 _ _ (t6 _ _ upd_same)) (t7 _ _ upd_same) fl

/-! ### _law_veiled, _law_case, _law_spoiled, _law_any -/
def spVeiled (K : PySem.W.Frag) : Sp := fun vs H Q _ => ∃ (s a : Addr) (xs : List V) (b : Nat), vs = [.ref s, .ref a] ∧ SqT K (Hid [s] H) a xs ∧ xs.length ≤ 100 ∧ Src H s (b + xs.length + 1) ∧
  ∀ (p : Addr) (ys : List V) (H' : Hp), Stay s H H' → Src H' s b → H p = none → p ≠ s → H' p = some (.tup ys) → Veil xs ys → Q (.ref p) H'
theorem veil_snoc {xs ys : List V} {i : Nat} {v y : V} (hi : xs[i]? = some v) (hv : Veil (xs.take i) ys) (h : y = v ∨ (y = .str "?" ∧ v ≠ .non)) : Veil (xs.take (i + 1)) (ys ++ [y]) := by
  have hl := hv.len
  have hlt : i < xs.length := (List.getElem?_eq_some_iff.mp hi).1
  rw [List.length_take, Nat.min_eq_left (by omega)] at hl
  refine ⟨by rw [List.length_append, List.length_take, hl, Nat.min_eq_left (by omega)]; rfl, fun j => ?_⟩
  rw [List.take_add_one, hi]
  show (ys ++ [y])[j]? = (xs.take i ++ [v])[j]? ∨ ((ys ++ [y])[j]? = some (.str "?") ∧ ∃ v', (xs.take i ++ [v])[j]? = some v' ∧ v' ≠ .non)
  by_cases hj : j < i
  · rw [List.getElem?_append_left (by omega), List.getElem?_append_left (by rw [List.length_take]; omega)]
    exact hv.at_ j
  · rw [List.getElem?_append_right (by omega), List.getElem?_append_right (by rw [List.length_take]; omega), List.length_take, Nat.min_eq_left (by omega), hl]
    cases hk : j - i with
    | zero =>
      rcases h with h | ⟨h1, h2⟩
      · exact .inl (by rw [h])
      · exact .inr ⟨by rw [h1]; rfl, v, rfl, h2⟩
    | succ k => exact .inl rfl
theorem ok_veiled (T : Bt mg) {f f1 f2 : Addr} {fd fd1 fd2 : FuncData} {k : Nat} (D : Df K mg "_law_veiled" s_law_veiled ["_law_source_here", "_law_shelf"] f fd) (k_law_draw : Kn P w K mg base (k + 1) "_law_draw" s_law_draw ["_law_source_here", "_law_bound"] spDraw f1 fd1)
    (k_law_choice : Kn P w K mg base (k + 2) "_law_choice" s_law_choice ["_law_source_here", "_law_row_here"] (spChoice K) f2 fd2) : Kn P w K mg base (k + 3) "_law_veiled" s_law_veiled ["_law_source_here", "_law_shelf"] (spVeiled K) f fd := by
  refine ⟨D, D.F.ok sc_law_veiled (fun vs H Q E h => ?_) (fun cdv A outer s H vs Q E hr h => ?_)⟩
  · obtain ⟨s', a, xs, b, rfl, _⟩ := h
    rfl
  obtain ⟨s', a, xs, b, rfl, hA, hlen, hsrc, q⟩ := h
  refine ⟨_, (pss_cons (ps_set (i := 2) sc_law_veiled.nd rfl (.inr rfl) (pe_call k_law_choice.G (hr.mono (by omega)) (by rfl) k_law_choice.D.g k_law_choice.D.F.kp k_law_choice.D.b .nil pass0 (pa_cons (pv 0) (pa_cons (pe_lst (pa_cons pe_int (pa_cons pe_int (pa_cons pe_int (pa_cons pe_int pa_nil))))) pa_nil))))
      (pss_one (ps_ret (pe_callTy (call_tupleK (K := K) rfl) (by rfl) T.tuple (by decide +kernel) (pa_cons (pe_lc (own := [("_law_part", 3)]) (by rfl) sc_law_veiled.nd (pi_tup (pv 1)) (blkOk_by (own := [("_law_part", 3)]) (N := ["_law_source_here", "_law_shelf", "_law_odds", "_law_part"]) (sc := defScope s_law_veiled) (by decide +kernel)) (fun _ _ _ _ _ => (pg_name (i := 3) sc_law_veiled.nd rfl (.inl rfl))) (fun _ _ _ _ _ => pts_nil) (fun _ _ _ _ _ => (pe_ifExp (PW.pt (pw_and (pt_cmpR op_notN (pv 3) pe_non (nomark _)) (pw_and1 (pt_cmpR op_lt (pe_call k_law_draw.G (hr.mono (by omega)) (by rfl) k_law_draw.D.g k_law_draw.D.F.kp k_law_draw.D.b .nil pass0 (pa_cons (pv 0) (pa_cons pe_int pa_nil))) (pv 2) (nomark _))))) pe_str (pv 3)))) pa_nil))))), ?_⟩
  have mS : s' ∈ [s'] := List.mem_singleton.mpr rfl
  refine ⟨_, rfl, (by show 4 ≤ sizeLine; decide), fun l hl => ?_⟩
  have s1 := same_upd (o := .lst [.int 0, .int 2, .int 5, .int 8]) hl
  have nl : l ∉ [s'] := fun z => by
    obtain ⟨o, y⟩ := src_has hsrc
    rw [← List.mem_singleton.mp z, hl] at y
    cases y
  refine ⟨s', l, [.int 0, .int 2, .int 5, .int 8], b + xs.length, rfl, sqL_hid nl upd_same, by decide, by decide, hsrc.elim fun o z => ⟨o, s1 _ _ z.1, z.2⟩, fun i v o gi hO => ?_⟩
  obtain ⟨z, ez⟩ : ∃ z : Int, v = .int z := by
    rcases i with _ | _ | _ | _ | i
    · exact ⟨_, (Option.some.inj gi).symm⟩
    · exact ⟨_, (Option.some.inj gi).symm⟩
    · exact ⟨_, (Option.some.inj gi).symm⟩
    · exact ⟨_, (Option.some.inj gi).symm⟩
    · simp at gi
  subst ez
  have st1 : Stay s' H (upd (upd H l (.lst [.int 0, .int 2, .int 5, .int 8])) s' o) := (Stay.of s1).trans stay_upd
  have sr1 : Src (upd (upd H l (.lst [.int 0, .int 2, .int 5, .int 8])) s' o) s' (b + xs.length) := ⟨o, upd_same, hO⟩
  generalize upd (upd H l (.lst [.int 0, .int 2, .int 5, .int 8])) s' o = H1 at st1 sr1
  refine ⟨_, rfl, a, rfl, ⟨_, Same.tup same_hid (Same.tup (hid_stay mS st1) hA)⟩, fun L hL => ?_⟩
  have nL : L ≠ s' := fun e => by
    obtain ⟨o, y⟩ := src_has sr1
    rw [← e, hL] at y
    cases y
  have nHL : H L = none := by
    cases hq : H L with
    | none => rfl
    | some u =>
      have := st1 L u nL hq
      rw [hL] at this
      cases this
  refine lc_tup (xs := xs) (fun i H2 => ∃ ys : List V, Stay s' H H2 ∧ Src H2 s' (b + (xs.length - i)) ∧ H2 L = some (.lst ys) ∧ Veil (xs.take i) ys)
    ⟨[], st1.mut nHL, sr1.elim fun o z => ⟨o, by rw [upd_ne nL.symm]; exact z.1, z.2⟩, upd_same, ⟨rfl, fun j => .inl rfl⟩⟩ (fun i H2 _ hP => ?_) (fun i x H2 gx hP => ?_) (fun H2 hP => ?_)
  · obtain ⟨ys, st2, _⟩ := hP
    exact Same.tup same_hid (Same.tup (hid_stay mS st2) hA)
  · obtain ⟨ys, st2, sr2, gL, vl⟩ := hP
    have hi : i < xs.length := (List.getElem?_eq_some_iff.mp gx).1
    have hyl := vl.len
    rw [List.length_take, Nat.min_eq_left (by omega)] at hyl
    have fin : ∀ (y : V) (H3 : Hp), Stay s' H H3 → Src H3 s' (b + (xs.length - (i + 1))) → H3 L = some (.lst ys) → (y = x ∨ (y = .str "?" ∧ x ≠ .non)) →
        ∃ acc, H3 L = some (.lst acc) ∧ acc.length < sizeLine ∧ ∃ ys2 : List V, Stay s' H (upd H3 L (.lst (acc ++ [y]))) ∧ Src (upd H3 L (.lst (acc ++ [y]))) s' (b + (xs.length - (i + 1))) ∧ (upd H3 L (.lst (acc ++ [y]))) L = some (.lst ys2) ∧ Veil (xs.take (i + 1)) ys2 := fun y H3 st3 sr3 g3 hy =>
      ⟨ys, g3, small1000 (by omega), ys ++ [y], st3.mut nHL, sr3.elim fun o z => ⟨o, by rw [upd_ne nL.symm]; exact z.1, z.2⟩, upd_same, veil_snoc gx vl hy⟩
    refine ⟨rfl, _, rfl, rfl, _, rfl, ?_⟩
    by_cases hx : x = .non
    · subst hx
      refine iteF ?_
      exact iteF ⟨_, rfl, fin _ _ st2 (sr2.mono (by omega)) gL (.inl rfl)⟩
    · rw [decide_eq_false hx]
      refine iteT ?_
      refine ⟨_, rfl, s', 9, b + (xs.length - (i + 1)), rfl, by decide, by decide, sr2.mono (by omega), fun r o ra rb hO => ?_⟩
      have g3 : (upd H2 s' o) L = some (.lst ys) := by
        rw [upd_ne nL]
        exact gL
      refine ⟨_, rfl, _, _, rfl, rfl, _, rfl, ite2 (fun c => ?_) (fun c => ?_)⟩
      · exact fin _ _ (st2.trans stay_upd) ⟨o, upd_same, hO⟩ g3 (.inr ⟨rfl, hx⟩)
      · exact ⟨_, rfl, fin _ _ (st2.trans stay_upd) ⟨o, upd_same, hO⟩ g3 (.inl rfl)⟩
  · obtain ⟨ys, st2, sr2, gL, vl⟩ := hP
    rw [List.take_length] at vl
    refine ⟨L, _, rfl, .inl ⟨sqL gL, fun p hp => ?_⟩⟩
    have np : p ≠ s' := fun e => by
      obtain ⟨o, y⟩ := src_has sr2
      rw [← e, hp] at y
      cases y
    have nHp : H p = none := by
      cases hq : H p with
      | none => rfl
      | some u =>
        have := st2 p u np hq
        rw [hp] at this
        cases this
    exact q p ys _ (st2.trans (Stay.of (same_upd hp))) (sr2.elim fun o z => ⟨o, same_upd hp _ _ z.1, z.2.mono (by omega)⟩) nHp np upd_same vl
/-- what _law_case gives: the filled row of n cells, veiled, and the cells in order -/
structure CaseR (s : Addr) (H H' : Hp) (m : Nat) (t p q : Addr) (n : Nat) (hs : List Int) (sh : List (Option Int)) (qs : List Int) (ys : List V) : Prop where
  st : Stay s H H'
  nt : t ≠ s
  np : p ≠ s
  nq : q ≠ s
  gt : H' t = some (.tup [.ref p, .ref q])
  gp : H' p = some (.tup ys)
  gq : H' q = some (.tup (qs.map V.int))
  n1 : 1 ≤ n
  nm : n ≤ m
  hl : hs.length ≤ n
  hr : ∀ h ∈ hs, 0 ≤ h ∧ h < (n : Int)
  fl : Fill n hs sh qs
  vl : Veil (sh.map oV) ys
def spCase : Sp := fun vs H Q _ => ∃ (s : Addr) (m b : Nat), vs = [.ref s, .int m] ∧ 1 ≤ m ∧ m ≤ 90 ∧ Src H s (b + 2 * m + 8) ∧
  ∀ (t p q : Addr) (n : Nat) (hs : List Int) (sh : List (Option Int)) (qs : List Int) (ys : List V) (H' : Hp), CaseR s H H' m t p q n hs sh qs ys → Src H' s b → H t = none → H p = none → H q = none → Q (.ref t) H'
theorem ok_case (T : Bt mg) {f f1 f2 f3 f4 : Addr} {fd fd1 fd2 fd3 fd4 : FuncData} (D : Df K mg "_law_case" s_law_case ["_law_source_here", "_law_most"] f fd) (k_law_draw : Kn P w K mg base 1 "_law_draw" s_law_draw ["_law_source_here", "_law_bound"] spDraw f1 fd1)
    (k_law_hopes : Kn P w K mg base 2 "_law_hopes" s_law_hopes ["_law_source_here", "_law_width"] spHopes f2 fd2) (k_law_fill : Kn P w K mg base 1 "_law_fill" s_law_fill ["_law_width", "_law_hopes_here"] (spFill K) f3 fd3) (k_law_veiled : Kn P w K mg base 3 "_law_veiled" s_law_veiled ["_law_source_here", "_law_shelf"] (spVeiled K) f4 fd4) :
    Kn P w K mg base 4 "_law_case" s_law_case ["_law_source_here", "_law_most"] spCase f fd := by
  refine ⟨D, D.F.ok sc_law_case (fun vs H Q E h => ?_) (fun cdv A outer s H vs Q E hr h => ?_)⟩
  · obtain ⟨s', m, b, rfl, _⟩ := h
    rfl
  obtain ⟨s', m, b, rfl, hm1, hm, hsrc, q⟩ := h
  refine ⟨_, (pss_cons (ps_set (i := 2) sc_law_case.nd rfl (.inl rfl) (pe_op op_add pe_int (pe_call k_law_draw.G (hr.mono (by omega)) (by rfl) k_law_draw.D.g k_law_draw.D.F.kp k_law_draw.D.b .nil pass0 (pa_cons (pv 0) (pa_cons (pv 1) pa_nil)))))
      (pss_cons (ps_asg (pe_call k_law_fill.G (hr.mono (by omega)) (by rfl) k_law_fill.D.g k_law_fill.D.F.kp k_law_fill.D.b .nil pass0 (pa_cons (pv 2) (pa_cons (pe_call k_law_hopes.G (hr.mono (by omega)) (by rfl) k_law_hopes.D.g k_law_hopes.D.F.kp k_law_hopes.D.b .nil pass0 (pa_cons (pv 0) (pa_cons (pv 2) pa_nil))) pa_nil))) (pg_tup (by rfl) (pgs_cons (pg_name (i := 3) sc_law_case.nd rfl (.inl rfl)) (pgs_cons (pg_name (i := 4) sc_law_case.nd rfl (.inl rfl)) pgs_nil))))
      (pss_one (ps_ret (pe_tup (pa_cons (pe_call k_law_veiled.G (hr.mono (by omega)) (by rfl) k_law_veiled.D.g k_law_veiled.D.F.kp k_law_veiled.D.b .nil pass0 (pa_cons (pv 0) (pa_cons (pv 3) pa_nil))) (pa_cons (pv 4) pa_nil))))))), ?_⟩
  refine ⟨_, rfl, _, rfl, s', (m : Int), b + 2 * m + 7, rfl, by omega, by omega, hsrc, fun r o ra rb hO => ⟨_, _, rfl, rfl, ?_⟩⟩
  obtain ⟨n, hn⟩ : ∃ n : Nat, 1 + r = (n : Int) := ⟨(1 + r).toNat, by omega⟩
  dsimp only
  rw [hn]
  have st1 : Stay s' H (upd H s' o) := stay_upd
  have sr1 : Src (upd H s' o) s' (b + 2 * m + 7) := ⟨o, upd_same, hO⟩
  generalize upd H s' o = H1 at st1 sr1
  have fresh : ∀ {p : Addr} {H' : Hp}, Stay s' H H' → p ≠ s' → H' p = none → H p = none := fun {p H'} st np hp => by
    cases hq : H p with
    | none => rfl
    | some u =>
      have := st p u np hq
      rw [hp] at this
      cases this
  refine ⟨_, rfl, _, rfl, _, rfl, s', n, b + n + 4, rfl, by omega, by omega, sr1.mono (by omega), fun p0 hs H2 st2 sr2 nh0 np0 g0 hl hr' => ?_⟩
  refine ⟨n, p0, hs, rfl, sqL g0, by omega, hl, fun t0 p1 q1 sh qs H3 s3 nt0 np1 nq1 gt gp gq fl => ?_⟩
  have hs2 := src_has sr2
  have ne1 : p1 ≠ s' := fun e => by
    obtain ⟨o, y⟩ := hs2
    rw [← e, np1] at y
    cases y
  have ne2 : q1 ≠ s' := fun e => by
    obtain ⟨o, y⟩ := hs2
    rw [← e, nq1] at y
    cases y
  have st3 : Stay s' H H3 := (st1.trans st2).trans (Stay.of s3)
  have sr3 : Src H3 s' (b + n + 4) := sr2.elim fun o z => ⟨o, s3 _ _ z.1, z.2⟩
  refine ⟨t0, [.ref p1, .ref q1], rfl, sqT gt, rfl, .ref p1, [.ref q1], rfl, .ref q1, [], rfl, rfl, ?_⟩
  have hsl := fl.len
  refine ⟨_, rfl, _, rfl, s', p1, sh.map oV, b + 3, rfl, sqT_hid (fun z => ne1 (List.mem_singleton.mp z)) gp, by rw [List.length_map]; omega, by rw [List.length_map]; exact sr3.mono (by omega), fun p2 ys H4 st4 sr4 np2 ne3 gy vl => ?_⟩
  refine ⟨_, rfl, (by show 2 ≤ sizeLine; decide), fun t2 ht2 => ?_⟩
  have ne4 : t2 ≠ s' := fun e => by
    obtain ⟨o, y⟩ := src_has sr4
    rw [← e, ht2] at y
    cases y
  have t5 := same_upd (o := .tup [.ref p2, .ref q1]) ht2
  have st5 := (st3.trans st4).trans (Stay.of t5)
  exact q t2 p2 q1 n hs sh qs ys _ ⟨st5, ne4, ne3, ne2, upd_same, t5 _ _ gy, t5 _ _ (st4 _ _ ne2 gq), by omega, by omega, hl, hr', fl, vl⟩ (sr4.elim fun o z => ⟨o, t5 _ _ z.1, z.2.mono (by omega)⟩) (fresh (st3.trans st4) ne4 ht2) (fresh st3 ne3 np2) (fresh (st1.trans st2) ne2 nq1)

/-! ### _law_spoiled -/
def spSpoiled (K : PySem.W.Frag) : Sp := fun vs H Q _ => ∃ (s a : Addr) (xs : List V) (b : Nat), vs = [.ref s, .ref a] ∧ SqT K (Hid [s] H) a xs ∧ 1 ≤ xs.length ∧ xs.length ≤ 100 ∧ (∀ x ∈ xs, TabV xs.length x) ∧ Src H s (b + 8) ∧
  ∀ (p : Addr) (ys : List V) (H' : Hp), Stay s H H' → Src H' s b → H p = none → p ≠ s → H' p = some (.tup ys) → ys.length = xs.length → (∀ y ∈ ys, TabV xs.length y) → Q (.ref p) H'
theorem rg_mem {n : Nat} {v : V} (h : v ∈ rgV 0 (n : Int)) : TabV n v := by
  unfold rgV at h
  obtain ⟨i, hi, rfl⟩ := List.mem_map.mp h
  have hi' := List.mem_range.mp hi
  exact .inr (.inr ⟨i, by rw [Int.zero_add], by omega⟩)
theorem ok_spoiled (T : Bt mg) {f f1 f2 : Addr} {fd fd1 fd2 : FuncData} {k : Nat} (D : Df K mg "_law_spoiled" s_law_spoiled ["_law_source_here", "_law_shelf"] f fd) (k_law_draw : Kn P w K mg base (k + 1) "_law_draw" s_law_draw ["_law_source_here", "_law_bound"] spDraw f1 fd1)
    (k_law_choice : Kn P w K mg base (k + 2) "_law_choice" s_law_choice ["_law_source_here", "_law_row_here"] (spChoice K) f2 fd2) : Kn P w K mg base (k + 3) "_law_spoiled" s_law_spoiled ["_law_source_here", "_law_shelf"] (spSpoiled K) f fd := by
  refine ⟨D, D.F.ok sc_law_spoiled (fun vs H Q E h => ?_) (fun cdv A outer s H vs Q E hr h => ?_)⟩
  · obtain ⟨s', a, xs, b, rfl, _⟩ := h
    rfl
  obtain ⟨s', a, xs, b, rfl, hA, hl1, hlen, hall, hsrc, q⟩ := h
  refine ⟨_, (pss_cons (ps_set (i := 2) sc_law_spoiled.nd rfl (.inl rfl) (pe_callTy (call_listK (K := K) rfl) (by rfl) T.list (by decide +kernel) (pa_cons (pv 1) pa_nil)))
      (pss_cons (ps_for PassesOwn.never rfl (pi_range1 (by rfl) T.range (pa_cons (pe_op op_add pe_int (pe_call k_law_draw.G (hr.mono (by omega)) (by rfl) k_law_draw.D.g k_law_draw.D.F.kp k_law_draw.D.b .nil pass0 (pa_cons (pv 0) (pa_cons pe_int pa_nil)))) pa_nil)) (pg_name (i := 3) sc_law_spoiled.nd rfl (.inl rfl)) (pss_one (ps_asg (pe_call k_law_choice.G (hr.mono (by omega)) (by rfl) k_law_choice.D.g k_law_choice.D.F.kp k_law_choice.D.b .nil pass0 (pa_cons (pv 0) (pa_cons (pe_op op_cat (pe_op op_rep (pe_listRg (by rfl) (by rfl) T.list (prg_1 (by rfl) T.range (pe_callB (call_lenK (K := K) rfl) (by rfl) T.len (by decide +kernel) (pa_cons (pv 1) pa_nil)))) pe_int) (pe_lst (pa_cons pe_non (pa_cons pe_str pa_nil)))) pa_nil))) (pg_sub (pv 2) (pe_call k_law_draw.G (hr.mono (by omega)) (by rfl) k_law_draw.D.g k_law_draw.D.F.kp k_law_draw.D.b .nil pass0 (pa_cons (pv 0) (pa_cons (pe_callB (call_lenK (K := K) rfl) (by rfl) T.len (by decide +kernel) (pa_cons (pv 1) pa_nil)) pa_nil))) set_list))))
      (pss_one (ps_ret (pe_callTy (call_tupleK (K := K) rfl) (by rfl) T.tuple (by decide +kernel) (pa_cons (pv 2) pa_nil)))))), ?_⟩
  have mS : s' ∈ [s'] := List.mem_singleton.mpr rfl
  have apart : ∀ {p : Addr} {H' : Hp} {m : Nat}, Src H' s' m → H' p = none → p ≠ s' := fun {p H' m} sr hp e => by
    obtain ⟨o, y⟩ := src_has sr
    rw [← e, hp] at y
    cases y
  have fresh : ∀ {p : Addr} {H' : Hp}, Stay s' H H' → p ≠ s' → H' p = none → H p = none := fun {p H'} st np hp => by
    cases hq : H p with
    | none => rfl
    | some u =>
      have := st p u np hq
      rw [hp] at this
      cases this
  refine ⟨_, rfl, a, xs, rfl, .inr (Same.tup same_hid hA), fun L hL => ?_⟩
  have nL := apart hsrc hL
  have st1 : Stay s' H (upd H L (.lst xs)) := Stay.of (same_upd hL)
  have sr1 : Src (upd H L (.lst xs)) s' (b + 8) := hsrc.elim fun o z => ⟨o, same_upd hL _ _ z.1, z.2⟩
  have g1 : (upd H L (.lst xs)) L = some (.lst xs) := upd_same
  generalize upd H L (.lst xs) = H1 at st1 sr1 g1
  refine ⟨_, rfl, s', 3, b + 7, rfl, by decide, by decide, sr1, fun r o ra rb hO => ⟨_, _, rfl, rfl, ?_⟩⟩
  have st2 : Stay s' H (upd H1 s' o) := st1.trans stay_upd
  have sr2 : Src (upd H1 s' o) s' (b + 7) := ⟨o, upd_same, hO⟩
  have g2 : (upd H1 s' o) L = some (.lst xs) := by
    rw [upd_ne nL]
    exact g1
  generalize upd H1 s' o = H2 at st2 sr2 g2
  obtain ⟨m, hm⟩ : ∃ m : Nat, 1 + r = (m : Int) := ⟨(1 + r).toNat, by omega⟩
  refine ⟨1 + r, rfl, by omega, by omega, ?_⟩
  have en : (1 + r).toNat = m := by omega
  rw [en]
  refine for_range (lo := 0) (n := m) (fun i σ H' => ∃ (ys : List V) (y3 : Option V), σ = [some (.ref s'), some (.ref a), some (.ref L), y3] ∧ Stay s' H H' ∧ Src H' s' (b + 2 * (m - i)) ∧ H' L = some (.lst ys) ∧ ys.length = xs.length ∧ ∀ y ∈ ys, TabV xs.length y)
    ⟨xs, _, rfl, st2, sr2.mono (by omega), g2, rfl, hall⟩ (fun i σ H3 hi hP => ?_) (fun σ H3 hP => ?_)
  · obtain ⟨ys, y3, rfl, st3, sr3, g3, hyl, hya⟩ := hP
    have hA3 := Same.tup same_hid (Same.tup (hid_stay mS st3) hA)
    -- the value
    refine ⟨_, rfl, _, rfl, a, xs, rfl, .inr hA3, _, rfl, RgOk.of_le (by omega) (by omega) (by omega) (by omega), fun l1 hl1' => ?_⟩
    have s4 := same_upd (o := .lst (rgV 0 (xs.length : Int))) hl1'
    refine ⟨l1, 2, _, rfl, rfl, upd_same, by decide, by decide, small (by rw [rgV_length]; show ((xs.length : Int) - 0).toNat * 2 ≤ 1000; omega), fun l2 hl2' => ?_⟩
    have er : (List.replicate (2 : Int).toNat (rgV 0 (xs.length : Int))).flatten = rgV 0 (xs.length : Int) ++ rgV 0 (xs.length : Int) := by
      show (rgV 0 (xs.length : Int) ++ (rgV 0 (xs.length : Int) ++ [])) = _
      rw [List.append_nil]
    rw [er]
    have s5 := same_upd (o := .lst (rgV 0 (xs.length : Int) ++ rgV 0 (xs.length : Int))) hl2'
    refine ⟨(by show 2 ≤ sizeLine; decide), fun l3 hl3' => ?_⟩
    have s6 := same_upd (o := .lst [.non, .str "?"]) hl3'
    refine ⟨l2, l3, _, _, rfl, rfl, s6 _ _ upd_same, upd_same, small (by rw [List.length_append, rgV_length]; show ((xs.length : Int) - 0).toNat + ((xs.length : Int) - 0).toNat + 2 ≤ 1000; omega), fun l4 hl4' => ?_⟩
    have s7 := same_upd (o := .lst ((rgV 0 (xs.length : Int) ++ rgV 0 (xs.length : Int)) ++ [.non, .str "?"])) hl4'
    have t7 := ((s4.trans s5).trans s6).trans s7
    have sr7 := sr3.elim fun o z => (⟨o, t7 _ _ z.1, z.2⟩ : Src _ s' (b + 2 * (m - i)))
    refine ⟨s', l4, _, b + 2 * (m - i) - 1, rfl, sqL_hid (fun z => apart (sr3.elim fun o z => ⟨o, ((s4.trans s5).trans s6) _ _ z.1, z.2⟩) hl4' (List.mem_singleton.mp z)) upd_same, by rw [List.length_append]; exact Nat.succ_pos _, by rw [List.length_append, List.length_append, rgV_length]; show ((xs.length : Int) - 0).toNat + ((xs.length : Int) - 0).toNat + 2 ≤ 1000; omega, Src.mono sr7 (by omega), fun j v o gj hO => ?_⟩
    have hv : TabV xs.length v := by
      rcases List.mem_append.mp (List.mem_of_getElem? gj) with z | z
      · rcases List.mem_append.mp z with z | z
        · exact rg_mem z
        · exact rg_mem z
      · rcases List.mem_cons.mp z with z | z
        · exact .inl z
        · exact .inr (.inl (List.mem_singleton.mp z))
    have st8 := (st3.trans (Stay.of t7)).trans (stay_upd (o := o))
    have g8 : (upd (upd (upd (upd (upd H3 l1 (.lst (rgV 0 (xs.length : Int)))) l2 (.lst (rgV 0 (xs.length : Int) ++ rgV 0 (xs.length : Int)))) l3 (.lst [.non, .str "?"])) l4 (.lst ((rgV 0 (xs.length : Int) ++ rgV 0 (xs.length : Int)) ++ [.non, .str "?"]))) s' o) L = some (.lst ys) := by
      rw [upd_ne nL]
      exact t7 _ _ g3
    have sr8 : Src (upd (upd (upd (upd (upd H3 l1 (.lst (rgV 0 (xs.length : Int)))) l2 (.lst (rgV 0 (xs.length : Int) ++ rgV 0 (xs.length : Int)))) l3 (.lst [.non, .str "?"])) l4 (.lst ((rgV 0 (xs.length : Int) ++ rgV 0 (xs.length : Int)) ++ [.non, .str "?"]))) s' o) s' (b + 2 * (m - i) - 1) := ⟨o, upd_same, hO⟩
    generalize upd (upd (upd (upd (upd H3 l1 (.lst (rgV 0 (xs.length : Int)))) l2 (.lst (rgV 0 (xs.length : Int) ++ rgV 0 (xs.length : Int)))) l3 (.lst [.non, .str "?"])) l4 (.lst ((rgV 0 (xs.length : Int) ++ rgV 0 (xs.length : Int)) ++ [.non, .str "?"]))) s' o = H8 at st8 g8 sr8
    have hA8 := Same.tup same_hid (Same.tup (hid_stay mS st8) hA)
    -- the place
    refine ⟨_, rfl, _, rfl, _, rfl, a, xs, rfl, .inr hA8, s', (xs.length : Int), b + 2 * (m - (i + 1)), rfl, by omega, by omega, sr8.mono (by omega), fun rr oo rra rrb hOO => ?_⟩
    have g9 : (upd H8 s' oo) L = some (.lst ys) := by
      rw [upd_ne nL]
      exact g8
    obtain ⟨c, hc⟩ : ∃ c : Nat, rr = (c : Int) := ⟨rr.toNat, by omega⟩
    subst hc
    refine ⟨L, ys, (c : Int), c, rfl, rfl, g9, ixn' (by omega), ?_⟩
    refine ⟨ys.set c v, _, rfl, (st8.trans stay_upd).mut (fresh (Stay.refl _ _) nL hL), ⟨oo, by rw [upd_ne nL.symm, upd_same], hOO⟩, upd_same, by rw [List.length_set]; exact hyl, fun y hy => ?_⟩
    rcases List.mem_or_eq_of_mem_set hy with hy | hy
    · exact hya y hy
    · rw [hy]
      exact hv
  · obtain ⟨ys, y3, rfl, st3, sr3, g3, hyl, hya⟩ := hP
    refine ⟨_, rfl, L, _, rfl, .inl ⟨sqL g3, fun p hp => ?_⟩⟩
    have np := apart sr3 hp
    exact q p ys _ (st3.trans (Stay.of (same_upd hp))) (sr3.elim fun o z => ⟨o, same_upd hp _ _ z.1, z.2.mono (by omega)⟩) (fresh st3 np hp) np upd_same hyl hya

/-! ### _law_any -/
/-- a table (or what could be one) of at most m cells -/
def spAny : Sp := fun vs H Q _ => ∃ (s : Addr) (m b : Nat), vs = [.ref s, .int m] ∧ 1 ≤ m ∧ m ≤ 90 ∧ Src H s (b + 2 * m + 20) ∧
  ∀ (p : Addr) (ys : List V) (H' : Hp), Stay s H H' → Src H' s b → H p = none → p ≠ s → H' p = some (.tup ys) → 1 ≤ ys.length → ys.length ≤ m → (∀ y ∈ ys, TabV ys.length y) → Q (.ref p) H'
theorem ok_any (T : Bt mg) {f f1 f2 f3 : Addr} {fd fd1 fd2 fd3 : FuncData} (D : Df K mg "_law_any" s_law_any ["_law_source_here", "_law_most"] f fd) (k_law_draw : Kn P w K mg base 1 "_law_draw" s_law_draw ["_law_source_here", "_law_bound"] spDraw f1 fd1)
    (k_law_case : Kn P w K mg base 4 "_law_case" s_law_case ["_law_source_here", "_law_most"] spCase f2 fd2) (k_law_spoiled : Kn P w K mg base 3 "_law_spoiled" s_law_spoiled ["_law_source_here", "_law_shelf"] (spSpoiled K) f3 fd3) : Kn P w K mg base 5 "_law_any" s_law_any ["_law_source_here", "_law_most"] spAny f fd := by
  refine ⟨D, D.F.ok sc_law_any (fun vs H Q E h => ?_) (fun cdv A outer s H vs Q E hr h => ?_)⟩
  · obtain ⟨s', m, b, rfl, _⟩ := h
    rfl
  obtain ⟨s', m, b, rfl, hm1, hm, hsrc, q⟩ := h
  refine ⟨_, (pss_cons (ps_asg (pe_call k_law_case.G (hr.mono (by omega)) (by rfl) k_law_case.D.g k_law_case.D.F.kp k_law_case.D.b .nil pass0 (pa_cons (pv 0) (pa_cons (pv 1) pa_nil))) (pg_tup (by rfl) (pgs_cons (pg_name (i := 2) sc_law_any.nd rfl (.inl rfl)) (pgs_cons (pg_name (i := 3) sc_law_any.nd rfl (.inl rfl)) pgs_nil))))
      (pss_one (ps_ret (pe_ifExp (pt_cmpR op_eq (pe_call k_law_draw.G (hr.mono (by omega)) (by rfl) k_law_draw.D.g k_law_draw.D.F.kp k_law_draw.D.b .nil pass0 (pa_cons (pv 0) (pa_cons pe_int pa_nil))) pe_int (nomark _)) (pe_call k_law_spoiled.G (hr.mono (by omega)) (by rfl) k_law_spoiled.D.g k_law_spoiled.D.F.kp k_law_spoiled.D.b .nil pass0 (pa_cons (pv 0) (pa_cons (pv 2) pa_nil))) (pv 2))))), ?_⟩
  refine ⟨_, rfl, _, rfl, s', m, b + 9, rfl, hm1, hm, hsrc.mono (by omega), fun t p q' n hs sh qs ys H1 c sr1 nt np nq => ?_⟩
  obtain ⟨hyl, hyt⟩ := veil_tab c.fl c.hr c.vl
  have hn1 := c.n1
  have hnm := c.nm
  refine ⟨t, [.ref p, .ref q'], rfl, sqT c.gt, rfl, .ref p, [.ref q'], rfl, .ref q', [], rfl, rfl, ?_⟩
  refine ⟨_, rfl, s', 2, b + 8, rfl, by decide, by decide, sr1, fun r o ra rb hO => ⟨rfl, _, rfl, ?_⟩⟩
  have st2 : Stay s' H (upd H1 s' o) := c.st.trans stay_upd
  have sr2 : Src (upd H1 s' o) s' (b + 8) := ⟨o, upd_same, hO⟩
  have gp2 : (upd H1 s' o) p = some (.tup ys) := by
    rw [upd_ne c.np]
    exact c.gp
  generalize upd H1 s' o = H2 at st2 sr2 gp2
  refine ite2 (fun cc => ?_) (fun cc => ?_)
  · refine ⟨_, rfl, _, rfl, s', p, ys, b, rfl, sqT_hid (fun z => c.np (List.mem_singleton.mp z)) gp2, by omega, by omega, by rw [hyl]; exact hyt, sr2, fun p3 zs H3 st3 sr3 np3 ne3 g3 hzl hzt => ?_⟩
    refine q p3 zs H3 (st2.trans st3) sr3 ?_ ne3 g3 (by omega) (by omega) (by rw [hzl]; exact hzt)
    cases hq : H p3 with
    | none => rfl
    | some u =>
      have := st2 p3 u ne3 hq
      rw [np3] at this
      cases this
  · exact ⟨_, rfl, q p ys H2 st2 (sr2.mono (by omega)) np c.np gp2 (by omega) (by omega) (by rw [hyl]; exact hyt)⟩

/-! ### _law_holds (k07) -/
def vA : List PyData := [.none, .tuple [], .list [], .int 0, .str "gap", .tuple [.int 0], .tuple [.int 0, .int 0], .tuple [.bool true, .int 0], .tuple [.int 1, .bool false], .list [.int 0, .int 1], .tuple [.none, .none]]
def vB : List PyData := [.tuple [.int 0, .int 1, .int 2], .tuple [.int (-1), .int 0]]
theorem vAB_sm : ∀ x ∈ vA ++ vB, Sm 2 10 9 x := by
  have h : (vA ++ vB).all (smB 2 10 9) = true := by decide +kernel
  rw [List.all_eq_true] at h
  exact fun d hd => sm_of (h d hd)
theorem pair_sm {z : Int} {j : Nat} (h1 : -1 ≤ z) (h2 : z ≤ 8) (hj : j ≤ 8) : Sm 2 10 9 (.tuple [.int z, .int (j : Int)]) := by
  have h : ∀ a : Fin 10, ∀ b : Fin 9, smB 2 10 9 (.tuple [.int ((a : Nat) - 1 : Int), .int ((b : Nat) : Int)]) = true := by decide +kernel
  have e : z = (((⟨(z + 1).toNat, by omega⟩ : Fin 10) : Nat) : Int) - 1 := by
    show z = ((z + 1).toNat : Int) - 1
    omega
  rw [e]
  exact sm_of (h _ ⟨j, by omega⟩)
def spHolds : Sp := fun vs H Q _ => ∃ (s : Addr) (b : Nat), vs = [.ref s] ∧ Src H s (b + 4000) ∧ ∀ H', Stay s H H' → Src H' s b → Q (.bl true) H'
theorem ok_holds (T : Bt mg) {f f1 f2 f3 f4 f5 f6 f7 f8 f9 f10 : Addr} {fd fd1 fd2 fd3 fd4 fd5 fd6 fd7 fd8 fd9 fd10 : FuncData} (D : Df K mg "_law_holds" s_law_holds ["_law_source_here"] f fd)
    (k_shows_gap : Kn P w K mg base 10 "shows_gap" s_shows_gap ["table", "thing"] (spTell K gapD) f1 fd1) (k_shows_both : Kn P w K mg base 10 "shows_both" s_shows_both ["table", "thing"] (spTell K bothD) f2 fd2)
    (k_law_equal : Kn P w K mg base 4 "_law_equal" s_law_equal ["_law_found", "_law_due"] (spEqual K 4) f3 fd3) (k_law_any : Kn P w K mg base 5 "_law_any" s_law_any ["_law_source_here", "_law_most"] spAny f4 fd4)
    (k_law_bent : Kn P w K mg base 33 "_law_bent" s_law_bent ["_law_source_here", "_law_value"] (spBent K 30) f5 fd5) (k_law_spoiled : Kn P w K mg base 3 "_law_spoiled" s_law_spoiled ["_law_source_here", "_law_shelf"] (spSpoiled K) f6 fd6)
    (k_law_full_spots : Kn P w K mg base 1 "_law_full_spots" s_law_full_spots ["_law_shelf"] (spSpots K) f7 fd7) (k_law_wanted : Kn P w K mg base 2 "_law_wanted" s_law_wanted ["_law_shelf", "_law_spot"] (spWanted K) f8 fd8)
    (k_law_choice : Kn P w K mg base 2 "_law_choice" s_law_choice ["_law_source_here", "_law_row_here"] (spChoice K) f9 fd9) (k_law_integer : Kn P w K mg base 1 "_law_integer" s_law_integer ["_law_value"] (spInteger K) f10 fd10) : FnOkG P w K mg base 34 f fd ["_law_source_here"] spHolds := by
  refine okG D.F sc_law_holds (fun vs H Q E h => ?_) (fun cdv A outer s H vs Q E hgd hr h => ?_)
  · obtain ⟨s', b0, rfl, _⟩ := h
    rfl
  obtain ⟨s', b0, rfl, hsrc, q⟩ := h
  change Src H s' (b0 + 4000) at hsrc
  refine ⟨_, (pss_cons (ps_set (i := 1) sc_law_holds.nd rfl (.inl rfl) (pe_call k_law_spoiled.G (hr.mono (by omega)) (by rfl) k_law_spoiled.D.g k_law_spoiled.D.F.kp k_law_spoiled.D.b .nil pass0 (pa_cons (pv 0) (pa_cons (pe_call k_law_any.G (hr.mono (by omega)) (by rfl) k_law_any.D.g k_law_any.D.F.kp k_law_any.D.b .nil pass0 (pa_cons (pv 0) (pa_cons pe_int pa_nil))) pa_nil))))
      (pss_cons (ps_par (i := 2) (j := 3) (by rfl) sc_law_holds.nd rfl rfl (by decide) rfl rfl (pa_cons (pe_call k_law_full_spots.G (hr.mono (by omega)) (by rfl) k_law_full_spots.D.g k_law_full_spots.D.F.kp k_law_full_spots.D.b .nil pass0 (pa_cons (pv 1) pa_nil)) (pa_cons (pe_callB (call_lenK (K := K) rfl) (by rfl) T.len (by decide +kernel) (pa_cons (pv 1) pa_nil)) pa_nil)) (by rfl))
      (pss_cons (ps_set (i := 4) sc_law_holds.nd rfl (.inl rfl) (pe_lst (pa_cons pe_non (pa_cons (pe_tup pa_nil) (pa_cons (pe_lst pa_nil) (pa_cons pe_int (pa_cons pe_str (pa_cons (pe_tup (pa_cons pe_int pa_nil)) (pa_cons (pe_tup (pa_cons pe_int (pa_cons pe_int pa_nil))) (pa_cons (pe_tup (pa_cons pe_bl (pa_cons pe_int pa_nil))) (pa_cons (pe_tup (pa_cons pe_int (pa_cons pe_bl pa_nil))) (pa_cons (pe_lst (pa_cons pe_int (pa_cons pe_int pa_nil))) (pa_cons (pe_tup (pa_cons pe_non (pa_cons pe_non pa_nil))) pa_nil)))))))))))))
      (pss_cons (ps_set (i := 4) sc_law_holds.nd rfl (.inl rfl) (pe_op op_cat (pv 4) (pe_lst (pa_cons (pe_tup (pa_cons pe_int (pa_cons pe_int (pa_cons pe_int pa_nil)))) (pa_cons (pe_tup (pa_cons (pe_un un_neg pe_int) (pa_cons pe_int pa_nil))) pa_nil)))))
      (pss_cons (ps_for PassesOwn.never rfl (pi_range2 (by rfl) T.range (pa_cons (pe_un un_neg pe_int) (pa_cons (pe_op op_add (pv 3) pe_int) pa_nil))) (pg_name (i := 5) sc_law_holds.nd rfl (.inr rfl)) (pss_one (ps_expr (pe_bm PySem.F.plainAttrs_list PySem.F.slot_list_extend PySem.F.type_list_extend mt_extend (pv 4) (pa_cons (pe_lc (own := [("_law_mate", 12)]) (by rfl) sc_law_holds.nd (pi_range1 (by rfl) T.range (pa_cons (pe_op op_add (pv 3) pe_int) pa_nil)) (blkOk_by (own := [("_law_mate", 12)]) (N := ["_law_source_here", "_law_shelf", "_law_spots", "_law_width", "_law_values", "_law_spot", "_law_turn", "_law_value", "_law_kept", "_law_due", "_law_told", "_law_named", "_law_mate", "_law_part"]) (sc := defScope s_law_holds) (by decide +kernel)) (fun _ _ _ _ _ => (pg_name (i := 12) sc_law_holds.nd rfl (.inl rfl))) (fun _ _ _ _ _ => pts_nil) (fun _ _ _ _ _ => (pe_tup (pa_cons (pv 5) (pa_cons (pv 12) pa_nil))))) pa_nil)))))
      (pss_cons (ps_for PassesOwn.never rfl (pi_range1 (by rfl) T.range (pa_cons pe_int pa_nil)) (pg_name (i := 6) sc_law_holds.nd rfl (.inl rfl)) (pss_one (ps_expr (pe_bm PySem.F.plainAttrs_list PySem.F.slot_list_append PySem.F.type_list_append mt_append (pv 4) (pa_cons (pe_call k_law_bent.G (hr.mono (by omega)) (by rfl) k_law_bent.D.g k_law_bent.D.F.kp k_law_bent.D.b .nil pass0 (pa_cons (pv 0) (pa_cons (pe_call k_law_choice.G (hr.mono (by omega)) (by rfl) k_law_choice.D.g k_law_choice.D.F.kp k_law_choice.D.b .nil pass0 (pa_cons (pv 0) (pa_cons (pv 4) pa_nil))) pa_nil))) pa_nil)))))
      (pss_cons (ps_for PassesOwn.never rfl (pi_list (pv 4)) (pg_name (i := 7) sc_law_holds.nd rfl (.inl rfl)) (pss_cons (ps_par (i := 8) (j := 9) (by rfl) sc_law_holds.nd rfl rfl (by decide) rfl rfl (pa_cons (pe_callB (call_reprD (K := K) rfl hgd hr.units) (by rfl) T.repr (by decide +kernel) (pa_cons (pv 7) pa_nil)) (pa_cons (pe_lst (pa_cons pe_bl (pa_cons pe_bl pa_nil))) pa_nil)) (by rfl))
      (pss_cons (ps_if (PW.pt (pw_and (pt_val (pe_callB (call_isiKK (K := K) rfl) (by rfl) T.isinstance (by decide +kernel) (pa_cons (pv 7) (pa_cons (pe_bltn (v := .ty "tuple") (by rfl) T.tuple (by decide +kernel) rfl) pa_nil)))) (pw_and (pt_cmpR op_eq (pe_callB (call_lenK (K := K) rfl) (by rfl) T.len (by decide +kernel) (pa_cons (pv 7) pa_nil)) pe_int (nomark _)) (pw_and1 (pt_val (pe_callB (cr_allK (K := K) rfl rfl) (by rfl) T.all (by decide +kernel) (pa_cons (pe_lc (own := [("_law_part", 13)]) (by rfl) sc_law_holds.nd (pi_tup (pv 7)) (blkOk_by (own := [("_law_part", 13)]) (N := ["_law_source_here", "_law_shelf", "_law_spots", "_law_width", "_law_values", "_law_spot", "_law_turn", "_law_value", "_law_kept", "_law_due", "_law_told", "_law_named", "_law_mate", "_law_part"]) (sc := defScope s_law_holds) (by decide +kernel)) (fun _ _ _ _ _ => (pg_name (i := 13) sc_law_holds.nd rfl (.inl rfl))) (fun _ _ _ _ _ => pts_nil) (fun _ _ _ _ _ => (pe_call k_law_integer.G (hr.mono (by omega)) (by rfl) k_law_integer.D.g k_law_integer.D.F.kp k_law_integer.D.b .nil pass0 (pa_cons (pv 13) pa_nil)))) pa_nil))))))) (pss_one (ps_if (PW.pt (pw_and (pt_cmpR (op_inK (K := K) rfl) (pe_ix (ix_tupK (K := K) rfl) (pv 7) pe_int (fun _ _ => rfl)) (pv 2) (by rfl)) (pw_and1 (pt_cmpR (op_inK (K := K) rfl) (pe_ix (ix_tupK (K := K) rfl) (pv 7) pe_int (fun _ _ => rfl)) (pe_call k_law_wanted.G (hr.mono (by omega)) (by rfl) k_law_wanted.D.g k_law_wanted.D.F.kp k_law_wanted.D.b .nil pass0 (pa_cons (pv 1) (pa_cons (pe_ix (ix_tupK (K := K) rfl) (pv 7) pe_int (fun _ _ => rfl)) pa_nil))) (by rfl))))) (pss_cons (ps_asg (pe_cmpR op_isN (pe_ix (ix_tupK (K := K) rfl) (pv 1) (pe_ix (ix_tupK (K := K) rfl) (pv 7) pe_int (fun _ _ => rfl)) (fun _ _ => rfl)) pe_non (nomark _)) (pg_sub (pv 9) pe_int set_list))
      (pss_one (ps_asg (pe_and (pe_cmpR (op_inK (K := K) rfl) (pe_ix (ix_tupK (K := K) rfl) (pv 7) pe_int (fun _ _ => rfl)) (pv 2) (by rfl)) (pe_one (pe_cmpR (op_inK (K := K) rfl) (pe_ix (ix_tupK (K := K) rfl) (pv 7) pe_int (fun _ _ => rfl)) (pe_call k_law_wanted.G (hr.mono (by omega)) (by rfl) k_law_wanted.D.g k_law_wanted.D.F.kp k_law_wanted.D.b .nil pass0 (pa_cons (pv 1) (pa_cons (pe_ix (ix_tupK (K := K) rfl) (pv 7) pe_int (fun _ _ => rfl)) pa_nil))) (by rfl)))) (pg_sub (pv 9) pe_int set_list)))) pss_nil)) pss_nil)
      (pss_cons (ps_set (i := 10) sc_law_holds.nd rfl (.inl rfl) (pe_lst (pa_cons (pe_call k_shows_gap.G (hr.mono (by omega)) (by rfl) k_shows_gap.D.g k_shows_gap.D.F.kp k_shows_gap.D.b .nil pass0 (pa_cons (pv 1) (pa_cons (pv 7) pa_nil))) (pa_cons (pe_call k_shows_both.G (hr.mono (by omega)) (by rfl) k_shows_both.D.g k_shows_both.D.F.kp k_shows_both.D.b .nil pass0 (pa_cons (pv 1) (pa_cons (pv 7) pa_nil))) pa_nil))))
      (pss_cons (ps_set (i := 11) sc_law_holds.nd rfl (.inl rfl) (pe_lst (pa_cons (pe_callN0 k_shows_gap.G (hr.mono (by omega)) (by rfl) k_shows_gap.D.g k_shows_gap.D.F.kp (kb_shows_gap_thing_table k_shows_gap.D.F) pass0 (pk_cons (pv 7) (pk_cons (pe_callTy (call_listK (K := K) rfl) (by rfl) T.list (by decide +kernel) (pa_cons (pv 1) pa_nil)) pk_nil))) (pa_cons (pe_callN0 k_shows_both.G (hr.mono (by omega)) (by rfl) k_shows_both.D.g k_shows_both.D.F.kp (kb_shows_both_thing_table k_shows_both.D.F) pass0 (pk_cons (pv 7) (pk_cons (pe_callTy (call_listK (K := K) rfl) (by rfl) T.list (by decide +kernel) (pa_cons (pv 1) pa_nil)) pk_nil))) pa_nil))))
      (pss_one (ps_if (PW.pt (pw_or (pt_not (pt_val (pe_call k_law_equal.G (hr.mono (by omega)) (by rfl) k_law_equal.D.g k_law_equal.D.F.kp k_law_equal.D.b .nil pass0 (pa_cons (pe_lst (pa_cons (pv 10) (pa_cons (pv 11) pa_nil))) (pa_cons (pe_lst (pa_cons (pv 9) (pa_cons (pv 9) pa_nil))) pa_nil))))) (pw_or1 (pt_cmpR op_ne (pe_callB (call_reprD (K := K) rfl hgd hr.units) (by rfl) T.repr (by decide +kernel) (pa_cons (pv 7) pa_nil)) (pv 8) (nomark _))))) (pss_one (ps_ret pe_bl)) pss_nil)))))))
      (pss_one (ps_ret pe_bl))))))))), ?_⟩
  have mS : s' ∈ [s'] := List.mem_singleton.mpr rfl
  -- the table
  refine ⟨_, rfl, _, rfl, s', 7, b0 + 3900, rfl, by decide, by decide, hsrc.mono (by omega), fun p0 ys0 H0 st0 sr0 np0 ne0 g0 l01 l07 tab0 => ?_⟩
  refine ⟨s', p0, ys0, b0 + 3800, rfl, sqT_hid (fun z => ne0 (List.mem_singleton.mp z)) g0, l01, by omega, tab0, sr0.mono (by omega), fun p ys H1 st1' sr1 np1 ne g1 hyl tab' => ?_⟩
  have st1 := st0.trans st1'
  have tab : ∀ y ∈ ys, TabV ys.length y := by rw [hyl]; exact tab'
  have l1 : 1 ≤ ys.length := by omega
  have l7 : ys.length ≤ 7 := by omega
  clear tab' g0 tab0
  have has1 : HasA H1 [s'] := fun b hb => by
    rw [List.mem_singleton.mp hb]
    exact src_has sr1
  -- the taken cells, the width
  refine ⟨_, rfl, p, ys, rfl, sqT g1, by omega, fun sp H2 s2 nsp gsp => ?_⟩
  refine ⟨_, rfl, p, ys, rfl, .inr (sqT (s2 _ _ g1)), _, _, rfl, ?_⟩
  have has2 := hasA_same has1 s2
  have nsp' : sp ∉ [s'] := has_ne has1 nsp
  -- the values
  dsimp only [tSeq]
  refine sl_asg (K := K) (S := [s']) (ds := vA) (el_lst has2 ?vals (by decide)) fun p1 xs1 H3 s3 n1 g3 d3 => ?_
  case vals =>
    unfold vA
    repeat' first | exact ea_nil | refine ea_cons ?_ ?_ | exact ee_non | exact ee_bl | exact ee_int | exact ee_str | exact ee_neg | refine ee_tup has2 ?_ (by decide) | refine ee_lst has2 ?_ (by decide)
  have has3 := hasA_same has2 s3
  refine sl_catN (K := K) (S := [s']) (es := vB) has3 (el_var rfl n1 g3 d3) (el_lst has3 (by
    unfold vB
    repeat' first | exact ea_nil | refine ea_cons ?_ ?_ | exact ee_non | exact ee_bl | exact ee_int | exact ee_str | exact ee_neg | refine ee_tup has3 ?_ (by decide) | refine ee_lst has3 ?_ (by decide)) (by decide)) (by decide) fun L xs5 H5 s5 nL3 nLs g5 d5 => ?_
  have s15 : Same H1 H5 := (s2.trans s3).trans s5
  have nL2 : H2 L = none := s3.free nL3
  have nL1 : H1 L = none := s2.free nL2
  have neL : L ≠ s' := fun e => nLs (List.mem_singleton.mpr e)
  have npL : p ≠ L := ne_of_none g1 nL1
  have nspL : sp ≠ L := ne_of_none gsp nL2
  have nsps : sp ≠ s' := fun e => nsp' (List.mem_singleton.mpr e)
  have m2 : s' ∈ [L, s'] := List.mem_cons_of_mem _ mS
  have gsp5 : H5 sp = some (.lst ((fullL ys).map V.int)) := s5 _ _ (s3 _ _ gsp)
  have gp5 : H5 p = some (.tup ys) := s15 _ _ g1
  have sr5 : Src H5 s' (b0 + 3700) := sr1.elim fun o z => ⟨o, s15 _ _ z.1, z.2.mono (by omega)⟩
  have st5 : Stay s' H H5 := st1.trans (Stay.of s15)
  have nL0 : H L = none := by
    cases hq : H L with
    | none => rfl
    | some u =>
      have := st1 L u neL hq
      rw [nL1] at this
      cases this
  clear s15 s5 s3 s2 st1 st1' st0 sr1 sr0 has1 has2 has3 g3 d3 gsp g1
  -- all pairs
  refine ⟨1, rfl, _, rfl, _, _, rfl, rfl, -1, (ys.length : Int) + 1, rfl, ⟨by decide, by decide, by omega, by omega⟩, ?_⟩
  have en : ((ys.length : Int) + 1 - -1).toNat = ys.length + 2 := by omega
  rw [en]
  refine for_range (lo := -1) (n := ys.length + 2) (fun i σ H' => ∃ (xs : List V) (es : List PyData) (y5 : Option V), σ = [some (.ref s'), some (.ref p), some (.ref sp), some (.int (ys.length : Int)), some (.ref L), y5, none, none, none, none, none, none, none, none] ∧ Stay L H5 H' ∧ H' L = some (.lst xs) ∧ DpAll K (Hid [L, s'] H') xs es ∧ (∀ e ∈ es, Sm 2 10 9 e) ∧ es.length = 13 + i * (ys.length + 1))
    ⟨xs5, _, _, rfl, Stay.of (Same.refl _), g5, d5, vAB_sm, by show 13 = 13 + 0 * _; omega⟩ (fun i σ H6 hi hP => ?_) (fun σ H6 hP => ?_)
  · obtain ⟨xs, es, y5, rfl, st6, g6, d6, sm6, el6⟩ := hP
    have has6 : HasA H6 [L, s'] := fun b hb => by
      rcases List.mem_cons.mp hb with rfl | hb
      · exact ⟨_, g6⟩
      · rw [List.mem_singleton.mp hb]
        exact (src_has sr5).elim fun o z => ⟨o, st6 _ _ neL.symm z⟩
    refine ⟨_, rfl, .inl ⟨rfl, _, sqL g6⟩, _, rfl, _, _, rfl, rfl, (ys.length : Int) + 1, rfl, by omega, by omega, fun D' hD => ?_⟩
    have en2 : ((ys.length : Int) + 1).toNat = ys.length + 1 := by omega
    rw [en2]
    have nDL : L ≠ D' := ne_of_none g6 hD
    refine lc_range (lo := 0) (n := ys.length + 1) (fun j H2 => ∃ (as : List V) (fs : List PyData), Same H6 H2 ∧ H2 D' = some (.lst as) ∧ DpAll K (Hid [D', L, s'] H2) as fs ∧ (∀ e ∈ fs, Sm 2 10 9 e) ∧ fs.length = j) ⟨[], [], same_upd hD, upd_same, .nil, (fun e he => nomatch he), rfl⟩ (fun j H2 hj hP => ?_) (fun H2 hP => ?_)
    · obtain ⟨as, fs, s2, e2, dA, smA, lA⟩ := hP
      refine ⟨rfl, _, rfl, _, rfl, (by show 2 ≤ sizeLine; decide), fun t ht => ?_⟩
      have hl := dpAll_len dA
      have s3 := same_upd (o := .tup [.int (-1 + (i : Int)), .int (0 + (j : Int))]) ht
      have nt : t ∉ [D', L, s'] := has_ne (fun b hb => by
        rcases List.mem_cons.mp hb with rfl | hb
        · exact ⟨_, e2⟩
        · exact hasA_same has6 s2 b hb) ht
      refine ⟨as, s3 _ _ e2, small1000 (by omega), as ++ [.ref t], fs ++ [.tuple [.int (-1 + (i : Int)), .int (0 + (j : Int))]], Same.mut (s2.trans s3) hD, upd_same, ?_, fun e he => ?_, by rw [List.length_append, lA]; rfl⟩
      · rw [hid_upd (List.mem_cons_self ..)]
        exact dpAll_app (dp_sameA (hid_mono s3) dA) (.cons (.tup (sqT_hid nt upd_same) (.cons (.int _) (.cons (.int _) .nil))) .nil)
      · rcases List.mem_append.mp he with he | he
        · exact smA e he
        · rw [List.mem_singleton.mp he, Int.zero_add]
          exact pair_sm (by omega) (by omega) (by omega)
    · obtain ⟨as, fs, s2, e2, dA, smA, lA⟩ := hP
      have hl := dpAll_len dA
      have hl2 := dpAll_len d6
      have hb1 := Nat.mul_le_mul (show i ≤ 9 by omega) (show ys.length + 1 ≤ 8 by omega)
      refine ⟨L, D', xs, as, rfl, rfl, s2 _ _ g6, e2, small (by omega), xs ++ as, es ++ fs, _, rfl, st6.trans ((Stay.of s2).trans stay_upd), upd_same, ?_, fun e he => ?_, ?_⟩
      · rw [hid_upd (List.mem_cons_self ..)]
        exact dpAll_app (dp_sameA (hid_mono s2) d6) (dp_sameA hid_less dA)
      · rcases List.mem_append.mp he with he | he
        · exact sm6 e he
        · exact smA e he
      · rw [List.length_append, el6, lA, Nat.succ_mul]
        omega
  obtain ⟨xs6, es6, y5, rfl, st6, g6, d6, sm6, el6⟩ := hP
  have sr6 : Src H6 s' (b0 + 3700) := sr5.elim fun o z => ⟨o, st6 _ _ neL.symm z.1, z.2⟩
  have gsp6 := st6 _ _ nspL gsp5
  have gp6 := st6 _ _ npL gp5
  have hlen6 : es6.length ≤ 13 + 9 * 8 := by
    rw [el6]
    have := Nat.mul_le_mul (show ys.length + 2 ≤ 9 by omega) (show ys.length + 1 ≤ 8 by omega)
    omega
  have st06 : Stay s' H H6 := fun b o nb hb => st6 b o (ne_of_none hb nL0) (st5 b o nb hb)
  have hlen13 : 13 ≤ es6.length := by omega
  clear st6 st5 gsp5 gp5 sr5 g5 d5 el6
  -- fourteen changed ones
  refine ⟨14, rfl, by decide, by decide, ?_⟩
  refine for_range (lo := 0) (n := 14) (fun i σ H' => ∃ (xs : List V) (es : List PyData) (y6 : Option V), σ = [some (.ref s'), some (.ref p), some (.ref sp), some (.int (ys.length : Int)), some (.ref L), y5, y6, none, none, none, none, none, none, none] ∧ Stay s' H H' ∧ (∀ b o, b ≠ s' → b ≠ L → H6 b = some o → H' b = some o) ∧ Src H' s' (b0 + 100 + 130 * (14 - i)) ∧ H' L = some (.lst xs) ∧ DpAll K (Hid [L, s'] H') xs es ∧ (∀ e ∈ es, Sm (2 + 2 * i) (40 * 2 ^ i - 30) (9 + i) e) ∧ es.length = es6.length + i)
    ⟨xs6, es6, _, rfl, st06, fun b o _ _ hb => hb, sr6.mono (by omega), g6, d6, sm6, by omega⟩ (fun i σ H7 hi hP => ?_) (fun σ H7 hP => ?_)
  · obtain ⟨xs, es, y6, rfl, st7, k7, sr7, g7, d7, sm7, el7⟩ := hP
    have hl7 := dpAll_len d7
    have has7 : HasA H7 [L, s'] := fun b hb => by
      rcases List.mem_cons.mp hb with rfl | hb
      · exact ⟨_, g7⟩
      · rw [List.mem_singleton.mp hb]
        exact src_has sr7
    refine ⟨_, rfl, .inl ⟨rfl, _, sqL g7⟩, _, rfl, _, rfl, _, rfl, s', L, xs, b0 + 100 + 130 * (14 - (i + 1)) + 120, rfl, sqL_hid (fun z => neL (List.mem_singleton.mp z)) g7, by omega, by omega, sr7.mono (by omega), fun j v o gj hO => ?_⟩
    obtain ⟨d, gd, hd⟩ := dpAll_get d7 gj
    have smd := sm7 d (List.mem_of_getElem? gd)
    have st8 : Stay s' H7 (upd H7 s' o) := stay_upd
    refine ⟨s', [L, s'], v, d, 2 + 2 * i, 40 * 2 ^ i - 30, 9 + i, b0 + 100 + 130 * (14 - (i + 1)), rfl, m2, hasA_upd has7, by rw [hid_upd m2]; exact hd, smd, by omega, by omega, by omega, ⟨o, upd_same, hO⟩, fun v' d' H9 st9 sr9 hd' sm' => ?_⟩
    have st79 := st8.trans st9
    have g9 : H9 L = some (.lst xs) := st79 _ _ neL g7
    have hpow : 2 ^ (i + 1) = 2 * 2 ^ i := by rw [Nat.pow_succ, Nat.mul_comm]
    have hp1 : 1 ≤ 2 ^ i := Nat.one_le_two_pow
    refine ⟨L, xs, v', rfl, rfl, g9, small1000 (by omega), xs ++ [v'], es ++ [d'], _, rfl, (st7.trans st79).mut nL0, fun b o' nb nL hb => ?_, sr9.elim fun o z => ⟨o, by rw [upd_ne neL.symm]; exact z.1, z.2⟩, upd_same, ?_, fun e he => ?_, by rw [List.length_append, el7]; rfl⟩
    · rw [upd_ne nL]
      exact st79 _ _ nb (k7 b o' nb nL hb)
    · rw [hid_upd (List.mem_cons_self ..)]
      exact dpAll_app (dp_sameA (hid_stay m2 st79) d7) (.cons hd' .nil)
    · rcases List.mem_append.mp he with he | he
      · exact (sm7 e he).mono (by omega) (by omega) (by omega)
      · rw [List.mem_singleton.mp he]
        exact sm'.mono (by omega) (by omega) (by omega)
  obtain ⟨xs, es, y6, rfl, st7, k7, sr7, g7, d7, sm7, el7⟩ := hP
  have gsp7 := k7 _ _ nsps nspL gsp6
  have gp7 := k7 _ _ ne npL gp6
  have d7' := dp_sameA same_hid d7
  have hxl := dpAll_len d7
  refine ⟨_, rfl, L, rfl, ⟨_, sqL g7⟩, ?_⟩
  refine for_list (xs := xs) (fun i σ H' => ∃ (y7 y8 y9 y10 y11 : Option V), σ = [some (.ref s'), some (.ref p), some (.ref sp), some (.int (ys.length : Int)), some (.ref L), y5, y6, y7, y8, y9, y10, y11, none, none] ∧ Same H7 H') ⟨_, _, _, _, _, rfl, Same.refl _⟩ (fun i σ H' _ hP => ?_) (fun i x σ H8 gx hP => ?_) (fun σ H8 hP => ?_)
  · obtain ⟨_, _, _, _, _, _, s8⟩ := hP
    exact sqL (s8 _ _ g7)
  · obtain ⟨y7, y8, y9, y10, y11, rfl, s8⟩ := hP
    obtain ⟨d, gd, hd⟩ := dpAll_get d7' gx
    have smd := sm7 d (List.mem_of_getElem? gd)
    obtain ⟨w1, w2, w3, w4⟩ := sm_repr smd (by decide) (by decide) (by decide)
    obtain ⟨w5, _⟩ := sm_show smd (by decide) (by decide) (by decide)
    have hlen : lenD d ≤ 60 := Nat.le_trans (lenD_num smd.itm.num) (by decide)
    have hd8 := dp_same s8 hd
    have gp8 := s8 _ _ gp7
    have gsp8 := s8 _ _ gsp7
    clear gd smd hd gx
    refine ⟨_, rfl, x, d, rfl, hd8, w1, w2, w3, w4, (by show 2 ≤ sizeLine; decide), fun du hdu => ⟨_, _, rfl, ?_⟩⟩
    dsimp only [tSeq]
    refine if_then (fun H' => Same H8 H' ∧ H' du = some (.lst [.bl (gapD ys d), .bl (bothD ys d)])) (fun H9 hR => ?_) (fun D' k' => ?_)
    · obtain ⟨s9, g9⟩ := hR
      have hd9 := dp_same s9 hd8
      have gp9 := s9 _ _ gp8
      generalize eG : gapD ys d = gg at g9
      generalize eB : bothD ys d = bb at g9
      refine ⟨_, rfl, _, rfl, p, ys, x, d, rfl, .inr (sqT gp9), l1, by omega, tab, hd9, w5, hlen, fun H10 s10 => ?_⟩
      refine ⟨_, rfl, _, rfl, p, ys, x, d, rfl, .inr (sqT (s10 _ _ gp9)), l1, by omega, tab, dp_same s10 hd9, w5, hlen, fun H11 s11 => ?_⟩
      rw [eG, eB]
      have sA := s10.trans s11
      refine ⟨(by show 2 ≤ sizeLine; decide), fun a1 ha1 => ?_⟩
      have sB := sA.trans (same_upd (o := .lst [.bl gg, .bl bb]) ha1)
      have ga1 : (upd H11 a1 (.lst [.bl gg, .bl bb])) a1 = some (.lst [.bl gg, .bl bb]) := upd_same
      generalize upd H11 a1 (.lst [.bl gg, .bl bb]) = H12 at sB ga1
      dsimp only [tSeq]
      refine ⟨_, rfl, _, rfl, p, ys, rfl, .inr (sqT (sB _ _ gp9)), fun l1' hl1 => ?_⟩
      have sC := sB.trans (same_upd (o := .lst ys) hl1)
      refine ⟨rfl, l1', ys, x, d, rfl, .inl (sqL upd_same), l1, by omega, tab, dp_same sC hd9, w5, hlen, fun H13 s13 => ?_⟩
      have sD := sC.trans s13
      refine ⟨_, rfl, _, rfl, p, ys, rfl, .inr (sqT (sD _ _ gp9)), fun l2' hl2 => ?_⟩
      have sE := sD.trans (same_upd (o := .lst ys) hl2)
      refine ⟨rfl, l2', ys, x, d, rfl, .inl (sqL upd_same), l1, by omega, tab, dp_same sE hd9, w5, hlen, fun H14 s14 => ?_⟩
      have sF := sE.trans s14
      have s12 : Same H12 H14 := (((same_upd hl1).trans s13).trans (same_upd hl2)).trans s14
      rw [eG, eB]
      refine ⟨(by show 2 ≤ sizeLine; decide), fun a2 ha2 => ?_⟩
      have sG := same_upd (o := .lst [.bl gg, .bl bb]) ha2
      have ga2 : (upd H14 a2 (.lst [.bl gg, .bl bb])) a2 = some (.lst [.bl gg, .bl bb]) := upd_same
      have ga1' := sG _ _ (s12 _ _ ga1)
      have gdu := sG _ _ (sF _ _ g9)
      have sH := sF.trans sG
      generalize upd H14 a2 (.lst [.bl gg, .bl bb]) = H15 at ga2 ga1' gdu sH
      refine ⟨_, rfl, _, rfl, (by show 2 ≤ sizeLine; decide), fun a3 ha3 => ?_⟩
      have t3 := same_upd (o := .lst [.ref a1, .ref a2]) ha3
      refine ⟨_, rfl, _, rfl, (by show 2 ≤ sizeLine; decide), fun a4 ha4 => ?_⟩
      have t4 := same_upd (o := .lst [.ref du, .ref du]) ha4
      have t34 := t3.trans t4
      have bls : ∀ {H' : Hp}, DpAll K H' [.bl gg, .bl bb] [.bool gg, .bool bb] := .cons (.bl _) (.cons (.bl _) .nil)
      refine ⟨.ref a3, .ref a4, .list [.list [.bool gg, .bool bb], .list [.bool gg, .bool bb]], rfl, .lst (sqL (t4 _ _ upd_same)) (.cons (.lst (sqL (t34 _ _ ga1')) bls) (.cons (.lst (sqL (t34 _ _ ga2)) bls) .nil)), .lst (sqL upd_same) (.cons (.lst (sqL (t34 _ _ gdu)) bls) (.cons (.lst (sqL (t34 _ _ gdu)) bls) .nil)), ?_, ?_, fun H16 s16 => ?_⟩
      · cases gg <;> cases bb <;> decide +kernel
      · cases gg <;> cases bb <;> decide +kernel
      · refine ⟨_, rfl, iteF ?_⟩
        have sAll := (sH.trans t34).trans s16
        refine ⟨_, rfl, x, d, rfl, dp_same sAll hd9, w1, w2, w3, w4, _, rfl, rfl, _, rfl, ?_⟩
        rw [decide_eq_true rfl]
        exact iteF ⟨_, _, _, _, _, rfl, (s8.trans s9).trans sAll⟩
    · have sdu := same_upd (o := .lst [.bl false, .bl false]) hdu
      cases hd8 with
      | non => exact ⟨_, rfl, _, _, _, _, _, rfl, .ty _, .base .non, kit_ty (r := false) (by decide +kernel), _, rfl, iteF (iteF (k' _ ⟨sdu, upd_same⟩))⟩
      | bl b => exact ⟨_, rfl, _, _, _, _, _, rfl, .ty _, .base (.bl _), kit_ty (r := false) (by decide +kernel), _, rfl, iteF (iteF (k' _ ⟨sdu, upd_same⟩))⟩
      | int z => exact ⟨_, rfl, _, _, _, _, _, rfl, .ty _, .base (.int _), kit_ty (r := false) (by decide +kernel), _, rfl, iteF (iteF (k' _ ⟨sdu, upd_same⟩))⟩
      | str z => exact ⟨_, rfl, _, _, _, _, _, rfl, .ty _, .base (.str _), kit_ty (r := false) (by decide +kernel), _, rfl, iteF (iteF (k' _ ⟨sdu, upd_same⟩))⟩
      | lst h1 h2 => exact ⟨_, rfl, _, _, _, _, _, rfl, .ty _, tyL (sdu.seq h1), kit_ty (r := false) (by decide +kernel), _, rfl, iteF (iteF (k' _ ⟨sdu, upd_same⟩))⟩
      | @tup a vs ds h1 h2 =>
        have hS := Same.tup sdu h1
        have h2' := dp_sameA sdu h2
        have hl2 := dpAll_len h2
        refine ⟨_, rfl, _, _, _, _, _, rfl, .ty _, tyT hS, kit_ty (r := true) (by decide +kernel), _, rfl, iteT ?_⟩
        refine ⟨_, rfl, a, vs, rfl, .inr hS, rfl, _, rfl, ?_⟩
        refine ite2 (fun c => ?_) (fun c => ?_)
        · have hv2 : vs.length = 2 := by
            have := V.int.inj (of_decide_eq_true c)
            omega
          obtain ⟨v1, v2, rfl⟩ : ∃ v1 v2, vs = [v1, v2] := by
            match vs, hv2 with
            | [v1, v2], _ => exact ⟨v1, v2, rfl⟩
          cases h2' with
          | @cons _ _ d1 ds' hd1 hr' =>
          cases hr' with
          | @cons _ _ d2 ds'' hd2 hr'' =>
          cases hr''
          refine ⟨_, rfl, a, rfl, ⟨_, hS⟩, fun L' hL' => ?_⟩
          refine lc_tup (xs := [v1, v2]) (fun i H2 => Same (upd H8 du (.lst [.bl false, .bl false])) H2 ∧ H2 L' = some (.lst ((([isIntD d1, isIntD d2]).take i).map V.bl))) ⟨same_upd hL', upd_same⟩ (fun i H2 _ hP => Same.tup hP.1 hS) (fun i y H2 gy hP => ?_) (fun H2 hP => ?_)
          · obtain ⟨s2, e2⟩ := hP
            obtain ⟨dy, hy, et, hi⟩ : ∃ dy, Dp K (upd H8 du (.lst [.bl false, .bl false])) y dy ∧ ([isIntD d1, isIntD d2]).take (i + 1) = ([isIntD d1, isIntD d2]).take i ++ [isIntD dy] ∧ i ≤ 1 := by
              rcases i with _ | _ | i
              · cases (Option.some.inj gy)
                exact ⟨d1, hd1, rfl, by decide⟩
              · cases (Option.some.inj gy)
                exact ⟨d2, hd2, rfl, by decide⟩
              · cases gy
            exact ⟨rfl, _, rfl, y, dy, rfl, dp_same s2 hy, _, e2, small1000 (by rw [List.length_map, List.length_take]; exact Nat.le_trans (Nat.min_le_left _ _) (by omega)), Same.mut s2 hL', by rw [upd_same, et, List.map_append]; rfl⟩
          · obtain ⟨s2, e2⟩ := hP
            refine ⟨L', _, rfl, sqL e2, _, rfl, ?_⟩
            have sd2 := sdu.trans s2
            have du2 : H2 du = some (.lst [.bl false, .bl false]) := s2 _ _ upd_same
            have eall : (([isIntD d1, isIntD d2]).take ([v1, v2]).length).all id = (isIntD d1 && isIntD d2) := by
              show (isIntD d1 && (isIntD d2 && true)) = _
              rw [Bool.and_true]
            rw [eall]
            refine ite2 (fun c0 => ?_) (fun c0 => ?_)
            · rw [Bool.and_eq_true] at c0
              obtain ⟨z1, rfl⟩ := isInt_ex c0.1
              obtain ⟨z2, rfl⟩ := isInt_ex c0.2
              cases hd1
              cases hd2
              have hS2 := Same.tup s2 hS
              have gp2 := sd2 _ _ gp8
              have gsp2 := sd2 _ _ gsp8
              generalize upd H8 du (.lst [.bl false, .bl false]) = H8' at s2
              refine ⟨_, rfl, a, [.int z1, .int z2], 0, .int z1, rfl, rfl, hS2, rfl, _, rfl, sp, _, rfl, .inl (sqL gsp2), rfl, flat_ints _, _, rfl, ?_⟩
              refine ite2 (fun c1 => ?_) (fun c1 => ?_)
              · have c1' : z1 ∈ fullL ys := of_decide_eq_true ((inV_ints z1 _).symm.trans c1)
                obtain ⟨i1, rfl, hi1, hn1⟩ := fullL_mem.mp c1'
                refine ⟨_, rfl, a, [.int (i1 : Int), .int z2], 1, .int z2, rfl, rfl, hS2, rfl, _, rfl, _, rfl, a, [.int (i1 : Int), .int z2], 0, .int (i1 : Int), rfl, rfl, hS2, rfl, p, ys, i1, rfl, sqT gp2, by omega, tab_taken tab hi1 hn1, fun wp H10 s10 nwp gwp => ?_⟩
                refine ⟨wp, _, rfl, .inl (sqL gwp), rfl, flat_ints _, _, rfl, ?_⟩
                have sd10 := sd2.trans s10
                have du10 := s10 _ _ du2
                have hS10 := Same.tup s10 hS2
                refine ite2 (fun c2 => ?_) (fun c2 => ?_)
                · have c2' : z2 ∈ wantL ys i1 := of_decide_eq_true ((inV_ints z2 _).symm.trans c2)
                  obtain ⟨eG, eB⟩ := tell_yes c1' c2'
                  obtain ⟨i2, rfl, hi2⟩ := wantL_lt c2'
                  have gi2 : ys[i2]? = some ys[i2] := List.getElem?_eq_getElem hi2
                  have gd2 : ys.getD i2 .non = ys[i2] := by rw [List.getD_eq_getElem?_getD, gi2]; rfl
                  refine ⟨_, rfl, _, rfl, a, [.int (i1 : Int), .int (i2 : Int)], 1, .int (i2 : Int), rfl, rfl, hS10, rfl, p, ys, (i2 : Int), _, rfl, rfl, sqT (s10 _ _ gp2), atI_nat gi2, rfl, ?_⟩
                  refine ⟨_, rfl, du, [.bl false, .bl false], 0, 0, rfl, rfl, du10, ixn (by decide), ?_⟩
                  have eI : decide (ys[i2] = V.non) = gapD ys (.tuple [.int (i1 : Int), .int (i2 : Int)]) := by rw [eG, ← isN_dec, Int.toNat_natCast, gd2]
                  rw [eI]
                  generalize gapD ys (.tuple [.int (i1 : Int), .int (i2 : Int)]) = gg at k'
                  have sd11 : Same H8 (upd H10 du (.lst ([V.bl false, V.bl false].set 0 (.bl gg)))) := Same.mut sd10 hdu
                  have du11 : (upd H10 du (.lst ([V.bl false, V.bl false].set 0 (.bl gg)))) du = some (.lst [.bl gg, .bl false]) := upd_same
                  generalize upd H10 du (.lst ([V.bl false, V.bl false].set 0 (.bl gg))) = H11 at sd11 du11
                  have hS11 := Same.tup sd11 h1
                  have gp11 := sd11 _ _ gp8
                  refine ⟨_, rfl, a, [.int (i1 : Int), .int (i2 : Int)], 1, .int (i2 : Int), rfl, rfl, hS11, rfl, _, rfl, sp, _, rfl, .inl (sqL (sd11 _ _ gsp8)), rfl, flat_ints _, _, rfl, ?_⟩
                  have fin : ∀ (H13 : Hp) (bb : Bool), Same H11 H13 → bb = bothD ys (.tuple [.int (i1 : Int), .int (i2 : Int)]) → D'.nx _ (upd H13 du (.lst ([V.bl gg, V.bl false].set 1 (.bl bb)))) := fun H13 bb s13 eb => k' _ ⟨Same.mut (sd11.trans s13) hdu, by rw [upd_same, ← eb]; rfl⟩
                  refine ite2 (fun c3 => ?_) (fun c3 => ?_)
                  · have c3' : (i2 : Int) ∈ fullL ys := of_decide_eq_true ((inV_ints (i2 : Int) _).symm.trans c3)
                    obtain ⟨i3, e3, hi3, hn3⟩ := fullL_mem.mp c3'
                    obtain rfl : i2 = i3 := by omega
                    refine ⟨_, rfl, a, [.int (i1 : Int), .int (i2 : Int)], 0, .int (i1 : Int), rfl, rfl, hS11, rfl, _, rfl, _, rfl, a, [.int (i1 : Int), .int (i2 : Int)], 1, .int (i2 : Int), rfl, rfl, hS11, rfl, p, ys, i2, rfl, sqT gp11, by omega, tab_taken tab hi3 hn3, fun wp2 H12 s12 nwp2 gwp2 => ?_⟩
                    refine ⟨wp2, _, rfl, .inl (sqL gwp2), rfl, flat_ints _, _, rfl, du, [.bl gg, .bl false], 1, 1, rfl, rfl, s12 _ _ du11, ixn (Nat.lt_succ_self 1), ?_⟩
                    refine fin H12 _ s12 ?_
                    rw [eB, decide_eq_true c3', Bool.true_and]
                    exact inV_ints _ _
                  · refine ⟨_, rfl, du, [.bl gg, .bl false], 1, 1, rfl, rfl, du11, ixn (Nat.lt_succ_self 1), ?_⟩
                    refine fin H11 _ (Same.refl _) ?_
                    rw [eB, decide_eq_false (fun h => c3 ((inV_ints (i2 : Int) _).trans (decide_eq_true h)))]
                    simpa using c3
                · have no := tell_pair (ys := ys) (c := (i1 : Int)) (e := z2) fun h => c2 ((inV_ints z2 _).trans (decide_eq_true h.2))
                  exact k' _ ⟨sd10, by rw [du10, no.1, no.2]⟩
              · have no := tell_pair (ys := ys) (c := z1) (e := z2) fun h => c1 ((inV_ints z1 _).trans (decide_eq_true h.1))
                exact k' _ ⟨sd2, by rw [du2, no.1, no.2]⟩
            · have no := tell_int (ys := ys) (d1 := d1) (d2 := d2) (by simpa using c0)
              exact k' _ ⟨sd2, by rw [du2, no.1, no.2]⟩
        · have no := tell_len (ys := ys) (ds := ds) (fun e => c (decide_eq_true (by rw [hl2, e]; rfl)))
          exact iteF (k' _ ⟨sdu, by rw [upd_same, no.1, no.2]⟩)
  · obtain ⟨y7, y8, y9, y10, y11, rfl, s8⟩ := hP
    exact q _ (st7.trans (Stay.of s8)) (sr7.elim fun o z => ⟨o, s8 _ _ z.1, z.2.mono (by omega)⟩)

/-! ### law: some turns with each source -/
def lawLevel : Nat := 35
def spLaw (K : PySem.W.Frag) : Sp := fun vs H Q _ => ∃ (a : Addr) (ns : List Int), vs = [.ref a] ∧ SqL K H a (ns.map V.int) ∧ ns.length ≤ 63 ∧ ∀ H', Q (.bl true) H'
theorem lawStart {Kw : Params → PySem.W.Frag} (w : World) (H : Hp) (a : Addr) (ns : List Int) (hl : ns.length ≤ 63) (_ : L2.Only H) (hS : SqL (Kw w.params) H a (ns.map V.int)) : spLaw (Kw w.params) [.ref a] H (fun v _ => v = .bl true) (fun _ _ _ => False) := ⟨a, ns, rfl, hS, hl, fun _ => rfl⟩
theorem ok_law (T : Bt mg) {f f1 f2 : Addr} {fd fd1 fd2 : FuncData} (D : Df K mg "law" s_law ["_law_script"] f fd)
    (k_law_source : Kn P w K mg base 1 "_law_source" s_law_source ["_law_script", "_law_index"] (spSource K) f1 fd1) (k_law_holds : KnG P w K mg base 34 "_law_holds" s_law_holds ["_law_source_here"] spHolds f2 fd2) : FnOkG P w K mg base lawLevel f fd ["_law_script"] (spLaw K) := by
  refine okG D.F sc_law (fun vs H Q E h => ?_) (fun cdv A outer s H vs Q E hgd hr h => ?_)
  · obtain ⟨a, ns, rfl, _⟩ := h
    rfl
  obtain ⟨a, ns, rfl, hS, h63, q⟩ := h
  refine ⟨_, (pss_cons (ps_for PassesOwn.never rfl (pi_range1 (by rfl) T.range (pa_cons (pe_callB (call_max2 rfl) (by rfl) T.max (by decide +kernel) (pa_cons pe_int (pa_cons (pe_callB (call_min2 rfl) (by rfl) T.min (by decide +kernel) (pa_cons pe_int (pa_cons (pe_callB (call_lenK (K := K) rfl) (by rfl) T.len (by decide +kernel) (pa_cons (pv 0) pa_nil)) pa_nil))) pa_nil))) pa_nil)) (pg_name (i := 1) sc_law.nd rfl (.inl rfl)) (pss_cons (ps_set (i := 2) sc_law.nd rfl (.inr rfl) (pe_call k_law_source.G (hr.mono (by omega)) (by rfl) k_law_source.D.g k_law_source.D.F.kp k_law_source.D.b .nil pass0 (pa_cons (pv 0) (pa_cons (pv 1) pa_nil))))
      (pss_one (ps_if (pt_not (pt_val (pe_callB (cr_allK (K := K) rfl rfl) (by rfl) T.all (by decide +kernel) (pa_cons (pe_lc (own := [("_law_turn", 3)]) (by rfl) sc_law.nd (pi_range1 (by rfl) T.range (pa_cons pe_int pa_nil)) (blkOk_by (own := [("_law_turn", 3)]) (N := ["_law_script", "_law_index", "_law_source_here", "_law_turn"]) (sc := defScope s_law) (by decide +kernel)) (fun _ _ _ _ _ => (pg_name (i := 3) sc_law.nd rfl (.inl rfl))) (fun _ _ _ _ _ => pts_nil) (fun _ _ _ _ _ => (pe_callG hgd k_law_holds.G (hr.mono (by omega)) (by rfl) k_law_holds.D.g k_law_holds.D.F.kp k_law_holds.D.b (pa_cons (pv 2) pa_nil)))) pa_nil)))) (pss_one (ps_ret pe_bl)) pss_nil))))
      (pss_one (ps_ret pe_bl))), ?_⟩
  refine ⟨_, rfl, a, _, rfl, .inl hS, _, _, rfl, _, _, rfl, ?_⟩
  rw [List.length_map]
  obtain ⟨m, hm, hm2⟩ : ∃ m : Nat, (if (if (ns.length : Int) < 3 then (ns.length : Int) else 3) > 1 then (if (ns.length : Int) < 3 then (ns.length : Int) else 3) else 1) = (m : Int) ∧ m ≤ 3 := by
    refine ⟨(if (if (ns.length : Int) < 3 then (ns.length : Int) else 3) > 1 then (if (ns.length : Int) < 3 then (ns.length : Int) else 3) else 1).toNat, ?_, ?_⟩
    · split <;> (split <;> omega)
    · split <;> (split <;> omega)
  rw [hm]
  refine ⟨(m : Int), rfl, by omega, by omega, ?_⟩
  have en : ((m : Int)).toNat = m := Int.toNat_natCast m
  rw [en]
  refine for_range (lo := 0) (n := m) (fun i σ H' => ∃ (y1 y2 : Option V), σ = [some (.ref a), y1, y2, none] ∧ Same H H') ⟨_, _, rfl, Same.refl _⟩ (fun i σ H1 hi hP => ?_) (fun σ H1 hP => ?_)
  · obtain ⟨y1, y2, rfl, s1⟩ := hP
    have ez : (0 : Int) + (i : Int) = (i : Int) := Int.zero_add _
    rw [ez]
    refine ⟨_, rfl, _, rfl, a, ns, i, rfl, s1.seq hS, h63, by omega, fun p o hp hO => ?_⟩
    dsimp only [tSeq]
    refine ⟨2, rfl, by decide, by decide, fun L hL => ?_⟩
    have nLp : L ≠ p := fun e => by rw [e, upd_same] at hL; cases hL
    have nL1 : H1 L = none := by rw [upd_ne nLp] at hL; exact hL
    refine lc_range (lo := 0) (n := 2) (fun j H2 => Stay p (upd H1 p o) H2 ∧ Src H2 p (1000000 + (2 - j) * 4000) ∧ H2 L = some (.lst ((List.replicate j true).map V.bl))) ⟨Stay.of (same_upd hL), ⟨o, by rw [upd_ne nLp.symm, upd_same], hO.mono (by decide)⟩, upd_same⟩ (fun j H2 hj hP => ?_) (fun H2 hP => ?_)
    · obtain ⟨st2, sr2, e2⟩ := hP
      refine ⟨rfl, _, rfl, p, 1000000 + (2 - (j + 1)) * 4000, rfl, sr2.mono (by omega), fun H3 st3 sr3 => ?_⟩
      refine ⟨_, st3 _ _ nLp e2, ?_, (st2.trans st3).mut hL, sr3.elim fun o z => ⟨o, by rw [upd_ne nLp.symm]; exact z.1, z.2⟩, ?_⟩
      · rw [List.length_map, List.length_replicate]
        exact small1000 (by omega)
      · rw [upd_same, List.replicate_succ', List.map_append]
        rfl
    · obtain ⟨st2, sr2, e2⟩ := hP
      refine ⟨L, _, rfl, sqL e2, ?_⟩
      rw [all_rep]
      exact ⟨_, rfl, iteF ⟨_, _, rfl, s1.trans (same_stay hp st2)⟩⟩
  · obtain ⟨y1, y2, rfl, s1⟩ := hP
    exact q _

theorem fin (T : Bt mg)
    {f2 : Addr} {fd2 : FuncData} (D_in_row : Df K mg "in_row" s_in_row ["thing", "size"] f2 fd2)
    {f3 : Addr} {fd3 : FuncData} (D_all_in_row : Df K mg "all_in_row" s_all_in_row ["thing", "size"] f3 fd3)
    {f4 : Addr} {fd4 : FuncData} (D_nearness : Df K mg "nearness" s_nearness ["cell", "wish"] f4 fd4)
    {f5 : Addr} {fd5 : FuncData} (D_needs : Df K mg "needs" s_needs ["size", "cell", "wish"] f5 fd5)
    {f7 : Addr} {fd7 : FuncData} (D_needed_cells : Df K mg "needed_cells" s_needed_cells ["table", "cell"] f7 fd7)
    {f8 : Addr} {fd8 : FuncData} (D_need_one_another : Df K mg "need_one_another" s_need_one_another ["table", "one", "other"] f8 fd8)
    {f10 : Addr} {fd10 : FuncData} (D_shows_gap : Df K mg "shows_gap" s_shows_gap ["table", "thing"] f10 fd10)
    {f11 : Addr} {fd11 : FuncData} (D_shows_both : Df K mg "shows_both" s_shows_both ["table", "thing"] f11 fd11)
    {f12 : Addr} {fd12 : FuncData} (D_pair_in_row : Df K mg "pair_in_row" s_pair_in_row ["thing", "size"] f12 fd12)
    {f14 : Addr} {fd14 : FuncData} (D_law_source : Df K mg "_law_source" s_law_source ["_law_script", "_law_index"] f14 fd14)
    {f15 : Addr} {fd15 : FuncData} (D_law_draw : Df K mg "_law_draw" s_law_draw ["_law_source_here", "_law_bound"] f15 fd15)
    {f16 : Addr} {fd16 : FuncData} (D_law_choice : Df K mg "_law_choice" s_law_choice ["_law_source_here", "_law_row_here"] f16 fd16)
    {f17 : Addr} {fd17 : FuncData} (D_law_equal : Df K mg "_law_equal" s_law_equal ["_law_found", "_law_due"] f17 fd17)
    {f18 : Addr} {fd18 : FuncData} (D_law_odd : Df K mg "_law_odd" s_law_odd ["_law_source_here", "_law_value"] f18 fd18)
    {f19 : Addr} {fd19 : FuncData} (D_law_bent : Df K mg "_law_bent" s_law_bent ["_law_source_here", "_law_value"] f19 fd19)
    {f20 : Addr} {fd20 : FuncData} (D_law_integer : Df K mg "_law_integer" s_law_integer ["_law_value"] f20 fd20)
    {f21 : Addr} {fd21 : FuncData} (D_law_needs : Df K mg "_law_needs" s_law_needs ["_law_width", "_law_spot", "_law_hope"] f21 fd21)
    {f22 : Addr} {fd22 : FuncData} (D_law_fill : Df K mg "_law_fill" s_law_fill ["_law_width", "_law_hopes_here"] f22 fd22)
    {f23 : Addr} {fd23 : FuncData} (D_law_hopes : Df K mg "_law_hopes" s_law_hopes ["_law_source_here", "_law_width"] f23 fd23)
    {f24 : Addr} {fd24 : FuncData} (D_law_veiled : Df K mg "_law_veiled" s_law_veiled ["_law_source_here", "_law_shelf"] f24 fd24)
    {f25 : Addr} {fd25 : FuncData} (D_law_case : Df K mg "_law_case" s_law_case ["_law_source_here", "_law_most"] f25 fd25)
    {f26 : Addr} {fd26 : FuncData} (D_law_spoiled : Df K mg "_law_spoiled" s_law_spoiled ["_law_source_here", "_law_shelf"] f26 fd26)
    {f27 : Addr} {fd27 : FuncData} (D_law_any : Df K mg "_law_any" s_law_any ["_law_source_here", "_law_most"] f27 fd27)
    {f28 : Addr} {fd28 : FuncData} (D_law_full_spots : Df K mg "_law_full_spots" s_law_full_spots ["_law_shelf"] f28 fd28)
    {f29 : Addr} {fd29 : FuncData} (D_law_wanted : Df K mg "_law_wanted" s_law_wanted ["_law_shelf", "_law_spot"] f29 fd29)
    {f30 : Addr} {fd30 : FuncData} (D_law_holds : Df K mg "_law_holds" s_law_holds ["_law_source_here"] f30 fd30)
    {f31 : Addr} {fd31 : FuncData} (D_law : Df K mg "law" s_law ["_law_script"] f31 fd31)
    : FnOkG P w K mg base lawLevel f31 fd31 ["_law_script"] (spLaw K) := by
  have k_in_row := ok_inrow (P := P) (w := w) (base := base) (k := 0) T D_in_row
  have k_all_in_row := ok_allin (k := 0) T D_all_in_row k_in_row
  have k_nearness := ok_nearness (P := P) (w := w) (base := base) (k := 0) T D_nearness
  have k_needs := ok_needs (k := 0) T D_needs k_nearness
  have k_needed_cells := ok_needed (k := 0) T D_needed_cells k_needs
  have k_need_one_another := ok_mutual (k := 0) T D_need_one_another k_needed_cells
  have k_pair_in_row := ok_pair (k := 0) T D_pair_in_row k_all_in_row
  have k_shows_gap := ok_shows_gap T D_shows_gap k_pair_in_row k_needed_cells
  have k_shows_both := ok_shows_both T D_shows_both k_pair_in_row k_need_one_another
  have k_law_source := ok_source (P := P) (w := w) (base := base) (k := 0) T D_law_source
  have k_law_draw := ok_draw (P := P) (w := w) (base := base) (k := 0) T D_law_draw
  have k_law_equal := ok_equal (P := P) (w := w) (base := base) T D_law_equal 4
  have k_law_integer := ok_integer (P := P) (w := w) (base := base) (k := 0) T D_law_integer
  have k_law_choice := ok_choice (k := 0) T D_law_choice k_law_draw
  have k_law_odd := ok_odd (k := 0) T D_law_odd k_law_choice
  have k_law_bent := ok_bent (P := P) (w := w) (base := base) T D_law_bent k_law_odd k_law_draw 30
  have k_law_needs := ok_lawneeds (P := P) (w := w) (base := base) (k := 0) T D_law_needs
  have k_law_full_spots := ok_spots (P := P) (w := w) (base := base) (k := 0) T D_law_full_spots
  have k_law_wanted := ok_wanted (k := 0) T D_law_wanted k_law_needs
  have k_law_hopes := ok_hopes (k := 0) T D_law_hopes k_law_draw
  have k_law_fill := ok_fill (P := P) (w := w) (base := base) (k := 0) T D_law_fill
  have k_law_veiled := ok_veiled (k := 0) T D_law_veiled k_law_draw k_law_choice
  have k_law_case := ok_case T D_law_case k_law_draw k_law_hopes k_law_fill k_law_veiled
  have k_law_spoiled := ok_spoiled (k := 0) T D_law_spoiled k_law_draw k_law_choice
  have k_law_any := ok_any T D_law_any k_law_draw k_law_case k_law_spoiled
  have kZ := ok_holds T D_law_holds k_shows_gap k_shows_both ⟨D_law_equal, k_law_equal⟩ k_law_any ⟨D_law_bent, k_law_bent⟩ k_law_spoiled k_law_full_spots k_law_wanted k_law_choice k_law_integer
  exact ok_law T D_law k_law_source ⟨D_law_holds, kZ⟩
end
theorem all_mk {l : PySem.W.OpenLaw} {w : World} {K : PySem.W.Frag} {h : Heap} {mg : Str → Option Value} {fa f2 f3 f4 f5 f7 f8 f10 f11 f12 f14 f15 f16 f17 f18 f19 f20 f21 f22 f23 f24 f25 f26 f27 f28 f29 f30 f31 : Addr} (X : K.In h) (G : h.Ns mainGlobals mg) (hfa : mg "law" = some (.ref fa))
    {od2 an2 od3 an3 od4 an4 od5 an5 od7 an7 od8 an8 od10 an10 od11 an11 od12 an12 od14 an14 od15 an15 od16 an16 od17 an17 od18 an18 od19 an19 od20 an20 od21 an21 od22 an22 od23 an23 od24 an24 od25 an25 od26 an26 od27 an27 od28 an28 od29 an29 od30 an30 od31 an31 : Option Addr} {sl2 sl3 sl4 sl5 sl7 sl8 sl10 sl11 sl12 sl14 sl15 sl16 sl17 sl18 sl19 sl20 sl21 sl22 sl23 sl24 sl25 sl26 sl27 sl28 sl29 sl30 sl31 : Array (Option Value)} {oc2 kV2 dc2 pm2 cd2 ct2 oc3 kV3 dc3 pm3 cd3 ct3 oc4 kV4 dc4 pm4 cd4 ct4 oc5 kV5 dc5 pm5 cd5 ct5 oc7 kV7 dc7 pm7 cd7 ct7 oc8 kV8 dc8 pm8 cd8 ct8 oc10 kV10 dc10 pm10 cd10 ct10 oc11 kV11 dc11 pm11 cd11 ct11 oc12 kV12 dc12 pm12 cd12 ct12 oc14 kV14 dc14 pm14 cd14 ct14 oc15 kV15 dc15 pm15 cd15 ct15 oc16 kV16 dc16 pm16 cd16 ct16 oc17 kV17 dc17 pm17 cd17 ct17 oc18 kV18 dc18 pm18 cd18 ct18 oc19 kV19 dc19 pm19 cd19 ct19 oc20 kV20 dc20 pm20 cd20 ct20 oc21 kV21 dc21 pm21 cd21 ct21 oc22 kV22 dc22 pm22 cd22 ct22 oc23 kV23 dc23 pm23 cd23 ct23 oc24 kV24 dc24 pm24 cd24 ct24 oc25 kV25 dc25 pm25 cd25 ct25 oc26 kV26 dc26 pm26 cd26 ct26 oc27 kV27 dc27 pm27 cd27 ct27 oc28 kV28 dc28 pm28 cd28 ct28 oc29 kV29 dc29 pm29 cd29 ct29 oc30 kV30 dc30 pm30 cd30 ct30 oc31 kV31 dc31 pm31 cd31 ct31 : Value}
    (a2 : PySem.W.nsIn K mainGlobals "in_row" = some (some (.ref f2))) (l2 : K.lookup f2 = some ⟨oc2, od2, .func (PySem.W.fnOf "in_row" "in_row" (defArgs s_in_row) (defBody s_in_row) (defScope s_in_row) .none kV2 dc2 pm2 an2 cd2 ct2), sl2⟩) (c2 : PySem.W.codeIn K cd2 "in_row" = true) (k2 : PySem.W.keepIn K (.ref f2) = true)
    (a3 : PySem.W.nsIn K mainGlobals "all_in_row" = some (some (.ref f3))) (l3 : K.lookup f3 = some ⟨oc3, od3, .func (PySem.W.fnOf "all_in_row" "all_in_row" (defArgs s_all_in_row) (defBody s_all_in_row) (defScope s_all_in_row) .none kV3 dc3 pm3 an3 cd3 ct3), sl3⟩) (c3 : PySem.W.codeIn K cd3 "all_in_row" = true) (k3 : PySem.W.keepIn K (.ref f3) = true)
    (a4 : PySem.W.nsIn K mainGlobals "nearness" = some (some (.ref f4))) (l4 : K.lookup f4 = some ⟨oc4, od4, .func (PySem.W.fnOf "nearness" "nearness" (defArgs s_nearness) (defBody s_nearness) (defScope s_nearness) .none kV4 dc4 pm4 an4 cd4 ct4), sl4⟩) (c4 : PySem.W.codeIn K cd4 "nearness" = true) (k4 : PySem.W.keepIn K (.ref f4) = true)
    (a5 : PySem.W.nsIn K mainGlobals "needs" = some (some (.ref f5))) (l5 : K.lookup f5 = some ⟨oc5, od5, .func (PySem.W.fnOf "needs" "needs" (defArgs s_needs) (defBody s_needs) (defScope s_needs) .none kV5 dc5 pm5 an5 cd5 ct5), sl5⟩) (c5 : PySem.W.codeIn K cd5 "needs" = true) (k5 : PySem.W.keepIn K (.ref f5) = true)
    (a7 : PySem.W.nsIn K mainGlobals "needed_cells" = some (some (.ref f7))) (l7 : K.lookup f7 = some ⟨oc7, od7, .func (PySem.W.fnOf "needed_cells" "needed_cells" (defArgs s_needed_cells) (defBody s_needed_cells) (defScope s_needed_cells) .none kV7 dc7 pm7 an7 cd7 ct7), sl7⟩) (c7 : PySem.W.codeIn K cd7 "needed_cells" = true) (k7 : PySem.W.keepIn K (.ref f7) = true)
    (a8 : PySem.W.nsIn K mainGlobals "need_one_another" = some (some (.ref f8))) (l8 : K.lookup f8 = some ⟨oc8, od8, .func (PySem.W.fnOf "need_one_another" "need_one_another" (defArgs s_need_one_another) (defBody s_need_one_another) (defScope s_need_one_another) .none kV8 dc8 pm8 an8 cd8 ct8), sl8⟩) (c8 : PySem.W.codeIn K cd8 "need_one_another" = true) (k8 : PySem.W.keepIn K (.ref f8) = true)
    (a10 : PySem.W.nsIn K mainGlobals "shows_gap" = some (some (.ref f10))) (l10 : K.lookup f10 = some ⟨oc10, od10, .func (PySem.W.fnOf "shows_gap" "shows_gap" (defArgs s_shows_gap) (defBody s_shows_gap) (defScope s_shows_gap) .none kV10 dc10 pm10 an10 cd10 ct10), sl10⟩) (c10 : PySem.W.codeIn K cd10 "shows_gap" = true) (k10 : PySem.W.keepIn K (.ref f10) = true)
    (a11 : PySem.W.nsIn K mainGlobals "shows_both" = some (some (.ref f11))) (l11 : K.lookup f11 = some ⟨oc11, od11, .func (PySem.W.fnOf "shows_both" "shows_both" (defArgs s_shows_both) (defBody s_shows_both) (defScope s_shows_both) .none kV11 dc11 pm11 an11 cd11 ct11), sl11⟩) (c11 : PySem.W.codeIn K cd11 "shows_both" = true) (k11 : PySem.W.keepIn K (.ref f11) = true)
    (a12 : PySem.W.nsIn K mainGlobals "pair_in_row" = some (some (.ref f12))) (l12 : K.lookup f12 = some ⟨oc12, od12, .func (PySem.W.fnOf "pair_in_row" "pair_in_row" (defArgs s_pair_in_row) (defBody s_pair_in_row) (defScope s_pair_in_row) .none kV12 dc12 pm12 an12 cd12 ct12), sl12⟩) (c12 : PySem.W.codeIn K cd12 "pair_in_row" = true) (k12 : PySem.W.keepIn K (.ref f12) = true)
    (a14 : PySem.W.nsIn K mainGlobals "_law_source" = some (some (.ref f14))) (l14 : K.lookup f14 = some ⟨oc14, od14, .func (PySem.W.fnOf "_law_source" "_law_source" (defArgs s_law_source) (defBody s_law_source) (defScope s_law_source) .none kV14 dc14 pm14 an14 cd14 ct14), sl14⟩) (c14 : PySem.W.codeIn K cd14 "_law_source" = true) (k14 : PySem.W.keepIn K (.ref f14) = true)
    (a15 : PySem.W.nsIn K mainGlobals "_law_draw" = some (some (.ref f15))) (l15 : K.lookup f15 = some ⟨oc15, od15, .func (PySem.W.fnOf "_law_draw" "_law_draw" (defArgs s_law_draw) (defBody s_law_draw) (defScope s_law_draw) .none kV15 dc15 pm15 an15 cd15 ct15), sl15⟩) (c15 : PySem.W.codeIn K cd15 "_law_draw" = true) (k15 : PySem.W.keepIn K (.ref f15) = true)
    (a16 : PySem.W.nsIn K mainGlobals "_law_choice" = some (some (.ref f16))) (l16 : K.lookup f16 = some ⟨oc16, od16, .func (PySem.W.fnOf "_law_choice" "_law_choice" (defArgs s_law_choice) (defBody s_law_choice) (defScope s_law_choice) .none kV16 dc16 pm16 an16 cd16 ct16), sl16⟩) (c16 : PySem.W.codeIn K cd16 "_law_choice" = true) (k16 : PySem.W.keepIn K (.ref f16) = true)
    (a17 : PySem.W.nsIn K mainGlobals "_law_equal" = some (some (.ref f17))) (l17 : K.lookup f17 = some ⟨oc17, od17, .func (PySem.W.fnOf "_law_equal" "_law_equal" (defArgs s_law_equal) (defBody s_law_equal) (defScope s_law_equal) .none kV17 dc17 pm17 an17 cd17 ct17), sl17⟩) (c17 : PySem.W.codeIn K cd17 "_law_equal" = true) (k17 : PySem.W.keepIn K (.ref f17) = true)
    (a18 : PySem.W.nsIn K mainGlobals "_law_odd" = some (some (.ref f18))) (l18 : K.lookup f18 = some ⟨oc18, od18, .func (PySem.W.fnOf "_law_odd" "_law_odd" (defArgs s_law_odd) (defBody s_law_odd) (defScope s_law_odd) .none kV18 dc18 pm18 an18 cd18 ct18), sl18⟩) (c18 : PySem.W.codeIn K cd18 "_law_odd" = true) (k18 : PySem.W.keepIn K (.ref f18) = true)
    (a19 : PySem.W.nsIn K mainGlobals "_law_bent" = some (some (.ref f19))) (l19 : K.lookup f19 = some ⟨oc19, od19, .func (PySem.W.fnOf "_law_bent" "_law_bent" (defArgs s_law_bent) (defBody s_law_bent) (defScope s_law_bent) .none kV19 dc19 pm19 an19 cd19 ct19), sl19⟩) (c19 : PySem.W.codeIn K cd19 "_law_bent" = true) (k19 : PySem.W.keepIn K (.ref f19) = true)
    (a20 : PySem.W.nsIn K mainGlobals "_law_integer" = some (some (.ref f20))) (l20 : K.lookup f20 = some ⟨oc20, od20, .func (PySem.W.fnOf "_law_integer" "_law_integer" (defArgs s_law_integer) (defBody s_law_integer) (defScope s_law_integer) .none kV20 dc20 pm20 an20 cd20 ct20), sl20⟩) (c20 : PySem.W.codeIn K cd20 "_law_integer" = true) (k20 : PySem.W.keepIn K (.ref f20) = true)
    (a21 : PySem.W.nsIn K mainGlobals "_law_needs" = some (some (.ref f21))) (l21 : K.lookup f21 = some ⟨oc21, od21, .func (PySem.W.fnOf "_law_needs" "_law_needs" (defArgs s_law_needs) (defBody s_law_needs) (defScope s_law_needs) .none kV21 dc21 pm21 an21 cd21 ct21), sl21⟩) (c21 : PySem.W.codeIn K cd21 "_law_needs" = true) (k21 : PySem.W.keepIn K (.ref f21) = true)
    (a22 : PySem.W.nsIn K mainGlobals "_law_fill" = some (some (.ref f22))) (l22 : K.lookup f22 = some ⟨oc22, od22, .func (PySem.W.fnOf "_law_fill" "_law_fill" (defArgs s_law_fill) (defBody s_law_fill) (defScope s_law_fill) .none kV22 dc22 pm22 an22 cd22 ct22), sl22⟩) (c22 : PySem.W.codeIn K cd22 "_law_fill" = true) (k22 : PySem.W.keepIn K (.ref f22) = true)
    (a23 : PySem.W.nsIn K mainGlobals "_law_hopes" = some (some (.ref f23))) (l23 : K.lookup f23 = some ⟨oc23, od23, .func (PySem.W.fnOf "_law_hopes" "_law_hopes" (defArgs s_law_hopes) (defBody s_law_hopes) (defScope s_law_hopes) .none kV23 dc23 pm23 an23 cd23 ct23), sl23⟩) (c23 : PySem.W.codeIn K cd23 "_law_hopes" = true) (k23 : PySem.W.keepIn K (.ref f23) = true)
    (a24 : PySem.W.nsIn K mainGlobals "_law_veiled" = some (some (.ref f24))) (l24 : K.lookup f24 = some ⟨oc24, od24, .func (PySem.W.fnOf "_law_veiled" "_law_veiled" (defArgs s_law_veiled) (defBody s_law_veiled) (defScope s_law_veiled) .none kV24 dc24 pm24 an24 cd24 ct24), sl24⟩) (c24 : PySem.W.codeIn K cd24 "_law_veiled" = true) (k24 : PySem.W.keepIn K (.ref f24) = true)
    (a25 : PySem.W.nsIn K mainGlobals "_law_case" = some (some (.ref f25))) (l25 : K.lookup f25 = some ⟨oc25, od25, .func (PySem.W.fnOf "_law_case" "_law_case" (defArgs s_law_case) (defBody s_law_case) (defScope s_law_case) .none kV25 dc25 pm25 an25 cd25 ct25), sl25⟩) (c25 : PySem.W.codeIn K cd25 "_law_case" = true) (k25 : PySem.W.keepIn K (.ref f25) = true)
    (a26 : PySem.W.nsIn K mainGlobals "_law_spoiled" = some (some (.ref f26))) (l26 : K.lookup f26 = some ⟨oc26, od26, .func (PySem.W.fnOf "_law_spoiled" "_law_spoiled" (defArgs s_law_spoiled) (defBody s_law_spoiled) (defScope s_law_spoiled) .none kV26 dc26 pm26 an26 cd26 ct26), sl26⟩) (c26 : PySem.W.codeIn K cd26 "_law_spoiled" = true) (k26 : PySem.W.keepIn K (.ref f26) = true)
    (a27 : PySem.W.nsIn K mainGlobals "_law_any" = some (some (.ref f27))) (l27 : K.lookup f27 = some ⟨oc27, od27, .func (PySem.W.fnOf "_law_any" "_law_any" (defArgs s_law_any) (defBody s_law_any) (defScope s_law_any) .none kV27 dc27 pm27 an27 cd27 ct27), sl27⟩) (c27 : PySem.W.codeIn K cd27 "_law_any" = true) (k27 : PySem.W.keepIn K (.ref f27) = true)
    (a28 : PySem.W.nsIn K mainGlobals "_law_full_spots" = some (some (.ref f28))) (l28 : K.lookup f28 = some ⟨oc28, od28, .func (PySem.W.fnOf "_law_full_spots" "_law_full_spots" (defArgs s_law_full_spots) (defBody s_law_full_spots) (defScope s_law_full_spots) .none kV28 dc28 pm28 an28 cd28 ct28), sl28⟩) (c28 : PySem.W.codeIn K cd28 "_law_full_spots" = true) (k28 : PySem.W.keepIn K (.ref f28) = true)
    (a29 : PySem.W.nsIn K mainGlobals "_law_wanted" = some (some (.ref f29))) (l29 : K.lookup f29 = some ⟨oc29, od29, .func (PySem.W.fnOf "_law_wanted" "_law_wanted" (defArgs s_law_wanted) (defBody s_law_wanted) (defScope s_law_wanted) .none kV29 dc29 pm29 an29 cd29 ct29), sl29⟩) (c29 : PySem.W.codeIn K cd29 "_law_wanted" = true) (k29 : PySem.W.keepIn K (.ref f29) = true)
    (a30 : PySem.W.nsIn K mainGlobals "_law_holds" = some (some (.ref f30))) (l30 : K.lookup f30 = some ⟨oc30, od30, .func (PySem.W.fnOf "_law_holds" "_law_holds" (defArgs s_law_holds) (defBody s_law_holds) (defScope s_law_holds) .none kV30 dc30 pm30 an30 cd30 ct30), sl30⟩) (c30 : PySem.W.codeIn K cd30 "_law_holds" = true) (k30 : PySem.W.keepIn K (.ref f30) = true)
    (a31 : PySem.W.nsIn K mainGlobals "law" = some (some (.ref f31))) (l31 : K.lookup f31 = some ⟨oc31, od31, .func (PySem.W.fnOf "law" "law" (defArgs s_law) (defBody s_law) (defScope s_law) .none kV31 dc31 pm31 an31 cd31 ct31), sl31⟩) (c31 : PySem.W.codeIn K cd31 "law" = true) (k31 : PySem.W.keepIn K (.ref f31) = true)
    (z_abs : PySem.W.nsIn K mainGlobals "abs" = some none) (z_all : PySem.W.nsIn K mainGlobals "all" = some none) (z_bool : PySem.W.nsIn K mainGlobals "bool" = some none) (z_enumerate : PySem.W.nsIn K mainGlobals "enumerate" = some none) (z_int : PySem.W.nsIn K mainGlobals "int" = some none) (z_isinstance : PySem.W.nsIn K mainGlobals "isinstance" = some none) (z_len : PySem.W.nsIn K mainGlobals "len" = some none) (z_list : PySem.W.nsIn K mainGlobals "list" = some none) (z_max : PySem.W.nsIn K mainGlobals "max" = some none) (z_min : PySem.W.nsIn K mainGlobals "min" = some none) (z_range : PySem.W.nsIn K mainGlobals "range" = some none) (z_repr : PySem.W.nsIn K mainGlobals "repr" = some none) (z_str : PySem.W.nsIn K mainGlobals "str" = some none) (z_tuple : PySem.W.nsIn K mainGlobals "tuple" = some none) (z_zip : PySem.W.nsIn K mainGlobals "zip" = some none)
    {tk_UNKNOWN : Tok} (u_UNKNOWN : PySem.W.nsIn K mainGlobals "UNKNOWN" = some (some (Value.str "?" tk_UNKNOWN))) :
    ∃ fd : FuncData, (∀ (s : Shared) (v : Value), BindsTo s fd ⟨[v], []⟩ [("_law_script", v)]) ∧ ∀ base : Heap, K.In base → base.Ns mainGlobals mg → FnOkG l.prog w K mg base lawLevel fa fd ["_law_script"] (spLaw K) := by
  have e := hfa.symm.trans (PySem.W.mg_of X G a31)
  cases e
  have D2 : Df K mg "in_row" s_in_row ["thing", "size"] _ _ := ⟨fun_mk (st := s_in_row) l2 c2 k2, (fun_mk (st := s_in_row) l2 c2 k2).binds (ps := ["thing", "size"]) fun _ _ _ _ _ _ us hl => match us, hl with | [_, _], _ => rfl, PySem.W.mg_of X G a2⟩
  have D3 : Df K mg "all_in_row" s_all_in_row ["thing", "size"] _ _ := ⟨fun_mk (st := s_all_in_row) l3 c3 k3, (fun_mk (st := s_all_in_row) l3 c3 k3).binds (ps := ["thing", "size"]) fun _ _ _ _ _ _ us hl => match us, hl with | [_, _], _ => rfl, PySem.W.mg_of X G a3⟩
  have D4 : Df K mg "nearness" s_nearness ["cell", "wish"] _ _ := ⟨fun_mk (st := s_nearness) l4 c4 k4, (fun_mk (st := s_nearness) l4 c4 k4).binds (ps := ["cell", "wish"]) fun _ _ _ _ _ _ us hl => match us, hl with | [_, _], _ => rfl, PySem.W.mg_of X G a4⟩
  have D5 : Df K mg "needs" s_needs ["size", "cell", "wish"] _ _ := ⟨fun_mk (st := s_needs) l5 c5 k5, (fun_mk (st := s_needs) l5 c5 k5).binds (ps := ["size", "cell", "wish"]) fun _ _ _ _ _ _ us hl => match us, hl with | [_, _, _], _ => rfl, PySem.W.mg_of X G a5⟩
  have D7 : Df K mg "needed_cells" s_needed_cells ["table", "cell"] _ _ := ⟨fun_mk (st := s_needed_cells) l7 c7 k7, (fun_mk (st := s_needed_cells) l7 c7 k7).binds (ps := ["table", "cell"]) fun _ _ _ _ _ _ us hl => match us, hl with | [_, _], _ => rfl, PySem.W.mg_of X G a7⟩
  have D8 : Df K mg "need_one_another" s_need_one_another ["table", "one", "other"] _ _ := ⟨fun_mk (st := s_need_one_another) l8 c8 k8, (fun_mk (st := s_need_one_another) l8 c8 k8).binds (ps := ["table", "one", "other"]) fun _ _ _ _ _ _ us hl => match us, hl with | [_, _, _], _ => rfl, PySem.W.mg_of X G a8⟩
  have D10 : Df K mg "shows_gap" s_shows_gap ["table", "thing"] _ _ := ⟨fun_mk (st := s_shows_gap) l10 c10 k10, (fun_mk (st := s_shows_gap) l10 c10 k10).binds (ps := ["table", "thing"]) fun _ _ _ _ _ _ us hl => match us, hl with | [_, _], _ => rfl, PySem.W.mg_of X G a10⟩
  have D11 : Df K mg "shows_both" s_shows_both ["table", "thing"] _ _ := ⟨fun_mk (st := s_shows_both) l11 c11 k11, (fun_mk (st := s_shows_both) l11 c11 k11).binds (ps := ["table", "thing"]) fun _ _ _ _ _ _ us hl => match us, hl with | [_, _], _ => rfl, PySem.W.mg_of X G a11⟩
  have D12 : Df K mg "pair_in_row" s_pair_in_row ["thing", "size"] _ _ := ⟨fun_mk (st := s_pair_in_row) l12 c12 k12, (fun_mk (st := s_pair_in_row) l12 c12 k12).binds (ps := ["thing", "size"]) fun _ _ _ _ _ _ us hl => match us, hl with | [_, _], _ => rfl, PySem.W.mg_of X G a12⟩
  have D14 : Df K mg "_law_source" s_law_source ["_law_script", "_law_index"] _ _ := ⟨fun_mk (st := s_law_source) l14 c14 k14, (fun_mk (st := s_law_source) l14 c14 k14).binds (ps := ["_law_script", "_law_index"]) fun _ _ _ _ _ _ us hl => match us, hl with | [_, _], _ => rfl, PySem.W.mg_of X G a14⟩
  have D15 : Df K mg "_law_draw" s_law_draw ["_law_source_here", "_law_bound"] _ _ := ⟨fun_mk (st := s_law_draw) l15 c15 k15, (fun_mk (st := s_law_draw) l15 c15 k15).binds (ps := ["_law_source_here", "_law_bound"]) fun _ _ _ _ _ _ us hl => match us, hl with | [_, _], _ => rfl, PySem.W.mg_of X G a15⟩
  have D16 : Df K mg "_law_choice" s_law_choice ["_law_source_here", "_law_row_here"] _ _ := ⟨fun_mk (st := s_law_choice) l16 c16 k16, (fun_mk (st := s_law_choice) l16 c16 k16).binds (ps := ["_law_source_here", "_law_row_here"]) fun _ _ _ _ _ _ us hl => match us, hl with | [_, _], _ => rfl, PySem.W.mg_of X G a16⟩
  have D17 : Df K mg "_law_equal" s_law_equal ["_law_found", "_law_due"] _ _ := ⟨fun_mk (st := s_law_equal) l17 c17 k17, (fun_mk (st := s_law_equal) l17 c17 k17).binds (ps := ["_law_found", "_law_due"]) fun _ _ _ _ _ _ us hl => match us, hl with | [_, _], _ => rfl, PySem.W.mg_of X G a17⟩
  have D18 : Df K mg "_law_odd" s_law_odd ["_law_source_here", "_law_value"] _ _ := ⟨fun_mk (st := s_law_odd) l18 c18 k18, (fun_mk (st := s_law_odd) l18 c18 k18).binds (ps := ["_law_source_here", "_law_value"]) fun _ _ _ _ _ _ us hl => match us, hl with | [_, _], _ => rfl, PySem.W.mg_of X G a18⟩
  have D19 : Df K mg "_law_bent" s_law_bent ["_law_source_here", "_law_value"] _ _ := ⟨fun_mk (st := s_law_bent) l19 c19 k19, (fun_mk (st := s_law_bent) l19 c19 k19).binds (ps := ["_law_source_here", "_law_value"]) fun _ _ _ _ _ _ us hl => match us, hl with | [_, _], _ => rfl, PySem.W.mg_of X G a19⟩
  have D20 : Df K mg "_law_integer" s_law_integer ["_law_value"] _ _ := ⟨fun_mk (st := s_law_integer) l20 c20 k20, (fun_mk (st := s_law_integer) l20 c20 k20).binds (ps := ["_law_value"]) fun _ _ _ _ _ _ us hl => match us, hl with | [_], _ => rfl, PySem.W.mg_of X G a20⟩
  have D21 : Df K mg "_law_needs" s_law_needs ["_law_width", "_law_spot", "_law_hope"] _ _ := ⟨fun_mk (st := s_law_needs) l21 c21 k21, (fun_mk (st := s_law_needs) l21 c21 k21).binds (ps := ["_law_width", "_law_spot", "_law_hope"]) fun _ _ _ _ _ _ us hl => match us, hl with | [_, _, _], _ => rfl, PySem.W.mg_of X G a21⟩
  have D22 : Df K mg "_law_fill" s_law_fill ["_law_width", "_law_hopes_here"] _ _ := ⟨fun_mk (st := s_law_fill) l22 c22 k22, (fun_mk (st := s_law_fill) l22 c22 k22).binds (ps := ["_law_width", "_law_hopes_here"]) fun _ _ _ _ _ _ us hl => match us, hl with | [_, _], _ => rfl, PySem.W.mg_of X G a22⟩
  have D23 : Df K mg "_law_hopes" s_law_hopes ["_law_source_here", "_law_width"] _ _ := ⟨fun_mk (st := s_law_hopes) l23 c23 k23, (fun_mk (st := s_law_hopes) l23 c23 k23).binds (ps := ["_law_source_here", "_law_width"]) fun _ _ _ _ _ _ us hl => match us, hl with | [_, _], _ => rfl, PySem.W.mg_of X G a23⟩
  have D24 : Df K mg "_law_veiled" s_law_veiled ["_law_source_here", "_law_shelf"] _ _ := ⟨fun_mk (st := s_law_veiled) l24 c24 k24, (fun_mk (st := s_law_veiled) l24 c24 k24).binds (ps := ["_law_source_here", "_law_shelf"]) fun _ _ _ _ _ _ us hl => match us, hl with | [_, _], _ => rfl, PySem.W.mg_of X G a24⟩
  have D25 : Df K mg "_law_case" s_law_case ["_law_source_here", "_law_most"] _ _ := ⟨fun_mk (st := s_law_case) l25 c25 k25, (fun_mk (st := s_law_case) l25 c25 k25).binds (ps := ["_law_source_here", "_law_most"]) fun _ _ _ _ _ _ us hl => match us, hl with | [_, _], _ => rfl, PySem.W.mg_of X G a25⟩
  have D26 : Df K mg "_law_spoiled" s_law_spoiled ["_law_source_here", "_law_shelf"] _ _ := ⟨fun_mk (st := s_law_spoiled) l26 c26 k26, (fun_mk (st := s_law_spoiled) l26 c26 k26).binds (ps := ["_law_source_here", "_law_shelf"]) fun _ _ _ _ _ _ us hl => match us, hl with | [_, _], _ => rfl, PySem.W.mg_of X G a26⟩
  have D27 : Df K mg "_law_any" s_law_any ["_law_source_here", "_law_most"] _ _ := ⟨fun_mk (st := s_law_any) l27 c27 k27, (fun_mk (st := s_law_any) l27 c27 k27).binds (ps := ["_law_source_here", "_law_most"]) fun _ _ _ _ _ _ us hl => match us, hl with | [_, _], _ => rfl, PySem.W.mg_of X G a27⟩
  have D28 : Df K mg "_law_full_spots" s_law_full_spots ["_law_shelf"] _ _ := ⟨fun_mk (st := s_law_full_spots) l28 c28 k28, (fun_mk (st := s_law_full_spots) l28 c28 k28).binds (ps := ["_law_shelf"]) fun _ _ _ _ _ _ us hl => match us, hl with | [_], _ => rfl, PySem.W.mg_of X G a28⟩
  have D29 : Df K mg "_law_wanted" s_law_wanted ["_law_shelf", "_law_spot"] _ _ := ⟨fun_mk (st := s_law_wanted) l29 c29 k29, (fun_mk (st := s_law_wanted) l29 c29 k29).binds (ps := ["_law_shelf", "_law_spot"]) fun _ _ _ _ _ _ us hl => match us, hl with | [_, _], _ => rfl, PySem.W.mg_of X G a29⟩
  have D30 : Df K mg "_law_holds" s_law_holds ["_law_source_here"] _ _ := ⟨fun_mk (st := s_law_holds) l30 c30 k30, (fun_mk (st := s_law_holds) l30 c30 k30).binds (ps := ["_law_source_here"]) fun _ _ _ _ _ _ us hl => match us, hl with | [_], _ => rfl, PySem.W.mg_of X G a30⟩
  have D31 : Df K mg "law" s_law ["_law_script"] _ _ := ⟨fun_mk (st := s_law) l31 c31 k31, (fun_mk (st := s_law) l31 c31 k31).binds (ps := ["_law_script"]) fun _ _ _ _ _ _ us hl => match us, hl with | [_], _ => rfl, PySem.W.mg_of X G a31⟩
  have T : Bt mg := ⟨PySem.W.mg_none_of X G z_abs, PySem.W.mg_none_of X G z_all, PySem.W.mg_none_of X G z_bool, PySem.W.mg_none_of X G z_enumerate, PySem.W.mg_none_of X G z_int, PySem.W.mg_none_of X G z_isinstance, PySem.W.mg_none_of X G z_len, PySem.W.mg_none_of X G z_list, PySem.W.mg_none_of X G z_max, PySem.W.mg_none_of X G z_min, PySem.W.mg_none_of X G z_range, PySem.W.mg_none_of X G z_repr, PySem.W.mg_none_of X G z_str, PySem.W.mg_none_of X G z_tuple, PySem.W.mg_none_of X G z_zip, ⟨_, PySem.W.mg_of X G u_UNKNOWN⟩⟩
  exact ⟨PySem.W.fnOf "law" "law" (defArgs s_law) (defBody s_law) (defScope s_law) .none kV31 dc31 pm31 an31 cd31 ct31, fun s v => .of_eq rfl, fun base _ _ => fin T D2 D3 D4 D5 D7 D8 D10 D11 D12 D14 D15 D16 D17 D18 D19 D20 D21 D22 D23 D24 D25 D26 D27 D28 D29 D30 D31⟩

end NS
open PySem PySem.W PyProof.Rows
set_option maxRecDepth 100000 in
set_option maxHeartbeats 0 in
theorem PySem.Challenge.cw_nearslot_k07_reasons_shown_or_not_holds : PySem.Challenge.rw_nearslot_k07_reasons_shown_or_not.Holds := by
  w_on; o_law; k_head; (case hw => w_witness2)
  k_fill
  refine NS.walkG (l := PySem.Challenge.rw_nearslot_k07_reasons_shown_or_not) (n := 63) (k := NS.lawLevel) (x := "_law_script") (sp := fun w => NS.spLaw _) rfl (by decide) rfl ⟨rfl, by decide, by decide⟩ (fun w h Y => PySem.W.kIn_of Y) ?F NS.lawStart
  case F =>
    intro w mg fa h KX G hmg
    refine' NS.all_mk KX G hmg ?a2 ?l2 ?c2 ?k2 ?a3 ?l3 ?c3 ?k3 ?a4 ?l4 ?c4 ?k4 ?a5 ?l5 ?c5 ?k5 ?a7 ?l7 ?c7 ?k7 ?a8 ?l8 ?c8 ?k8 ?a10 ?l10 ?c10 ?k10 ?a11 ?l11 ?c11 ?k11 ?a12 ?l12 ?c12 ?k12 ?a14 ?l14 ?c14 ?k14 ?a15 ?l15 ?c15 ?k15 ?a16 ?l16 ?c16 ?k16 ?a17 ?l17 ?c17 ?k17 ?a18 ?l18 ?c18 ?k18 ?a19 ?l19 ?c19 ?k19 ?a20 ?l20 ?c20 ?k20 ?a21 ?l21 ?c21 ?k21 ?a22 ?l22 ?c22 ?k22 ?a23 ?l23 ?c23 ?k23 ?a24 ?l24 ?c24 ?k24 ?a25 ?l25 ?c25 ?k25 ?a26 ?l26 ?c26 ?k26 ?a27 ?l27 ?c27 ?k27 ?a28 ?l28 ?c28 ?k28 ?a29 ?l29 ?c29 ?k29 ?a30 ?l30 ?c30 ?k30 ?a31 ?l31 ?c31 ?k31 ?z_abs ?z_all ?z_bool ?z_enumerate ?z_int ?z_isinstance ?z_len ?z_list ?z_max ?z_min ?z_range ?z_repr ?z_str ?z_tuple ?z_zip ?u_UNKNOWN
    (case a2 => k_is); (case l2 => k_is); (case c2 => k_is); (case k2 => k_is)
    (case a3 => k_is); (case l3 => k_is); (case c3 => k_is); (case k3 => k_is)
    (case a4 => k_is); (case l4 => k_is); (case c4 => k_is); (case k4 => k_is)
    (case a5 => k_is); (case l5 => k_is); (case c5 => k_is); (case k5 => k_is)
    (case a7 => k_is); (case l7 => k_is); (case c7 => k_is); (case k7 => k_is)
    (case a8 => k_is); (case l8 => k_is); (case c8 => k_is); (case k8 => k_is)
    (case a10 => k_is); (case l10 => k_is); (case c10 => k_is); (case k10 => k_is)
    (case a11 => k_is); (case l11 => k_is); (case c11 => k_is); (case k11 => k_is)
    (case a12 => k_is); (case l12 => k_is); (case c12 => k_is); (case k12 => k_is)
    (case a14 => k_is); (case l14 => k_is); (case c14 => k_is); (case k14 => k_is)
    (case a15 => k_is); (case l15 => k_is); (case c15 => k_is); (case k15 => k_is)
    (case a16 => k_is); (case l16 => k_is); (case c16 => k_is); (case k16 => k_is)
    (case a17 => k_is); (case l17 => k_is); (case c17 => k_is); (case k17 => k_is)
    (case a18 => k_is); (case l18 => k_is); (case c18 => k_is); (case k18 => k_is)
    (case a19 => k_is); (case l19 => k_is); (case c19 => k_is); (case k19 => k_is)
    (case a20 => k_is); (case l20 => k_is); (case c20 => k_is); (case k20 => k_is)
    (case a21 => k_is); (case l21 => k_is); (case c21 => k_is); (case k21 => k_is)
    (case a22 => k_is); (case l22 => k_is); (case c22 => k_is); (case k22 => k_is)
    (case a23 => k_is); (case l23 => k_is); (case c23 => k_is); (case k23 => k_is)
    (case a24 => k_is); (case l24 => k_is); (case c24 => k_is); (case k24 => k_is)
    (case a25 => k_is); (case l25 => k_is); (case c25 => k_is); (case k25 => k_is)
    (case a26 => k_is); (case l26 => k_is); (case c26 => k_is); (case k26 => k_is)
    (case a27 => k_is); (case l27 => k_is); (case c27 => k_is); (case k27 => k_is)
    (case a28 => k_is); (case l28 => k_is); (case c28 => k_is); (case k28 => k_is)
    (case a29 => k_is); (case l29 => k_is); (case c29 => k_is); (case k29 => k_is)
    (case a30 => k_is); (case l30 => k_is); (case c30 => k_is); (case k30 => k_is)
    (case a31 => k_is); (case l31 => k_is); (case c31 => k_is); (case k31 => k_is)
    (case z_abs => k_is)
    (case z_all => k_is)
    (case z_bool => k_is)
    (case z_enumerate => k_is)
    (case z_int => k_is)
    (case z_isinstance => k_is)
    (case z_len => k_is)
    (case z_list => k_is)
    (case z_max => k_is)
    (case z_min => k_is)
    (case z_range => k_is)
    (case z_repr => k_is)
    (case z_str => k_is)
    (case z_tuple => k_is)
    (case z_zip => k_is)
    (case u_UNKNOWN => k_is)

