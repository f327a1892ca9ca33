import PyProof.Rows.All
import Wide.All
import OpenK.AllK
import Wide.FinOn
import HandS.ForMost
import HandS.Zip
import HandS.IsInst
import HandS.Defaults

import KE.KMinKey
import HandS.Style
import KE.KRevSl
import HandS.TupAny
import HandS.TupMul
import HandS.More
import HandS.Conv
import HandS.Zip0
import HandS.Walk
import HandS.DictComp
import HandS.Strs
import HandS.SetFor
import HandS.Star
import HandS.RevRange
import HandS.TupSets
import HandS.SortOrd
import PyProof.Rows.RegFStrParts
import HandS.Nested
import HandS.NestedK
import HandS.EndTab
import HandS.SortKw
import HandS.Exc
import HandS.ExcInit
import HandS.ExcOwn
import HandS.WordsExc
import HandS.StrMore
import HandS.RaiseMore
import KE.KExcInit
import KE.KExcIs
import HandS.Deep
import PySem.Challenge.RW_nearslot_k39_texts_of_tables
set_option Elab.async false
set_option linter.all false
set_option maxRecDepth 100000
set_option maxHeartbeats 4000000
namespace NS
open PySem L2
/-! ### a def of the text, what it keeps -/
structure Df (K : PySem.W.Frag) (mg : Str → Option Value) (x : Str) (st : Stmt) (ps : List Str) (f : Addr) (fd : FuncData) : Prop where
  F : Fun K x x st f fd
  b : Binds K fd ps []
  g : mg x = some (.ref f)
structure Kn (P : Program) (w : World) (K : PySem.W.Frag) (mg : Str → Option Value) (base : Heap) (k : Nat) (x : Str) (st : Stmt) (ps : List Str) (sp : Sp) (f : Addr) (fd : FuncData) : Prop where
  D : Df K mg x st ps f fd
  G : FnOk P w K mg base CX0 k f fd ps sp
/-! ### a call by keywords alone -/
def tCallN0 (m : Nat) (sp : Sp) (gV : List V → List V → List V) (E : XK) (tk : TA) : TE := fun σ H Q => tk σ H fun zs H2 => zs.length = m ∧ sp (gV [] zs) H2 Q E
theorem pe_callN0 {X : Cx} {CX : CXT} {k : Nat} {f : Addr} {fd : FuncData} {ps ks : List Str} {sp : Sp} {E : XK} {x : Str} {p pos : Pos} {kws : List Keyword} {tk : TA} {g : List Value → List Value → List Value} {gV : List V → List V → List V}
    (F : FnOk X.prog X.w X.K X.mg X.base CX k f fd ps sp) (hr : Room k X.A) (hg : Gl X x) (hm : X.mg x = some (.ref f)) (hk : PySem.W.keepIn X.K (.ref f) = true) (hb : KBn X.K fd ps 0 ks g gV) (hx : Passes CX X E)
    (hkw : PK X kws tk) (hall : (backToKw pos (keywordEach kws X.env)).all (·.1.isSome) = true := by rfl) (hks : (backToKw pos (keywordEach kws X.env)).filterMap (·.1) = ks := by rfl)
    (hdb : (x == ("__debug__" : Str)) = false := by decide)
    (hpl : (backToKw pos (keywordEach kws X.env)).any (·.1.isNone) = false := by rfl) :
    PE X (.Call (.Name x p) [] kws pos) (tCallN0 ks.length sp gV E tk) := by
  refine ⟨fun pins s σ H Q I h => ?_⟩
  refine PySem.wpAny_Call_Name_kw (ld_glob I hg hm ?_ hdb)
  refine PySem.W.callWith_KW0 (h₀ := X.base) I.ok.mod.kin hk hall (thn (hkw.run pos pins s σ H _ I h) fun ws s2 ⟨zs, H2, I2, rz, l2, q2⟩ => ⟨I2.kIn, ?_⟩) hpl
  rw [hks]
  exact run_fnN F hr hb hx I2 .nil rz rfl l2 q2
/-! ### heaps -/
theorem same_upd {H : Hp} {p : Addr} {o : HO} (h : H p = none) : Same H (upd H p o) := fun b x e => by
  rw [upd_ne (ne_of_none e h)]
  exact e
theorem Same.tup {K : PySem.W.Frag} {H H' : Hp} {a : Addr} {xs : List V} (e : Same H H') (h : SqT K H a xs) : SqT K H' a xs := by
  rcases h with (h | ⟨o, h⟩) | h
  · exact .inl (.inl (e _ _ h))
  · exact .inl (.inr ⟨o, e _ _ h⟩)
  · exact .inr h
theorem sqT {K : PySem.W.Frag} {H : Hp} {a : Addr} {xs : List V} (h : H a = some (.tup xs)) : SqT K H a xs := .inl (.inl h)
theorem sqL {K : PySem.W.Frag} {H : Hp} {a : Addr} {xs : List V} (h : H a = some (.lst xs)) : SqL K H a xs := .inl (.inl h)
/-- a new object that changes later on -/
theorem Same.mut {H H' : Hp} {p : Addr} {o : HO} (e : Same H H') (h : H p = none) : Same H (upd H' p o) := fun a u ha => by
  rw [upd_ne (ne_of_none ha h)]
  exact e a u ha
mutual
theorem dp_same {K : PySem.W.Frag} {H H' : Hp} (e : Same H H') : ∀ {v : V} {d : PyData}, Dp K H v d → Dp K H' v d
  | _, _, .non => .non
  | _, _, .bl b => .bl b
  | _, _, .int i => .int i
  | _, _, .str x => .str x
  | _, _, .lst h a => .lst (e.seq h) (dp_sameA e a)
  | _, _, .tup h a => .tup (Same.tup e h) (dp_sameA e a)
theorem dp_sameA {K : PySem.W.Frag} {H H' : Hp} (e : Same H H') : ∀ {vs : List V} {ds : List PyData}, DpAll K H vs ds → DpAll K H' vs ds
  | _, _, .nil => .nil
  | _, _, .cons a b => .cons (dp_same e a) (dp_sameA e b)
end
theorem small {n : Nat} (h : n ≤ 1000) : n ≤ sizeLine := Nat.le_of_lt (small1000 h)
/-! ### types -/
theorem tyL {K : PySem.W.Frag} {H : Hp} {a : Addr} {xs : List V} (h : SqL K H a xs) : TyX K H (.ref a) (.type "list") := by
  rcases h with (h | ⟨o, h⟩) | ⟨o, its, n, h, c, _⟩
  · exact .base (.lst h)
  · exact .base (.frz h)
  · exact .kList h c
theorem tyT {K : PySem.W.Frag} {H : Hp} {a : Addr} {xs : List V} (h : SqT K H a xs) : TyX K H (.ref a) (.type "tuple") := by
  rcases h with (h | ⟨o, h⟩) | ⟨o, its, n, h, c, _⟩
  · exact .base (.tup h)
  · exact .fTuple h
  · exact .kTuple h c
theorem kit_y {K : PySem.W.Frag} {t : Value} {b : String} {cs : List Value} (h : PySem.W.kitOne K t (.type b) = some true) : PySem.W.kitAny K t (.type b :: cs) = some true := kitAny_cons h (fun z => nomatch z) fun _ => rfl
theorem kit_n {K : PySem.W.Frag} {t : Value} {b : String} {cs : List Value} {r : Bool} (h : PySem.W.kitOne K t (.type b) = some false) (hr : PySem.W.kitAny K t cs = some r) : PySem.W.kitAny K t (.type b :: cs) = some r := kitAny_cons h (fun _ => hr) fun z => nomatch z
theorem dec_t {p : Prop} [Decidable p] (h : p) {Q : Bool → Prop} (q : Q true) : Q (decide p) := by
  rw [decide_eq_true h]
  exact q
/-! ### comprehensions over zip -/
theorem lc_zipL {K : PySem.W.Frag} {a b : Addr} {xs ys : List V} {g : TG} {tt : TT} {te : TE} {vs : List Nat} {σ : L2.St} {H1 : Hp} {D : Addr} {Qd : Hp → Prop} (hl : xs.length = ys.length) (Pv : Nat → Hp → Prop) (h0 : Pv 0 (upd H1 D (.lst []))) (hq : ∀ i H, Pv i H → SqL K H a xs ∧ SqL K H b ys)
    (hs : ∀ (i : Nat) (x y : V) (T : Addr) (H : Hp), xs[i]? = some x → ys[i]? = some y → Pv i H → H T = none → g (.ref T) (wipe σ vs) (upd H T (.tup [x, y])) fun σ2 H2 => wipe σ2 vs = wipe σ vs ∧ tt σ2 H2 fun b H3 =>
      if b = true then te σ2 H3 fun y H4 => ∃ acc, H4 D = some (.lst acc) ∧ acc.length < sizeLine ∧ Pv (i + 1) (upd H4 D (.lst (acc ++ [y]))) else Pv (i + 1) H3) (hd : ∀ H, Pv xs.length H → Qd H) :
    ∃ W : Nat → Nat → Hp → Prop, (∃ m, W 0 m (upd H1 D (.lst []))) ∧ ∀ i m H, W i m H →
      ((Itz K a b).stop i H ∧ Qd H) ∨ ((Itz K a b).go i H ∧ ∃ Nx : Hp → Prop, (∀ H', Nx H' → ∃ m', m' < m ∧ W (i + 1) m' H') ∧ ∀ x H', (Itz K a b).yld i H x H' → g x (wipe σ vs) H' fun σ2 H2 => wipe σ2 vs = wipe σ vs ∧ tt σ2 H2 fun b H3 =>
        if b = true then te σ2 H3 fun y H4 => ∃ acc, H4 D = some (.lst acc) ∧ acc.length < sizeLine ∧ Nx (upd H4 D (.lst (acc ++ [y]))) else Nx H3) := by
  refine ⟨fun i m H => m = xs.length - i ∧ i ≤ xs.length ∧ Pv i H, ⟨xs.length, by simp, Nat.zero_le _, h0⟩, ?_⟩
  rintro i m H ⟨rfl, hi, p⟩
  obtain ⟨qx, qy⟩ := hq i H p
  by_cases hlt : i < xs.length
  · have hx : xs[i]? = some xs[i] := List.getElem?_eq_getElem hlt
    have hlt2 : i < ys.length := by omega
    have hy : ys[i]? = some ys[i] := List.getElem?_eq_getElem hlt2
    refine .inr ⟨⟨xs, ys, _, _, qx, qy, hx, hy⟩, Pv (i + 1), fun H' p' => ⟨xs.length - (i + 1), by omega, rfl, hlt, p'⟩, fun v H' y => ?_⟩
    obtain ⟨T, x', y', rfl, hT, rfl, f1, f2⟩ := y
    exact hs i x' y' T H (f1 xs qx) (f2 ys qy) p hT
  · have e : i = xs.length := by omega
    subst e
    exact .inl ⟨⟨xs, ys, qx, qy, Or.inl (Nat.le_refl _)⟩, hd H p⟩
theorem lc_zipT {K : PySem.W.Frag} {a b : Addr} {xs ys : List V} {g : TG} {tt : TT} {te : TE} {vs : List Nat} {σ : L2.St} {H1 : Hp} {D : Addr} {Qd : Hp → Prop} (hl : xs.length = ys.length) (Pv : Nat → Hp → Prop) (h0 : Pv 0 (upd H1 D (.lst []))) (hq : ∀ i H, Pv i H → SqT K H a xs ∧ SqT K H b ys)
    (hs : ∀ (i : Nat) (x y : V) (T : Addr) (H : Hp), xs[i]? = some x → ys[i]? = some y → Pv i H → H T = none → g (.ref T) (wipe σ vs) (upd H T (.tup [x, y])) fun σ2 H2 => wipe σ2 vs = wipe σ vs ∧ tt σ2 H2 fun b H3 =>
      if b = true then te σ2 H3 fun y H4 => ∃ acc, H4 D = some (.lst acc) ∧ acc.length < sizeLine ∧ Pv (i + 1) (upd H4 D (.lst (acc ++ [y]))) else Pv (i + 1) H3) (hd : ∀ H, Pv xs.length H → Qd H) :
    ∃ W : Nat → Nat → Hp → Prop, (∃ m, W 0 m (upd H1 D (.lst []))) ∧ ∀ i m H, W i m H →
      ((RZ.ItzT K a b).stop i H ∧ Qd H) ∨ ((RZ.ItzT K a b).go i H ∧ ∃ Nx : Hp → Prop, (∀ H', Nx H' → ∃ m', m' < m ∧ W (i + 1) m' H') ∧ ∀ x H', (RZ.ItzT K a b).yld i H x H' → g x (wipe σ vs) H' fun σ2 H2 => wipe σ2 vs = wipe σ vs ∧ tt σ2 H2 fun b H3 =>
        if b = true then te σ2 H3 fun y H4 => ∃ acc, H4 D = some (.lst acc) ∧ acc.length < sizeLine ∧ Nx (upd H4 D (.lst (acc ++ [y]))) else Nx H3) := by
  refine ⟨fun i m H => m = xs.length - i ∧ i ≤ xs.length ∧ Pv i H, ⟨xs.length, by simp, Nat.zero_le _, h0⟩, ?_⟩
  rintro i m H ⟨rfl, hi, p⟩
  obtain ⟨qx, qy⟩ := hq i H p
  by_cases hlt : i < xs.length
  · have hx : xs[i]? = some xs[i] := List.getElem?_eq_getElem hlt
    have hlt2 : i < ys.length := by omega
    have hy : ys[i]? = some ys[i] := List.getElem?_eq_getElem hlt2
    refine .inr ⟨⟨xs, ys, _, _, qx, qy, hx, hy⟩, Pv (i + 1), fun H' p' => ⟨xs.length - (i + 1), by omega, rfl, hlt, p'⟩, fun v H' y => ?_⟩
    obtain ⟨T, x', y', rfl, hT, rfl, f1, f2⟩ := y
    exact hs i x' y' T H (f1 xs qx) (f2 ys qy) p hT
  · have e : i = xs.length := by omega
    subst e
    exact .inl ⟨⟨xs, ys, qx, qy, Or.inl (Nat.le_refl _)⟩, hd H p⟩
/-! ### the source of draws -/
/-- the object of a source that may be drawn from n times more -/
def SrcO (n : Nat) (o : HO) : Prop := ∃ a b c : Int, o = .lst [.int a, .int b, .int c] ∧ 0 ≤ a ∧ 0 ≤ b ∧ b < 2147483648 ∧ 0 ≤ c ∧ c + (n : Int) ≤ 1000000000000
def Src (H : Hp) (s : Addr) (n : Nat) : Prop := ∃ o, H s = some o ∧ SrcO n o
theorem SrcO.mono {n m : Nat} {o : HO} (h : SrcO n o) (l : m ≤ n) : SrcO m o := by
  obtain ⟨a, b, c, e, h1, h2, h3, h4, h5⟩ := h
  exact ⟨a, b, c, e, h1, h2, h3, h4, by omega⟩
theorem Src.mono {H : Hp} {s : Addr} {n m : Nat} (h : Src H s n) (l : m ≤ n) : Src H s m := let ⟨o, e, q⟩ := h; ⟨o, e, q.mono l⟩
def dist (c w : Int) : Int := if c - w < 0 then -(c - w) else c - w
def near (w c x : Int) : Bool := HT.lexLt [dist x w, x] [dist c w, c]
/-- what an object in c with the wish w needs, of a row of n cells -/
def needsL (n : Nat) (c w : Int) : List Int := ((List.range n).map fun (i : Nat) => (i : Int)).filter (near w c)
theorem needsL_succ (n : Nat) (c w : Int) : needsL (n + 1) c w = needsL n c w ++ (if near w c (n : Int) = true then [(n : Int)] else []) := by
  unfold needsL
  rw [List.range_succ, List.map_append, List.filter_append]
  congr 1
  simp only [List.map_cons, List.map_nil, List.filter_cons, List.filter_nil]
theorem needsL_len (n : Nat) (c w : Int) : (needsL n c w).length ≤ n := by
  unfold needsL
  refine Nat.le_trans (List.length_filter_le _ _) ?_
  simp
theorem all_rep (n : Nat) : (List.replicate n true).all id = true := by simp
end NS
namespace NS
theorem src_a (z : Int) (k : Bool) : 0 ≤ (if z < 0 then -z else z) * (if k = true then 1 else 0) := by
  have h : 0 ≤ (if z < 0 then -z else z) := by split <;> omega
  generalize (if z < 0 then -z else z) = y at h
  cases k
  · rw [if_neg Bool.false_ne_true, Int.mul_zero]
    exact Int.le_refl 0
  · rw [if_pos rfl, Int.mul_one]
    exact h
theorem cmul_b (x : Int) (k : Bool) : L2.CMul x (if k = true then 1 else 0) := .inr (by cases k <;> exact ⟨by decide, by decide⟩)
section
open PySem L2
variable {X : Cx} {K : PySem.W.Frag}
theorem op_ltTK (e : X.K = K) (hu : X.A.units < cLine) : OpR X (compareOp .Lt) (rLtT K) := by subst e; exact op_ltT hu
theorem ix_listK (e : X.K = K) : IxR X (rIxL K) := by subst e; exact ix_list
theorem ix_tupK (e : X.K = K) : IxR X (rIxT K) := by subst e; exact ix_tup
theorem call_lenK (e : X.K = K) : CallR X (.builtin "len") (fun xs H Q => ∃ p ys, xs = [.ref p] ∧ (SqL K H p ys ∨ SqT K H p ys) ∧ Q (.int ys.length) H) := by subst e; exact call_len_seq
theorem call_isiKK (e : X.K = K) : CallR X (.builtin "isinstance") (rIsi K) := by subst e; exact call_isi
theorem call_isiTK (e : X.K = K) : CallR X (.builtin "isinstance") (rIsiT K) := by subst e; exact call_isiT
theorem op_inK (e : X.K = K) : OpR X (compareOp .In) (rIn K false) := by subst e; exact op_in_seq
theorem op_notInK (e : X.K = K) : OpR X (compareOp .NotIn) (rIn K true) := by subst e; exact op_notIn_seq
theorem cr_allK (e : X.K = K) (hc : X.calm = true) : CallR X (.builtin "all") (rAll K) := by subst e; exact cr_all hc
theorem cr_anyK (e : X.K = K) (hc : X.calm = true) : CallR X (.builtin "any") (rAny K) := by subst e; exact cr_any hc
theorem call_tupleK (e : X.K = K) : CallR X (.type "tuple") (fun xs H Q => ∃ p ys, xs = [.ref p] ∧ ((SqL K H p ys ∧ ∀ l, H l = none → Q (.ref l) (upd H l (.tup ys))) ∨ (SqT K H p ys ∧ Q (.ref p) H))) := by subst e; exact call_tuple_of
theorem call_listK (e : X.K = K) : CallR X (.type "list") (fun xs H Q => ∃ p ys, xs = [.ref p] ∧ (SqL K H p ys ∨ SqT K H p ys) ∧ ∀ l, H l = none → Q (.ref l) (upd H l (.lst ys))) := by subst e; exact call_list_of
theorem op_eqDK (e : X.K = K) (hu : X.A.units + 64 < cLine) : OpR X (compareOp .Eq) (rEqD K) := by subst e; exact op_eqD hu
theorem op_neDK (e : X.K = K) (hu : X.A.units + 64 < cLine) : OpR X (compareOp .NotEq) (rNeD K) := by subst e; exact op_neD hu
theorem pg_tupK {es : List Expr} {k : Nat} {pos : Pos} {t : TGs} {n : Nat} (e : X.K = K) (hc : X.calm = true) (h : PGs X es t)
    (hn : (assignEach es X.env).length = n := by rfl) (hst : (assignEach es X.env).findIdx? (·.1) = none := by rfl) : PG X (.Tuple es k pos) (gTup K n t) := by subst e; exact pg_tup hc h hn hst
end
end NS
namespace NS
open PySem L2
/-- all but s stays -/
def Stay (s : Addr) (H H' : Hp) : Prop := ∀ b o, b ≠ s → H b = some o → H' b = some o
theorem Stay.refl (s : Addr) (H : Hp) : Stay s H H := fun _ _ _ h => h
theorem Stay.trans {s : Addr} {H H1 H2 : Hp} (a : Stay s H H1) (b : Stay s H1 H2) : Stay s H H2 := fun c o n h => b c o n (a c o n h)
theorem stay_upd {s : Addr} {H : Hp} {o : HO} : Stay s H (upd H s o) := fun b x n e => by
  rw [upd_ne n]
  exact e
theorem Stay.of {s : Addr} {H H' : Hp} (e : Same H H') : Stay s H H' := fun b o _ h => e b o h
theorem same_stay {s : Addr} {H H' : Hp} {o : HO} (hn : H s = none) (e : Stay s (upd H s o) H') : Same H H' := fun b x h => by
  have nb : b ≠ s := ne_of_none h hn
  exact e b x nb (by rw [upd_ne nb]; exact h)
theorem Stay.mut {s : Addr} {H H' : Hp} {p : Addr} {o : HO} (e : Stay s H H') (h : H p = none) : Stay s H (upd H' p o) := fun a u n ha => by
  rw [upd_ne (ne_of_none ha h)]
  exact e a u n ha
theorem Stay.seq {K : PySem.W.Frag} {s : Addr} {H H' : Hp} {a : Addr} {xs : List V} (e : Stay s H H') (n : a ≠ s) (h : SqL K H a xs) : SqL K H' a xs := by
  rcases h with (h | ⟨o, h⟩) | h
  · exact .inl (.inl (e _ _ n h))
  · exact .inl (.inr ⟨o, e _ _ n h⟩)
  · exact .inr h
theorem Stay.tup {K : PySem.W.Frag} {s : Addr} {H H' : Hp} {a : Addr} {xs : List V} (e : Stay s H H') (n : a ≠ s) (h : SqT K H a xs) : SqT K H' a xs := by
  rcases h with (h | ⟨o, h⟩) | h
  · exact .inl (.inl (e _ _ n h))
  · exact .inl (.inr ⟨o, e _ _ n h⟩)
  · exact .inr h
/-! ### data -/
def dT (ns : List Int) : PyData := .tuple (ns.map PyData.int)
def dL (ns : List Int) : PyData := .list (ns.map PyData.int)
theorem dp_ints {K : PySem.W.Frag} {H : Hp} : ∀ ns : List Int, DpAll K H (ns.map V.int) (ns.map PyData.int)
  | [] => .nil
  | n :: ns => .cons (.int n) (dp_ints ns)
theorem dp_T {K : PySem.W.Frag} {H : Hp} {a : Addr} {ns : List Int} (h : SqT K H a (ns.map V.int)) : Dp K H (.ref a) (dT ns) := .tup h (dp_ints ns)
theorem dp_L {K : PySem.W.Frag} {H : Hp} {a : Addr} {ns : List Int} (h : SqL K H a (ns.map V.int)) : Dp K H (.ref a) (dL ns) := .lst h (dp_ints ns)
theorem atI_neg1 (x : Int) (r : List Int) : atI ((x :: r).map V.int) (-1) = some (.int ((x :: r).getLast (List.cons_ne_nil x r))) := by
  have hz : ((x :: r).map V.int) = ((x :: r).dropLast.map V.int) ++ [.int ((x :: r).getLast (List.cons_ne_nil _ _))] := by
    rw [← List.map_singleton, ← List.map_append, List.dropLast_concat_getLast]
  rw [hz]
  exact atI_last _ _
/-- the last and the first of what is needed lie beside the cell -/
def edgeB (n : Nat) (c w : Int) : Bool := match needsL n c w with
  | [] => true
  | x :: r => decide ((x :: r).getLast (List.cons_ne_nil x r) + 1 = c) || decide (x - 1 = c)
theorem edge_all : ((List.range 13).all fun n => (List.range n).all fun c => (List.range n).all fun w => edgeB n (c : Nat) (w : Nat)) = true := by decide +kernel
theorem edge {n c w : Nat} (hn : n ≤ 12) (hc : c < n) (hw : w < n) : edgeB n (c : Int) (w : Int) = true := by
  have h := edge_all
  rw [List.all_eq_true] at h
  have h1 := h n (List.mem_range.mpr (by omega))
  rw [List.all_eq_true] at h1
  have h2 := h1 c (List.mem_range.mpr hc)
  rw [List.all_eq_true] at h2
  exact h2 w (List.mem_range.mpr hw)
end NS
namespace NS
open PySem L2
theorem lay_ints : ∀ ns : List Int, PyData.canLayAll0 (ns.map PyData.int) = true
  | [] => rfl
  | _ :: r => by simp [PyData.canLayAll0, PyData.canLay0, lay_ints r]
theorem dep_ints : ∀ ns : List Int, PyData.depthAll (ns.map PyData.int) = 0
  | [] => rfl
  | _ :: r => by simp [PyData.depthAll, PyData.depth, dep_ints r]
theorem sh_T (ns : List Int) : SeqAt.shaped (dT ns) = true := by
  simp [SeqAt.shaped, dT, PyData.canLay0, PyData.depth, lay_ints, dep_ints]
theorem sh_L (ns : List Int) : SeqAt.shaped (dL ns) = true := by
  simp [SeqAt.shaped, dL, PyData.canLay0, PyData.depth, lay_ints, dep_ints]
end NS
namespace NS
open PySem L2
theorem nd_int {a b : Int} (h : a = b) (c : (!decide (V.int a = V.int b)) = true) : False := by
  rw [h, decide_eq_true rfl] at c
  cases c
end NS

/-! ### min of a list of tuples of ints -/
namespace NS
open PySem PySem.Spec PyProof.Rows L2
theorem lex_irr : ∀ a : List Int, HT.lexLt a a = false
  | [] => rfl
  | x :: xs => by rw [HT.lexLt_cons, if_pos rfl]; exact lex_irr xs
theorem lex_trans : ∀ {a b c : List Int}, HT.lexLt a b = true → HT.lexLt b c = true → HT.lexLt a c = true
  | [], [], _, h, _ => by cases h
  | [], _ :: _, [], _, h => by rw [HT.lexLt_cons_nil] at h; cases h
  | [], _ :: _, _ :: _, _, _ => rfl
  | _ :: _, [], _, h, _ => by rw [HT.lexLt_cons_nil] at h; cases h
  | _ :: _, _ :: _, [], _, h => by rw [HT.lexLt_cons_nil] at h; cases h
  | x :: xs, y :: ys, z :: zs, h1, h2 => by
    rw [HT.lexLt_cons] at h1 h2 ⊢
    by_cases e1 : x = y
    · rw [if_pos e1] at h1
      by_cases e2 : y = z
      · rw [if_pos e2] at h2
        rw [if_pos (e1.trans e2)]
        exact lex_trans h1 h2
      · rw [if_neg e2] at h2
        rw [if_neg (by omega), e1]
        exact h2
    · rw [if_neg e1] at h1
      have l1 : x < y := of_decide_eq_true h1
      by_cases e2 : y = z
      · rw [if_neg (by omega)]
        exact decide_eq_true (by omega)
      · rw [if_neg e2] at h2
        have l2 : y < z := of_decide_eq_true h2
        rw [if_neg (by omega)]
        exact decide_eq_true (by omega)
section
variable {prog : Program} {w : World} {A : Around} {E : Value → Shared → Prop} {s : Shared} {l S I : Addr} {vs : List Value} {R : Result → Shared → Prop} {Q : Value → Shared → Prop}
/-- the items' numbers, as they stand in h -/
def TupsAt (h : Heap) (vs : List Value) (nss : Nat → List Int) : Prop := ∀ (i : Nat) (v : Value), vs[i]? = some v → ∃ p items, v = .ref p ∧ IsTup h p items ∧ IntsAre items.toList (nss i)
theorem minT_loop {h₀ : Heap} (nss : Nat → List Int) (hh : A.handled = none) (hu : A.units + 1 < cLine) (hl : h₀.IsList l vs.toArray) (hT : TupsAt h₀ vs nss) (hlI : l ≠ I) (hSI : S ≠ I) (nS : h₀.get? S = none) (nI : h₀.get? I = none)
    (hR : ∀ i v h' tk', vs[i]? = some v → (∀ j, j < vs.length → HT.lexLt (nss j) (nss i) = false) → (∀ b o, h₀.get? b = some o → h'.get? b = some o) → R (.ok (.ret v)) { s with heap := h', toks := tk' }) :
    ∀ (r j i : Nat) (h : Heap) (tk : Nat) (vb : Value) (c : Nat), vs.length - (j + 1) = r → j + 1 ≤ vs.length → (∀ b o, h₀.get? b = some o → h.get? b = some o) →
      h.get? S = some (seqObj "list" #[vb, vb] c) → h.IsListIter I l (j + 1) → vs[i]? = some vb → i ≤ j → (∀ j', j' ≤ j → HT.lexLt (nss j') (nss i) = false) →
      codeAny (model prog w) A (.builtin "min.loop" ⟨[.ref I, .none, .ref S], []⟩) R { s with heap := h, toks := tk } := by
  have hname : (toString "min" ++ toString ".loop" : String) = "min.loop" := by decide
  have W := Walks.list (prog := prog) (w := w) (A := A.in1) hh I l hlI vs.toArray
  have hsz : vs.toArray.size = vs.length := List.size_toArray ..
  have listAt : ∀ h : Heap, (∀ b o, h₀.get? b = some o → h.get? b = some o) → h.IsList l vs.toArray := fun h k => hl.at fun o e => k l o e
  have neS : ∀ b o, h₀.get? b = some o → b ≠ S := fun b o e z => by rw [z, nS] at e; cases e
  have neI : ∀ b o, h₀.get? b = some o → b ≠ I := fun b o e z => by rw [z, nI] at e; cases e
  intro r
  induction r with
  | zero =>
    intro j i h tk vb c hr hj k gS hit hvb hij hbest
    have hin : j + 1 = vs.length := by omega
    refine codeAny_builtin PySem.F.entry_min_loop ?_
    rw [Around.under_plainId PySem.F.plain_min_loop _]
    show wpAny _ A.in1 (seqItems? (.ref S) >>= _) _ _ _
    refine wpAny_bind (wpAny_seqItems gS rfl ?_)
    show wpAny _ A.in1 (tryCatch (pyNext (.ref I)) _ >>= _) _ _ _
    refine wpAny_bind (wpAny_tryCatch (W.done _ _ _ ⟨by rw [hsz, ← hin]; exact hit, listAt h k⟩ fun h' tk' hk' => ?_))
    have hS' := hk' S _ (by simpa using hSI) gS
    have s1 := Heap.SameBut.update h' S (Obj.mapSeq fun _ => (#[] : Array Value))
    show wpAny _ A.in1 (updateSeq S (fun _ => #[]) >>= _) _ _ _
    refine wpAny_bind ?_
    refine wpAny_updateSeq hS' rfl (wpAny_bind (wpAny_letGo (wpAny_pure ?_)))
    exact hR i vb _ _ hvb (fun j' hj' => hbest j' (by omega)) fun b o e => (s1.2 b (neS b o e)).trans (hk' b o (by simpa using neI b o e) (k b o e))
  | succ r ih =>
    intro j i h tk vb c hr hj k gS hit hvb hij hbest
    have hlt : j + 1 < vs.length := by omega
    refine codeAny_builtin PySem.F.entry_min_loop ?_
    rw [Around.under_plainId PySem.F.plain_min_loop _]
    show wpAny _ A.in1 (seqItems? (.ref S) >>= _) _ _ _
    refine wpAny_bind (wpAny_seqItems gS rfl ?_)
    show wpAny _ A.in1 (tryCatch (pyNext (.ref I)) _ >>= _) _ _ _
    refine wpAny_bind (wpAny_tryCatch (W.item (j + 1) _ _ _ (by rw [hsz]; exact hlt) ⟨hit, listAt h k⟩ fun v h' tk' hP hst' hk' => ?_))
    have hv : vs[j + 1]? = some v := by simpa using hP
    have gS' := hk' S _ (by simpa using hSI) gS
    have k' : ∀ b o, h₀.get? b = some o → h'.get? b = some o := fun b o e => hk' b o (by simpa using neI b o e) (k b o e)
    obtain ⟨p1, it1, rfl, t1, i1⟩ := hT _ _ hv
    obtain ⟨p2, it2, rfl, t2, i2⟩ := hT _ _ hvb
    obtain ⟨⟨cls, dd, data, sl⟩, ho, hc, n, hd⟩ := id t1
    obtain ⟨⟨cls2, dd2, data2, sl2⟩, ho2, hc2, n2, hd2⟩ := id t2
    simp only at hc hd hc2 hd2
    subst hc hd hc2 hd2
    show wpAny _ A.in1 (pure (Value.ref p1) >>= _) _ _ _
    refine wpAny_bind (wpAny_pure ?_)
    show wpAny _ A.in1 (tryCatch (holding [.ref p1, .ref p1] (richCompare .Lt (.ref p1) (.ref p2) >>= _)) _ >>= _) _ _ _
    refine wpAny_bind (wpAny_tryCatch (wpAny_holding (wpAny_bind (richCompare_meets_room (op := .Lt) ⟨_, k' _ _ ho, rfl⟩ ⟨_, k' _ _ ho2, rfl⟩ PySem.F.slot_tuple_lt PySem.F.entry_tuple_lt (PySem.F.args_tuple_lt_2 _ _) (HT.tuple_lt_ints p1 p2 it1 it2 n n2 dd dd2 sl sl2 (nss (j + 1)) (nss i) i1 i2)
      ⟨k' _ _ ho, k' _ _ ho2, (fun x => nomatch x), ?_⟩ hu))))
    refine wpAny_bind (wpAny_holding (wpAny_truthy_bool ?_))
    refine wpAny_bind (wpAny_letGo (wpAny_pure ?_))
    by_cases hb' : HT.lexLt (nss (j + 1)) (nss i) = true
    · have s1 := Heap.SameBut.update h' S (Obj.mapSeq fun _ => #[Value.ref p1, Value.ref p1])
      obtain ⟨c2, hc2⟩ : ∃ c2, (h'.update S (Obj.mapSeq fun _ => #[Value.ref p1, Value.ref p1])).get? S = some (seqObj "list" #[Value.ref p1, Value.ref p1] c2) := ⟨_, get?_update_seq gS' fun _ => #[Value.ref p1, Value.ref p1]⟩
      simp only [hb', if_true]
      refine wpAny_bind ?_
      refine wpAny_updateSeq gS' rfl (wpAny_bind (wpAny_letGo ?_))
      rw [hname]
      refine wpAny_pure ⟨plainId_quiet PySem.F.plain_min_loop _, ih (j + 1) (j + 1) _ _ (.ref p1) c2 (by omega) hlt (fun b o e => (s1.2 b (neS b o e)).trans (k' b o e)) hc2 ?_ hv (Nat.le_refl _) fun j' hj' => ?_⟩
      · obtain ⟨oI', hoI', hoc, hod⟩ := hst'.1
        exact ⟨oI', (s1.2 I hSI.symm).trans hoI', hoc, hod⟩
      · by_cases e : j' = j + 1
        · subst e
          exact lex_irr _
        · have hb1 := hbest j' (by omega)
          cases q : HT.lexLt (nss j') (nss (j + 1)) with
          | false => rfl
          | true =>
            rw [lex_trans q hb'] at hb1
            cases hb1
    · have hb0 : HT.lexLt (nss (j + 1)) (nss i) = false := Bool.eq_false_iff.mpr hb'
      simp only [hb0, Bool.false_eq_true, if_false]
      refine wpAny_bind (wpAny_letGo ?_)
      rw [hname]
      refine wpAny_pure ⟨plainId_quiet PySem.F.plain_min_loop _, ih (j + 1) i _ _ (.ref p2) c (by omega) hlt k' gS' hst'.1 hvb (by omega) fun j' hj' => ?_⟩
      by_cases e : j' = j + 1
      · subst e
        exact hb0
      · exact hbest j' (by omega)
theorem min_tups (nss : Nat → List Int) (hh : A.handled = none) (hu : A.units + 1 < cLine) (hl : s.heap.IsList l vs.toArray) (hT : TupsAt s.heap vs nss) (hne : 0 < vs.length)
    (hQ : ∀ i v h' tk', vs[i]? = some v → (∀ j, j < vs.length → HT.lexLt (nss j) (nss i) = false) → (∀ b o, s.heap.get? b = some o → h'.get? b = some o) → Q v { s with heap := h', toks := tk' }) :
    wpAny (model prog w) A (call (.builtin "min") [.ref l]) Q E s := by
  have hname : (toString "min" ++ toString ".loop" : String) = "min.loop" := by decide
  obtain ⟨ol, hol, _⟩ := id hl
  have hll : l < s.heap.objs.size := Heap.lt_size hol
  refine call_function_tree PySem.F.kind_min PySem.F.plain_min PySem.F.entry_min (PySem.F.args_min1 _) ?_
  show wpAny _ A.in1 (Builtin.Builtins.bindParams "min" ["key", "default"] 0 ⟨[], []⟩ >>= _) _ _ s
  refine wpAny_bind (wpAny_of_eq (show Builtin.Builtins.bindParams "min" ["key", "default"] 0 ⟨[], []⟩ = pure [none, none] from rfl) ?_)
  refine wpAny_bind (wpAny_pure ?_)
  refine wpAny_bind (wpAny_pyIter_list hl ?_)
  refine wpAny_bind (wpAny_newList ?_ (Nat.zero_le _))
  rw [hname]
  have hS : (s.heap.push { cls := .type "list_iterator", data := .fields #[.ref l, .int 0 0] }).objs.size = s.heap.objs.size + 1 := size_push' ..
  have hlI : l ≠ s.heap.objs.size := Nat.ne_of_lt hll
  have hSI : (s.heap.push { cls := .type "list_iterator", data := .fields #[.ref l, .int 0 0] }).objs.size ≠ s.heap.objs.size := by rw [hS]; exact Nat.ne_of_gt (Nat.lt_succ_self _)
  have nI : s.heap.get? s.heap.objs.size = none := Heap.get?_none_of_le (Nat.le_refl _)
  have nS : s.heap.get? (s.heap.push { cls := .type "list_iterator", data := .fields #[.ref l, .int 0 0] }).objs.size = none := Heap.get?_none_of_le (by rw [hS]; exact Nat.le_succ _)
  refine wpAny_pure ⟨plainId_quiet PySem.F.plain_min_loop _, ?_⟩
  have gI : ((s.heap.push { cls := .type "list_iterator", data := .fields #[.ref l, .int 0 0] }).push (seqObj "list" #[] 0)).get? s.heap.objs.size = some { cls := .type "list_iterator", data := .fields #[.ref l, .int 0 0] } :=
    Heap.get?_push_of_some _ (Heap.get?_push_size _ rfl)
  have gS : ((s.heap.push { cls := .type "list_iterator", data := .fields #[.ref l, .int 0 0] }).push (seqObj "list" #[] 0)).get? (s.heap.push { cls := .type "list_iterator", data := .fields #[.ref l, .int 0 0] }).objs.size = some (seqObj "list" #[] 0) := Heap.get?_push_size _ rfl
  have k0 : ∀ b o, s.heap.get? b = some o → ((s.heap.push { cls := .type "list_iterator", data := .fields #[.ref l, .int 0 0] }).push (seqObj "list" #[] 0)).get? b = some o := fun b o e => Heap.get?_push_of_some _ (Heap.get?_push_of_some _ e)
  have neI : ∀ b o, s.heap.get? b = some o → b ≠ s.heap.objs.size := fun b o e => Nat.ne_of_lt (Heap.lt_size e)
  have W := Walks.list (prog := prog) (w := w) (A := A.in1) hh s.heap.objs.size l hlI vs.toArray
  have hsz : vs.toArray.size = vs.length := List.size_toArray ..
  refine codeAny_builtin PySem.F.entry_min_loop ?_
  rw [Around.under_plainId PySem.F.plain_min_loop _]
  show wpAny _ A.in1 (seqItems? (.ref _) >>= _) _ _ _
  refine wpAny_bind (wpAny_seqItems gS rfl ?_)
  show wpAny _ A.in1 (tryCatch (pyNext (.ref s.heap.objs.size)) _ >>= _) _ _ _
  refine wpAny_bind (wpAny_tryCatch (W.item 0 _ _ _ (by rw [hsz]; exact hne) ⟨⟨_, gI, rfl, rfl⟩, hl.at fun o e => k0 l o e⟩ fun v h' tk' hP hst' hk' => ?_))
  have hv : vs[0]? = some v := by simpa using hP
  have gS' := hk' _ _ (by simpa using hSI) gS
  show wpAny _ A.in1 (pure v >>= _) _ _ _
  refine wpAny_bind (wpAny_pure ?_)
  generalize hSd : (s.heap.push { cls := .type "list_iterator", data := .fields #[.ref l, .int 0 0] }).objs.size = S at *
  have s1 := Heap.SameBut.update h' S (Obj.mapSeq fun _ => #[v, v])
  obtain ⟨c2, hc2⟩ : ∃ c2, (h'.update S (Obj.mapSeq fun _ => #[v, v])).get? S = some (seqObj "list" #[v, v] c2) := ⟨_, get?_update_seq gS' fun _ => #[v, v]⟩
  show wpAny _ A.in1 (updateSeq S (fun _ => #[v, v]) >>= _) _ _ _
  refine wpAny_bind ?_
  refine wpAny_updateSeq gS' rfl ?_
  rw [hname]
  have neS : ∀ b o, s.heap.get? b = some o → b ≠ S := fun b o e z => by rw [z, nS] at e; cases e
  refine wpAny_pure ⟨plainId_quiet PySem.F.plain_min_loop _, minT_loop nss hh hu hl hT hlI hSI nS nI hQ _ 0 0 _ _ v c2 rfl hne (fun b o e => (s1.2 b (neS b o e)).trans (hk' b o (by simpa using neI b o e) (k0 b o e))) hc2 ?_ hv (Nat.le_refl _) fun j' hj' => ?_⟩
  · obtain ⟨oI', hoI', hoc, hod⟩ := hst'.1
    exact ⟨oI', (s1.2 _ hSI.symm).trans hoI', hoc, hod⟩
  · have e : j' = 0 := by omega
    subst e
    exact lex_irr _
end
/-- min(xs), xs a list of tuples of ints: one that no other is less than -/
def rMinT (K : PySem.W.Frag) : List V → Hp → VK → Prop := fun vs H Q => ∃ (a : Addr) (ps : List Addr) (nss : List (List Int)), vs = [V.ref a] ∧ SqL K H a (ps.map V.ref) ∧ ps.length = nss.length ∧ 0 < nss.length ∧
  (∀ (i : Nat) (p : Addr) (ns : List Int), ps[i]? = some p → nss[i]? = some ns → SqT K H p (ns.map V.int)) ∧ ∀ (i : Nat) (p : Addr) (ns : List Int), ps[i]? = some p → nss[i]? = some ns → (∀ ms ∈ nss, HT.lexLt ms ns = false) → Q (.ref p) H
theorem cr_minT {X : Cx} {K : PySem.W.Frag} (e : X.K = K) (hc : X.calm = true) (hu : X.A.units + 1 < cLine) : CallR X (.builtin "min") (rMinT K) := by
  subst e
  intro pins s σ H vs us Q I r h
  obtain ⟨a, ps, nss, rfl, hs, hlen, hne, hT, q⟩ := h
  obtain ⟨its, rv, hl, _⟩ := I.list hs
  rw [Vals.ref1 r]
  have hil : its.length = ps.length := by rw [← rv.length, List.length_map]
  have hget : ∀ (i : Nat) (v : Value), its[i]? = some v → ∃ (p : Addr) (ns : List Int), ps[i]? = some p ∧ nss[i]? = some ns ∧ v = Value.ref p := fun i v hv => by
    have h1 : i < its.length := (List.getElem?_eq_some_iff.mp hv).1
    have h2 : i < ps.length := by omega
    have h3 : i < nss.length := by omega
    obtain ⟨u, hu, ru⟩ := rv.get (i := i) (x := .ref ps[i]) (by rw [List.getElem?_map, List.getElem?_eq_getElem h2]; rfl)
    rw [hv] at hu
    cases hu
    exact ⟨ps[i], nss[i], List.getElem?_eq_getElem h2, List.getElem?_eq_getElem h3, ru⟩
  refine min_tups (fun i => nss.getD i []) (I.ok.hd hc) hu hl.isList (fun i v hv => ?_) (by omega) fun i v h' tk hv hb hk => ?_
  · obtain ⟨p, ns, e1, e2, rfl⟩ := hget i v hv
    obtain ⟨it2, r2, p2, _⟩ := I.tuple (hT i p ns e1 e2)
    refine ⟨p, it2.toArray, rfl, p2, ?_⟩
    have e3 : nss.getD i [] = ns := by rw [List.getD_eq_getElem?_getD, e2]; rfl
    show IntsAre it2.toArray.toList (nss.getD i [])
    rw [e3]
    exact intsAre_of r2
  · obtain ⟨p, ns, e1, e2, rfl⟩ := hget i v hv
    have e3 : nss.getD i [] = ns := by rw [List.getD_eq_getElem?_getD, e2]; rfl
    refine ⟨.ref p, H, I.kept hk, rfl, q i p ns e1 e2 fun ms hm => ?_⟩
    obtain ⟨j, hj, rfl⟩ := List.getElem_of_mem hm
    have hb2 : HT.lexLt (nss.getD j []) (nss.getD i []) = false := hb j (by omega)
    have e4 : nss.getD j [] = nss[j] := by
      rw [List.getD_eq_getElem?_getD, List.getElem?_eq_getElem hj]
      rfl
    rw [e3, e4] at hb2
    exact hb2
end NS

/-! ### own rules: numbers that may be bools, str, repr, t[::-1], xs[a:b] = ys -/
namespace NS
open PySem PySem.Spec PyProof.Rows L2
/-- an int, or a bool as one -/
inductive NumV : V → Int → Prop
  | int (i : Int) : NumV (.int i) i
  | bl (b : Bool) : NumV (.bl b) (if b = true then 1 else 0)
section
variable {X : Cx}
def rAddV : R2 := fun x y H Q => ∃ i j, NumV x i ∧ y = .int j ∧ Q (.int (i + j)) H
def rSubV : R2 := fun x y H Q => ∃ i j, NumV x i ∧ y = .int j ∧ Q (.int (i - j)) H
def rRsubV : R2 := fun x y H Q => ∃ i j, x = .int i ∧ NumV y j ∧ Q (.int (i - j)) H
theorem op_addV : OpR X (binaryOp .Add) rAddV := fun pins s σ H x y v u Q I rx ry h => by
  obtain ⟨i, j, nx, rfl, q⟩ := h
  obtain ⟨t, rfl⟩ := ry
  cases nx with
  | int i =>
    obtain ⟨t', rfl⟩ := rx
    exact add_int ⟨.int _, H, I.tok _, ⟨_, rfl⟩, q⟩
  | bl b =>
    cases rx
    exact PySem.IntBool.add_bool_int ⟨.int _, H, I.tok _, ⟨_, rfl⟩, q⟩
theorem op_subV : OpR X (binaryOp .Sub) rSubV := fun pins s σ H x y v u Q I rx ry h => by
  obtain ⟨i, j, nx, rfl, q⟩ := h
  obtain ⟨t, rfl⟩ := ry
  cases nx with
  | int i =>
    obtain ⟨t', rfl⟩ := rx
    exact sub_int ⟨.int _, H, I.tok _, ⟨_, rfl⟩, q⟩
  | bl b =>
    cases rx
    exact PySem.IntBool.sub_bool_int ⟨.int _, H, I.tok _, ⟨_, rfl⟩, q⟩
theorem op_rsubV : OpR X (binaryOp .Sub) rRsubV := fun pins s σ H x y v u Q I rx ry h => by
  obtain ⟨i, j, rfl, ny, q⟩ := h
  obtain ⟨t, rfl⟩ := rx
  cases ny with
  | int j =>
    obtain ⟨t', rfl⟩ := ry
    exact sub_int ⟨.int _, H, I.tok _, ⟨_, rfl⟩, q⟩
  | bl b =>
    cases ry
    exact PySem.IntBool.sub_int_bool ⟨.int _, H, I.tok _, ⟨_, rfl⟩, q⟩
/-- str of an int or of a bool: some text -/
def strV : V → Str
  | .int i => toString i
  | .bl b => if b then "True" else "False"
  | _ => ""
def rStrV : List V → Hp → VK → Prop := fun xs H Q => ∃ x, xs = [x] ∧ ((∃ i : Int, x = .int i ∧ i.natAbs.log2 < 1920) ∨ ∃ b, x = .bl b) ∧ Q (.str (strV x)) H
theorem call_strV : CallR X (.type "str") rStrV := fun pins s σ H xs us Q I r h => by
  obtain ⟨x, rfl, hx, q⟩ := h
  obtain ⟨u, rfl, rx⟩ := vals1 r
  rcases hx with ⟨i, rfl, hi⟩ | ⟨b, rfl⟩
  · obtain ⟨t, rfl⟩ := rx
    exact PySem.P.str_of_int hi ⟨.str _, H, I.tok _, ⟨_, rfl⟩, q⟩
  · cases rx
    exact PySem.P.str_of_bool ⟨.str _, H, I.tok _, ⟨_, rfl⟩, q⟩
/-- repr of data -/
theorem call_reprD {K : PySem.W.Frag} (e : X.K = K) (hg : X.A.guards = some []) (hu : X.A.units + 64 < cLine) : CallR X (.builtin "repr") (fun xs H Q => ∃ x d, xs = [x] ∧ Dp K H x d ∧ PyData.showable d = true ∧ d.hasDict = false ∧ d.depth ≤ 60 ∧ d.shown.length ≤ sizeLine ∧ Q (.str d.shown) H) := fun pins s σ H xs us Q I r h => by
  subst e
  obtain ⟨x, d, rfl, hd, hs, hn, hp, hz, q⟩ := h
  obtain ⟨u, rfl, rx⟩ := vals1 r
  obtain ⟨as, rd⟩ := Dp.reads I d x u hd rx
  cases hd with
  | non =>
    cases rx
    exact PySem.P.repr_of_none ⟨.str _, H, I.tok _, ⟨_, rfl⟩, q⟩
  | bl b =>
    cases rx
    exact PySem.P.repr_of_bool ⟨.str _, H, I.tok _, ⟨_, rfl⟩, q⟩
  | int i =>
    obtain ⟨t, rfl⟩ := rx
    exact PySem.P.repr_of_int (of_decide_eq_true hs) ⟨.str _, H, I.tok _, ⟨_, rfl⟩, q⟩
  | str z =>
    obtain ⟨t, rfl⟩ := rx
    exact PySem.P.repr_of_str ⟨.str _, H, I.tok _, ⟨_, rfl⟩, q⟩ hz
  | lst h1 h2 =>
    cases rx
    exact repr_of_reads' rd hs (PyData.noDict_hsm hn) hg (by omega) (fun b o z => z) (fun h' w tk hk => ⟨.str _, H, I.kept hk, ⟨_, rfl⟩, q⟩) hz
  | tup h1 h2 =>
    cases rx
    exact repr_of_reads' rd hs (PyData.noDict_hsm hn) hg (by omega) (fun b o z => z) (fun h' w tk hk => ⟨.str _, H, I.kept hk, ⟨_, rfl⟩, q⟩) hz
end
end NS

/-! ### t[::-1], xs[a:b] = ys -/
namespace NS
open PySem PySem.Spec PyProof.Rows L2
theorem rev_adj (n : Nat) : Builtin.Slice.sliceAdjust none none (-1) (n : Int) = ((n : Int) - 1, -1) := rfl
theorem rev_places (n : Nat) : Builtin.Slice.slicePlaces ((n : Int) - 1) (-1) (-1) = n := by
  unfold Builtin.Slice.slicePlaces
  rw [if_neg (by decide)]
  by_cases h : n = 0
  · subst h
    rfl
  · rw [if_pos (by omega), show (- -1 : Int) = 1 by decide, Int.ediv_one]
    omega
theorem fm_map {α β : Type} {f : α → Option β} {g : α → β} : ∀ {l : List α}, (∀ x ∈ l, f x = some (g x)) → l.filterMap f = l.map g
  | [], _ => rfl
  | x :: l, h => by
    rw [List.filterMap_cons_some (h x (List.mem_cons_self ..)), List.map_cons, fm_map fun y hy => h y (List.mem_cons_of_mem _ hy)]
theorem rev_pick (xs : List Value) : ((List.range xs.length).filterMap fun (k : Nat) => xs.toArray[(((xs.length : Int) - 1) + (k : Int) * (-1)).toNat]?) = xs.reverse := by
  apply List.ext_getElem?
  intro i
  have e : ((List.range xs.length).filterMap fun (k : Nat) => xs.toArray[(((xs.length : Int) - 1) + (k : Int) * (-1)).toNat]?) = (List.range xs.length).map fun k => xs.getD (xs.length - 1 - k) .none := by
    refine fm_map fun k hk => ?_
    have hk' := List.mem_range.mp hk
    have e1 : (((xs.length : Int) - 1) + (k : Int) * (-1)).toNat = xs.length - 1 - k := by omega
    rw [e1, List.getElem?_toArray, List.getElem?_eq_getElem (by omega)]
    show some _ = some (xs.getD (xs.length - 1 - k) .none)
    rw [List.getD_eq_getElem?_getD, List.getElem?_eq_getElem (by omega)]
    rfl
  rw [e, List.getElem?_map]
  by_cases hi : i < xs.length
  · rw [List.getElem?_range hi, List.getElem?_reverse hi]
    show some (xs.getD (xs.length - 1 - i) .none) = _
    rw [List.getD_eq_getElem?_getD, List.getElem?_eq_getElem (by omega)]
    rfl
  · rw [List.getElem?_eq_none (by rw [List.length_range]; omega), List.getElem?_eq_none (by rw [List.length_reverse]; omega)]
    rfl
section
variable {prog : Program} {w : World} {A : Around} {E : Value → Shared → Prop} {s : Shared}
theorem getItem_tup_rev {t sl : Addr} {xs : List Value} {vs : Value} {Q : Value → Shared → Prop} (ht : IsTup s.heap t xs.toArray) (hs : s.heap.IsSliceOf sl .none .none vs) (pv' : IsPart vs (some (-1)))
    (h : Q (.ref s.heap.objs.size) { s with heap := s.heap.push { cls := .type "tuple", data := .seq xs.reverse.toArray } })
    (hsz : xs.length ≤ sizeLine) : wpAny (model prog w) A (getItem (.ref t) (.ref sl)) Q E s := by
  have okSize : sizeOk (.seq xs.reverse.toArray) := by
    show xs.reverse.toArray.size ≤ sizeLine
    rw [List.size_toArray, List.length_reverse]
    exact hsz
  obtain ⟨os, hos, hcs, hds⟩ := id hs
  have tyS : s.TypeIs (.ref sl) "slice" := ⟨os, hos, hcs⟩
  have applied : ∀ {R : Int × Int × Nat → Shared → Prop}, R ((xs.length : Int) - 1, -1, xs.length) s → wpAny (model prog w) A.in1 (Builtin.Slice.sliceApplied (.ref sl) (pure ((xs.toArray.size : Nat) : Int))) R E s := fun {R} hR => by
    unfold Builtin.Slice.sliceApplied Builtin.Slice.sliceFields
    refine wpAny_bind (wpAny_bind (wpAny_field hos hds (x := .none) rfl (wpAny_bind (wpAny_field hos hds (x := .none) rfl (wpAny_bind (wpAny_field hos hds (x := vs) rfl (wpAny_pure ?_)))))))
    refine wpAny_bind (HT.slicePart_ pv' ?_)
    show wpAny _ _ (if ((-1 : Int) == 0) = true then _ else _) _ _ s
    rw [if_neg (by decide)]
    refine wpAny_bind (slicePart_none (wpAny_bind (slicePart_none (wpAny_bind (wpAny_pure ?_)))))
    show wpAny _ _ (match Builtin.Slice.sliceAdjust none none (-1) ((xs.toArray.size : Nat) : Int) with | (lo, hi) => pure (lo, (-1 : Int), Builtin.Slice.slicePlaces lo hi (-1))) _ _ s
    rw [List.size_toArray, rev_adj]
    show wpAny _ _ (pure ((xs.length : Int) - 1, (-1 : Int), Builtin.Slice.slicePlaces ((xs.length : Int) - 1) (-1) (-1))) _ _ s
    rw [rev_places]
    exact wpAny_pure hR
  unfold getItem
  try with_reducible refine wpAny_holding ?_
  first | refine wpAny_bind (wpAny_pure ?_) | skip
  refine wpAny_bind (wpAny_sequenceKey ht.typeIs (by decide) ?_)
  refine wpAny_bind (wpAny_callSpecial?_slot (name := Str.ofString "__getitem__") ht.typeIs PyProof.Rows.slot_tuple_getitem
    (wpAny_call_entry PyProof.Rows.slot_tuple_getitem ht.typeIs entry_tuple_getitem ?_ (args_tuple_getitem _ _)))
  show wpAny _ _ (Builtin.Tuple.tupleItemsOf (.ref t) >>= _) _ _ s
  refine wpAny_bind (tupleItemsOf_ ht (wpAny_bind (wpAny_typeOf tyS ?_)))
  rw [if_pos (by decide)]
  refine wpAny_bind (applied ?_)
  have notWhole : ¬ (((((xs.length : Int) - 1) == 0) && ((-1 : Int) == 1) && (xs.length == xs.toArray.size)) = true) := fun z => by
    rw [show ((-1 : Int) == 1) = false by decide, Bool.and_false, Bool.false_and] at z
    cases z
  show wpAny _ _ (if ((((xs.length : Int) - 1) == 0) && ((-1 : Int) == 1) && (xs.length == xs.toArray.size)) = true then _ else _) _ _ s
  rw [if_neg notWhole, rev_pick]
  first
    | exact wpAny_bind (m := Builtin.Tuple.tupleExact _) (wpAny_newObj_type (wpAny_pure ⟨_, rfl, wpAny_pure h⟩) okSize)
    | exact wpAny_bind (m := Builtin.Tuple.tupleExact _) (wpAny_newObj_type (wpAny_bind (wpAny_pure (wpAny_pure ⟨_, rfl, wpAny_pure h⟩))) okSize)
    | exact wpAny_bind (wpAny_bind (m := Builtin.Tuple.tupleExact _) (wpAny_newObj_type (wpAny_pure (wpAny_pure ⟨_, rfl, wpAny_pure h⟩)) okSize))
    | exact wpAny_bind (wpAny_bind (m := Builtin.Tuple.tupleExact _) (wpAny_newObj_type (wpAny_pure ⟨_, rfl, wpAny_pure h⟩) okSize))
end
section
variable {X : Cx}
def tRevT (K : PySem.W.Frag) (te : TE) : TE := fun σ H Q => te σ H fun x H1 => ∃ a xs, x = .ref a ∧ SqT K H1 a xs ∧ ∀ p, H1 p = none → Q (.ref p) (upd H1 p (.tup xs.reverse))
theorem pe_revT {e : Expr} {te : TE} {k : Nat} {p1 p2 p3 pos : Pos} (he : PE X e te) : PE X (.Subscript e (.Slice none none (some (.UnaryOp .USub (.Constant (.int 1) k p1) p2)) p3) pos) (tRevT X.K te) := by
  constructor
  intro pins s σ H Q I h
  refine Subscript_ (thn (he.run pins s σ H _ I h) fun v s1 ⟨x, H1, I1, r1, q1⟩ => ?_)
  obtain ⟨a, xs, ex, hx, q⟩ := q1
  subst ex
  cases r1
  have step : PO X (some (.UnaryOp .USub (.Constant (.int 1) k p1) p2)) (tPart (tUn (rU fun i => .int (-i)) (tC (.int 1)))) := po_some (pe_un un_neg pe_int)
  refine wpAny_Slice (thn (po_none.run pins s1 σ H1 (fun o H2 => o = none ∧ H2 = H1) I1 ⟨rfl, rfl⟩) fun vl s2 ⟨l, H2, I2, pl, el, e2⟩ => ?_)
  subst el e2
  cases pl
  refine thn (po_none.run pins s2 σ H2 (fun o H3 => o = none ∧ H3 = H2) I2 ⟨rfl, rfl⟩) fun vu s3 ⟨u, H3, I3, pu, eu, e3⟩ => ?_
  subst eu e3
  cases pu
  refine thn (step.run pins s3 σ H3 (fun o H4 => o = some (-1) ∧ H4 = H3) I3 ⟨1, rfl, -1, rfl, rfl, rfl⟩) fun vs s4 ⟨o, H4, I4, ps, eo, e4⟩ => ?_
  subst eo e4
  have I5 : L2.Inv X pins σ H4 { s4 with heap := s4.heap.push { cls := .type "slice", data := .fields #[.none, .none, vs] } } := I4.kept (t' := s4.toks) fun b ob z => Heap.get?_push_of_some _ z
  obtain ⟨its, r, ht, hz⟩ := I5.tuple hx
  have hlen := r.length
  show wpAny (model X.prog X.w) X.A (subscriptTail e (.Slice none none (some (.UnaryOp .USub (.Constant (.int 1) k p1) p2)) p3) (.ref a) (.ref s4.heap.objs.size)) (EP X pins σ Q) X.xe { s4 with heap := s4.heap.push { cls := .type "slice", data := .fields #[.none, .none, vs] } }
  refine tail_any (ops := [.ref a, .ref s4.heap.objs.size]) ht.typeIs (PyProof.Rows.slot_tuple_getitem.lookup) ?_ (by with_unfolding_all rfl)
  refine getItem_tup_rev ht (Heap.IsSliceOf.new _ .none .none vs) ps ?_ (by omega)
  refine ⟨.ref _, _, I5.laid (t' := s4.toks) (o := .tup xs.reverse) (fun b ob z => Heap.get?_push_of_some _ z) (Nat.le_refl _) ?_, rfl, q _ (I5.hok.fresh (Nat.le_refl _))⟩
  exact ⟨by rw [List.length_reverse]; exact hz, _, r.reverse, IsTup.new _ _⟩
end
section
variable {prog : Program} {w : World} {A : Around} {E : Value → Shared → Prop} {s : Shared}
theorem bounds_clip {a c n : Nat} (ha : a ≤ n) : sliceBounds (some (a : Int)) (some (c : Int)) none n = ((a : Int), ((min c n : Nat) : Int), 1) := by
  simp only [sliceBounds, Option.getD_none]
  have h1 : ¬ ((a : Int) < 0) := by omega
  have h2 : ¬ ((c : Int) < 0) := by omega
  simp only [h1, h2, if_false, show (1 : Int) > 0 by decide, if_true]
  refine Prod.ext ?_ (Prod.ext ?_ rfl)
  · show max 0 (min (a : Int) (n : Int)) = (a : Int)
    omega
  · show max 0 (min (c : Int) (n : Int)) = ((min c n : Nat) : Int)
    omega
theorem setItem_clip {l b sl : Addr} {items new : Array Value} {n n2 : Nat} {vl vu : Value} {a c : Nat} {Q : Unit → Shared → Prop}
    (e : s.heap.get? l = some { cls := .type "list", data := .seq items n }) (e2 : s.heap.get? b = some { cls := .type "list", data := .seq new n2 }) (hne : l ≠ b)
    (hs : s.heap.IsSliceOf sl vl vu .none) (pl : IsPart vl (some (a : Int))) (pu : IsPart vu (some (c : Int))) (hac : a ≤ c) (ha : a ≤ items.size)
    (hsz : items.size + new.size ≤ sizeLine) (h : Q () { s with heap := s.heap.update l (Obj.mapSeq fun xs => xs.extract 0 a ++ new ++ xs.extract (min c items.size) xs.size) }) :
    wpAny (model prog w) A (setItem (.ref l) (.ref sl) (.ref b)) Q E s := by
  have isl : s.heap.IsList l items := PySem.IsL.isList e
  have isb : s.heap.IsList b new := PySem.IsL.isList e2
  obtain ⟨os, hos, hcs, hds⟩ := id hs
  have tyS : s.TypeIs (.ref sl) "slice" := ⟨os, hos, hcs⟩
  have apart : Builtin.List.listSameRef (.ref l) (.ref b) = false := by
    unfold Builtin.List.listSameRef
    exact beq_eq_false_iff_ne.mpr hne
  have emax : (max (a : Int) ((min c items.size : Nat) : Int)).toNat = min c items.size := by omega
  have fits : ((fun xs : Array Value => xs.extract 0 a ++ new ++ xs.extract (min c items.size) xs.size) items).size ≤ sizeLine + 1 := by
    simp only [Array.size_append, Array.size_extract]
    omega
  unfold setItem
  try with_reducible refine wpAny_holding ?_
  first | refine wpAny_bind (wpAny_pure ?_) | skip
  refine wpAny_bind (wpAny_sequenceKey isl.typeIs (by decide) ?_)
  refine wpAny_bind (wpAny_callSpecial?_slot (name := Str.ofString "__setitem__") isl.typeIs slot_list_setitem
    (wpAny_call_entry slot_list_setitem isl.typeIs entry_list_setitem ?_ (args_list_setitem _ _ _)))
  show wpAny _ _ (Builtin.List.listSubscript? (.ref sl) >>= _) _ _ s
  refine wpAny_bind ?_
  unfold Builtin.List.listSubscript?
  refine wpAny_bind (wpAny_specialOf tyS slice_no_index ?_)
  simp only [Option.isNone_none, if_true]
  refine wpAny_pure ?_
  show wpAny _ _ (typeOf (.ref sl) >>= _) _ _ s
  refine wpAny_bind (wpAny_typeOf tyS ?_)
  first
    | rw [if_neg (by decide)]
    | refine PySem.W.KFB.if_not (by decide) ?_
  rw [listSliceParts_eq]
  refine wpAny_bind (wpAny_bind (wpAny_field hos hds (x := .none) rfl (wpAny_bind (wpAny_listPart .none ?_))))
  rw [if_neg (show ¬ ((rawPart none == rawInt 0) = true) from Bool.false_ne_true)]
  refine wpAny_bind (wpAny_field hos hds (x := vl) rfl (wpAny_bind (wpAny_listPart pl ?_)))
  refine wpAny_bind (wpAny_field hos hds (x := vu) rfl (wpAny_bind (wpAny_listPart pu (wpAny_pure ?_))))
  first
    | simp only [apart, Bool.false_eq_true, if_false]
    | refine PySem.W.KFB.if_not apart ?_
    | (dsimp only
       rw [if_neg (by rw [apart]; exact Bool.false_ne_true)])
  refine wpAny_bind (m := Builtin.List.listAllItems (.ref b) "must assign iterable to extended slice") ?_
  unfold Builtin.List.listAllItems
  refine wpAny_bind (wpAny_typeOf isb.typeIs ?_)
  first
    | refine PySem.W.KFB.if_so (by decide) ?_
    | rw [if_pos (by decide)]
    | simp only [beq_self_eq_true, Bool.true_or, if_true]
  unfold Builtin.List.listItems
  refine wpAny_bind (wpAny_seqItems e2 rfl (wpAny_pure ?_))
  refine wpAny_bind (wpAny_bind (wpAny_seqItems e rfl (wpAny_pure ?_)))
  refine wpAny_bind (wpAny_of_eq ((sliceIndices_raw (some (a : Int)) (some (c : Int)) none items.size (by simp)).trans (congrArg (pure : Int × Int × Int → Sem (Int × Int × Int)) (bounds_clip ha))) ?_)
  show wpAny _ _ (if ((1 : Int) == 1) = true then _ else _) _ _ s
  rw [if_pos (by decide)]
  refine wpAny_bind (wpAny_rule ?_)
  first
    | simp only [notLongL hsz, Bool.false_eq_true, if_false]
    | refine PySem.W.KFB.if_not (notLongL hsz) ?_
  first | refine wpAny_bind (wpAny_pure ?_) | skip
  show wpAny _ _ (updateSeq l (fun xs => xs.extract 0 ((a : Int)).toNat ++ new ++ xs.extract (max (a : Int) ((min c items.size : Nat) : Int)).toNat xs.size) >>= _) _ _ s
  rw [emax, Int.toNat_natCast]
  refine wpAny_bind (wpAny_updateSeq (hz := Nat.le_trans (Nat.le_add_right _ _) hsz) (_hz' := fits) e rfl ?_)
  refine wpAny_bind (wpAny_letGo ?_)
  first
    | exact wpAny_bind (wpAny_pure (wpAny_pure ⟨.none, rfl, wpAny_pure h⟩))
    | exact wpAny_pure ⟨.none, rfl, wpAny_pure h⟩
end
section
variable {X : Cx}
/-- xs[a:b] = ys, ys another list; b may lie beyond -/
def gSlL (to : TE) (tl th : TO) : TG := fun v σ H Q => to σ H fun o H1 => tl σ H1 fun lo H2 => th σ H2 fun hi H3 => ∃ (l b : Addr) (xs ys : List V) (a c : Nat), o = .ref l ∧ v = .ref b ∧ lo = some (a : Int) ∧ hi = some (c : Int) ∧
  H3 l = some (.lst xs) ∧ H3 b = some (.lst ys) ∧ l ≠ b ∧ a ≤ c ∧ a ≤ xs.length ∧ xs.length + ys.length ≤ sizeLine ∧ Q σ (upd H3 l (.lst (xs.take a ++ ys ++ xs.drop c)))
theorem pg_slc {o lo hi : Expr} {to : TE} {tl th : TO} {sp pos : Pos} (ho : PE X o to) (hlo : PO X (some lo) tl) (hhi : PO X (some hi) th)
    (ha : ∀ v, assign (.Subscript o (.Slice (some lo) (some hi) none sp) pos) X.env v = (do
      let ov ← holding [v] (eval o X.env)
      let iv ← holding [v, ov] (eval (.Slice (some lo) (some hi) none sp) X.env)
      standAt pos
      holding [v, ov, iv] (setItem ov iv v)
      release [iv, v, ov] []) := by intro _; rfl) : PG X (.Subscript o (.Slice (some lo) (some hi) none sp) pos) (gSlL to tl th) := by
  constructor
  intro pins s σ H v u Q I r h
  rw [ha]
  refine wpAny_bind (wpAny_holding (thn (ho.run pins s σ H _ I h) fun ov s1 ⟨x, H1, I1, r1, q1⟩ => wpAny_bind (wpAny_holding (wpAny_Slice ?_))))
  refine thn (hlo.run pins s1 σ H1 _ I1 q1) fun vl s2 ⟨oi, H2, I2, pl, q2⟩ => thn (hhi.run pins s2 σ H2 _ I2 q2) fun vu s3 ⟨oj, H3, I3, pu, q3⟩ => ?_
  refine thn (po_none.run pins s3 σ H3 (fun o H4 => o = none ∧ H4 = H3) I3 ⟨rfl, rfl⟩) fun vn s4 ⟨ok, H4, I4, pn, ek, e4⟩ => ?_
  subst ek e4
  cases pn
  obtain ⟨l, b, xs, ys, a, c, rfl, rfl, rfl, rfl, hl, hb, hne, hac, hax, hz, q⟩ := q3
  cases r1
  cases r
  have I5 : L2.Inv X pins σ H4 { s4 with heap := s4.heap.push { cls := .type "slice", data := .fields #[vl, vu, .none] } } := I4.kept (t' := s4.toks) fun b ob z => Heap.get?_push_of_some _ z
  obtain ⟨z, its, n, rel, hlen, e⟩ := I5.lstM hl
  obtain ⟨z2, its2, n2, rel2, hlen2, e2⟩ := I5.lstM hb
  refine wpAny_bind (wpAny_standAt (wpAny_bind (wpAny_holding ?_)))
  refine setItem_clip (a := a) (c := c) e e2 hne (Heap.IsSliceOf.new _ vl vu .none) pl pu hac (by rw [List.size_toArray]; omega) (by rw [List.size_toArray, List.size_toArray]; omega) ?_
  refine wpAny_release ?_
  refine ⟨_, _, I5.lset (its' := its.take a ++ its2 ++ its.drop c) (t' := s4.toks) hl e ?_ (Vals.append (Vals.append (rel.take _) rel2) (rel.drop _)) ?_, q⟩
  · show its.toArray.extract 0 a ++ its2.toArray ++ its.toArray.extract (min c its.toArray.size) its.toArray.size = (its.take a ++ its2 ++ its.drop c).toArray
    rw [splice_eq]
    congr 2
    rw [List.size_toArray]
    by_cases hc : c ≤ its.length
    · rw [Nat.min_eq_left hc]
    · rw [Nat.min_eq_right (by omega), List.drop_eq_nil_of_le (Nat.le_refl _), List.drop_eq_nil_of_le (by omega)]
  · rw [List.length_append, List.length_append, List.length_take, List.length_drop]
    omega
end
end NS

/-! ### defs that may ask for repr: promised where no repr is under way around them -/
namespace NS
open PySem PySem.Spec PyProof.Rows L2
structure FnOkG (P : Program) (w : World) (K : PySem.W.Frag) (mg : Str → Option Value) (base : Heap) (k : Nat) (f : Addr) (fd : FuncData) (ps : List Str) (sp : Sp) : Prop where
  len : ∀ vs H Q E, sp vs H Q E → vs.length = ps.length
  run : ∀ (A : Around) (outer : List Env) (s : Shared) (H : Hp) (args : Args) (us : List Value) (vs : List V) (Q : VK) (E : XK), A.guards = some [] → Room k A → Env0 P w K mg base A outer s H → BindsTo s fd args (ps.zip us) → Vals vs us → sp vs H Q E →
    codeAny (model P w) A (.call (.ref f) args) (CR CX0 outer P w H s Q E) s
theorem FnOkG.of {P : Program} {w : World} {K : PySem.W.Frag} {mg : Str → Option Value} {base : Heap} {k : Nat} {f : Addr} {fd : FuncData} {ps : List Str} {sp : Sp} (F : FnOk P w K mg base CX0 k f fd ps sp) : FnOkG P w K mg base k f fd ps sp :=
  ⟨F.len, fun A outer s H args us vs Q E _ => F.run A outer s H args us vs Q E⟩
section
variable {P : Program} {w : World} {K : PySem.W.Frag} {mg : Str → Option Value} {base : Heap}
theorem okG {x qual : Str} {st : Stmt} {f : Addr} {fd : FuncData} {N ps : List Str} {k : Nat} {sp : Sp} (F : Fun K x qual st f fd) (S : FnScope N ps (defScope st)) (len : ∀ vs H Q E, sp vs H Q E → vs.length = ps.length)
    (hbody : ∀ (cdv : Value) (A : Around) (outer : List Env) (s : Shared) (H : Hp) (vs : List V) (Q : VK) (E : XK), A.guards = some [] → Room k (A.deeper (envOfC qual (defScope st) s.heap.objs.size f cdv)) → sp vs H Q E →
      ∃ t, PSs (cxOf CX0 P w K mg base N qual (defScope st) f cdv A outer s H E).nox (defBody st) t ∧ t { nx := fun _ H' => Q .non H', rt := Q } (start N vs) H) : FnOkG P w K mg base (k + 1) f fd ps sp := by
  obtain ⟨oc, od, kV, doc, pm, an, cdv, ct, osl, efd, lk, hcd⟩ := F.ex
  subst efd
  refine ⟨len, fun A outer s H args us vs Q E hgd room en bnd rel promised => ?_⟩
  have lens := len _ _ _ _ promised
  have inK : K.In s.heap := en.mod.kin.keeps fun b o z => (en.bs b o z).1
  have lim : s.heap.NoLimit := en.mod.nolimit.keeps fun b o z => (en.bs b o z).1
  have kinds : ∀ y ∈ ps.zip us, (defScope st).names.lookup y.1 = some .local ∨ ((defScope st).names.lookup y.1 = some .cell ∧ ((cellsFrom (s.heap.objs.size + 1) (defScope st).names []).lookup y.1).isSome = true) := fun y hy => by
    rcases S.par y.1 (List.of_mem_zip hy).1 with z | z
    · exact .inl z
    · exact .inr ⟨z, PySem.W.cellsFrom_some _ _ _ (.inl z)⟩
  refine codeAny_call_function room.depth (inK _ _ lk) rfl S.co S.gen rfl (PySem.W.codeRec_of inK hcd) (bnd _ _ _ _ ?_)
  refine wpAny_newFunctionEnv_cells S.kind kinds fun env eenv s1 entered => ?_
  subst eenv
  refine ⟨lim.keeps entered.toInCall.keep, codeAny_func ?_⟩
  obtain ⟨t, der, rd⟩ := hbody cdv A outer s H vs Q E hgd (room.deeper _) promised
  have J0 : L2.Inv (cxOf CX0 P w K mg base N qual (defScope st) f cdv A outer s H E) [] (start N vs) H s1 := inv_start S room.hd en lens rel entered
  have done : ∀ {σ' : L2.St} {H' : Hp} {v : V} {u : Value} {s' : Shared}, L2.Inv (cxOf CX0 P w K mg base N qual (defScope st) f cdv A outer s H E) [] σ' H' s' → RelV v u → Q v H' → CE outer P w H s Q u s' :=
    fun {σ' H' v u s'} J rv q => ⟨v, H', J.os, J.bare, J.base, J.hok, rv, q⟩
  refine wpAny_mono (der.nox.run [] s1 (start N vs) H _ J0 rd) (fun fl s' out => ?_) fun ex s' out => out
  cases fl with
  | ret u =>
    obtain ⟨v, σ', H', J, rv, q⟩ := out
    exact done J rv q
  | next =>
    obtain ⟨σ', H', J, q⟩ := out
    exact done (v := V.non) (u := Value.none) J rfl q
  | brk => exact (out.elim fun _ z => z.elim fun _ z => z.2).elim
  | cont => exact (out.elim fun _ z => z.elim fun _ z => z.2).elim
end
section
variable {X : Cx} {k : Nat} {f : Addr} {fd : FuncData} {ps : List Str} {sp : Sp} {x : Str} {p pos : Pos} {e : Expr} {es : List Expr} {t : TA}
theorem pe_callG (hgd : X.A.guards = some []) (F : FnOkG X.prog X.w X.K X.mg X.base k f fd ps sp) (hr : Room k X.A) (hg : Gl X x) (hm : X.mg x = some (.ref f)) (hk : PySem.W.keepIn X.K (.ref f) = true) (hb : Binds X.K fd ps [])
    (ha : PA X (e :: es) t) (hdb : (x == ("__debug__" : Str)) = false := by decide) (he : starEach (e :: es) X.env = (false, eval e X.env) :: starEach es X.env := by rfl) (hpl : (backTo pos (starEach es X.env)).any (·.1) = false := by rfl) :
    PE X (.Call (.Name x p) (e :: es) [] pos) (tCall sp [] E0 t) := by
  constructor
  intro pins s σ H Q I h
  refine wpAny_Call_Name_kw (ld_glob I hg hm ?_ hdb)
  refine PySem.W.callWith_K (h₀ := X.base) I.ok.mod.kin hk (thn (ha.run pos pins s σ H _ I h) fun us s1 ⟨vs, H1, I1, r, q⟩ => ⟨I1.kIn, ?_⟩) he hpl
  have r2 : Vals (vs ++ []) (us ++ []) := r.append .nil
  have hl : (us ++ []).length = ps.length := r2.length.symm.trans (F.len _ _ _ _ q)
  refine wpAny_call (codeAny_mono (F.run X.A X.stack s1 H1 ⟨us, []⟩ (us ++ []) (vs ++ []) Q E0 hgd hr I1.env0 (hb s1 us I1.kIn hl) r2 q) fun res s' hq => ?_)
  cases res with
  | error ex => exact (show False from hq).elim
  | ok fl =>
    cases fl with
    | ret u => exact I1.after hq
    | next => exact False.elim hq
    | brk => exact False.elim hq
    | cont => exact False.elim hq
end
/-- the law's end, by a promise where no repr is under way -/
theorem lawG {P : Program} {w : World} {K : PySem.W.Frag} {mg mb : Str → Option Value} {k : Nat} {fa a : Addr} {fd : FuncData} {x : Str} {sp : Sp} {s₁ : Shared} {vs : List Value} {ns : List Int}
    (KX : K.In s₁.heap) (hns : s₁.heap.Ns mainGlobals mg) (hb : s₁.heap.Ns builtinsNs mb) (hbb : ∀ x : Str, x ≠ "__name__" → mb x = bootBuiltins x) (hlim : s₁.heap.NoLimit) (hgn : s₁.gens = #[])
    (ha : s₁.heap.get? a = some { cls := .type "list", data := .seq vs.toArray }) (hi : IntsAre vs ns) (hl : ns.length ≤ sizeLine) (room : Room k callerA)
    (F : ∀ base : Heap, K.In base → base.Ns mainGlobals mg → FnOkG P w K mg base k fa fd [x] sp) (hbind : ∀ (s : Shared) (u : Value), BindsTo s fd ⟨[u], []⟩ [(x, u)])
    (hsp : ∀ H : Hp, Only H → SqL K H a (ns.map V.int) → sp [.ref a] H (fun v _ => v = .bl true) fun _ _ _ => False) :
    codeAny (model P w) callerA (.call (.ref fa) ⟨[.ref a], []⟩) (fun r s' => r = .ok (.ret (.bool true)) ∧ OldK s₁.heap s'.heap ∧ s'.os = s₁.os ∧ AllBare s'.gens) s₁ := by
  have rv := vals_ints hi
  have lenV := hi.length
  have core : ∀ H : Hp, Only H → SqL K H a (ns.map V.int) → HOk P w H s₁.heap → (∀ b, H b ≠ none → b = a) → (H a ≠ none → K.lookup a = none) →
      codeAny (model P w) callerA (.call (.ref fa) ⟨[.ref a], []⟩) (fun r s' => r = .ok (.ret (.bool true)) ∧ OldK s₁.heap s'.heap ∧ s'.os = s₁.os ∧ AllBare s'.gens) s₁ := fun H hO hS hok hA hK => by
    have noA : ∀ {b : Addr} {o : Obj} {es : Array DictEntry} {ep : Nat}, s₁.heap.get? b = some o → o.data = .dict es ep → H b = none := fun {b o es ep} z d => by
      cases hq : H b with
      | none => rfl
      | some u =>
        have eb : b = a := hA b (by rw [hq]; exact fun z => nomatch z)
        subst eb
        rw [ha] at z
        cases z
        exact nomatch (show Data.seq vs.toArray _ = Data.dict es ep from d)
    have nsK : ∀ {b : Addr} {m : Str → Option Value}, s₁.heap.Ns b m → (hidT s₁.heap H).Ns b m := fun {b m} z => by
      obtain ⟨o, es, ep, g, d, r⟩ := z
      exact ⟨o, es, ep, hidT_get g (noA g d), d, r⟩
    have inB : K.In (hidT s₁.heap H) := fun b o z => hidT_get (KX b o z) (by
      cases hq : H b with
      | none => rfl
      | some u =>
        have eb : b = a := hA b (by rw [hq]; exact fun z => nomatch z)
        subst eb
        rw [hK (by rw [hq]; exact fun z => nomatch z)] at z
        cases z)
    have hM : Mod K mg (hidT s₁.heap H) := ⟨inB, nsK hns, ⟨mb, nsK hb, hbb⟩, hlim.elim fun mc z => ⟨mc, nsK z.1, z.2⟩⟩
    have en : Env0 P w K mg (hidT s₁.heap H) callerA [] s₁ H := ⟨rfl, hM, fun b o z => of_hidT z, Nat.le_of_eq (hidT_size _ _), trivial, fun b z => absurd (show b ∈ ([] : List Addr) from z) (by simp), hok, .of_eq hgn⟩
    refine codeAny_mono ((F _ inB (nsK hns)).run callerA [] s₁ H ⟨[.ref a], []⟩ [.ref a] [.ref a] _ _ rfl room en (hbind s₁ (.ref a)) (.cons rfl .nil) (hsp H hO hS)) fun res s' out => ?_
    cases res with
    | error ex => exact (show False from out).elim
    | ok fl =>
      cases fl with
      | next => exact False.elim out
      | brk => exact False.elim out
      | cont => exact False.elim out
      | ret u =>
        obtain ⟨v, H', os, bare, un, hok', rel, isT⟩ := out
        have isT' : v = .bl true := isT
        subst isT'
        obtain rfl : u = Value.bool true := rel
        refine ⟨rfl, OldK.of_keep fun b o z => ?_, os, bare⟩
        rcases hO b with hq | ⟨ob, xs, hq⟩
        · exact un.keep b o z hq (fun y => absurd (show b ∈ ([] : List Addr) from y) (by simp)) (by simp)
        · have z1 := (hok b _ hq).1
          have z2 := (hok' b _ (un.frzs b ob _ hq)).1
          rw [z] at z1
          cases z1
          exact z2
  cases hk : K.lookup a with
  | some o =>
    have z := KX a o hk
    rw [ha] at z
    cases z
    exact core (fun _ => none) (fun _ => .inl rfl) (.inr ⟨_, vs.toArray, _, hk, rfl, rfl, rfl, by rw [List.size_toArray, lenV]; exact hl, by simpa using rv⟩) (fun b u z => nomatch (show (none : Option HO) = some u from z)) (fun b z => absurd rfl z) fun z => absurd rfl z
  | none =>
    have fz : ∀ b, (if b = a then some (HO.frz { cls := .type "list", data := .seq vs.toArray } (.lst (ns.map V.int))) else none) ≠ none → b = a := fun b z => by
      by_cases hba : b = a
      · exact hba
      · exact absurd (if_neg hba) z
    refine core (fun b => if b = a then some (.frz { cls := .type "list", data := .seq vs.toArray } (.lst (ns.map V.int))) else none) (fun b => ?_) (.inl (.inr ⟨{ cls := .type "list", data := .seq vs.toArray }, if_pos rfl⟩)) (fun b u z => ?_) fz fun _ => hk
    · by_cases hba : b = a
      · exact .inr ⟨_, _, if_pos hba⟩
      · exact .inl (if_neg hba)
    · have hba : b = a := fz b (by rw [show (if b = a then some (HO.frz { cls := .type "list", data := .seq vs.toArray } (.lst (ns.map V.int))) else none) = some u from z]; exact fun y => nomatch y)
      have z' := (if_pos hba).symm.trans z
      cases z'
      subst hba
      exact ⟨ha, by rw [List.length_map]; exact hl, vs, _, rv, ha⟩
theorem walkG {l : PySem.W.OpenLaw} {n k : Nat} {q : Program} {loose : List Str} {XP : (Str → Option Value) → Heap → Prop} {YP : World → Heap → Prop} {d : DefRec} {K : Params → PySem.W.Frag} {sp : World → Sp} {x : Str}
    (hn : l.most = some n) (hn2 : n ≤ sizeLine) (hdf : d.params.defaults = []) (room : Room k callerA)
    (hY : ∀ (w : World) (h : Heap), YP w h → (K w.params).In h)
    (F : ∀ (w : World) (mg : Str → Option Value) (fa : Addr) (h : Heap), (K w.params).In h → h.Ns mainGlobals mg → mg d.name = some (.ref fa) →
      ∃ fd : FuncData, (∀ (s : Shared) (u : Value), BindsTo s fd ⟨[u], []⟩ [(x, u)]) ∧
        ∀ base : Heap, (K w.params).In base → base.Ns mainGlobals mg → FnOkG l.prog w (K w.params) mg base k fa fd [x] (sp w))
    (hsp : ∀ (w : World) (H : Hp) (a : Addr) (ns : List Int), ns.length ≤ n → Only H → SqL (K w.params) H a (ns.map V.int) → sp w [.ref a] H (fun v _ => v = .bl true) fun _ _ _ => False) :
    PySem.W.WalkO q loose XP YP l.row.toRowW d [] (fun f vs => PySem.call f vs) := by
  refine Att.attach_call hn hdf fun w s₀ s₁ mg mb fa o pm cd doc a vs ns G Y ho hd hcd hmg hobj hints hlen hgn => ?_
  obtain ⟨fd, bnd, kept⟩ := F w mg fa _ (hY w _ Y) G.T.g hmg
  exact lawG (hY w _ Y) G.T.g G.T.b G.T.builtins G.T.nolimit hgn hobj hints (Nat.le_trans hlen hn2) room kept bnd fun H hO hS => hsp w H a ns hlen hO hS
end NS
namespace NS
open PySem L2
structure KnG (P : Program) (w : World) (K : PySem.W.Frag) (mg : Str → Option Value) (base : Heap) (k : Nat) (x : Str) (st : Stmt) (ps : List Str) (sp : Sp) (f : Addr) (fd : FuncData) : Prop where
  D : Df K mg x st ps f fd
  G : FnOkG P w K mg base k f fd ps sp
end NS

namespace NS
open PySem L2
mutual
def depthD : PyData → Nat
  | .list ds => depthL ds + 1
  | .tuple ds => depthL ds + 1
  | _ => 0
def depthL : List PyData → Nat
  | [] => 0
  | d :: ds => max (depthD d) (depthL ds)
end
theorem depthL_get : ∀ {ds : List PyData} {d : PyData} {i : Nat}, ds[i]? = some d → depthD d ≤ depthL ds
  | [], d, i, h => by simp at h
  | e :: ds, d, 0, h => by
    have q : e = d := Option.some.inj h
    subst q
    unfold depthL
    exact Nat.le_max_left _ _
  | e :: ds, d, i + 1, h => by
    have q := depthL_get (ds := ds) (d := d) (i := i) (by simpa using h)
    unfold depthL
    exact Nat.le_trans q (Nat.le_max_right _ _)
theorem dpAll_len {K : PySem.W.Frag} {H : Hp} : ∀ {vs : List V} {ds : List PyData}, DpAll K H vs ds → vs.length = ds.length
  | _, _, .nil => rfl
  | _, _, .cons _ b => congrArg (· + 1) (dpAll_len b)
theorem dpAll_get {K : PySem.W.Frag} {H : Hp} : ∀ {vs : List V} {ds : List PyData} {i : Nat} {v : V}, DpAll K H vs ds → vs[i]? = some v → ∃ d, ds[i]? = some d ∧ Dp K H v d
  | _, _, _, _, .nil, h => by simp at h
  | _, _, 0, v, .cons a _, h => by
    have q := Option.some.inj h
    subst q
    exact ⟨_, rfl, a⟩
  | _, _, i + 1, v, .cons _ b, h => by
    obtain ⟨d, e, q⟩ := dpAll_get (i := i) (v := v) b (by simpa using h)
    exact ⟨d, by simpa using e, q⟩
mutual
def wideD : PyData → Nat
  | .list ds => max ds.length (wideL ds)
  | .tuple ds => max ds.length (wideL ds)
  | _ => 0
def wideL : List PyData → Nat
  | [] => 0
  | d :: ds => max (wideD d) (wideL ds)
end
theorem wideL_get : ∀ {ds : List PyData} {d : PyData} {i : Nat}, ds[i]? = some d → wideD d ≤ wideL ds
  | [], d, i, h => by simp at h
  | e :: ds, d, 0, h => by
    have q : e = d := Option.some.inj h
    subst q
    unfold wideL
    exact Nat.le_max_left _ _
  | e :: ds, d, i + 1, h => by
    have q := wideL_get (ds := ds) (d := d) (i := i) (by simpa using h)
    unfold wideL
    exact Nat.le_trans q (Nat.le_max_right _ _)
theorem depth_ints : ∀ ns : List Int, depthL (ns.map PyData.int) = 0
  | [] => by unfold depthL; rfl
  | n :: ns => by
    show depthL (PyData.int n :: ns.map PyData.int) = 0
    unfold depthL
    rw [depth_ints ns]
    unfold depthD
    rfl
theorem wide_ints : ∀ ns : List Int, wideL (ns.map PyData.int) = 0
  | [] => by unfold wideL; rfl
  | n :: ns => by
    show wideL (PyData.int n :: ns.map PyData.int) = 0
    unfold wideL
    rw [wide_ints ns]
    unfold wideD
    rfl
theorem depth_T (ns : List Int) : depthD (dT ns) = 1 := by
  unfold dT depthD
  rw [depth_ints]
theorem wide_T (ns : List Int) : wideD (dT ns) = ns.length := by
  unfold dT wideD
  rw [wide_ints, List.length_map]
  omega
theorem depth_L (ns : List Int) : depthD (dL ns) = 1 := by
  unfold dL depthD
  rw [depth_ints]
theorem wide_L (ns : List Int) : wideD (dL ns) = ns.length := by
  unfold dL wideD
  rw [wide_ints, List.length_map]
  omega
theorem depth_list (ds : List PyData) : depthD (.list ds) = depthL ds + 1 := by rw [depthD]
theorem depth_tuple (ds : List PyData) : depthD (.tuple ds) = depthL ds + 1 := by rw [depthD]
theorem depthL_nil : depthL [] = 0 := by rw [depthL]
theorem depthL_cons (d : PyData) (ds : List PyData) : depthL (d :: ds) = max (depthD d) (depthL ds) := by rw [depthL]
theorem wide_list (ds : List PyData) : wideD (.list ds) = max ds.length (wideL ds) := by rw [wideD]
theorem wide_tuple (ds : List PyData) : wideD (.tuple ds) = max ds.length (wideL ds) := by rw [wideD]
theorem wideL_nil : wideL [] = 0 := by rw [wideL]
theorem wideL_cons (d : PyData) (ds : List PyData) : wideL (d :: ds) = max (wideD d) (wideL ds) := by rw [wideL]
end NS

/-! ### the heap without s; what evaluates to which data -/
namespace NS
open PySem L2
def Hid (S : List Addr) (H : Hp) : Hp := fun b => if b ∈ S then none else H b
theorem nmem_ne {S : List Addr} {b s : Addr} (n : b ∉ S) (hs : s ∈ S) : b ≠ s := fun z => n (by rw [z]; exact hs)
theorem hid_ne {S : List Addr} {b : Addr} {H : Hp} (h : b ∉ S) : Hid S H b = H b := if_neg h
theorem hid_in {S : List Addr} {b : Addr} {H : Hp} (h : b ∈ S) : Hid S H b = none := if_pos h
theorem hid_some {S : List Addr} {b : Addr} {H : Hp} {o : HO} (h : Hid S H b = some o) : b ∉ S ∧ H b = some o := by
  by_cases e : b ∈ S
  · rw [hid_in e] at h
    cases h
  · rw [hid_ne e] at h
    exact ⟨e, h⟩
theorem same_hid {S : List Addr} {H : Hp} : Same (Hid S H) H := fun _ _ h => (hid_some h).2
theorem hid_mono {S : List Addr} {H H' : Hp} (e : Same H H') : Same (Hid S H) (Hid S H') := fun b o h => by
  obtain ⟨n, h⟩ := hid_some h
  rw [hid_ne n]
  exact e b o h
theorem hid_stay {S : List Addr} {s : Addr} {H H' : Hp} (hs : s ∈ S) (e : Stay s H H') : Same (Hid S H) (Hid S H') := fun b o h => by
  obtain ⟨n, h⟩ := hid_some h
  rw [hid_ne n]
  exact e b o (nmem_ne n hs) h
theorem hid_upd {S : List Addr} {s : Addr} {H : Hp} {o : HO} (hs : s ∈ S) : Hid S (upd H s o) = Hid S H := by
  funext b
  by_cases e : b ∈ S
  · rw [hid_in e, hid_in e]
  · rw [hid_ne e, hid_ne e, upd_ne (nmem_ne e hs)]
theorem hid_to {S : List Addr} {s : Addr} {H : Hp} {o : HO} (hs : s ∈ S) : Same (Hid S H) (upd H s o) := fun b x h => by
  obtain ⟨n, h⟩ := hid_some h
  rw [upd_ne (nmem_ne n hs)]
  exact h
/-- one more is hidden that was not there -/
theorem hid_more {S : List Addr} {p : Addr} {H H' : Hp} (hp : H p = none) (e : Same (Hid S H) (Hid S H')) : Same (Hid S H) (Hid (p :: S) H') := fun b o h => by
  obtain ⟨n, h'⟩ := hid_some h
  have nb : b ≠ p := ne_of_none h' hp
  rw [hid_ne (fun z => by
    rcases List.mem_cons.mp z with z | z
    · exact nb z
    · exact n z)]
  exact (hid_some (e b o h)).2
theorem hid_back {S : List Addr} {p : Addr} {H : Hp} {o : HO} : Same (Hid (p :: S) H) (Hid S (upd H p o)) := fun b x h => by
  obtain ⟨n, h'⟩ := hid_some h
  rw [hid_ne (fun z => n (List.mem_cons_of_mem _ z)), upd_ne (nmem_ne n (List.mem_cons_self ..))]
  exact h'
theorem hid_less {S : List Addr} {p : Addr} {H : Hp} : Same (Hid (p :: S) H) (Hid S H) := fun b x h => by
  obtain ⟨n, h'⟩ := hid_some h
  rw [hid_ne (fun z => n (List.mem_cons_of_mem _ z))]
  exact h'
/-- tracked -/
abbrev Has (H : Hp) (s : Addr) : Prop := ∃ o, H s = some o
abbrev HasA (H : Hp) (S : List Addr) : Prop := ∀ b ∈ S, Has H b
theorem has_same {H H' : Hp} {s : Addr} (h : Has H s) (e : Same H H') : Has H' s := h.elim fun o z => ⟨o, e s o z⟩
theorem hasA_same {H H' : Hp} {S : List Addr} (h : HasA H S) (e : Same H H') : HasA H' S := fun b hb => has_same (h b hb) e
theorem hasA_upd {H : Hp} {s : Addr} {S : List Addr} {o : HO} (h : HasA H S) : HasA (upd H s o) S := fun b hb => by
  by_cases e : b = s
  · rw [e]
    exact ⟨o, upd_same⟩
  · obtain ⟨x, z⟩ := h b hb
    exact ⟨x, by rw [upd_ne e]; exact z⟩
theorem hasA_stay {H H' : Hp} {s : Addr} {S : List Addr} (h : HasA H S) (e : Stay s H H') (hs : Has H' s) : HasA H' S := fun b hb => by
  by_cases z : b = s
  · rw [z]
    exact hs
  · obtain ⟨x, y⟩ := h b hb
    exact ⟨x, e b x z y⟩
theorem has_ne {H : Hp} {S : List Addr} {p : Addr} (h : HasA H S) (n : H p = none) : p ∉ S := fun e => by
  obtain ⟨o, z⟩ := h p e
  rw [n] at z
  cases z
theorem src_has {H : Hp} {s : Addr} {n : Nat} (h : Src H s n) : Has H s := h.elim fun o z => ⟨o, z.1⟩
section
variable {K : PySem.W.Frag} {S : List Addr} {σ : L2.St} {H : Hp} {te ta tb : TE} {d : PyData} {ds es : List PyData}
def EvE (K : PySem.W.Frag) (S : List Addr) (d : PyData) (te : TE) (σ : L2.St) (H : Hp) : Prop := ∀ H1, Same H H1 → ∀ Q : VK, (∀ v H2, Same H1 H2 → Dp K (Hid S H2) v d → Q v H2) → te σ H1 Q
def EvAx (K : PySem.W.Frag) (S : List Addr) (ds : List PyData) (ta : TA) (σ : L2.St) (H : Hp) : Prop := ∀ H1, Same H H1 → ∀ Q : List V → Hp → Prop, (∀ vs H2, Same H1 H2 → DpAll K (Hid S H2) vs ds → Q vs H2) → ta σ H1 Q
def EvLx (K : PySem.W.Frag) (S : List Addr) (ds : List PyData) (te : TE) (σ : L2.St) (H : Hp) : Prop := ∀ H1, Same H H1 → ∀ Q : VK, (∀ p xs H2, Same H1 H2 → p ∉ S → H2 p = some (.lst xs) → DpAll K (Hid S H2) xs ds → Q (.ref p) H2) → te σ H1 Q
theorem ee_non : EvE K S .none (tC .non) σ H := fun H1 _ _ q => q _ H1 (Same.refl _) .non
theorem ee_bl {b : Bool} : EvE K S (.bool b) (tC (.bl b)) σ H := fun H1 _ _ q => q _ H1 (Same.refl _) (.bl _)
theorem ee_int {i : Int} : EvE K S (.int i) (tC (.int i)) σ H := fun H1 _ _ q => q _ H1 (Same.refl _) (.int _)
theorem ee_str {x : Str} : EvE K S (.str x) (tC (.str x)) σ H := fun H1 _ _ q => q _ H1 (Same.refl _) (.str _)
theorem ee_neg {i : Int} : EvE K S (.int (-i)) (tUn (rU fun i => .int (-i)) (tC (.int i))) σ H := fun H1 _ _ q => ⟨i, rfl, q _ H1 (Same.refl _) (.int _)⟩
theorem ee_var {i : Nat} {v : V} (h : σ[i]? = some (some v)) (hd : Dp K (Hid S H) v d) : EvE K S d (tVar i) σ H := fun H1 e _ q => ⟨v, h, q _ H1 (Same.refl _) (dp_same (hid_mono e) hd)⟩
theorem el_var {i : Nat} {p : Addr} {xs : List V} (h : σ[i]? = some (some (.ref p))) (hp : p ∉ S) (hx : H p = some (.lst xs)) (hd : DpAll K (Hid S H) xs ds) : EvLx K S ds (tVar i) σ H := fun H1 e _ q => ⟨_, h, q p xs H1 (Same.refl _) hp (e _ _ hx) (dp_sameA (hid_mono e) hd)⟩
theorem ea_nil : EvAx K S [] tNil σ H := fun H1 _ _ q => q [] H1 (Same.refl _) .nil
theorem ea_cons {tr : TA} (h : EvE K S d te σ H) (hr : EvAx K S ds tr σ H) : EvAx K S (d :: ds) (tCons te tr) σ H := fun H1 e Q q =>
  h H1 e _ fun v H2 e2 hv => hr H2 (e.trans e2) _ fun vs H3 e3 hvs => q (v :: vs) H3 (e2.trans e3) (.cons (dp_same (hid_mono e3) hv) hvs)
theorem sqT_hid {p : Addr} {xs : List V} (hp : p ∉ S) (h : H p = some (.tup xs)) : SqT K (Hid S H) p xs := sqT (by rw [hid_ne hp]; exact h)
theorem sqL_hid {p : Addr} {xs : List V} (hp : p ∉ S) (h : H p = some (.lst xs)) : SqL K (Hid S H) p xs := sqL (by rw [hid_ne hp]; exact h)
theorem ee_tup {t : TA} (hs : HasA H S) (h : EvAx K S ds t σ H) (hz : ds.length ≤ 1000) : EvE K S (.tuple ds) (tTup t) σ H := fun H1 e Q q =>
  h H1 e _ fun vs H2 e2 hvs => ⟨small (by rw [dpAll_len hvs]; exact hz), fun p hp => by
    have np := has_ne (hasA_same hs (e.trans e2)) hp
    exact q _ _ (e2.trans (same_upd hp)) (.tup (sqT_hid np upd_same) (dp_sameA (hid_mono (same_upd hp)) hvs))⟩
theorem ee_lst {t : TA} (hs : HasA H S) (h : EvAx K S ds t σ H) (hz : ds.length ≤ 1000) : EvE K S (.list ds) (tLst t) σ H := fun H1 e Q q =>
  h H1 e _ fun vs H2 e2 hvs => ⟨small (by rw [dpAll_len hvs]; exact hz), fun p hp => by
    have np := has_ne (hasA_same hs (e.trans e2)) hp
    exact q _ _ (e2.trans (same_upd hp)) (.lst (sqL_hid np upd_same) (dp_sameA (hid_mono (same_upd hp)) hvs))⟩
theorem el_lst {t : TA} (hs : HasA H S) (h : EvAx K S ds t σ H) (hz : ds.length ≤ 1000) : EvLx K S ds (tLst t) σ H := fun H1 e Q q =>
  h H1 e _ fun vs H2 e2 hvs => ⟨small (by rw [dpAll_len hvs]; exact hz), fun p hp => by
    have np := has_ne (hasA_same hs (e.trans e2)) hp
    exact q _ _ _ (e2.trans (same_upd hp)) np upd_same (dp_sameA (hid_mono (same_upd hp)) hvs)⟩
theorem dpAll_app {H : Hp} : ∀ {xs ys : List V} {ds es : List PyData}, DpAll K H xs ds → DpAll K H ys es → DpAll K H (xs ++ ys) (ds ++ es)
  | _, _, _, _, .nil, h => h
  | _, _, _, _, .cons a b, h => .cons a (dpAll_app b h)
theorem el_cat (hs : HasA H S) (ha : EvLx K S ds ta σ H) (hb : EvLx K S es tb σ H) (hz : ds.length + es.length ≤ 1000) : EvLx K S (ds ++ es) (tOp rCat ta tb) σ H := fun H1 e Q q =>
  ha H1 e _ fun l xs H2 e2 nl hl hx => hb H2 (e.trans e2) _ fun b ys H3 e3 nb hb hy =>
    ⟨l, b, xs, ys, rfl, rfl, e3 _ _ hl, hb, small (by rw [dpAll_len hx, dpAll_len hy]; exact hz), fun p hp => by
      have np := has_ne (hasA_same hs ((e.trans e2).trans e3)) hp
      exact q p _ _ ((e2.trans e3).trans (same_upd hp)) np upd_same (dp_sameA (hid_mono (same_upd hp)) (dpAll_app (dp_sameA (hid_mono e3) hx) hy))⟩
theorem el_rep2 (hs : HasA H S) (ha : EvLx K S ds ta σ H) (hz : ds.length ≤ 500) : EvLx K S (ds ++ ds) (tOp rRep ta (tC (.int 2))) σ H := fun H1 e Q q =>
  ha H1 e _ fun l xs H2 e2 nl hl hx => ⟨l, 2, xs, rfl, rfl, hl, by decide, by decide, small (by rw [dpAll_len hx]; show ds.length * 2 ≤ 1000; omega), fun p hp => by
    have np := has_ne (hasA_same hs (e.trans e2)) hp
    refine q p _ _ (e2.trans (same_upd hp)) np upd_same (dp_sameA (hid_mono (same_upd hp)) ?_)
    have er : (List.replicate (2 : Int).toNat xs).flatten = xs ++ xs := by
      show (xs ++ (xs ++ [])) = xs ++ xs
      rw [List.append_nil]
    rw [er]
    exact dpAll_app hx hx⟩
/-- name = xs + ys: a new list, apart from what stands in it -/
theorem sl_catN {D : Ends} {i : Nat} (hs : HasA H S) (ha : EvLx K S ds ta σ H) (hb : EvLx K S es tb σ H) (hz : ds.length + es.length ≤ 1000)
    (k : ∀ p xs H2, Same H H2 → H p = none → p ∉ S → H2 p = some (.lst xs) → DpAll K (Hid (p :: S) H2) xs (ds ++ es) → D.nx (σ.set i (some (.ref p))) H2) : tAsg (tOp rCat ta tb) (gName i) D σ H :=
  ha H (Same.refl H) _ fun l xs H2 e2 nl hl hx => hb H2 e2 _ fun b ys H3 e3 nb hb hy =>
    ⟨l, b, xs, ys, rfl, rfl, e3 _ _ hl, hb, small (by rw [dpAll_len hx, dpAll_len hy]; exact hz), fun p hp => by
      have np := has_ne (hasA_same hs (e2.trans e3)) hp
      exact k p _ _ ((e2.trans e3).trans (same_upd hp)) (e2.free (e3.free hp)) np upd_same (dp_sameA (hid_more hp (hid_mono (same_upd hp))) (dpAll_app (dp_sameA (hid_mono e3) hx) hy))⟩
end
end NS

namespace NS
open PySem L2
def fitD (n : Int) : PyData → Bool
  | .none => true
  | .str x => decide (x = "?")
  | .int i => decide (0 ≤ i) && decide (i < n)
  | _ => false
def validD : PyData → Bool
  | .tuple ds => !ds.isEmpty && ds.all (fitD (ds.length : Int))
  | _ => false
def lenD : PyData → Nat
  | .tuple ds => ds.length
  | .list ds => ds.length
  | _ => 0
end NS
namespace NS
open PySem L2
def isIntD : PyData → Bool
  | .int _ => true
  | _ => false
theorem eqv_tup0 (ds : List PyData) : PyData.eqv (.tuple ds) (.tuple []) = ds.isEmpty := by
  cases ds with
  | nil => rfl
  | cons d r => rfl
theorem valid_ne {ds : List PyData} (h : ds ≠ []) : validD (.tuple ds) = ds.all (fitD (ds.length : Int)) := by
  cases ds with
  | nil => exact absurd rfl h
  | cons d r => rfl
theorem all_bad {f : PyData → Bool} : ∀ {ds : List PyData} {i : Nat} {d : PyData}, ds[i]? = some d → f d = false → ds.all f = false
  | [], _, _, h, _ => by simp at h
  | e :: ds, 0, d, h, hf => by
    have q : e = d := Option.some.inj h
    rw [List.all_cons, q, hf, Bool.false_and]
  | e :: ds, i + 1, d, h, hf => by
    rw [List.all_cons, all_bad (ds := ds) (i := i) (d := d) (by simpa using h) hf, Bool.and_false]
theorem all_more {f : PyData → Bool} {ds : List PyData} {i : Nat} {d : PyData} (h : ds[i]? = some d) (hf : f d = true) (hp : (ds.take i).all f = true) : (ds.take (i + 1)).all f = true := by
  rw [List.take_add_one, List.all_append, hp, h]
  show (true && (f d && true)) = true
  rw [hf]
  rfl
end NS
namespace NS
open PySem L2
def oddA : List PyData := [.none, .bool true, .bool false, .int 0, .int 1, .int (-1), .str "", .str "node", .tuple [], .list [], .tuple [.int 0], .list [.int 1], .tuple [.tuple []], .tuple [.tuple [], .tuple []], .tuple [.int 0, .int 1]]
def oddB : List PyData := [.tuple [.none, .int 0], .tuple [.none], .str "?", .int 2, .int 3]
/-- what is made of an int (or a bool as one) -/
def oddN (z : Int) (v : V) (d : PyData) : List PyData := [.int (z + 1), .int (z - 1), .int (0 - z), .str (strV v), .bool (PyData.eqv d (.int 1))]
/-- of a list's or tuple's items -/
def oddS (mk : List PyData → PyData) (ds : List PyData) : List PyData := [.list ds, .tuple ds, mk ds.reverse, mk (ds.drop 1), mk ds.dropLast]
def oddL : PyData → List PyData
  | .int i => (oddA ++ oddB) ++ (oddN i (.int i) (.int i) ++ oddN i (.int i) (.int i))
  | .bool b => (oddA ++ oddB) ++ (oddN (if b = true then 1 else 0) (.bl b) (.bool b) ++ oddN (if b = true then 1 else 0) (.bl b) (.bool b))
  | .list ds => (oddA ++ oddB) ++ (oddS .list ds ++ oddS .list ds)
  | .tuple ds => (oddA ++ oddB) ++ (oddS .tuple ds ++ oddS .tuple ds)
  | _ => oddA ++ oddB
def oddPre : PyData → Prop
  | .int i => i.natAbs.log2 < 1920
  | .list ds => ds.length ≤ 400
  | .tuple ds => ds.length ≤ 400
  | _ => True
theorem cut_from1 (xs : List V) : cutV xs (some 1) none = xs.drop 1 := by
  unfold cutV
  rw [show HT.sIx xs.length 0 (some 1) = min 1 xs.length from HT.sIx_nat xs.length 0 1, HT.sIx_none]
  by_cases h : 1 ≤ xs.length
  · rw [Nat.min_eq_left h]
    exact List.take_of_length_le (by rw [List.length_drop]; exact Nat.le_refl _)
  · have e : xs = [] := List.eq_nil_of_length_eq_zero (by omega)
    rw [e]
    rfl
theorem cut_butlast (xs : List V) : cutV xs none (some (-1)) = xs.dropLast := by
  unfold cutV
  rw [HT.sIx_none]
  have e : HT.sIx xs.length xs.length (some (-1)) = xs.length - 1 := by
    show (if (-1 : Int) < 0 then ((-1 : Int) + (xs.length : Int)).toNat else min (-1 : Int).toNat xs.length) = xs.length - 1
    rw [if_pos (by decide)]
    omega
  rw [e, Nat.sub_zero, List.dropLast_eq_take]
  rfl
theorem dpAll_rev {K : PySem.W.Frag} {H : Hp} : ∀ {xs : List V} {ds : List PyData}, DpAll K H xs ds → DpAll K H xs.reverse ds.reverse
  | _, _, .nil => .nil
  | _, _, .cons a b => by
    rw [List.reverse_cons, List.reverse_cons]
    exact dpAll_app (dpAll_rev b) (.cons a .nil)
theorem dpAll_take {K : PySem.W.Frag} {H : Hp} : ∀ {xs : List V} {ds : List PyData} (n : Nat), DpAll K H xs ds → DpAll K H (xs.take n) (ds.take n)
  | _, _, 0, _ => .nil
  | _, _, _ + 1, .nil => .nil
  | _, _, n + 1, .cons a b => .cons a (dpAll_take n b)
theorem dpAll_drop {K : PySem.W.Frag} {H : Hp} : ∀ {xs : List V} {ds : List PyData} (n : Nat), DpAll K H xs ds → DpAll K H (xs.drop n) (ds.drop n)
  | _, _, 0, h => h
  | _, _, _ + 1, .nil => .nil
  | _, _, n + 1, .cons _ b => dpAll_drop n b
theorem dpAll_dropLast {K : PySem.W.Frag} {H : Hp} {xs : List V} {ds : List PyData} (h : DpAll K H xs ds) : DpAll K H xs.dropLast ds.dropLast := by
  rw [List.dropLast_eq_take, List.dropLast_eq_take, dpAll_len h]
  exact dpAll_take _ h
theorem dpAll_set {K : PySem.W.Frag} {H : Hp} {v : V} {d : PyData} (hv : Dp K H v d) : ∀ {xs : List V} {ds : List PyData} (n : Nat), DpAll K H xs ds → DpAll K H (xs.set n v) (ds.set n d)
  | _, _, _, .nil => .nil
  | _, _, 0, .cons _ b => .cons hv b
  | _, _, n + 1, .cons a b => .cons a (dpAll_set hv n b)
theorem dpAll_erase {K : PySem.W.Frag} {H : Hp} : ∀ {xs : List V} {ds : List PyData} (n : Nat), DpAll K H xs ds → DpAll K H (xs.eraseIdx n) (ds.eraseIdx n)
  | _, _, _, .nil => .nil
  | _, _, 0, .cons _ b => b
  | _, _, n + 1, .cons a b => .cons a (dpAll_erase n b)
end NS

/-! ### small data -/
namespace NS
open PySem L2
mutual
def intsB (N : Nat) : PyData → Bool
  | .int i => decide (i.natAbs ≤ N)
  | .list ds => decide (ds.length ≤ N) && intsAll N ds
  | .tuple ds => decide (ds.length ≤ N) && intsAll N ds
  | .none => true
  | .bool _ => true
  | .str _ => true
  | .dict _ => true
def intsAll (N : Nat) : List PyData → Bool
  | [] => true
  | d :: ds => intsB N d && intsAll N ds
end
/-- items that fit: no sign of a text too high, not too deep, ints not too great, rows not too long -/
structure Itm (D N : Nat) (d : PyData) : Prop where
  lay : PyData.canLay0 d = true
  dep : PyData.depth d ≤ D
  num : intsB N d = true
structure Sm (D W N : Nat) (d : PyData) : Prop where
  itm : Itm D N d
  wt : PyData.weight d ≤ W
theorem layAll_iff : ∀ {ds : List PyData}, PyData.canLayAll0 ds = true ↔ ∀ x ∈ ds, PyData.canLay0 x = true
  | [] => ⟨(fun _ _ h => nomatch h), fun _ => rfl⟩
  | d :: ds => by
    rw [PyData.canLayAll0, Bool.and_eq_true, layAll_iff (ds := ds), List.forall_mem_cons]
theorem depAll_iff {D : Nat} : ∀ {ds : List PyData}, PyData.depthAll ds ≤ D ↔ ∀ x ∈ ds, PyData.depth x ≤ D
  | [] => ⟨(fun _ _ h => nomatch h), fun _ => Nat.zero_le _⟩
  | d :: ds => by
    rw [PyData.depthAll, Nat.max_le, depAll_iff (ds := ds), List.forall_mem_cons]
theorem intsAll_iff {N : Nat} : ∀ {ds : List PyData}, intsAll N ds = true ↔ ∀ x ∈ ds, intsB N x = true
  | [] => ⟨(fun _ _ h => nomatch h), fun _ => by rw [intsAll]⟩
  | d :: ds => by
    rw [intsAll, Bool.and_eq_true, intsAll_iff (ds := ds), List.forall_mem_cons]
theorem itm_list {D N : Nat} {ds : List PyData} : Itm (D + 1) N (.list ds) ↔ ds.length ≤ N ∧ ∀ x ∈ ds, Itm D N x := by
  constructor
  · intro h
    have h1 := h.lay
    have h2 := h.dep
    have h3 := h.num
    rw [PyData.canLay0, layAll_iff] at h1
    rw [PyData.depth] at h2
    have h2' := depAll_iff.mp (Nat.le_of_succ_le_succ h2)
    rw [intsB, Bool.and_eq_true, intsAll_iff, decide_eq_true_eq] at h3
    exact ⟨h3.1, fun x hx => ⟨h1 x hx, h2' x hx, h3.2 x hx⟩⟩
  · rintro ⟨hl, h⟩
    refine ⟨?_, ?_, ?_⟩
    · rw [PyData.canLay0, layAll_iff]
      exact fun x hx => (h x hx).lay
    · rw [PyData.depth]
      exact Nat.succ_le_succ (depAll_iff.mpr fun x hx => (h x hx).dep)
    · rw [intsB, Bool.and_eq_true, intsAll_iff, decide_eq_true_eq]
      exact ⟨hl, fun x hx => (h x hx).num⟩
theorem itm_tuple {D N : Nat} {ds : List PyData} : Itm (D + 1) N (.tuple ds) ↔ ds.length ≤ N ∧ ∀ x ∈ ds, Itm D N x := by
  constructor
  · intro h
    have h1 := h.lay
    have h2 := h.dep
    have h3 := h.num
    rw [PyData.canLay0, layAll_iff] at h1
    rw [PyData.depth] at h2
    have h2' := depAll_iff.mp (Nat.le_of_succ_le_succ h2)
    rw [intsB, Bool.and_eq_true, intsAll_iff, decide_eq_true_eq] at h3
    exact ⟨h3.1, fun x hx => ⟨h1 x hx, h2' x hx, h3.2 x hx⟩⟩
  · rintro ⟨hl, h⟩
    refine ⟨?_, ?_, ?_⟩
    · rw [PyData.canLay0, layAll_iff]
      exact fun x hx => (h x hx).lay
    · rw [PyData.depth]
      exact Nat.succ_le_succ (depAll_iff.mpr fun x hx => (h x hx).dep)
    · rw [intsB, Bool.and_eq_true, intsAll_iff, decide_eq_true_eq]
      exact ⟨hl, fun x hx => (h x hx).num⟩
mutual
theorem ints_mono {N M : Nat} (h : N ≤ M) : ∀ d : PyData, intsB N d = true → intsB M d = true
  | .int i, q => by
    rw [intsB, decide_eq_true_eq] at q ⊢
    omega
  | .list ds, q => by
    rw [intsB, Bool.and_eq_true, decide_eq_true_eq] at q ⊢
    exact ⟨Nat.le_trans q.1 h, ints_monoA h ds q.2⟩
  | .tuple ds, q => by
    rw [intsB, Bool.and_eq_true, decide_eq_true_eq] at q ⊢
    exact ⟨Nat.le_trans q.1 h, ints_monoA h ds q.2⟩
  | .none, _ => by rw [intsB]
  | .bool _, _ => by rw [intsB]
  | .str _, _ => by rw [intsB]
  | .dict _, _ => by rw [intsB]
theorem ints_monoA {N M : Nat} (h : N ≤ M) : ∀ ds : List PyData, intsAll N ds = true → intsAll M ds = true
  | [], _ => by rw [intsAll]
  | d :: ds, q => by
    rw [intsAll, Bool.and_eq_true] at q ⊢
    exact ⟨ints_mono h d q.1, ints_monoA h ds q.2⟩
end
theorem Itm.mono {D N D' N' : Nat} {d : PyData} (h : Itm D N d) (a : D ≤ D') (b : N ≤ N') : Itm D' N' d := ⟨h.lay, Nat.le_trans h.dep a, ints_mono b d h.num⟩
theorem Sm.mono {D W N D' W' N' : Nat} {d : PyData} (h : Sm D W N d) (a : D ≤ D') (w : W ≤ W') (b : N ≤ N') : Sm D' W' N' d := ⟨h.itm.mono a b, Nat.le_trans h.wt w⟩
/-- a test of it -/
def smB (D W N : Nat) (d : PyData) : Bool := PyData.canLay0 d && decide (PyData.depth d ≤ D) && decide (PyData.weight d ≤ W) && intsB N d
theorem sm_of {D W N : Nat} {d : PyData} (h : smB D W N d = true) : Sm D W N d := by
  unfold smB at h
  simp only [Bool.and_eq_true, decide_eq_true_eq] at h
  exact ⟨⟨h.1.1.1, h.1.1.2, h.2⟩, h.1.2⟩
/-! the weight of items -/
def wS (ds : List PyData) : Nat := (ds.map fun d => PyData.weight d + 1).sum
theorem wS_eq : ∀ ds : List PyData, PyData.weightAll ds = wS ds
  | [] => rfl
  | d :: ds => by
    rw [PyData.weightAll, wS_eq ds]
    show _ = ((PyData.weight d + 1) :: (ds.map fun d => PyData.weight d + 1)).sum
    rw [List.sum_cons]
    rfl
theorem wt_list (ds : List PyData) : PyData.weight (.list ds) = wS ds := by rw [PyData.weight, wS_eq]
theorem wt_tuple (ds : List PyData) : PyData.weight (.tuple ds) = wS ds := by rw [PyData.weight, wS_eq]
theorem wS_nil : wS [] = 0 := rfl
theorem wS_cons (d : PyData) (ds : List PyData) : wS (d :: ds) = PyData.weight d + 1 + wS ds := by
  show ((PyData.weight d + 1) :: (ds.map fun d => PyData.weight d + 1)).sum = _
  rw [List.sum_cons]
  rfl
theorem wS_app : ∀ (a b : List PyData), wS (a ++ b) = wS a + wS b
  | [], b => by rw [List.nil_append, wS_nil, Nat.zero_add]
  | d :: a, b => by
    rw [List.cons_append, wS_cons, wS_cons, wS_app a b]
    omega
theorem wS_rev : ∀ a : List PyData, wS a.reverse = wS a
  | [] => rfl
  | d :: a => by
    rw [List.reverse_cons, wS_app, wS_rev a, wS_cons, wS_cons, wS_nil]
    omega
theorem wS_td (a : List PyData) (n : Nat) : wS (a.take n) + wS (a.drop n) = wS a := by
  rw [← wS_app, List.take_append_drop]
theorem wS_len : ∀ a : List PyData, a.length ≤ wS a
  | [] => Nat.le_refl _
  | d :: a => by
    rw [wS_cons, List.length_cons]
    have := wS_len a
    omega
theorem wS_erase : ∀ (a : List PyData) (n : Nat), wS (a.eraseIdx n) ≤ wS a
  | [], _ => Nat.le_refl _
  | d :: a, 0 => by
    rw [List.eraseIdx_cons_zero, wS_cons]
    omega
  | d :: a, n + 1 => by
    rw [List.eraseIdx_cons_succ, wS_cons, wS_cons]
    have := wS_erase a n
    omega
theorem wS_set : ∀ (a : List PyData) (n : Nat) (x y : PyData), a[n]? = some x → wS (a.set n y) + PyData.weight x = wS a + PyData.weight y
  | [], _, _, _, h => by simp at h
  | d :: a, 0, x, y, h => by
    have e : d = x := Option.some.inj h
    rw [List.set_cons_zero, wS_cons, wS_cons, e]
    omega
  | d :: a, n + 1, x, y, h => by
    have ih := wS_set a n x y (by simpa using h)
    rw [List.set_cons_succ, wS_cons, wS_cons]
    omega
theorem wS_mem : ∀ {a : List PyData} {n : Nat} {x : PyData}, a[n]? = some x → PyData.weight x + 1 ≤ wS a
  | [], _, _, h => by simp at h
  | d :: a, 0, x, h => by
    have e : d = x := Option.some.inj h
    rw [wS_cons, e]
    omega
  | d :: a, n + 1, x, h => by
    have ih := wS_mem (a := a) (n := n) (x := x) (by simpa using h)
    rw [wS_cons]
    omega
theorem mem_erase {a : List PyData} {n : Nat} {x : PyData} (h : x ∈ a.eraseIdx n) : x ∈ a := List.mem_of_mem_eraseIdx h
theorem mem_set {a : List PyData} {n : Nat} {x y : PyData} (h : x ∈ a.set n y) : x ∈ a ∨ x = y := List.mem_or_eq_of_mem_set h
/-! texts of ints -/
theorem lay_int (i : Int) : PyData.canLay0 (.str (toString i : String)) = true := by
  rw [PyData.canLay0]
  unfold PyData.strOk
  rw [Array.all_eq_true]
  intro j hj
  have hm : ((toString i : String) : Str).cps[j] ∈ ((toString i : String) : Str).cps.toList := by simp
  have hf := PyProof.Rows.int_text_free' (((toString i : String) : Str).cps[j])
  refine decide_eq_true ?_
  by_cases h : ((toString i : String) : Str).cps[j] < 1114112
  · exact h
  · exact absurd hm (hf ⟨by omega, Or.inr (by omega)⟩ i)
theorem odd_const : ∀ d ∈ oddA ++ oddB, Sm 2 30 3 d := by
  have h : (oddA ++ oddB).all (smB 2 30 3) = true := by decide +kernel
  rw [List.all_eq_true] at h
  exact fun d hd => sm_of (h d hd)
theorem sm_int {i : Int} {N : Nat} (h : i.natAbs ≤ N) (hN : N ≤ 100000) : Sm 0 30 N (.int i) := by
  refine ⟨⟨by rw [PyData.canLay0], by rw [PyData.depth]; exact Nat.le_refl _, by rw [intsB]; exact decide_eq_true h⟩, ?_⟩
  rw [PyData.weight]
  split
  · exact Nat.zero_le _
  · have l : i.natAbs.log2 < 20 := by
      by_cases h0 : i.natAbs = 0
      · rw [h0]
        decide
      · exact (Nat.log2_lt h0).mpr (Nat.lt_of_le_of_lt (Nat.le_trans h hN) (by decide))
    omega
theorem sm_strI {i : Int} {N : Nat} (h : i.natAbs ≤ N) (hN : N ≤ 100000) : Sm 0 30 N (.str (toString i : String)) := by
  refine ⟨⟨lay_int i, by rw [PyData.depth]; exact Nat.le_refl _, by rw [intsB]⟩, ?_⟩
  rw [PyData.weight]
  show (Str.ofString (toString i)).length ≤ 30
  by_cases h0 : 0 ≤ i
  · have l := PyProof.Rows.toString_length_le (v := i) h0 (k := 6) (by decide) (by omega)
    omega
  · rw [PyProof.Rows.len_text_neg (by omega)]
    have l := PyProof.Rows.toString_length_le (v := 0 - i) (by omega) (k := 6) (by decide) (by omega)
    omega
theorem odd_num {D W N : Nat} {z : Int} {v : V} {d : PyData} (hz : z.natAbs ≤ N) (hN : N + 1 ≤ 100000) (hv : Sm 0 30 (N + 1) (.str (strV v))) : ∀ x ∈ oddN z v d, Sm (D + 2) (W + 30) (N + 1) x := by
  intro x hx
  have go : ∀ {y : PyData}, Sm 0 30 (N + 1) y → Sm (D + 2) (W + 30) (N + 1) y := fun h => h.mono (by omega) (by omega) (Nat.le_refl _)
  unfold oddN at hx
  simp only [List.mem_cons, List.not_mem_nil, or_false] at hx
  rcases hx with rfl | rfl | rfl | rfl | rfl
  · exact go (sm_int (by omega) hN)
  · exact go (sm_int (by omega) hN)
  · exact go (sm_int (by omega) hN)
  · exact go hv
  · exact go ⟨⟨by rw [PyData.canLay0], by rw [PyData.depth]; exact Nat.le_refl _, by rw [intsB]⟩, by rw [PyData.weight]; exact Nat.zero_le _⟩
theorem odd_seq {D W N : Nat} {ds : List PyData} (hl : ds.length ≤ N) (hi : ∀ x ∈ ds, Itm D N x) (hw : wS ds ≤ W) {mk : List PyData → PyData} (hm : mk = .list ∨ mk = .tuple) : ∀ x ∈ oddS mk ds, Sm (D + 1) W N x := by
  intro x hx
  have mkd : ∀ es : List PyData, es.length ≤ N → (∀ y ∈ es, Itm D N y) → wS es ≤ W → Sm (D + 1) W N (mk es) := fun es h0 h1 h2 => by
    rcases hm with rfl | rfl
    · exact ⟨itm_list.mpr ⟨h0, h1⟩, by rw [wt_list]; exact h2⟩
    · exact ⟨itm_tuple.mpr ⟨h0, h1⟩, by rw [wt_tuple]; exact h2⟩
  unfold oddS at hx
  simp only [List.mem_cons, List.not_mem_nil, or_false] at hx
  rcases hx with rfl | rfl | rfl | rfl | rfl
  · exact ⟨itm_list.mpr ⟨hl, hi⟩, by rw [wt_list]; exact hw⟩
  · exact ⟨itm_tuple.mpr ⟨hl, hi⟩, by rw [wt_tuple]; exact hw⟩
  · exact mkd _ (by rw [List.length_reverse]; exact hl) (fun y hy => hi y (List.mem_reverse.mp hy)) (by rw [wS_rev]; exact hw)
  · exact mkd _ (by rw [List.length_drop]; omega) (fun y hy => hi y (List.mem_of_mem_drop hy)) (by have := wS_td ds 1; omega)
  · refine mkd _ (by rw [List.length_dropLast]; omega) (fun y hy => hi y (List.dropLast_subset _ hy)) ?_
    rw [List.dropLast_eq_take]
    have := wS_td ds (ds.length - 1)
    omega
theorem itm_pred {D N : Nat} {ds : List PyData} (h : Itm D N (.list ds) ∨ Itm D N (.tuple ds)) : ∃ D', D = D' + 1 ∧ ds.length ≤ N ∧ ∀ x ∈ ds, Itm D' N x := by
  cases D with
  | zero =>
    rcases h with h | h
    · have := h.dep
      rw [PyData.depth] at this
      omega
    · have := h.dep
      rw [PyData.depth] at this
      omega
  | succ D' =>
    refine ⟨D', rfl, ?_⟩
    rcases h with h | h
    · exact itm_list.mp h
    · exact itm_tuple.mp h
theorem odd_sm {D W N : Nat} {d : PyData} (h : Sm D W N d) (h3 : 3 ≤ N) (hN : N + 1 ≤ 100000) : ∀ x ∈ oddL d, Sm (D + 2) (W + 30) (N + 1) x := by
  have base : ∀ x ∈ oddA ++ oddB, Sm (D + 2) (W + 30) (N + 1) x := fun x hx => (odd_const x hx).mono (by omega) (by omega) (by omega)
  intro x hx
  cases d with
  | none => exact base x hx
  | str z => exact base x hx
  | dict kvs => exact base x hx
  | int i =>
    have hi : i.natAbs ≤ N := by
      have := h.itm.num
      rw [intsB] at this
      exact of_decide_eq_true this
    have no := odd_num (D := D) (W := W) (v := .int i) (d := .int i) hi hN (sm_strI (by omega) hN)
    rcases List.mem_append.mp (show x ∈ (oddA ++ oddB) ++ (oddN i (.int i) (.int i) ++ oddN i (.int i) (.int i)) from hx) with q | q
    · exact base x q
    · rcases List.mem_append.mp q with q | q
      · exact no x q
      · exact no x q
  | bool b =>
    have no := odd_num (D := D) (W := W) (z := if b = true then 1 else 0) (v := .bl b) (d := .bool b) (by split <;> omega) hN ((sm_of (d := .str (strV (.bl b))) (D := 0) (W := 30) (N := 0) (by cases b <;> decide +kernel)).mono (Nat.le_refl _) (Nat.le_refl _) (Nat.zero_le _))
    rcases List.mem_append.mp (show x ∈ (oddA ++ oddB) ++ (oddN (if b = true then 1 else 0) (.bl b) (.bool b) ++ oddN (if b = true then 1 else 0) (.bl b) (.bool b)) from hx) with q | q
    · exact base x q
    · rcases List.mem_append.mp q with q | q
      · exact no x q
      · exact no x q
  | list ds =>
    obtain ⟨D', rfl, hl, hi⟩ := itm_pred (.inl h.itm)
    have hw := h.wt
    rw [wt_list] at hw
    have no := odd_seq hl hi hw (mk := .list) (.inl rfl)
    rcases List.mem_append.mp (show x ∈ (oddA ++ oddB) ++ (oddS .list ds ++ oddS .list ds) from hx) with q | q
    · exact base x q
    · rcases List.mem_append.mp q with q | q
      · exact (no x q).mono (by omega) (by omega) (by omega)
      · exact (no x q).mono (by omega) (by omega) (by omega)
  | tuple ds =>
    obtain ⟨D', rfl, hl, hi⟩ := itm_pred (.inr h.itm)
    have hw := h.wt
    rw [wt_tuple] at hw
    have no := odd_seq hl hi hw (mk := .tuple) (.inr rfl)
    rcases List.mem_append.mp (show x ∈ (oddA ++ oddB) ++ (oddS .tuple ds ++ oddS .tuple ds) from hx) with q | q
    · exact base x q
    · rcases List.mem_append.mp q with q | q
      · exact (no x q).mono (by omega) (by omega) (by omega)
      · exact (no x q).mono (by omega) (by omega) (by omega)
/-- what repr asks -/
theorem sm_show {D W N : Nat} {d : PyData} (h : Sm D W N d) (hD : D ≤ 60) (hW : W ≤ 1048576) (hN : N ≤ 100000) : SeqAt.shaped d = true ∧ PyData.depth d ≤ 60 := by
  have h1 := h.itm.lay
  have h2 := h.itm.dep
  unfold SeqAt.shaped
  rw [h1, Bool.true_and]
  exact ⟨decide_eq_true (by omega), by omega⟩
end NS
namespace NS
open PySem L2
theorem seqIx {a n : Nat} (h : a < n) : seqIndex? (a : Int) n = some a := by
  unfold seqIndex?
  simp
  omega
theorem ixn {a n : Nat} (h : a < n) : ixN n (a : Int) = some a := by
  unfold ixN
  rw [if_pos (by omega), if_pos (by omega)]
  simp
theorem cut_two {xs : List V} {a : Nat} (h : a < xs.length) : cutV xs (some (a : Int)) (some ((a : Int) + 2)) = (xs.drop a).take (min (a + 2) xs.length - a) := by
  unfold cutV
  have e : ((a : Int) + 2) = ((a + 2 : Nat) : Int) := by omega
  rw [e, HT.sIx_nat, HT.sIx_nat, Nat.min_eq_left (by omega : a ≤ xs.length)]
end NS
namespace NS
open PySem L2
theorem short_int {i : Int} (h : i.natAbs ≤ 100000) : (PyData.shown (.int i)).length ≤ 13 := by
  rw [PyData.shown]
  by_cases h0 : 0 ≤ i
  · have l := PyProof.Rows.toString_length_le (v := i) h0 (k := 6) (by decide) (by omega)
    omega
  · rw [PyProof.Rows.len_text_neg (by omega)]
    have l := PyProof.Rows.toString_length_le (v := 0 - i) (by omega) (k := 6) (by decide) (by omega)
    omega
mutual
theorem short_of {N : Nat} (hN : N ≤ 100000) : ∀ d : PyData, intsB N d = true → PyData.canLay0 d = true → PyData.intsShort 13 d = true ∧ PyData.showable d = true ∧ PyData.hasDict d = false
  | .int i, h, _ => by
    rw [intsB, decide_eq_true_eq] at h
    refine ⟨by rw [PyData.intsShort]; exact decide_eq_true (short_int (by omega)), ?_, by rw [PyData.hasDict]⟩
    rw [PyData.showable]
    refine decide_eq_true ?_
    by_cases h0 : i.natAbs = 0
    · rw [h0]
      decide
    · exact Nat.lt_of_lt_of_le ((Nat.log2_lt h0).mpr (Nat.lt_of_le_of_lt (Nat.le_trans h hN) (by decide : 100000 < 2 ^ 20))) (by decide)
  | .none, _, _ => ⟨by rw [PyData.intsShort], by rw [PyData.showable], by rw [PyData.hasDict]⟩
  | .bool _, _, _ => ⟨by rw [PyData.intsShort], by rw [PyData.showable], by rw [PyData.hasDict]⟩
  | .str _, _, _ => ⟨by rw [PyData.intsShort], by rw [PyData.showable], by rw [PyData.hasDict]⟩
  | .list ds, h, l => by
    rw [intsB, Bool.and_eq_true] at h
    rw [PyData.canLay0] at l
    rw [PyData.intsShort, PyData.showable, PyData.hasDict]
    exact short_ofA hN ds h.2 l
  | .tuple ds, h, l => by
    rw [intsB, Bool.and_eq_true] at h
    rw [PyData.canLay0] at l
    rw [PyData.intsShort, PyData.showable, PyData.hasDict]
    exact short_ofA hN ds h.2 l
  | .dict kvs, _, l => by
    rw [PyData.canLay0] at l
    cases l
theorem short_ofA {N : Nat} (hN : N ≤ 100000) : ∀ ds : List PyData, intsAll N ds = true → PyData.canLayAll0 ds = true → PyData.intsShortAll 13 ds = true ∧ PyData.showableAll ds = true ∧ PyData.hasDictAll ds = false
  | [], _, _ => ⟨by rw [PyData.intsShortAll], by rw [PyData.showableAll], by rw [PyData.hasDictAll]⟩
  | d :: ds, h, l => by
    rw [intsAll, Bool.and_eq_true] at h
    rw [PyData.canLayAll0, Bool.and_eq_true] at l
    obtain ⟨a1, a2, a3⟩ := short_of hN d h.1 l.1
    obtain ⟨b1, b2, b3⟩ := short_ofA hN ds h.2 l.2
    rw [PyData.intsShortAll, PyData.showableAll, PyData.hasDictAll, a1, a2, a3, b1, b2, b3]
    exact ⟨rfl, rfl, rfl⟩
end
theorem sm_repr {D W N : Nat} {d : PyData} (h : Sm D W N d) (hD : D ≤ 60) (hW : W ≤ 1048576) (hN : N ≤ 100000) : PyData.showable d = true ∧ d.hasDict = false ∧ d.depth ≤ 60 ∧ d.shown.length ≤ sizeLine := by
  obtain ⟨a1, a2, a3⟩ := short_of hN d h.itm.num h.itm.lay
  have hd := h.itm.dep
  have hw := h.wt
  have lay : PyData.layable0 d = true := by
    unfold PyData.layable0
    rw [h.itm.lay, decide_eq_true (by omega : PyData.depth d ≤ 64), decide_eq_true (Nat.le_trans hw (Nat.le_trans hW (by decide)) : PyData.weight d ≤ 2 ^ 20)]
    rfl
  exact ⟨a2, a3, by omega, Nat.le_trans (PyProof.Rows.shown_le13 lay a1) (by decide)⟩
end NS

/-! ### rows that are filled -/
namespace NS
open PySem L2
def oV : Option Int → V
  | none => .non
  | some h => .int h
/-- the free cells below i -/
def frees (sh : List (Option Int)) (i : Nat) : List Nat := (List.range i).filter fun x => (sh.getD x (some 0)).isNone
theorem frees_succ (sh : List (Option Int)) (i : Nat) : frees sh (i + 1) = frees sh i ++ (if (sh.getD i (some 0)).isNone = true then [i] else []) := by
  unfold frees
  rw [List.range_succ, List.filter_append]
  congr 1
  rw [List.filter_cons, List.filter_nil]
theorem frees_len (sh : List (Option Int)) (i : Nat) : (frees sh i).length ≤ i := by
  unfold frees
  refine Nat.le_trans (List.length_filter_le _ _) ?_
  rw [List.length_range]
  exact Nat.le_refl _
theorem mem_frees {sh : List (Option Int)} {i x : Nat} : x ∈ frees sh i ↔ x < i ∧ (sh.getD x (some 0)) = none := by
  unfold frees
  rw [List.mem_filter, List.mem_range, Option.isNone_iff_eq_none]
theorem getD_none {sh : List (Option Int)} {x : Nat} : sh.getD x (some 0) = none ↔ sh[x]? = some none := by
  rw [List.getD_eq_getElem?_getD]
  cases h : sh[x]? with
  | none => exact ⟨(fun z => nomatch z), (fun z => nomatch z)⟩
  | some o => exact ⟨fun z => congrArg some z, fun z => Option.some.inj z⟩
/-- the free cell that is nearest -/
structure Spot (n : Nat) (sh : List (Option Int)) (h : Int) (c : Nat) : Prop where
  lt : c < n
  free : sh[c]? = some none
  best : ∀ x : Nat, x < n → sh[x]? = some none → near h (c : Int) (x : Int) = false
inductive Fill (n : Nat) : List Int → List (Option Int) → List Int → Prop
  | nil : Fill n [] (List.replicate n none) []
  | snoc {hs : List Int} {sh : List (Option Int)} {qs : List Int} {h : Int} {c : Nat} : Fill n hs sh qs → Spot n sh h c → Fill n (hs ++ [h]) (sh.set c (some h)) (qs ++ [(c : Int)])
theorem Fill.len {n : Nat} {hs : List Int} {sh : List (Option Int)} {qs : List Int} (f : Fill n hs sh qs) : sh.length = n := by
  induction f with
  | nil => exact List.length_replicate
  | snoc _ _ ih => rw [List.length_set]; exact ih
def fr (sh : List (Option Int)) : Nat := (sh.filter Option.isNone).length
theorem fr_cons (o : Option Int) (sh : List (Option Int)) : fr (o :: sh) = (if o.isNone = true then 1 else 0) + fr sh := by
  unfold fr
  rw [List.filter_cons]
  split
  · rw [List.length_cons]
    omega
  · omega
theorem fr_set : ∀ {sh : List (Option Int)} {c : Nat} {h : Int}, sh[c]? = some none → fr (sh.set c (some h)) + 1 = fr sh
  | [], _, _, q => by simp at q
  | o :: sh, 0, h, q => by
    have e : o = none := Option.some.inj q
    subst e
    rw [List.set_cons_zero, fr_cons, fr_cons]
    show (0 + fr sh) + 1 = 1 + fr sh
    omega
  | o :: sh, c + 1, h, q => by
    have ih := fr_set (sh := sh) (c := c) (h := h) (by simpa using q)
    rw [List.set_cons_succ, fr_cons, fr_cons]
    omega
theorem fr_rep (n : Nat) : fr (List.replicate n none) = n := by
  induction n with
  | zero => rfl
  | succ n ih =>
    rw [List.replicate_succ, fr_cons, ih]
    show 1 + n = n + 1
    omega
theorem Fill.free {n : Nat} {hs : List Int} {sh : List (Option Int)} {qs : List Int} (f : Fill n hs sh qs) : fr sh + hs.length = n := by
  induction f with
  | nil => rw [fr_rep]; rfl
  | @snoc hs sh qs h c _ sp ih =>
    have e := fr_set (h := h) sp.free
    rw [List.length_append, List.length_singleton]
    omega
theorem fr_pos : ∀ {sh : List (Option Int)}, 0 < fr sh → ∃ c, c < sh.length ∧ sh[c]? = some none
  | [], h => absurd h (by decide)
  | none :: sh, _ => ⟨0, Nat.succ_pos _, rfl⟩
  | some z :: sh, h => by
    rw [fr_cons] at h
    obtain ⟨c, h1, h2⟩ := fr_pos (sh := sh) (by
      have e : (if (some z : Option Int).isNone = true then 1 else 0) = 0 := rfl
      omega)
    exact ⟨c + 1, Nat.succ_lt_succ h1, by simpa using h2⟩
theorem Fill.ent {n : Nat} {hs : List Int} {sh : List (Option Int)} {qs : List Int} (f : Fill n hs sh qs) : ∀ z : Int, some z ∈ sh → z ∈ hs := by
  induction f with
  | nil =>
    intro z hz
    have := List.eq_of_mem_replicate hz
    cases this
  | snoc _ _ ih =>
    intro z hz
    rcases List.mem_or_eq_of_mem_set hz with hz | hz
    · exact List.mem_append_left _ (ih z hz)
    · cases hz
      exact List.mem_append_right _ (List.mem_singleton.mpr rfl)
/-- some wishes are veiled -/
structure Veil (xs ys : List V) : Prop where
  len : ys.length = xs.length
  at_ : ∀ i : Nat, ys[i]? = xs[i]? ∨ (ys[i]? = some (.str "?") ∧ ∃ v, xs[i]? = some v ∧ v ≠ .non)
/-- an entry of a table of n cells -/
def TabV (n : Nat) (v : V) : Prop := v = .non ∨ v = .str "?" ∨ ∃ i : Nat, v = .int (i : Int) ∧ i < n
end NS
namespace NS
open PySem L2
theorem oV_isN (o : Option Int) : decide (oV o = V.non) = o.isNone := by
  cases o with
  | none => rfl
  | some h => exact decide_eq_false fun z => nomatch z
theorem oV_get {sh : List (Option Int)} {j : Nat} (h : j < sh.length) : (sh.map oV)[j]? = some (oV (sh.getD j (some 0))) := by
  rw [List.getElem?_map, List.getD_eq_getElem?_getD, List.getElem?_eq_getElem h]
  rfl
theorem spot_of {n : Nat} {sh : List (Option Int)} {h : Int} {i x : Nat} (hx : (frees sh n)[i]? = some x) (hb : ∀ ms ∈ (frees sh n).map (fun (x : Nat) => [dist (x : Int) h, (x : Int)]), HT.lexLt ms [dist (x : Int) h, (x : Int)] = false) : Spot n sh h x := by
  have hm := mem_frees.mp (List.mem_of_getElem? hx)
  refine ⟨hm.1, getD_none.mp hm.2, fun y hy hf => ?_⟩
  exact hb _ (List.mem_map.mpr ⟨y, mem_frees.mpr ⟨hy, getD_none.mpr hf⟩, rfl⟩)
theorem take_snoc {hs : List Int} {i : Nat} (h : i < hs.length) : hs.take (i + 1) = hs.take i ++ [hs[i]] := by
  rw [List.take_add_one, List.getElem?_eq_getElem h]
  rfl
end NS
namespace NS
open PySem L2
theorem ixn' {a n : Nat} (h : a < n) : ixN n (a : Int) = some a := by
  unfold ixN
  rw [if_pos (by omega), if_pos (by omega)]
  simp
theorem Fill.qlen {n : Nat} {hs : List Int} {sh : List (Option Int)} {qs : List Int} (f : Fill n hs sh qs) : qs.length = hs.length := by
  induction f with
  | nil => rfl
  | snoc _ _ ih => rw [List.length_append, List.length_append, ih]; rfl
theorem veil_tab {n : Nat} {hs : List Int} {sh : List (Option Int)} {qs : List Int} {ys : List V} (f : Fill n hs sh qs) (hr : ∀ h ∈ hs, 0 ≤ h ∧ h < (n : Int)) (v : Veil (sh.map oV) ys) : ys.length = n ∧ ∀ y ∈ ys, TabV n y := by
  have hl := v.len
  rw [List.length_map, f.len] at hl
  refine ⟨hl, fun y hy => ?_⟩
  obtain ⟨i, hi, rfl⟩ := List.getElem_of_mem hy
  have gi : ys[i]? = some ys[i] := List.getElem?_eq_getElem hi
  rcases v.at_ i with q | ⟨q, _⟩
  · rw [gi, List.getElem?_map] at q
    cases ho : sh[i]? with
    | none => rw [ho] at q; cases q
    | some o =>
      rw [ho] at q
      have e : ys[i] = oV o := Option.some.inj q
      rw [e]
      cases o with
      | none => exact .inl rfl
      | some z =>
        have := hr z (f.ent z (List.mem_of_getElem? ho))
        exact .inr (.inr ⟨z.toNat, by show V.int z = V.int ((z.toNat : Nat) : Int); congr 1; omega, by omega⟩)
  · rw [gi] at q
    exact .inr (.inl (Option.some.inj q))
end NS

/-! ### enumerate of a tuple -/
namespace NS
open PySem PySem.Spec PyProof.Rows L2
open AutoSeq1 (wpAny_loadPart')
section
variable {P : Program} {w : World} {A : Around} {E : Value → Shared → Prop} {s : Shared}
/-- the enumerate over the iterator at j, its number n; what it gave last -/
abbrev EnO (h : Heap) (c j : Addr) (n : Int) (v : Value) : Prop := IsEnum h c j n v
theorem en_new (t : Addr) (its : Array Value) (m : Nat) (dc : Option Addr) (sl : Array (Option Value)) :
    Meets (Builtin.«enumerate.__new__» ⟨[.type "enumerate", .ref t], []⟩) (fun _ R s => s.heap.get? t = some { cls := .type "tuple", dict := dc, data := .seq its m, slots := sl } ∧
      R (.ok (.ret (.ref (s.heap.push { cls := .type "tuple_iterator", data := .fields #[.ref t, .int 0 0] }).objs.size)))
        { s with heap := (s.heap.push { cls := .type "tuple_iterator", data := .fields #[.ref t, .int 0 0] }).push { cls := .type "enumerate", data := .fields #[.none, .bool false, .ref s.heap.objs.size, rawInt 0, .none, .none] } }) :=
  .of_wp fun P w A R s h => by
    obtain ⟨hp, g, dr, tk, os⟩ := s
    obtain ⟨ht, h⟩ := h
    have hs := sub_enumerate
    have hT : Heap.IsTuple (Shared.heap ⟨hp, g, dr, tk, os⟩) t its := ⟨_, ht, rfl, m, rfl⟩
    wp_walk using wpAny_loadPart' ht
    refine wpAny_stack_any fun st => wpAny_pure ?_
    split
    · rename_i c _ _ _ _ _
      cases (c == Value.type "enumerate") <;> (wp_walk using wpAny_loadPart' ht, wpAny_pyIter_tuple hT; exact ⟨_, rfl, h⟩)
    · (wp_walk using wpAny_loadPart' ht, wpAny_pyIter_tuple hT; exact ⟨_, rfl, h⟩)
theorem en_make {t : Addr} {its : Array Value} {Q : Value → Shared → Prop} (hT : s.heap.IsTuple t its)
    (h : ∀ h1, EnO h1 (s.heap.objs.size + 1) s.heap.objs.size 0 .none → h1.IsTupleIter s.heap.objs.size t 0 → (∀ b o, s.heap.get? b = some o → h1.get? b = some o) → Q (.ref (s.heap.objs.size + 1)) { s with heap := h1 }) :
    wpAny (model P w) A (call (.type "enumerate") [.ref t]) Q E s := by
  obtain ⟨⟨c, dc, dt, sl⟩, ht, hc, m, hd⟩ := hT
  cases (show c = .type "tuple" from hc)
  cases (show dt = .seq its m from hd)
  have z1 : (s.heap.push { cls := .type "tuple_iterator", data := .fields #[.ref t, .int 0 0] }).objs.size = s.heap.objs.size + 1 := Heap.size_push ..
  refine callType_new F.called_enumerate (by decide) (F.typeCall_enumerate_1 _) (F.newCall_enumerate_1 _) (fun o => F.args_object_init_2 o _) F.entry_enumerate_new (en_new t its m dc sl) ⟨ht, ?_⟩
  show _ ∧ _
  have hE : EnO ((s.heap.push { cls := .type "tuple_iterator", data := .fields #[.ref t, .int 0 0] }).push { cls := .type "enumerate", data := .fields #[.none, .bool false, .ref s.heap.objs.size, rawInt 0, .none, .none] }) (s.heap.objs.size + 1) s.heap.objs.size 0 .none := by
    rw [← z1]
    exact Heap.get?_push_size (s.heap.push { cls := .type "tuple_iterator", data := .fields #[.ref t, .int 0 0] }) (o := { cls := .type "enumerate", data := .fields #[.none, .bool false, .ref s.heap.objs.size, rawInt 0, .none, .none] }) rfl
  rw [z1]
  exact ⟨⟨_, hE, rfl⟩, h _ hE ⟨_, Heap.get?_push_of_some _ (Heap.get?_push_size _ rfl), rfl, rfl⟩ fun b o z => Heap.get?_push_of_some _ (Heap.get?_push_of_some _ z)⟩
/-- one more, whatever the iterator within is -/
theorem en_step {c j : Addr} {i : Nat} {x v0 : Value} {φ : Obj → Prop} {Q : Value → Shared → Prop} (he : EnO s.heap c j i v0) (hn : c ≠ j)
    (inner : ∀ Q1 : Value → Shared → Prop, (∀ h1, (∃ o, h1.get? j = some o ∧ φ o) → Heap.SameBut j s.heap h1 → Q1 x { s with heap := h1 }) → wpAny (model P w) A (Builtin.SmallTypes.nextOf (.ref j)) Q1 E s)
    (hQ : ∀ h1, IsEnumOut h1 c j ((i : Int) + 1) x s.heap.objs.size → (∃ o, h1.get? j = some o ∧ φ o) → h1.get? s.heap.objs.size = some { cls := .type "tuple", data := .seq #[.int i s.toks, x] } →
      (∀ b o, b ≠ c → b ≠ j → s.heap.get? b = some o → h1.get? b = some o) → Q (.ref s.heap.objs.size) { s with heap := h1, toks := s.toks + 1 }) :
    wpAny (model P w) A (Builtin.«enumerate.__next__» ⟨[.ref c], []⟩) (fun fin s' => ∃ v, fin = .done (.ret v) ∧ Q v s') E s := by
  obtain ⟨hp, g, dr, tk, os⟩ := s
  show wpAny _ _ (field (.ref c) 2 >>= _) _ _ _
  refine wpAny_bind (wpAny_field he rfl (x := .ref j) rfl (wpAny_bind (inner _ fun h1 gj1 s1 => ?_)))
  obtain ⟨oj, gj1, fj⟩ := gj1
  replace s1 : Heap.SameBut j hp h1 := s1
  have e1 : EnO h1 c j i v0 := (s1.2 c hn).trans he
  show wpAny _ _ (field (.ref c) 3 >>= _) _ _ ⟨h1, g, dr, tk, os⟩
  refine wpAny_bind (wpAny_field e1 rfl (x := rawInt i) rfl ?_)
  show wpAny _ _ (field (.ref c) 4 >>= _) _ _ ⟨h1, g, dr, tk, os⟩
  refine wpAny_bind (wpAny_field e1 rfl (x := .none) rfl ?_)
  show wpAny _ _ (mkInt i >>= _) _ _ ⟨h1, g, dr, tk, os⟩
  refine wpAny_bind (wpAny_mkInt ?_)
  show wpAny _ _ (setField (.ref c) 3 (rawInt ((i : Int) + 1)) >>= _) _ _ ⟨h1, g, dr, tk + 1, os⟩
  refine wpAny_bind (wpAny_setField_rec e1 (by simp) fun h2 e2 s2 => ?_)
  replace s2 : Heap.SameBut c h1 h2 := s2
  replace e2 : EnO h2 c j ((i : Int) + 1) v0 := e2
  show wpAny _ _ (setField (.ref c) 4 .none >>= _) _ _ ⟨h2, g, dr, tk + 1, os⟩
  refine wpAny_bind (wpAny_setField_rec e2 (by simp) fun h3 e3 s3 => ?_)
  replace s3 : Heap.SameBut c h2 h3 := s3
  replace e3 : EnO h3 c j ((i : Int) + 1) v0 := e3
  show wpAny _ _ (newTuple [.int i tk, x] >>= _) _ _ ⟨h3, g, dr, tk + 1, os⟩
  refine wpAny_bind (wpAny_newTuple ?_)
  have z3 : h3.objs.size = hp.objs.size := by rw [s3.1, s2.1, s1.1]
  have hc : c < hp.objs.size := Heap.lt_size he
  have e4 : EnO (h3.push { cls := .type "tuple", data := .seq #[.int i tk, x] }) c j ((i : Int) + 1) v0 := Heap.get?_push_of_some _ e3
  have t4 : (h3.push { cls := .type "tuple", data := .seq #[.int i tk, x] }).get? hp.objs.size = some { cls := .type "tuple", data := .seq #[.int i tk, x] } := by
    rw [← z3]
    exact Heap.get?_push_size _ rfl
  have j4 : (h3.push { cls := .type "tuple", data := .seq #[.int i tk, x] }).get? j = some oj := Heap.get?_push_of_some _ ((s3.2 j hn.symm).trans ((s2.2 j hn.symm).trans gj1))
  have k4 : ∀ b o, b ≠ c → b ≠ j → hp.get? b = some o → (h3.push { cls := .type "tuple", data := .seq #[.int i tk, x] }).get? b = some o := fun b o n1 n2 z =>
    Heap.get?_push_of_some _ ((s3.2 b n1).trans ((s2.2 b n1).trans ((s1.2 b n2).trans z)))
  generalize h3.push { cls := .type "tuple", data := .seq #[.int i tk, x] } = h4 at e4 t4 j4 k4
  show wpAny _ _ (Builtin.SmallTypes.ownedTupleIsFree (.ref c) >>= _) _ _ ⟨h4, g, dr, tk + 1, os⟩
  rw [z3]
  refine wpAny_bind ?_
  unfold Builtin.SmallTypes.ownedTupleIsFree
  refine wpAny_bind (wpAny_field e4 rfl (x := .none) rfl (wpAny_pure ?_))
  simp only [if_true]
  refine wpAny_bind (wpAny_rule (wpAny_bind (wpAny_field e4 rfl (x := v0) rfl (wpAny_bind (wpAny_setField_rec e4 (by simp) fun h5 e5 s5 => ?_)))))
  replace s5 : Heap.SameBut c h4 h5 := s5
  replace e5 : EnO h5 c j ((i : Int) + 1) x := e5
  show wpAny _ _ (Builtin.SmallTypes.ownedTupleHandOut (.ref c) (.ref hp.objs.size) >>= _) _ _ ⟨h5, g, dr, tk + 1, os⟩
  refine wpAny_bind ?_
  unfold Builtin.SmallTypes.ownedTupleHandOut
  refine wpAny_bind (wpAny_setField_rec e5 (by simp) fun h6 e6 s6 => ?_)
  replace s6 : Heap.SameBut c h5 h6 := s6
  replace e6 : IsEnumOut h6 c j ((i : Int) + 1) x hp.objs.size := e6
  refine wpAny_setField_rec e6 (by simp) fun h7 e7 s7 => ?_
  replace s7 : Heap.SameBut c h6 h7 := s7
  replace e7 : IsEnumOut h7 c j ((i : Int) + 1) x hp.objs.size := e7
  have up : ∀ b o, b ≠ c → h4.get? b = some o → h7.get? b = some o := fun b o n z => (s7.2 b n).trans ((s6.2 b n).trans ((s5.2 b n).trans z))
  exact wpAny_bind (wpAny_letGo (wpAny_pure ⟨_, rfl, hQ h7 e7 ⟨oj, up j _ hn.symm j4, fj⟩ (up _ _ (Nat.ne_of_gt hc) t4) fun b o n1 n2 z => up b o n1 (k4 b o n1 n2 z)⟩))
theorem en_next {c j t : Addr} {i : Nat} {its : Array Value} {x v0 : Value} {Q : Option Value → Shared → Prop} (he : EnO s.heap c j i v0) (hj : s.heap.IsTupleIter j t i) (ht : s.heap.IsTuple t its) (hx : its[i]? = some x) (hn : c ≠ j)
    (hQ : ∀ h1, IsEnumOut h1 c j ((i : Int) + 1) x s.heap.objs.size → h1.IsTupleIter j t (i + 1) → h1.get? s.heap.objs.size = some { cls := .type "tuple", data := .seq #[.int i s.toks, x] } →
      (∀ b o, b ≠ c → b ≠ j → s.heap.get? b = some o → h1.get? b = some o) → Q (some (.ref s.heap.objs.size)) { s with heap := h1, toks := s.toks + 1 }) : wpAny (model P w) A (pyNext (.ref c)) Q E s := by
  have hT : s.TypeIs (.ref c) "enumerate" := ⟨_, he, rfl⟩
  unfold pyNext
  refine wpAny_bind (wpAny_attempt (wpAny_callSpecial?_slot (name := Str.ofString "__next__") hT F.slot_enumerate_next (wpAny_call_entry F.slot_enumerate_next hT F.entry_enumerate_next ?_ (F.args_enumerate_next_1 _))))
  exact en_step (φ := fun o => o.cls = .type "tuple_iterator" ∧ o.data = .fields #[.ref t, .int ((i + 1 : Nat) : Int) 0]) he hn (fun Q1 q1 => RZ.nextOf_tuple_item hj ht hx fun h1 a b => q1 h1 a b) fun h1 a b z k => wpAny_pure (hQ h1 a b z k)
theorem en_end {c j t : Addr} {i : Nat} {its : Array Value} {v0 : Value} {Q : Option Value → Shared → Prop} (hh : A.handled = none) (he : EnO s.heap c j i v0) (hj : s.heap.IsTupleIter j t i) (ht : s.heap.IsTuple t its) (hx : its[i]? = none)
    (hQ : ∀ h1, Heap.ExtBut j s.heap h1 → Q none { s with heap := h1 }) : wpAny (model P w) A (pyNext (.ref c)) Q E s := by
  have hT : s.TypeIs (.ref c) "enumerate" := ⟨_, he, rfl⟩
  unfold pyNext
  refine wpAny_bind (wpAny_attempt (wpAny_callSpecial?_slot (name := Str.ofString "__next__") hT F.slot_enumerate_next (wpAny_call_entry F.slot_enumerate_next hT F.entry_enumerate_next ?_ (F.args_enumerate_next_1 _))))
  show wpAny _ _ (field (.ref c) 2 >>= _) _ _ _
  refine wpAny_bind (wpAny_field he rfl (x := .ref j) rfl (wpAny_bind (RZ.nextOf_tuple_end hh hj ht hx fun h1 x k ⟨o, ho, hc⟩ => ?_)))
  exact wpAny_bind (wpAny_isInstance (T := "StopIteration") (b := true) ⟨o, ho, hc⟩ isSubtype_stop (wpAny_pure (hQ _ k)))
end
/-- the tuple at a, each item in a new pair -/
def ItE (K : PySem.W.Frag) (a : Addr) : It :=
  ⟨fun i H => ∃ (xs : List V) (x : V), SqT K H a xs ∧ xs[i]? = some x, fun i H v H' => ∃ T x, v = .ref T ∧ H T = none ∧ H' = upd H T (.tup [.int (i : Nat), x]) ∧ ∀ xs, SqT K H a xs → xs[i]? = some x, fun i H => ∃ xs : List V, SqT K H a xs ∧ xs.length ≤ i⟩
theorem turn_enT {P : Program} {w : World} {K : PySem.W.Frag} {elts : List Expr} {kk : Nat} {tpos : Pos} (a c j : Addr) :
    Turn P w K (.Tuple elts kk tpos) (ItE K a) [c, j] c (fun i h => (∃ v0, EnO h c j ((i : Nat) : Int) v0) ∧ h.IsTupleIter j a i ∧ c ≠ j) where
  mem := by simp
  obj := fun i h st b hb => by
    obtain ⟨⟨v0, he⟩, ⟨o, ho, hc, hd⟩, _⟩ := st
    rcases (show b = c ∨ b = j by simpa using hb) with rfl | rfl
    · exact ⟨_, he, fun v q => nomatch q⟩
    · exact ⟨o, ho, fun v q => by rw [hd] at q; cases q⟩
  keep := fun i h h' st k => st.elim fun he z => ⟨he.elim fun v0 y => ⟨v0, k c (by simp) _ y⟩, z.1.at fun o y => k j (by simp) o y, z.2⟩
  item := by
    intro X hP hw hK hc i pins s σ H E I hf st hg
    subst hP hw hK
    obtain ⟨⟨v0, he⟩, hj, hn⟩ := st
    obtain ⟨xs, x, hq, hx⟩ := hg
    obtain ⟨its, rv, ht, hz⟩ := I.tuple hq
    obtain ⟨u, hu, ru⟩ := rv.get hx
    have hcl : c < s.heap.objs.size := Heap.lt_size he
    have hjl : j < s.heap.objs.size := hj.elim fun _ z => Heap.lt_size z.1
    refine en_next he hj ht (x := u) (by simpa using hu) hn fun h1 ho hj1 hT hk => ?_
    refine ⟨_, rfl, wpAny_letOwnedTupleGo_enum (s := { s with heap := h1, toks := s.toks + 1 }) ho fun h2 he2 sb => ?_⟩
    have hT2 : h2.get? s.heap.objs.size = some { cls := .type "tuple", data := .seq #[.int i s.toks, u] } := (sb.2 _ (Nat.ne_of_gt hcl)).trans hT
    have I1 : Inv X pins σ (upd H s.heap.objs.size (.tup [.int (i : Nat), x])) { s with heap := h2, toks := s.toks + 1 } :=
      I.turnedNew (ch := [c, j]) (fun b ob hb q => (sb.2 b (fun z => hb (by simp [z]))).trans (hk b ob (fun z => hb (by simp [z])) (fun z => hb (by simp [z])) q)) hf (Nat.le_refl _)
        ⟨by show 2 ≤ sizeLine; decide, [.int i s.toks, u], .cons ⟨_, rfl⟩ (.cons ru .nil), ⟨_, hT2, rfl, _, rfl⟩⟩
    refine ⟨.ref s.heap.objs.size, _, I1, rfl, ⟨_, x, rfl, I.hok.fresh (Nat.le_refl _), rfl, fun ys hy => by rw [I.tuple_inj hy hq]; exact hx⟩, ⟨⟨u, ?_⟩, hj1.at fun o q => (sb.2 j (Ne.symm hn)).trans q, hn⟩, fun b hb => ?_⟩
    · rw [show ((i + 1 : Nat) : Int) = (i : Int) + 1 by omega]
      exact he2
    · have hlt : b < s.heap.objs.size := by
        rcases (show b = c ∨ b = j by simpa using hb) with rfl | rfl
        · exact hcl
        · exact hjl
      rw [upd_ne (Nat.ne_of_lt hlt)]
      exact (hf b hb).1
  done := by
    intro X hP hw hK hc i pins s σ H E I hf st hg
    subst hP hw hK
    obtain ⟨⟨v0, he⟩, hj, hn⟩ := st
    obtain ⟨xs, hq, hx⟩ := hg
    obtain ⟨its, rv, ht, hz⟩ := I.tuple hq
    have hl := rv.length
    obtain ⟨f0, f1, f2, f3, f4, f5⟩ := hf j (by simp)
    exact en_end (I.ok.hd hc) he hj ht (by simp; omega) fun h1 eb => ⟨rfl, I.turned (t' := s.toks) (fun b o hb q => eb b o hb q) f0 f1 f3 f4 f5⟩
  self := fun A i s Q E st h => st.1.elim fun _ he => wpAny_pyIter_enum he h
def iEnT (K : PySem.W.Frag) (ta : TA) : TI := fun σ H R => ta σ H fun vs H1 => ∃ a xs, vs = [.ref a] ∧ SqT K H1 a xs ∧ R (ItE K a) H1
theorem pi_enT {X : Cx} {e : Expr} {ta : TA} {p pos tpos : Pos} {elts : List Expr} {kk : Nat} (hg : Gl X "enumerate") (hm : X.mg "enumerate" = none) (ha : PA X [e] ta) (hs : starEach [e] X.env = [(false, eval e X.env)] := by rfl) :
    PI X (.Tuple elts kk tpos) (.Call (.Name "enumerate" p) [e] [] pos) (iEnT X.K ta) := by
  constructor
  intro pins s σ H R I h
  refine Call_ (ld_blt I hg hm boot_enumerate (PyProof.Rows.callWith_type1 (thn (ha.run pos pins s σ H _ I h) fun us s1 ⟨vs, H1, I1, r1, q1⟩ => ?_) hs rfl))
  obtain ⟨a, xs, rfl, hq, q⟩ := q1
  cases r1 with
  | cons r rr =>
    cases rr
    cases r
    obtain ⟨its, rv, ht, hz⟩ := I1.tuple hq
    refine en_make ht fun h1 he hj hk => wpAny_pyIter_enum he ?_
    have I2 : Inv X pins σ H1 { s1 with heap := h1 } := I1.kept (t' := s1.toks) hk
    refine ⟨s1.heap.objs.size + 1, [s1.heap.objs.size + 1, s1.heap.objs.size], _, _, H1, rfl, I2, turn_enT a (s1.heap.objs.size + 1) s1.heap.objs.size, ⟨⟨.none, he⟩, hj, Nat.succ_ne_self _⟩, fun b hb => ?_, q⟩
    have hle : s1.heap.objs.size ≤ b := by
      rcases (show b = s1.heap.objs.size + 1 ∨ b = s1.heap.objs.size by simpa using hb) with rfl | rfl
      · exact Nat.le_succ _
      · exact Nat.le_refl _
    exact I1.fpOk hle (I1.hok.fresh hle)
/-- a comprehension over it -/
theorem lc_enT {K : PySem.W.Frag} {a : Addr} {xs : List V} {g : TG} {tt : TT} {te : TE} {vs : List Nat} {σ : L2.St} {H1 : Hp} {D : Addr} {Qd : Hp → Prop} (Pv : Nat → Hp → Prop) (h0 : Pv 0 (upd H1 D (.lst []))) (hq : ∀ i H, Pv i H → SqT K H a xs)
    (hs : ∀ (i : Nat) (x : V) (T : Addr) (H : Hp), xs[i]? = some x → Pv i H → H T = none → g (.ref T) (wipe σ vs) (upd H T (.tup [.int (i : Nat), x])) fun σ2 H2 => wipe σ2 vs = wipe σ vs ∧ tt σ2 H2 fun b H3 =>
      if b = true then te σ2 H3 fun y H4 => ∃ acc, H4 D = some (.lst acc) ∧ acc.length < sizeLine ∧ Pv (i + 1) (upd H4 D (.lst (acc ++ [y]))) else Pv (i + 1) H3) (hd : ∀ H, Pv xs.length H → Qd H) :
    ∃ W : Nat → Nat → Hp → Prop, (∃ m, W 0 m (upd H1 D (.lst []))) ∧ ∀ i m H, W i m H →
      ((ItE K a).stop i H ∧ Qd H) ∨ ((ItE K a).go i H ∧ ∃ Nx : Hp → Prop, (∀ H', Nx H' → ∃ m', m' < m ∧ W (i + 1) m' H') ∧ ∀ x H', (ItE K a).yld i H x H' → g x (wipe σ vs) H' fun σ2 H2 => wipe σ2 vs = wipe σ vs ∧ tt σ2 H2 fun b H3 =>
        if b = true then te σ2 H3 fun y H4 => ∃ acc, H4 D = some (.lst acc) ∧ acc.length < sizeLine ∧ Nx (upd H4 D (.lst (acc ++ [y]))) else Nx H3) := by
  refine ⟨fun i m H => m = xs.length - i ∧ i ≤ xs.length ∧ Pv i H, ⟨xs.length, by simp, Nat.zero_le _, h0⟩, ?_⟩
  rintro i m H ⟨rfl, hi, pv⟩
  have qx := hq i H pv
  by_cases hlt : i < xs.length
  · refine .inr ⟨⟨xs, xs[i], qx, by simp [hlt]⟩, Pv (i + 1), fun H' p' => ⟨xs.length - (i + 1), by omega, rfl, hlt, p'⟩, fun x H' y => ?_⟩
    obtain ⟨T, x', rfl, hT, rfl, hx⟩ := y
    exact hs i x' T H (hx xs qx) pv hT
  · have ei : i = xs.length := by omega
    subst ei
    exact .inl ⟨⟨xs, qx, Nat.le_refl _⟩, hd H pv⟩
end NS

/-! ### tables: the taken cells, what their objects want -/
namespace NS
open PySem L2
def isN : V → Bool
  | .non => true
  | _ => false
def fullN (ys : List V) (k : Nat) : List Int := ((List.range k).filter fun i => !isN (ys.getD i .non)).map fun (i : Nat) => (i : Int)
abbrev fullL (ys : List V) : List Int := fullN ys ys.length
theorem fullN_zero (ys : List V) : fullN ys 0 = [] := rfl
theorem fullN_succ (ys : List V) (k : Nat) : fullN ys (k + 1) = fullN ys k ++ (if isN (ys.getD k .non) = true then [] else [(k : Int)]) := by
  unfold fullN
  rw [List.range_succ, List.filter_append, List.map_append]
  congr 1
  cases h : isN (ys.getD k .non)
  · rw [List.filter_cons_of_pos (by rw [h]; rfl)]
    rfl
  · rw [List.filter_cons_of_neg (by rw [h]; decide)]
    rfl
theorem fullN_len (ys : List V) (k : Nat) : (fullN ys k).length ≤ k := by
  unfold fullN
  rw [List.length_map]
  exact Nat.le_trans (List.length_filter_le _ _) (by rw [List.length_range]; exact Nat.le_refl _)
theorem fullL_mem {ys : List V} {z : Int} : z ∈ fullL ys ↔ ∃ i : Nat, z = (i : Int) ∧ i < ys.length ∧ isN (ys.getD i .non) = false := by
  unfold fullL fullN
  constructor
  · intro h
    obtain ⟨i, hi, rfl⟩ := List.mem_map.mp h
    obtain ⟨h1, h2⟩ := List.mem_filter.mp hi
    exact ⟨i, rfl, List.mem_range.mp h1, by simpa using h2⟩
  · rintro ⟨i, rfl, h1, h2⟩
    exact List.mem_map.mpr ⟨i, List.mem_filter.mpr ⟨List.mem_range.mpr h1, by rw [h2]; rfl⟩, rfl⟩
/-- the cells that the object in c wants, by the entry there -/
def wantV (n : Nat) (c : Int) : V → List Int
  | .int w => needsL n c w
  | _ => []
def wantL (ys : List V) (c : Int) : List Int := wantV ys.length c (ys.getD c.toNat .non)
theorem wantV_len (n : Nat) (c : Int) (v : V) : (wantV n c v).length ≤ n := by
  cases v with
  | int w => exact needsL_len n c w
  | _ => exact Nat.zero_le _
theorem isN_dec (x : V) : isN x = decide (x = .non) := by cases x <;> simp [isN]
theorem inV_ints (c : Int) (xs : List Int) : inV (.int c) (xs.map V.int) = decide (c ∈ xs) := by
  unfold inV
  rw [Bool.eq_iff_iff, List.any_eq_true, decide_eq_true_eq]
  constructor
  · rintro ⟨y, hy, he⟩
    obtain ⟨z, hz, rfl⟩ := List.mem_map.mp hy
    have e : z = c := by simpa [eqV] using he
    rw [← e]
    exact hz
  · intro h
    exact ⟨_, List.mem_map.mpr ⟨c, h, rfl⟩, by simp [eqV]⟩
theorem flat_ints (xs : List Int) : (xs.map V.int).all flatV = true := by
  rw [List.all_eq_true]
  intro y hy
  obtain ⟨z, _, rfl⟩ := List.mem_map.mp hy
  rfl
theorem needsL_lt {n : Nat} {c w e : Int} (h : e ∈ needsL n c w) : ∃ j : Nat, e = (j : Int) ∧ j < n := by
  unfold needsL at h
  obtain ⟨j, hj, rfl⟩ := List.mem_map.mp (List.mem_filter.mp h).1
  exact ⟨j, rfl, List.mem_range.mp hj⟩
theorem wantL_lt {ys : List V} {c e : Int} (h : e ∈ wantL ys c) : ∃ j : Nat, e = (j : Int) ∧ j < ys.length := by
  unfold wantL at h
  cases hv : ys.getD c.toNat .non with
  | int w =>
    rw [hv] at h
    exact needsL_lt h
  | _ =>
    rw [hv] at h
    cases h
theorem isInt_ex {d : PyData} (h : isIntD d = true) : ∃ c, d = .int c := by
  cases d with
  | int c => exact ⟨c, rfl⟩
  | _ => cases h
/-- an entry of a taken cell -/
theorem tab_taken {ys : List V} {i : Nat} (tab : ∀ y ∈ ys, TabV ys.length y) (hi : i < ys.length) (h : isN (ys.getD i .non) = false) : ys[i]? = some (.str "?") ∨ ∃ w : Int, ys[i]? = some (.int w) := by
  have g : ys[i]? = some ys[i] := List.getElem?_eq_getElem hi
  have gd : ys.getD i .non = ys[i] := by rw [List.getD_eq_getElem?_getD, g]; rfl
  rw [gd] at h
  rcases tab _ (List.getElem_mem hi) with e | e | ⟨z, e, _⟩
  · rw [e] at h
    cases h
  · exact .inl (by rw [g, e])
  · exact .inr ⟨_, by rw [g, e]⟩
theorem lenD_num {N : Nat} {d : PyData} (h : intsB N d = true) : lenD d ≤ N := by
  cases d with
  | list ds =>
    rw [intsB, Bool.and_eq_true, decide_eq_true_eq] at h
    exact h.1
  | tuple ds =>
    rw [intsB, Bool.and_eq_true, decide_eq_true_eq] at h
    exact h.1
  | _ => exact Nat.zero_le _
/-! rules whose readings do not hang on the block -/
theorem pi_listK {X : Cx} {K : PySem.W.Frag} {tg l : Expr} {tl : TE} (e : X.K = K) (hl : PE X l tl) : PI X tg l (iList K tl) := by
  subst e
  exact pi_list hl
theorem pi_tupK {X : Cx} {K : PySem.W.Frag} {tg l : Expr} {tl : TE} (e : X.K = K) (hl : PE X l tl) : PI X tg l (iTup K tl) := by
  subst e
  exact pi_tup hl
theorem sl_tupAK {X : Cx} {K : PySem.W.Frag} (e : X.K = K) : SlR X (rSlA K) := by
  subst e
  exact sl_tupA
/-- a block within a block -/
theorem relabel_cf (env : Env) (y : Str) : ∀ {ns : List (Str × NameKind)}, ns.lookup y = some .cell ∨ ns.lookup y = some .free →
    (ns.map fun (n, k) => if (k == NameKind.free && env.scope.kind == .function && env.kindOf n == some .cell) then (n, NameKind.cell) else (n, k)).lookup y = some .cell ∨ (ns.map fun (n, k) => if (k == NameKind.free && env.scope.kind == .function && env.kindOf n == some .cell) then (n, NameKind.cell) else (n, k)).lookup y = some .free
  | [], h => by
    rcases h with h | h
    · cases h
    · cases h
  | (n, k) :: r, h => by
    have ih := relabel_cf env y (ns := r)
    rw [List.map_cons]
    cases hy : y == n with
    | true =>
      simp only [List.lookup_cons, hy, Option.some.injEq] at h
      by_cases c : (k == NameKind.free && env.scope.kind == .function && env.kindOf n == some .cell) = true
      · simp [c, List.lookup_cons, hy]
      · simp only [c, List.lookup_cons, hy, Option.some.injEq, Bool.false_eq_true, if_false]
        exact h
    | false =>
      simp only [List.lookup_cons, hy] at h
      by_cases c : (k == NameKind.free && env.scope.kind == .function && env.kindOf n == some .cell) = true
      · simp only [c, List.lookup_cons, hy, if_true]
        exact ih h
      · simp only [c, List.lookup_cons, hy, Bool.false_eq_true, if_false]
        exact ih h
theorem blkOk_sub {X : Cx} {s : Shared} {H : Hp} {sc scope : Scope} {cl : List (Str × Addr)} {C : Addr} {e : Env} {fp : List Addr} {N : List Str} {own : List (Str × Nat)} (h : blkC N sc scope own = true) : BlkOk N (X.blk s H sc (compEnvC sc cl C e) fp).env.scope scope own := by
  have k := blkOk_by h
  exact ⟨k.kind, k.uniq, k.ix, fun y hy hf => relabel_cf e y.1 (k.free y hy hf), k.own⟩
theorem sIx_le {n i : Nat} (h : i ≤ n) (d : Nat) : HT.sIx n d (some (i : Int)) = i := by
  unfold HT.sIx
  simp only
  split <;> omega
theorem cut_to {xs : List V} {i : Nat} (h : i ≤ xs.length) : cutV xs none (some (i : Int)) = xs.take i := by
  unfold cutV
  rw [sIx_le h]
  show (xs.drop 0).take (i - 0) = _
  rw [List.drop_zero, Nat.sub_zero]
/-- an order agrees: by its beginnings -/
def agB (ys : List V) (qs : List Int) (j : Nat) : Bool := (wantL ys (qs.getD j 0)).all fun e => decide (e ∈ qs.take j)
def agreesN (ys : List V) (qs : List Int) (k : Nat) : Bool := ((List.range k).map (agB ys qs)).all id
abbrev agreesL (ys : List V) (qs : List Int) : Bool := agreesN ys qs qs.length
theorem if_then {c : TT} {a b : TS} {D : Ends} {σ : L2.St} {H : Hp} (R : Hp → Prop) (k : ∀ H', R H' → D.nx σ H') (h : ∀ D' : Ends, (∀ H', R H' → D'.nx σ H') → tIfS c a b D' σ H) : tIfS c a b D σ H := h D k
end NS

/-! ### sorted of a tuple of ints -/
namespace NS
open PySem PySem.Spec PyProof.Rows L2
section
variable {prog : Program} {w : World} {A : Around} {E : Value → Shared → Prop} {s : Shared}
theorem gather_tup {t : Addr} {vs : List Value} {Q : List Value → Shared → Prop} (ht : s.heap.IsTuple t vs.toArray)
    (h : Q vs { s with heap := (s.heap.push (seqObj "list" #[] 0)).update s.heap.objs.size (Obj.mapSeq (· ++ vs.toArray)) }) (hz : vs.length ≤ sizeLine) : wpAny (model prog w) A (collect (.ref t)) Q E s := by
  obtain ⟨ob, hob, hcl, m, hdt⟩ := id ht
  have hob2 : (s.heap.push (seqObj "list" #[] 0)).get? t = some ob := Heap.get?_push_of_some _ hob
  have hnew : (s.heap.push (seqObj "list" #[] 0)).get? s.heap.objs.size = some (seqObj "list" #[] 0) := Heap.get?_push_size _ rfl
  unfold collect
  refine wpAny_bind (wpAny_runValue (codeAny_builtin entry_proto_collect' ?_))
  show wpAny _ _ (do again (.builtin "list.__iadd__" ⟨[← newList [], .ref t], []⟩)) _ _ s
  refine wpAny_bind (wpAny_newList (wpAny_pure ⟨Code.quiet_builtin _ (by decide +kernel), codeAny_builtin entry_list_iadd' ?_⟩))
  show wpAny _ _ (Builtin.List.listExtendWith (.ref s.heap.objs.size) (.ref t) (.ref s.heap.objs.size)) _ _ { s with heap := s.heap.push (seqObj "list" #[] 0) }
  unfold Builtin.List.listExtendWith
  refine wpAny_bind (wpAny_typeOf (T := "tuple") ⟨ob, hob2, hcl⟩ ?_)
  have hty : (Value.type "tuple" == Value.type "tuple") = true := by rfl
  rw [if_pos (by rw [hty]; simp)]
  refine wpAny_bind (listItems_at hob2 hdt (wpAny_bind (listItems_at (xs := #[]) (n := 0) hnew rfl ?_)))
  rw [if_neg (by simp)]
  refine wpAny_bind (listUpdate_at (xs := #[]) (n := 0) hnew rfl (wpAny_pure ?_) (Nat.zero_le _) (by show (#[] ++ vs.toArray).size ≤ sizeLine + 1; simp only [Array.size_append, List.size_toArray, List.length_nil]; omega))
  show wpAny (model prog w) A (do
      let o ← load s.heap.objs.size
      match o.data with
      | .seq ys _ => pure ys.toList
      | _ => unsupported "internal:collect") Q E { s with heap := (s.heap.push (seqObj "list" #[] 0)).update s.heap.objs.size (Obj.mapSeq (· ++ vs.toArray)) }
  refine wpAny_bind (wpAny_load (get?_update_seq hnew _) ?_)
  show wpAny _ _ (pure ((#[] : Array Value) ++ vs.toArray).toList) Q E _
  have ev : ((#[] : Array Value) ++ vs.toArray).toList = vs := by simp
  rw [ev]
  exact wpAny_pure h
theorem sorted_tupI {t : Addr} {vs : List Value} {ns : List Int} {Q : Value → Shared → Prop} (ht : s.heap.IsTuple t vs.toArray) (hI : IntsAre vs ns) (h64 : vs.length < 64)
    (h : ∀ (out : Array Value) (ms : List Int), IntsAre out.toList ms → ms.Perm ns → ms.Pairwise (· ≤ ·) → Q (.ref (s.heap.objs.size + 1)) { s with heap := sortedAll s.heap vs out }) :
    wpAny (model prog w) A (call (.builtin "sorted") [.ref t]) Q E s := by
  refine Calls.call_function_entry kind_sorted plain_sorted entry_sorted (args_sorted1 _) ?_
  unfold Builtin.«sorted»
  refine wpAny_bind (m := checkCount "sorted" 1 1 _) (wpAny_pure (wpAny_bind (gather_tup ht (wpAny_bind (wpAny_newList ?_)) (small64 h64))))
  have z1 : ((s.heap.push (seqObj "list" #[] 0)).update s.heap.objs.size (Obj.mapSeq (· ++ vs.toArray))).objs.size = s.heap.objs.size + 1 := by rw [Heap.size_update, size_push']
  have g1 : (((s.heap.push (seqObj "list" #[] 0)).update s.heap.objs.size (Obj.mapSeq (· ++ vs.toArray))).push (seqObj "list" vs.toArray 0)).get? (s.heap.objs.size + 1) = some (seqObj "list" vs.toArray 0) := by
    rw [← z1]
    exact Heap.get?_push_size _ rfl
  show wpAny _ _ _ _ _ { s with heap := ((s.heap.push (seqObj "list" #[] 0)).update s.heap.objs.size (Obj.mapSeq (· ++ vs.toArray))).push (seqObj "list" vs.toArray 0) }
  rw [z1]
  exact wpAny_bind (wpAny_holding (wpAny_call_entry slot_list_sort ⟨_, g1, rfl⟩ entry_list_sort (list_sort_tree g1 hI h64 fun out ms a1 a2 a3 => ⟨_, rfl, wpAny_pure ⟨_, rfl, h out ms a1 a2 a3⟩⟩) (args_list_sort _)))
end
def rSortT (K : PySem.W.Frag) : List V → Hp → VK → Prop := fun vs H Q => ∃ (a : Addr) (ns : List Int), vs = [V.ref a] ∧ SqT K H a (ns.map V.int) ∧ ns.length < 64 ∧
  ∀ (ms : List Int) (p : Addr), ms.Perm ns → ms.Pairwise (· ≤ ·) → H p = none → Q (.ref p) (upd H p (.lst (ms.map V.int)))
theorem cr_sortT {X : Cx} : CallR X (.builtin "sorted") (rSortT X.K) := by
  intro pins s σ H vs us Q I r h
  obtain ⟨a, ns, rfl, hs, h64, q⟩ := h
  obtain ⟨its, rv, ht, _⟩ := I.tuple hs
  rw [Vals.ref1 r]
  have hi := rv.ints
  refine sorted_tupI ht hi (by rw [hi.length]; exact h64) fun out ms h1 h2 h3 => ?_
  obtain ⟨ep, he⟩ := sortedAll_at s.heap its out
  have hn : H (s.heap.objs.size + 1) = none := I.hok.fresh (Nat.le_succ _)
  exact ⟨.ref _, upd H (s.heap.objs.size + 1) (.lst (ms.map V.int)), I.laid (t' := s.toks) (fun _ _ => sortedAll_old) (Nat.le_succ _) ⟨by rw [List.length_map, h2.length_eq]; exact small64 h64, out.toList, ep, vals_of_ints h1, he⟩, rfl, q ms _ h2 h3 hn⟩
theorem cr_sortedK {X : Cx} {K : PySem.W.Frag} (e : X.K = K) : CallR X (.builtin "sorted") (rSorted K) := by subst e; exact cr_sorted
theorem cr_sortTK {X : Cx} {K : PySem.W.Frag} (e : X.K = K) : CallR X (.builtin "sorted") (rSortT K) := by subst e; exact cr_sortT
end NS

/-! ### rows that are lists or tuples -/
namespace NS
open PySem PySem.Spec PyProof.Rows L2
abbrev Sq (K : PySem.W.Frag) (H : Hp) (a : Addr) (xs : List V) : Prop := SqL K H a xs ∨ SqT K H a xs
/-- the object at a is as it was -/
def AtS (a : Addr) (H H' : Hp) : Prop := ∀ o, H a = some o → H' a = some o
theorem ats_same {a : Addr} {H H' : Hp} (e : Same H H') : AtS a H H' := fun o h => e a o h
theorem ats_stay {s a : Addr} {H H' : Hp} (e : Stay s H H') (n : a ≠ s) : AtS a H H' := fun o h => e a o n h
theorem AtS.sqL {K : PySem.W.Frag} {a : Addr} {H H' : Hp} {xs : List V} (e : AtS a H H') (h : SqL K H a xs) : SqL K H' a xs := by
  rcases h with (h | ⟨o, h⟩) | h
  · exact .inl (.inl (e _ h))
  · exact .inl (.inr ⟨o, e _ h⟩)
  · exact .inr h
theorem AtS.sqT {K : PySem.W.Frag} {a : Addr} {H H' : Hp} {xs : List V} (e : AtS a H H') (h : SqT K H a xs) : SqT K H' a xs := by
  rcases h with (h | ⟨o, h⟩) | h
  · exact .inl (.inl (e _ h))
  · exact .inl (.inr ⟨o, e _ h⟩)
  · exact .inr h
theorem Same.sq {K : PySem.W.Frag} {a : Addr} {H H' : Hp} {xs : List V} (e : Same H H') (h : Sq K H a xs) : Sq K H' a xs :=
  h.imp (ats_same e).sqL (ats_same e).sqT
theorem sq_lst {K : PySem.W.Frag} {H : Hp} {a : Addr} {xs : List V} (h : H a = some (.lst xs)) : Sq K H a xs := .inl (sqL h)
theorem sq_tup {K : PySem.W.Frag} {H : Hp} {a : Addr} {xs : List V} (h : H a = some (.tup xs)) : Sq K H a xs := .inr (sqT h)
theorem walk_enT {K : PySem.W.Frag} {a : Addr} {xs : List V} : Walk (ItE K a) xs.length (fun H => SqT K H a xs) (YPair (fun i => some (.int (i : Nat))) (fun i => xs[i]?)) := by
  refine ⟨fun i H hi hG => ⟨xs, xs[i], hG, by simp [hi]⟩, fun H hG => ⟨xs, hG, Nat.le_refl _⟩, fun i H v H' hi hG hy => ?_⟩
  obtain ⟨T, x, e1, e2, e3, e4⟩ := hy
  exact ⟨T, _, x, e1, e2, e3, rfl, e4 xs hG⟩
theorem hu1 {k : Nat} {A : Around} (hr : Room k A) : A.units + 1 < cLine := Nat.lt_of_le_of_lt (by omega) hr.units
section
variable {X : Cx}
def rIxA (K : PySem.W.Frag) : R2 := fun x y H Q => ∃ p xs i v, x = .ref p ∧ y = .int i ∧ Sq K H p xs ∧ atI xs i = some v ∧ Q v H
theorem ix_seq : IxR X (rIxA X.K) := by
  intro e1 e2 pins s σ H x y v u Q I rx ry h hs
  obtain ⟨p, xs, i, z, h1, h2, hq, h3, q⟩ := h
  rcases hq with hq | hq
  · exact ix_list e1 e2 pins s σ H x y v u Q I rx ry ⟨p, xs, i, z, h1, h2, hq, h3, q⟩ hs
  · exact ix_tup e1 e2 pins s σ H x y v u Q I rx ry ⟨p, xs, i, z, h1, h2, hq, h3, q⟩ hs
theorem ix_seqK {K : PySem.W.Frag} (e : X.K = K) : IxR X (rIxA K) := by subst e; exact ix_seq
theorem op_catAK {K : PySem.W.Frag} (e : X.K = K) : OpR X (binaryOp .Add) (rCatA K) := by subst e; exact op_catA
/-- xs[lo:hi]: a row of the same kind -/
def rSlS (K : PySem.W.Frag) : V → Option Int → Option Int → Hp → VK → Prop := fun x lo hi H Q => ∃ a xs, x = .ref a ∧ Sq K H a xs ∧ ∀ p H', Same H H' → Sq K H' p (cutV xs lo hi) → Q (.ref p) H'
theorem sl_seq : SlR X (rSlS X.K) := by
  intro pins s σ H x v vl vu lo hi sl Q I rx hs pl pu h
  obtain ⟨a, xs, ex, hq, q⟩ := h
  rcases hq with hq | hq
  · exact sl_list pins s σ H x v vl vu lo hi sl Q I rx hs pl pu ⟨a, xs, ex, hq, fun p hp => q p _ (same_upd hp) (.inl (sqL upd_same))⟩
  · refine sl_tupA pins s σ H x v vl vu lo hi sl Q I rx hs pl pu ⟨a, xs, ex, hq, fun c => q a _ (Same.refl _) (.inr ?_), fun _ p hp => q p _ (same_upd hp) (.inr (sqT upd_same))⟩
    have e : cutV xs lo hi = xs := by
      unfold cutV
      rw [c.1, c.2, List.drop_zero, Nat.sub_zero, List.take_length]
    rw [e]
    exact hq
theorem sl_seqK {K : PySem.W.Frag} (e : X.K = K) : SlR X (rSlS K) := by subst e; exact sl_seq
def iSeq (K : PySem.W.Frag) (tl : TE) : TI := fun σ H R => tl σ H fun x H1 => ∃ a xs, x = .ref a ∧ Sq K H1 a xs ∧ ∀ J G, Walk J xs.length G (YAt xs) → (∀ H2, AtS a H1 H2 → G H2) → R J H1
theorem pi_seq {tg l : Expr} {tl : TE} (hl : PE X l tl) : PI X tg l (iSeq X.K tl) := by
  constructor
  intro pins s σ H R I h
  refine thn (hl.run pins s σ H _ I h) fun v s1 z => ?_
  obtain ⟨x, H1, I1, r1, a, xs, rfl, hq, q⟩ := z
  cases r1
  rcases hq with hq | hq
  · obtain ⟨its, rv, pl, _⟩ := I1.list hq
    exact wpAny_pyIter_list pl.isList (pi_one (tk := s1.toks) I1 _ (turn_list a _) ⟨_, Heap.get?_push_size _ rfl, rfl, rfl⟩ (q _ _ walk_list fun H2 e => e.sqL hq))
  · obtain ⟨its, rv, pl, _⟩ := I1.tuple hq
    exact wpAny_pyIter_tuple (show s1.heap.IsTuple a its.toArray from pl) (pi_one (tk := s1.toks) I1 _ (turn_tuple a _) ⟨_, Heap.get?_push_size _ rfl, rfl, rfl⟩ (q _ _ walk_tup fun H2 e => e.sqT hq))
theorem pi_seqK {K : PySem.W.Frag} {tg l : Expr} {tl : TE} (e : X.K = K) (hl : PE X l tl) : PI X tg l (iSeq K tl) := by subst e; exact pi_seq hl
def iEnS (K : PySem.W.Frag) (ta : TA) : TI := fun σ H R => ta σ H fun vs H1 => ∃ a xs, vs = [.ref a] ∧ Sq K H1 a xs ∧ ∀ J G, Walk J xs.length G (YPair (fun i => some (.int (i : Nat))) (fun i => xs[i]?)) → (∀ H2, AtS a H1 H2 → G H2) → R J H1
theorem pi_enS {e : Expr} {ta : TA} {p pos tpos : Pos} {elts : List Expr} {kk : Nat} (hg : Gl X "enumerate") (hm : X.mg "enumerate" = none) (ha : PA X [e] ta) (hs : starEach [e] X.env = [(false, eval e X.env)] := by rfl) :
    PI X (.Tuple elts kk tpos) (.Call (.Name "enumerate" p) [e] [] pos) (iEnS X.K ta) := by
  constructor
  intro pins s σ H R I h
  refine Call_ (ld_blt I hg hm boot_enumerate (PyProof.Rows.callWith_type1 (thn (ha.run pos pins s σ H _ I h) fun us s1 ⟨vs, H1, I1, r1, q1⟩ => ?_) hs rfl))
  obtain ⟨a, xs, rfl, hq, q⟩ := q1
  cases r1 with
  | cons r rr =>
    cases rr
    cases r
    have hfp : ∀ b ∈ [s1.heap.objs.size + 1, s1.heap.objs.size], FpOk X pins H1 b := fun b hb => by
      have hle : s1.heap.objs.size ≤ b := by
        rcases (show b = s1.heap.objs.size + 1 ∨ b = s1.heap.objs.size by simpa using hb) with rfl | rfl
        · exact Nat.le_succ _
        · exact Nat.le_refl _
      exact I1.fpOk hle (I1.hok.fresh hle)
    rcases hq with hq | hq
    · obtain ⟨its, rv, hl, _⟩ := I1.list hq
      refine call_enumerate_list hl.isList fun h1 he hj _ hk => wpAny_pyIter_enum he ?_
      exact ⟨_, _, _, _, H1, rfl, I1.kept (t' := s1.toks) hk, turn_enum a (s1.heap.objs.size + 1) s1.heap.objs.size, ⟨⟨.none, he⟩, hj, Nat.succ_ne_self _⟩, hfp, q _ _ walk_enum fun H2 e => e.sqL hq⟩
    · obtain ⟨its, rv, ht, _⟩ := I1.tuple hq
      refine en_make ht fun h1 he hj hk => wpAny_pyIter_enum he ?_
      exact ⟨_, _, _, _, H1, rfl, I1.kept (t' := s1.toks) hk, turn_enT a (s1.heap.objs.size + 1) s1.heap.objs.size, ⟨⟨.none, he⟩, hj, Nat.succ_ne_self _⟩, hfp, q _ _ walk_enT fun H2 e => e.sqT hq⟩
end
end NS
namespace NS
open PySem L2
/-- a statement that is never reached -/
theorem ps_never {X : Cx} {st : Stmt} : PS X st (fun _ _ _ => False) := ⟨fun _ _ _ _ _ _ h => h.elim⟩
/-- a comprehension with two fors: the outer one -/
theorem lc2_out {J : It} {n : Nat} {G : Hp → Prop} {Y : Nat → Hp → V → Hp → Prop} (w : Walk J n G Y) {st : Nat → Hp → V → (Hp → Prop) → Hp → Prop} {H1 : Hp} {D : Addr} {Qd : Hp → Prop} (Pv : Nat → Hp → Prop) (h0 : Pv 0 (upd H1 D (.lst []))) (hG : ∀ i H, i ≤ n → Pv i H → G H)
    (hs : ∀ i x H H', i < n → Pv i H → Y i H x H' → st i H x (Pv (i + 1)) H') (hd : ∀ H, Pv n H → Qd H) :
    ∃ W : Nat → Nat → Hp → Prop, (∃ m, W 0 m (upd H1 D (.lst []))) ∧ ∀ i m H, W i m H → (J.stop i H ∧ Qd H) ∨ (J.go i H ∧ ∃ Nx : Hp → Prop, (∀ H', Nx H' → ∃ m', m' < m ∧ W (i + 1) m' H') ∧ ∀ x H', J.yld i H x H' → st i H x Nx H') := by
  refine ⟨fun i m H => m + i = n ∧ Pv i H, ⟨n, Nat.add_zero n, h0⟩, fun i m H hW => ?_⟩
  obtain ⟨hm, pv⟩ := hW
  by_cases lt : i < n
  · exact .inr ⟨w.goes i H lt (hG i H (Nat.le_of_lt lt) pv), Pv (i + 1), fun H' p' => ⟨m - 1, by omega, by omega, p'⟩, fun x H' y => hs i x H H' lt pv (w.yields i H x H' lt (hG i H (Nat.le_of_lt lt) pv) y)⟩
  · have e : i = n := by omega
    subst e
    exact .inl ⟨w.stops H (hG i H (Nat.le_refl _) pv), hd H pv⟩
theorem lc2_in {J : It} {n : Nat} {G : Hp → Prop} {Y : Nat → Hp → V → Hp → Prop} (w : Walk J n G Y) {st : Nat → Hp → V → (Hp → Prop) → Hp → Prop} {H1 : Hp} {Nx : Hp → Prop} (Pv : Nat → Hp → Prop) (h0 : Pv 0 H1) (hG : ∀ i H, i ≤ n → Pv i H → G H)
    (hs : ∀ i x H H', i < n → Pv i H → Y i H x H' → st i H x (Pv (i + 1)) H') (hd : ∀ H, Pv n H → Nx H) :
    ∃ W : Nat → Nat → Hp → Prop, (∃ m, W 0 m H1) ∧ ∀ i m H, W i m H → (J.stop i H ∧ Nx H) ∨ (J.go i H ∧ ∃ N : Hp → Prop, (∀ H', N H' → ∃ m', m' < m ∧ W (i + 1) m' H') ∧ ∀ x H', J.yld i H x H' → st i H x N H') := by
  refine ⟨fun i m H => m + i = n ∧ Pv i H, ⟨n, Nat.add_zero n, h0⟩, fun i m H hW => ?_⟩
  obtain ⟨hm, pv⟩ := hW
  by_cases lt : i < n
  · exact .inr ⟨w.goes i H lt (hG i H (Nat.le_of_lt lt) pv), Pv (i + 1), fun H' p' => ⟨m - 1, by omega, by omega, p'⟩, fun x H' y => hs i x H H' lt pv (w.yields i H x H' lt (hG i H (Nat.le_of_lt lt) pv) y)⟩
  · have e : i = n := by omega
    subst e
    exact .inl ⟨w.stops H (hG i H (Nat.le_refl _) pv), hd H pv⟩
end NS

/-! ### the real order agrees -/
namespace NS
open PySem L2
structure FillF (n : Nat) (sh : List (Option Int)) (qs : List Int) : Prop where
  free : ∀ i : Nat, i < n → (sh[i]? = some none ↔ (i : Int) ∉ qs)
  cell : ∀ z ∈ qs, ∃ c : Nat, z = (c : Int) ∧ c < n
  nd : qs.Nodup
  ord : ∀ (j c : Nat) (h : Int) (x : Nat), qs[j]? = some (c : Int) → sh[c]? = some (some h) → x < n → near h (c : Int) (x : Int) = true → (x : Int) ∈ qs.take j
theorem Fill.facts {n : Nat} {hs : List Int} {sh : List (Option Int)} {qs : List Int} (f : Fill n hs sh qs) : FillF n sh qs := by
  induction f with
  | nil =>
    refine ⟨fun i hi => ⟨(fun _ h => nomatch h), fun _ => ?_⟩, (fun z h => nomatch h), List.nodup_nil, fun j c h x hj => ?_⟩
    · rw [List.getElem?_replicate, if_pos hi]
    · simp at hj
  | @snoc hs sh qs h c fl sp ih =>
    have hlen := fl.len
    have cfree : (c : Int) ∉ qs := (ih.free c sp.lt).mp sp.free
    refine ⟨fun i hi => ?_, fun z hz => ?_, ?_, fun j c' h' x hj hs' hx hn => ?_⟩
    · by_cases e : i = c
      · subst e
        have hcn := sp.lt
        rw [List.getElem?_set_self (by omega)]
        constructor
        · intro q
          cases q
        · intro q
          exact absurd (List.mem_append_right _ (List.mem_singleton.mpr rfl)) q
      · rw [List.getElem?_set_ne (Ne.symm e), ih.free i hi, List.mem_append, List.mem_singleton]
        constructor
        · rintro a (b | b)
          · exact a b
          · omega
        · exact fun a b => a (.inl b)
    · rcases List.mem_append.mp hz with hz | hz
      · exact ih.cell z hz
      · exact ⟨c, List.mem_singleton.mp hz, sp.lt⟩
    · rw [List.nodup_append]
      refine ⟨ih.nd, List.nodup_cons.mpr ⟨(fun q => nomatch q), List.nodup_nil⟩, fun a ha b hb => ?_⟩
      rw [List.mem_singleton.mp hb]
      exact fun e => cfree (by rw [← e]; exact ha)
    · by_cases hlt : j < qs.length
      · rw [List.getElem?_append_left hlt] at hj
        have ne : c ≠ c' := fun e => cfree (by rw [e]; exact List.mem_of_getElem? hj)
        rw [List.getElem?_set_ne ne] at hs'
        rw [List.take_append_of_le_length (Nat.le_of_lt hlt)]
        exact ih.ord j c' h' x hj hs' hx hn
      · have hj2 : j = qs.length := by
          have := (List.getElem?_eq_some_iff.mp hj).1
          rw [List.length_append] at this
          simp at this
          omega
        subst hj2
        rw [List.getElem?_append_right (Nat.le_refl _), Nat.sub_self] at hj
        have ec : c = c' := by
          have := Option.some.inj hj
          omega
        subst ec
        have hcn := sp.lt
        rw [List.getElem?_set_self (by omega)] at hs'
        have eh : h = h' := Option.some.inj (Option.some.inj hs')
        subst eh
        rw [List.take_left]
        by_cases hin : (x : Int) ∈ qs
        · exact hin
        · have := sp.best x hx ((ih.free x hx).mpr hin)
          rw [this] at hn
          cases hn
structure CaseF (ys : List V) (qs : List Int) : Prop where
  mem : ∀ z : Int, z ∈ qs ↔ z ∈ fullL ys
  nd : qs.Nodup
  ag : agreesL ys qs = true
theorem case_facts {n : Nat} {hs : List Int} {sh : List (Option Int)} {qs : List Int} {ys : List V} (f : Fill n hs sh qs) (v : Veil (sh.map oV) ys) : CaseF ys qs := by
  have F := f.facts
  have hyl : ys.length = n := by
    rw [v.len, List.length_map, f.len]
  have ent : ∀ i : Nat, i < n → (ys[i]? = (sh.map oV)[i]? ∨ ys[i]? = some (.str "?") ∧ ∃ u, (sh.map oV)[i]? = some u ∧ u ≠ .non) := fun i _ => v.at_ i
  have shg : ∀ i : Nat, i < n → ∃ o, sh[i]? = some o := fun i hi => ⟨_, List.getElem?_eq_getElem (by rw [f.len]; exact hi)⟩
  have full : ∀ i : Nat, i < n → (isN (ys.getD i .non) = false ↔ (i : Int) ∈ qs) := fun i hi => by
    obtain ⟨o, ho⟩ := shg i hi
    have hm : (sh.map oV)[i]? = some (oV o) := by rw [List.getElem?_map, ho]; rfl
    have fr := F.free i hi
    rw [ho] at fr
    cases o with
    | none =>
      have nq : (i : Int) ∉ qs := fr.mp rfl
      rcases ent i hi with e | ⟨_, u, e, ne⟩
      · rw [List.getD_eq_getElem?_getD, e, hm]
        exact ⟨(fun q => nomatch q), fun q => absurd q nq⟩
      · rw [hm] at e
        exact absurd (Option.some.inj e).symm ne
    | some z =>
      have iq : (i : Int) ∈ qs := by
        by_cases q : (i : Int) ∈ qs
        · exact q
        · have := fr.mpr q
          cases this
      rcases ent i hi with e | ⟨e, _⟩
      · rw [List.getD_eq_getElem?_getD, e, hm]
        exact ⟨fun _ => iq, fun _ => rfl⟩
      · rw [List.getD_eq_getElem?_getD, e]
        exact ⟨fun _ => iq, fun _ => rfl⟩
  refine ⟨fun z => ?_, F.nd, ?_⟩
  · rw [fullL_mem]
    constructor
    · intro hz
      obtain ⟨c, rfl, hc⟩ := F.cell z hz
      exact ⟨c, rfl, by omega, (full c hc).mpr hz⟩
    · rintro ⟨i, rfl, hi, hn⟩
      exact (full i (by omega)).mp hn
  · show ((List.range qs.length).map (agB ys qs)).all id = true
    rw [List.all_map, List.all_eq_true]
    intro j hj
    have hj' : j < qs.length := List.mem_range.mp hj
    obtain ⟨c, ec, hc⟩ := F.cell qs[j] (List.getElem_mem hj')
    have gj : qs[j]? = some (c : Int) := by rw [List.getElem?_eq_getElem hj', ec]
    have gd : qs.getD j 0 = (c : Int) := by rw [List.getD_eq_getElem?_getD, gj]; rfl
    show agB ys qs j = true
    unfold agB
    rw [gd, List.all_eq_true]
    intro e he
    refine decide_eq_true ?_
    unfold wantL at he
    rw [Int.toNat_natCast, hyl] at he
    cases hv : ys.getD c .non with
    | int w =>
      rw [hv] at he
      obtain ⟨x, rfl, hx⟩ := needsL_lt he
      have hn : near w (c : Int) (x : Int) = true := (List.mem_filter.mp he).2
      obtain ⟨o, ho⟩ := shg c hc
      have hm : (sh.map oV)[c]? = some (oV o) := by rw [List.getElem?_map, ho]; rfl
      have eo : o = some w := by
        rcases ent c hc with e | ⟨e, _⟩
        · rw [List.getD_eq_getElem?_getD, e, hm] at hv
          cases o with
          | none => cases hv
          | some z => cases hv; rfl
        · rw [List.getD_eq_getElem?_getD, e] at hv
          cases hv
      subst eo
      exact F.ord j c w x gj ho hx hn
    | _ =>
      rw [hv] at he
      cases he
end NS

/-! ### slices and sums of tuples, by data -/
namespace NS
open PySem L2
def cutL {α : Type} (xs : List α) (lo hi : Option Int) : List α := (xs.drop (HT.sIx xs.length 0 lo)).take (HT.sIx xs.length xs.length hi - HT.sIx xs.length 0 lo)
theorem cutL_sub {α : Type} {xs : List α} {lo hi : Option Int} {x : α} (h : x ∈ cutL xs lo hi) : x ∈ xs := List.mem_of_mem_drop (List.mem_of_mem_take h)
theorem cutL_len {α : Type} (xs : List α) (lo hi : Option Int) : (cutL xs lo hi).length ≤ xs.length := by
  unfold cutL
  rw [List.length_take, List.length_drop]
  omega
section
variable {K : PySem.W.Frag} {S : List Addr} {σ : L2.St} {H : Hp} {te ta tb : TE} {ds es : List PyData} {tl th : TO} {lo hi : Option Int}
def EvO (p : Option Int) (t : TO) (σ : L2.St) (H : Hp) : Prop := ∀ H1, Same H H1 → ∀ Q, Q p H1 → t σ H1 Q
theorem eo_none : EvO none tNoPart σ H := fun _ _ _ q => q
theorem eo_int {i : Int} : EvO (some i) (tPart (tC (.int i))) σ H := fun _ _ _ q => ⟨i, rfl, q⟩
theorem eo_var {j : Nat} {i : Int} (h : σ[j]? = some (some (.int i))) : EvO (some i) (tPart (tVar j)) σ H := fun _ _ _ q => ⟨_, h, i, rfl, q⟩
theorem eo_add {j : Nat} {i k : Int} (h : σ[j]? = some (some (.int i))) : EvO (some (i + k)) (tPart (tOp (rI0 fun i j => V.int (i + j)) (tVar j) (tC (.int k)))) σ H := fun _ _ _ q => ⟨_, h, _, _, rfl, rfl, _, rfl, q⟩
theorem ee_slA (hs : HasA H S) (h : EvE K S (.tuple ds) te σ H) (hl : EvO lo tl σ H) (hu : EvO hi th σ H) : EvE K S (.tuple (cutL ds lo hi)) (tSl (rSlA K) te tl th) σ H := fun H1 e Q q =>
  h H1 e _ fun v H2 e2 hv => hl H2 (e.trans e2) _ (hu H2 (e.trans e2) _ (by
    cases hv with
    | @tup a xs _ h1 h2 =>
      have hn := dpAll_len h2
      refine ⟨a, xs, rfl, Same.tup same_hid h1, fun c => ?_, fun c p hp => ?_⟩
      · have ec : cutL ds lo hi = ds := by
          unfold cutL
          rw [← hn, c.1, c.2, List.drop_zero, Nat.sub_zero, hn, List.take_length]
        exact q _ H2 e2 (by rw [ec]; exact .tup h1 h2)
      · have np := has_ne (hasA_same hs (e.trans e2)) hp
        refine q _ _ (e2.trans (same_upd hp)) (.tup (sqT_hid np upd_same) (dp_sameA (hid_mono (same_upd hp)) ?_))
        unfold cutV cutL
        rw [hn]
        exact dpAll_take _ (dpAll_drop _ h2)))
theorem ee_catA (hs : HasA H S) (ha : EvE K S (.tuple ds) ta σ H) (hb : EvE K S (.tuple es) tb σ H) (hz : ds.length + es.length ≤ 1000) : EvE K S (.tuple (ds ++ es)) (tOp (rCatA K) ta tb) σ H := fun H1 e Q q =>
  ha H1 e _ fun v H2 e2 hv => hb H2 (e.trans e2) _ fun u H3 e3 hu => by
    cases hv with
    | @tup a xs _ h1 h2 =>
      cases hu with
      | @tup b ys _ h3 h4 =>
        have hn := dpAll_len h2
        have hm := dpAll_len h4
        have h1' := Same.tup (hid_mono e3) h1
        have h2' := dp_sameA (hid_mono e3) h2
        refine ⟨a, b, xs, ys, rfl, rfl, Same.tup same_hid h1', Same.tup same_hid h3, small (by omega), fun c => ?_, fun _ c => ?_, fun _ _ p hp => ?_⟩
        · subst c
          have ed : ds = [] := List.eq_nil_of_length_eq_zero (by rw [← hn]; rfl)
          subst ed
          exact q _ _ (e2.trans e3) (.tup h3 h4)
        · subst c
          have ed : es = [] := List.eq_nil_of_length_eq_zero (by rw [← hm]; rfl)
          subst ed
          exact q _ _ (e2.trans e3) (by rw [List.append_nil]; exact .tup h1' h2')
        · have np := has_ne (hasA_same hs ((e.trans e2).trans e3)) hp
          exact q _ _ ((e2.trans e3).trans (same_upd hp)) (.tup (sqT_hid np upd_same) (dp_sameA (hid_mono (same_upd hp)) (dpAll_app h2' h4)))
theorem ee_revT (hs : HasA H S) (h : EvE K S (.tuple ds) te σ H) : EvE K S (.tuple ds.reverse) (tRevT K te) σ H := fun H1 e Q q =>
  h H1 e _ fun v H2 e2 hv => by
    cases hv with
    | @tup a xs _ h1 h2 =>
      refine ⟨a, xs, rfl, Same.tup same_hid h1, fun p hp => ?_⟩
      have np := has_ne (hasA_same hs (e.trans e2)) hp
      exact q _ _ (e2.trans (same_upd hp)) (.tup (sqT_hid np upd_same) (dp_sameA (hid_mono (same_upd hp)) (dpAll_rev h2)))
/-- list(t) of a tuple -/
theorem ee_lstOf (hs : HasA H S) (h : EvE K S (.tuple ds) te σ H) : EvE K S (.list ds) (tCB (fun xs H Q => ∃ p ys, xs = [V.ref p] ∧ (SqL K H p ys ∨ SqT K H p ys) ∧ ∀ (l : Addr), H l = none → Q (V.ref l) (upd H l (HO.lst ys))) (tCons te tNil)) σ H := fun H1 e Q q =>
  h H1 e _ fun v H2 e2 hv => by
    cases hv with
    | @tup a xs _ h1 h2 =>
      refine ⟨a, xs, rfl, .inr (Same.tup same_hid h1), fun p hp => ?_⟩
      have np := has_ne (hasA_same hs (e.trans e2)) hp
      exact q _ _ (e2.trans (same_upd hp)) (.lst (sqL_hid np upd_same) (dp_sameA (hid_mono (same_upd hp)) h2))
/-- small ints in a row -/
theorem sm_row {ds : List PyData} (h : ∀ x ∈ ds, Sm 0 4 8 x) (hl : ds.length ≤ 10) : Sm 2 60 10 (.tuple ds) ∧ Sm 2 60 10 (.list ds) := by
  have hw : wS ds ≤ 50 := by
    have : ∀ es : List PyData, (∀ x ∈ es, Sm 0 4 8 x) → wS es ≤ 5 * es.length := fun es => by
      induction es with
      | nil => intro _; exact Nat.le_refl _
      | cons z zs ih =>
        intro hz
        rw [wS_cons, List.length_cons]
        have h1 := (hz z (List.mem_cons_self ..)).wt
        have h2 := ih fun y hy => hz y (List.mem_cons_of_mem _ hy)
        omega
    have := this ds h
    omega
  have hi : ∀ x ∈ ds, Itm 1 10 x := fun x hx => (h x hx).itm.mono (by decide) (by decide)
  exact ⟨⟨itm_tuple.mpr ⟨hl, hi⟩, by rw [wt_tuple]; omega⟩, ⟨itm_list.mpr ⟨hl, hi⟩, by rw [wt_list]; omega⟩⟩
theorem sm_cell {z : Int} (h0 : 0 ≤ z) (h1 : z ≤ 8) : Sm 0 4 8 (.int z) := by
  have h8 : ∀ j : Fin 9, smB 0 4 8 (.int ((j : Nat) : Int)) = true := by decide +kernel
  have e : z = (((⟨z.toNat, by omega⟩ : Fin 9) : Nat) : Int) := by
    show z = (z.toNat : Int)
    omega
  rw [e]
  exact sm_of (h8 _)
theorem sm_bl (b : Bool) : Sm 0 4 8 (.bool b) := by cases b <;> exact sm_of (by decide +kernel)
end
/-- a list of values that grows at L, while draws are made at s -/
structure VI (K : PySem.W.Frag) (s L : Addr) (H0 H5 H' : Hp) (xs : List V) (es : List PyData) (k : Nat) : Prop where
  st : Stay s H0 H'
  kp : ∀ b o, b ≠ s → b ≠ L → H5 b = some o → H' b = some o
  sr : Src H' s k
  gL : H' L = some (.lst xs)
  dp : DpAll K (Hid [L, s] H') xs es
theorem VI.has {K : PySem.W.Frag} {s L : Addr} {H0 H5 H' : Hp} {xs : List V} {es : List PyData} {k : Nat} (h : VI K s L H0 H5 H' xs es k) : HasA H' [L, s] := fun b hb => by
  rcases List.mem_cons.mp hb with rfl | hb
  · exact ⟨_, h.gL⟩
  · rw [List.mem_singleton.mp hb]
    exact src_has h.sr
theorem VI.len {K : PySem.W.Frag} {s L : Addr} {H0 H5 H' : Hp} {xs : List V} {es : List PyData} {k : Nat} (h : VI K s L H0 H5 H' xs es k) : xs.length = es.length := dpAll_len h.dp
theorem VI.app {K : PySem.W.Frag} {s L : Addr} {H0 H5 Ha Hb : Hp} {xs : List V} {es : List PyData} {k kb : Nat} {v : V} {d : PyData} (h : VI K s L H0 H5 Ha xs es k) (nL : H0 L = none) (ne : L ≠ s) (st : Stay s Ha Hb) (sr : Src Hb s kb) (hd : Dp K (Hid [L, s] Hb) v d) :
    VI K s L H0 H5 (upd Hb L (.lst (xs ++ [v]))) (xs ++ [v]) (es ++ [d]) kb := by
  refine ⟨(h.st.trans st).mut nL, fun b o nb nbL hb => ?_, sr.elim fun o z => ⟨o, by rw [upd_ne ne.symm]; exact z.1, z.2⟩, upd_same, ?_⟩
  · rw [upd_ne nbL]
    exact st _ _ nb (h.kp b o nb nbL hb)
  · rw [hid_upd (List.mem_cons_self ..)]
    exact dpAll_app (dp_sameA (hid_stay (List.mem_cons_of_mem _ (List.mem_singleton.mpr rfl)) st) h.dp) (.cons hd .nil)
theorem VI.step {K : PySem.W.Frag} {s L : Addr} {H0 H5 Ha Hb : Hp} {xs : List V} {es : List PyData} {k kb : Nat} (h : VI K s L H0 H5 Ha xs es k) (ne : L ≠ s) (st : Stay s Ha Hb) (sr : Src Hb s kb) : VI K s L H0 H5 Hb xs es kb :=
  ⟨h.st.trans st, fun b o nb nL hb => st _ _ nb (h.kp b o nb nL hb), sr, st _ _ ne h.gL, dp_sameA (hid_stay (List.mem_cons_of_mem _ (List.mem_singleton.mpr rfl)) st) h.dp⟩
theorem cut3_len {α : Type} (ds : List α) (a : Nat) (h : a ≤ ds.length) : (cutL ds none (some (a : Int))).length + (cutL ds (some (a : Int)) (some ((a : Int) + 2))).length + (cutL ds (some ((a : Int) + 2)) none).length ≤ ds.length := by
  have e : ((a : Int) + 2) = ((a + 2 : Nat) : Int) := by omega
  unfold cutL
  simp only [e, HT.sIx_nat]
  show ((ds.drop 0).take (min a ds.length - 0)).length + _ + ((ds.drop (min (a + 2) ds.length)).take (ds.length - min (a + 2) ds.length)).length ≤ _
  rw [List.length_take, List.length_take, List.length_take, List.length_drop, List.length_drop, List.length_drop]
  omega
theorem if_thenS {c : TT} {a b : TS} {D : Ends} {σ : L2.St} {H : Hp} (R : L2.St → Hp → Prop) (k : ∀ σ' H', R σ' H' → D.nx σ' H') (h : ∀ D' : Ends, (∀ σ' H', R σ' H' → D'.nx σ' H') → tIfS c a b D' σ H) : tIfS c a b D σ H := h D k
end NS

/-! ### rows of ints -/
namespace NS
open PySem L2
theorem ints_inv {K : PySem.W.Frag} {H : Hp} : ∀ {ns : List Int} {xs : List V}, DpAll K H xs (ns.map PyData.int) → xs = ns.map V.int
  | [], _, h => by
    cases h
    rfl
  | n :: ns, _, h => by
    cases h with
    | cons a b =>
      cases a
      rw [ints_inv b]
      rfl
end NS

/-! ### rows of rows of ints in the heap -/
namespace NS
open PySem L2
section
variable {K : PySem.W.Frag}
theorem sqT_updL {H : Hp} {L a : Addr} {zs xs : List V} {o : HO} (hL : H L = some (.lst zs)) (h : SqT K H a xs) : SqT K (upd H L o) a xs := by
  rcases h with (h | ⟨o', h⟩) | h
  · exact .inl (.inl (by rw [upd_ne (fun e => by rw [e, hL] at h; cases h)]; exact h))
  · exact .inl (.inr ⟨o', by rw [upd_ne (fun e => by rw [e, hL] at h; cases h)]; exact h⟩)
  · exact .inr h
/-- a row of orders does not change with a list -/
theorem ords_upd {H : Hp} {L : Addr} {zs : List V} {o : HO} (hL : H L = some (.lst zs)) : ∀ {vs : List V} {os : List (List Int)}, DpAll K H vs (os.map dT) → DpAll K (upd H L o) vs (os.map dT)
  | _, [], .nil => .nil
  | _, q :: os, .cons h r => by
    refine .cons ?_ (ords_upd hL r)
    cases h with
    | @tup a xs _ h1 h2 =>
      obtain rfl := ints_inv h2
      exact dp_T (sqT_updL hL h1)
theorem ord_at {H : Hp} {v : V} {o : List Int} (h : Dp K H v (dT o)) : ∃ a, v = .ref a ∧ SqT K H a (o.map V.int) := by
  cases h with
  | @tup a xs _ h1 h2 =>
    obtain rfl := ints_inv h2
    exact ⟨a, rfl, h1⟩
theorem paired_imp {α β : Type} {F G : α → β → Prop} (h : ∀ a b, F a b → G a b) : ∀ {l₁ : List α} {l₂ : List β}, Paired F l₁ l₂ → Paired G l₁ l₂
  | _, _, .nil => .nil
  | _, _, .cons a r => .cons (h _ _ a) (paired_imp h r)
theorem merge_get {Pk : Key → V → Prop} {k : Key} : ∀ (kvs acc : List (Key × V)), (∀ kv ∈ kvs, Pk kv.1 kv.2) → (k ∈ kvs.map Prod.fst ∨ ∃ v, valV acc k = some v ∧ Pk k v) → ∃ v, valV (mergeK acc kvs) k = some v ∧ Pk k v
  | [], acc, _, h => by
    rcases h with h | h
    · cases h
    · exact h
  | kv :: r, acc, hp, h => by
    show ∃ v, valV (mergeK (putK acc kv.1 kv.2) r) k = some v ∧ Pk k v
    refine merge_get r _ (fun x hx => hp x (List.mem_cons_of_mem _ hx)) ?_
    by_cases hk : k ∈ r.map Prod.fst
    · exact .inl hk
    · refine .inr ?_
      rw [valV_put]
      by_cases e : k = kv.1
      · rw [if_pos e]
        exact ⟨kv.2, rfl, by rw [e]; exact hp kv (List.mem_cons_self ..)⟩
      · rw [if_neg e]
        rcases h with h | h
        · rw [List.map_cons] at h
          rcases List.mem_cons.mp h with h | h
          · exact absurd h e
          · exact absurd h hk
        · exact h
theorem line_ok {n : Nat} (h : n ≤ 1000000) : n < sizeLine := Nat.lt_of_le_of_lt h (by decide)
theorem cat_one {H : Hp} {b t : Addr} {so : List Int} {c : Int} {Q : VK} (hb : SqT K H b (so.map V.int)) (ht : H t = some (.tup [.int c])) (hz : so.length ≤ 1000)
    (q : ∀ p H', Same H H' → SqT K H' p ((so ++ [c]).map V.int) → Q (.ref p) H') : rCatA K (.ref b) (.ref t) H Q := by
  refine ⟨b, t, _, [.int c], rfl, rfl, hb, sqT ht, ?_, fun e0 => ?_, (fun _ e0 => nomatch e0), fun _ _ p hp => ?_⟩
  · rw [List.length_map]
    exact Nat.le_of_lt (line_ok (by simp; omega))
  · refine q t H (Same.refl _) ?_
    rw [List.map_append, e0]
    exact sqT ht
  · refine q p _ (same_upd hp) ?_
    rw [List.map_append]
    exact sqT upd_same
theorem fil_step {l : List Int} {p : Int → Bool} {i : Nat} {c : Int} (g : l[i]? = some c) : ((l.take (i + 1)).filter p).map V.int = ((l.take i).filter p).map V.int ++ (if p c = true then [V.int c] else []) := by
  rw [List.take_succ, g, List.filter_append, List.map_append]
  congr 1
  simp only [Option.toList_some]
  cases h : p c
  · rw [List.filter_cons_of_neg (by rw [h]; decide)]
    rfl
  · rw [List.filter_cons_of_pos h]
    rfl
theorem fil_small {l : List Int} {p : Int → Bool} {i : Nat} (h : l.length ≤ 1000) : (((l.take i).filter p).map V.int).length < sizeLine := by
  rw [List.length_map]
  refine small1000 (Nat.le_trans (List.length_filter_le _ _) ?_)
  rw [List.length_take]
  omega
theorem slA_take {H : Hp} {b : Addr} {qs : List Int} {k : Nat} {Q : VK} (hb : SqT K H b (qs.map V.int)) (hk : k ≤ qs.length) (q : ∀ p H', Same H H' → SqT K H' p ((qs.take k).map V.int) → Q (.ref p) H') : rSlA K (.ref b) none (some (k : Int)) H Q := by
  refine ⟨b, _, rfl, hb, fun c => ?_, fun _ p hp => ?_⟩
  · have h1 := c.2
    rw [List.length_map, sIx_le hk] at h1
    refine q b H (Same.refl _) ?_
    rw [h1, List.take_length]
    exact hb
  · refine q p _ (same_upd hp) ?_
    rw [cut_to (by rw [List.length_map]; exact hk), ← List.map_take]
    exact sqT upd_same
theorem eqvA_i : ∀ a b : List Int, PyData.eqvAll (a.map PyData.int) (b.map PyData.int) = decide (a = b)
  | [], [] => by rw [List.map_nil, PyData.eqvAll]; rfl
  | [], _ :: _ => by rw [List.map_nil, List.map_cons, PyData.eqvAll]; rfl
  | _ :: _, [] => by rw [List.map_nil, List.map_cons, PyData.eqvAll]; rfl
  | x :: a, y :: b => by
    rw [List.map_cons, List.map_cons, PyData.eqvAll, PyData.eqv, eqvA_i a b, Bool.eq_iff_iff]
    simp
theorem eqv_T (a b : List Int) : PyData.eqv (dT a) (dT b) = decide (a = b) := by
  unfold dT
  rw [PyData.eqv]
  exact eqvA_i a b
end
end NS

/-! ### lambdas with parameters: made, called, as the key of min -/
namespace NS
open PySem PySem.Spec PyProof.Rows L2 LamX NdefX
/-- the object at f is the lambda F with the body b -/
def LamO (f : Addr) (F : NF) (b : Expr) : HO := .ext fun h => ∃ (od : Option Addr) (sl : Array (Option Value)) (pm ctv : Value), h.get? f = some (⟨.type "function", od, .func (PySem.W.kla_fn F.name F.qual F.params b F.scope F.cl pm (.ref F.c) ctv), sl⟩ : Obj)
theorem lamO_ne {f : Addr} {F : NF} {b : Expr} (ps : Array Value) : LamO f F b ≠ .tbl ps := fun z => by
  unfold LamO at z
  cases z
theorem lamO_at {P : Program} {w : World} {H : Hp} {h : Heap} {f : Addr} {F : NF} {b : Expr} (hok : HOk P w H h) (e : H f = some (LamO f F b)) : ∃ (od : Option Addr) (sl : Array (Option Value)) (pm ctv : Value), h.get? f = some (⟨.type "function", od, .func (PySem.W.kla_fn F.name F.qual F.params b F.scope F.cl pm (.ref F.c) ctv), sl⟩ : Obj) := (hok f _ e).1
/-- a call of a lambda: its body, run in a frame of its own -/
theorem lam_run {CX : CXT} {P : Program} {w : World} {K : PySem.W.Frag} {mg : Str → Option Value} {base : Heap} {N ps fr : List Str} {F : NF} {b : Expr} {f : Addr} {k : Nat} {A : Around} {outer : List Env} {s : Shared} {H : Hp} {us : List Value} {vs : List V} {ws : List (Option V)} {Q : VK} {E : XK}
    (S : NScope N ps fr F.scope) (bnd : ∀ (pm ctv : Value) (us : List Value), us.length = ps.length → bindArgs (PySem.W.kla_fn F.name F.qual F.params b F.scope F.cl pm (.ref F.c) ctv) ⟨us, []⟩ = pure (ps.zip us)) (lens : vs.length = ps.length)
    (room : Room (k + 1) A) (en : Env0 P w K mg base A outer s H) (isL : H f = some (LamO f F b)) (isC : H F.c = some (CodeO F.c F.qual)) (C : CellsAt F.cl fr ws s.heap H) (r : Vals vs us)
    (body : Room k (A.deeper (envF F f s.heap.objs.size)) → ∃ t, PE (ncx CX P w K mg base N F f A outer s H E) b t ∧ t (startF N vs ws) H Q) :
    codeAny (model P w) A (.call (.ref f) ⟨us, []⟩) (CR CX outer P w H s Q E) s := by
  have lim : s.heap.NoLimit := en.mod.nolimit.keeps fun c o z => (en.bs c o z).1
  obtain ⟨od, sl, pm, ctv, ho⟩ := lamO_at en.hok isL
  refine PySem.W.kla_callFunE room.depth ho rfl S.co S.gen rfl (codeO_at en.hok isC) ?_
  rw [bnd pm ctv us (r.length.symm.trans lens)]
  refine wpAny_pure (wpAny_newFunctionEnv S.nocell (fun y hy => S.par y.1 (List.of_mem_zip hy).1) (fun h₁ hns hsb => ⟨lim.fresh _ hsb, ?_⟩) S.kind)
  have stays : ∀ c o, s.heap.get? c = some o → h₁.get? c = some o := fun c o z => hsb.extBut c o (Nat.ne_of_lt (Heap.lt_size z)) (Heap.get?_push_of_some _ z)
  obtain ⟨t, der, rd⟩ := body (room.deeper _)
  have J : Inv (ncx CX P w K mg base N F f A outer s H E) [] (startF N vs ws) H { s with heap := h₁, toks := s.toks + (ps.zip us).length } := inv_startN S room.hd en lens r C hns stays
  show codeAny _ _ (.expr b (envF F f s.heap.objs.size)) _ _
  refine PySem.W.kla_codeExpr (wpAny_mono (der.run [] _ (startF N vs ws) H Q J rd) (fun v s' out => ?_) fun ex s' out => out)
  obtain ⟨v', H', J', rv, q⟩ := out
  exact ⟨v', H', J'.os, J'.bare, J'.base, J'.hok, rv, q⟩
/-- the tables of the code objects that make lambdas: nm tells a place's name -/
def TabsOk (Ps : List Addr) (nm : Nat → Nat → Str) (H : Hp) : Prop := ∀ P ∈ Ps, TabN H P nm
theorem TabsOk.ext {Ps : List Addr} {nm : Nat → Nat → Str} {H H' : Hp} (t : TabsOk Ps nm H) (e : Same H H') : TabsOk Ps nm H' := fun P hP => (t P hP).ext e
section
variable {X : Cx} {pins : List (Addr × Obj)} {σ : L2.St} {H : Hp} {s : Shared}
theorem inv_lam {F : NF} {b : Expr} {o : Obj} {t' : Nat} {pm ctv : Value} (I : L2.Inv X pins σ H s) (ho : o = { cls := .type "function", data := .func (PySem.W.kla_fn F.name F.qual F.params b F.scope F.cl pm (.ref F.c) ctv) }) :
    L2.Inv X pins σ (upd H s.heap.objs.size (LamO s.heap.objs.size F b)) { s with heap := s.heap.push o, toks := t' } := by
  subst ho
  refine I.laid (a := s.heap.objs.size) (fun c u z => Heap.get?_push_of_some _ z) (Nat.le_refl _) ?_
  have z : (s.heap.push ({ cls := .type "function", data := .func (PySem.W.kla_fn F.name F.qual F.params b F.scope F.cl pm (.ref F.c) ctv) } : Obj)).get? s.heap.objs.size = some ({ cls := .type "function", data := .func (PySem.W.kla_fn F.name F.qual F.params b F.scope F.cl pm (.ref F.c) ctv) } : Obj) := Heap.get?_push_size _ rfl
  exact ⟨⟨_, _, pm, ctv, z⟩, ⟨_, z⟩, fun h1 h2 ⟨od, sl, p, t, z⟩ st => ⟨od, sl, p, t, st _ z⟩⟩
/-- a lambda is made -/
theorem lam_made {Ps : List Addr} {nm : Nat → Nat → Str} {c P : Addr} {params : Arguments} {b : Expr} {scope : Scope} {pos : Pos} {E : Value → Shared → Prop} {Q : Value → Shared → Prop} (I : L2.Inv X pins σ H s) (TB : TabB X.base X.mg c P) (hcode : X.env.code = .ref c)
    (hm : P ∈ Ps) (hn : nm pos.line pos.col = X.env.qual ++ "<lambda>") (hT : TabsOk Ps nm H) (hdef : defaultsOf params X.env = ([], [])) (hfree : ∀ y ∈ scope.names, y.2 = .free → ∃ c, X.env.cells.lookup y.1 = some c)
    (h : ∀ (f c' : Addr) (H1 : Hp) (s' : Shared), L2.Inv X pins σ H1 s' → ExtN H H1 → TabsOk Ps nm H1 → H f = none → H1 f = some (LamO f ⟨"<lambda>", X.env.qual ++ "<lambda>", params, [], scope, cloFrom X.env.cells scope.names [], c'⟩ b) → H1 c' = some (CodeO c' (X.env.qual ++ "<lambda>")) → Q (.ref f) s') :
    wpAny (model X.prog X.w) X.A (eval (.Lambda params b scope pos) X.env) Q E s := by
  refine PySem.W.kla_eval hdef ?_
  obtain ⟨ps, atP, triples, among⟩ := hT P hm
  have bP : s.heap.BuiltinsAt X.mg P := TB.bm.keeps I.bk
  have objP : s.heap.get? P = some { cls := .none, data := .fields ps } := I.hok P _ atP
  cases hc : codeAmong pos ps.toList with
  | none =>
    refine PySem.W.kla_makeFunction (mg := X.mg) (c := c) (P := P) (ps := ps) (closure_ok hfree) I.ok.glob (I.mod.glob.keeps I.bk) hcode (TB.code.keeps I.bk) objP triples hc TB.gP bP fun c' ctv h' tk hx hge hlt hrec htb => ?_
    obtain ⟨c2, oc, vs, t, e2, hoc, hd, hv⟩ := hrec
    cases e2
    have freeC : H c' = none := I.hok.fresh hge
    have J1 := inv_table (t' := tk) (more := #[rawInt pos.line, rawInt pos.col, .ref c']) (h' := h') I atP (fun b o hb e => hx b o hb e) htb hge ⟨oc, vs, t, hoc, hd, hv⟩
    have gr : ExtN H (upd (upd H P (.tbl (ps ++ #[rawInt pos.line, rawInt pos.col, .ref c']))) c' (CodeO c' (X.env.qual ++ "<lambda>"))) := fun a o z nt => by
      have ne : a ≠ P := fun y => by
        subst y
        exact nt ps (Option.some.inj (z.symm.trans atP))
      rw [upd_ne (ne_of_none z freeC), upd_ne ne]
      exact z
    have asL : (ps ++ #[rawInt pos.line, rawInt pos.col, .ref c']).toList = ps.toList ++ [rawInt pos.line, rawInt pos.col, .ref c'] := by simp
    have T1 : TabsOk Ps nm (upd (upd H P (.tbl (ps ++ #[rawInt pos.line, rawInt pos.col, .ref c']))) c' (CodeO c' (X.env.qual ++ "<lambda>"))) := fun p hp => by
      by_cases isP : p = P
      · subst isP
        refine ⟨_, by rw [upd_ne (ne_of_none atP freeC), upd_same], by rw [asL]; exact PySem.TriplesOk_snoc _ _ _ _ triples, fun p' cv hcv => ?_⟩
        rw [asL] at hcv
        rcases among_app2 _ triples hcv with z | ⟨z, z1, z2⟩
        · obtain ⟨c0, a1, a2⟩ := among p' cv z
          exact ⟨c0, a1, gr _ _ a2 codeO_ne⟩
        · exact ⟨c', z, by rw [← z1, ← z2, hn]; exact upd_same⟩
      · obtain ⟨qs, a1, a2, a3⟩ := hT p hp
        refine ⟨qs, by rw [upd_ne (ne_of_none a1 freeC), upd_ne isP]; exact a1, a2, fun p' cv hcv => ?_⟩
        obtain ⟨c0, b1, b2⟩ := a3 p' cv hcv
        exact ⟨c0, b1, gr _ _ b2 codeO_ne⟩
    have freeF := J1.hok.fresh (Nat.le_refl _)
    have J2 := inv_lam (F := ⟨"<lambda>", X.env.qual ++ "<lambda>", params, [], scope, cloFrom X.env.cells scope.names [], c'⟩) (b := b) (t' := tk) (pm := (X.mg "__name__").getD .none) (ctv := ctv) J1 rfl
    refine h h'.objs.size c' _ _ J2 (fun a o z nt => ?_) (T1.ext (same_upd freeF)) (I.hok.fresh (Nat.le_trans hge (Nat.le_of_lt hlt))) upd_same ?_
    · exact same_upd freeF _ _ (gr a o z nt)
    · exact same_upd freeF _ _ upd_same
  | some cv =>
    obtain ⟨c', e, isC⟩ := among pos cv hc
    subst e
    rw [hn] at isC
    refine PySem.W.kla_makeFunctionHit (mg := X.mg) (c := c) (P := P) (ps := ps) (closure_ok hfree) I.ok.glob (I.mod.glob.keeps I.bk) hcode (TB.code.keeps I.bk) objP triples hc bP fun ctv h' tk hx hsz => ?_
    have J1 : L2.Inv X pins σ H { s with heap := h', toks := tk } := I.kept hx
    have freeF : H h'.objs.size = none := J1.hok.fresh (Nat.le_refl _)
    have J2 := inv_lam (F := ⟨"<lambda>", X.env.qual ++ "<lambda>", params, [], scope, cloFrom X.env.cells scope.names [], c'⟩) (b := b) (t' := tk) (pm := (X.mg "__name__").getD .none) (ctv := ctv) J1 rfl
    exact h h'.objs.size c' _ _ J2 (ExtN.of (same_upd freeF)) (hT.ext (same_upd freeF)) freeF upd_same (same_upd freeF _ _ isC)
end
end NS

/-! ### min(xs, key=lambda ..): keys that are tuples of ints -/
namespace NS
open PySem PySem.Spec PyProof.Rows L2 LamX NdefX
section
variable {X : Cx} {pins : List (Addr × Obj)} {σ : L2.St}
theorem fp_later {fp : List Addr} {h : Heap} {H H' : Hp} {s' : Shared} (I : L2.Inv X (pins ++ pinsAt fp h) σ H' s') {b : Addr} {o : Obj} (hb : b ∈ fp) (e : h.get? b = some o) (f : FpOk X pins H b) : s'.heap.get? b = some o ∧ FpOk X pins H' b := by
  have p := I.pin (b, o) (List.mem_append_right _ (List.mem_append_right _ (mem_pinsAt hb e)))
  exact ⟨p.1, p.2.1, f.2⟩
/-- what a call of the key gives -/
def KeyTurn (X : Cx) (σ : L2.St) (H2 : Hp) (f : Addr) (xs : List V) (key : Nat → List Int) : Prop :=
  ∀ (i : Nat) (x : V) (u : Value) (H' : Hp) (s' : Shared) (pins' : List (Addr × Obj)), xs[i]? = some x → RelV x u → Same H2 H' → L2.Inv X pins' σ H' s' →
    wpAny (model X.prog X.w) X.A.in1 (call (.ref f) [u]) (EP X pins' σ fun v H'' => Same H' H'' ∧ ∃ p, v = .ref p ∧ SqT X.K H'' p ((key i).map V.int)) (fun _ _ => False) s'
theorem minK_loop {H2 : Hp} {f l S I : Addr} {xs : List V} {key : Nat → List Int} {R : Result → Shared → Prop} (hh : X.A.handled = none) (hu : X.A.units + 1 < cLine) (hl : SqL X.K H2 l xs) (hlI : l ≠ I) (hSI : S ≠ I) (turn : KeyTurn X σ H2 f xs key)
    (hR : ∀ (i : Nat) (x : V) (u : Value) (H' : Hp) (s' : Shared), xs[i]? = some x → RelV x u → (∀ j, j < xs.length → HT.lexLt (key j) (key i) = false) → Same H2 H' → L2.Inv X pins σ H' s' → R (.ok (.ret u)) s') :
    ∀ (r j i : Nat) (Hj : Hp) (sj : Shared) (x : V) (vb : Value) (kb : Addr) (c : Nat), xs.length - (j + 1) = r → j + 1 ≤ xs.length → Same H2 Hj → L2.Inv X pins σ Hj sj → FpOk X pins Hj S → FpOk X pins Hj I →
      sj.heap.get? S = some (seqObj "list" #[vb, .ref kb] c) → sj.heap.IsListIter I l (j + 1) → xs[i]? = some x → RelV x vb → SqT X.K Hj kb ((key i).map V.int) → i ≤ j → (∀ j', j' ≤ j → HT.lexLt (key j') (key i) = false) →
      codeAny (model X.prog X.w) X.A (.builtin "min.loop" ⟨[.ref I, .ref f, .ref S], []⟩) R sj := by
  have word : (toString "min" ++ toString ".loop" : String) = "min.loop" := by decide
  intro r
  induction r with
  | zero =>
    intro j i Hj sj x vb kb c hr hj sm J fS fI gS hit hx rb hk hij best
    obtain ⟨its, rv, pl, _⟩ := J.list (sm.seq hl)
    have W := Walks.list (prog := X.prog) (w := X.w) (A := X.A.in1) hh I l hlI its.toArray
    have size : its.toArray.size = xs.length := by rw [List.size_toArray, ← rv.length]
    refine codeAny_builtin PySem.F.entry_min_loop ?_
    rw [Around.under_plainId PySem.F.plain_min_loop _]
    show wpAny _ X.A.in1 (seqItems? (.ref S) >>= _) _ _ _
    refine wpAny_bind (wpAny_seqItems gS rfl ?_)
    show wpAny _ X.A.in1 (tryCatch (pyNext (.ref I)) _ >>= _) _ _ _
    refine wpAny_bind (wpAny_tryCatch (W.done _ _ _ ⟨by rw [size, ← show j + 1 = xs.length by omega]; exact hit, pl.isList⟩ fun h' tk' hk' => ?_))
    have gS' := hk' S _ (by simpa using hSI) gS
    have J1 : L2.Inv X pins σ Hj { sj with heap := h', toks := tk' } := J.turnedL (ch := [I]) hk' fun b hb => by rw [List.mem_singleton.mp hb]; exact fI
    have s1 := Heap.SameBut.update h' S (Obj.mapSeq fun _ => (#[] : Array Value))
    show wpAny _ X.A.in1 (updateSeq S (fun _ => #[]) >>= _) _ _ _
    refine wpAny_bind ?_
    refine wpAny_updateSeq gS' rfl (wpAny_bind (wpAny_letGo (wpAny_pure ?_)))
    refine hR i x vb Hj _ hx rb (fun j' hj' => best j' (by omega)) sm ?_
    exact J1.turnedL (ch := [S]) (fun b o hb z => (s1.2 b (fun y => hb (by rw [y]; exact List.mem_singleton.mpr rfl))).trans z) fun b hb => by rw [List.mem_singleton.mp hb]; exact fS
  | succ r ih =>
    intro j i Hj sj x vb kb c hr hj sm J fS fI gS hit hx rb hk hij best
    have more : j + 1 < xs.length := by omega
    obtain ⟨its, rv, pl, _⟩ := J.list (sm.seq hl)
    have W := Walks.list (prog := X.prog) (w := X.w) (A := X.A.in1) hh I l hlI its.toArray
    have size : its.toArray.size = xs.length := by rw [List.size_toArray, ← rv.length]
    refine codeAny_builtin PySem.F.entry_min_loop ?_
    rw [Around.under_plainId PySem.F.plain_min_loop _]
    show wpAny _ X.A.in1 (seqItems? (.ref S) >>= _) _ _ _
    refine wpAny_bind (wpAny_seqItems gS rfl ?_)
    show wpAny _ X.A.in1 (tryCatch (pyNext (.ref I)) _ >>= _) _ _ _
    refine wpAny_bind (wpAny_tryCatch (W.item (j + 1) _ _ _ (by rw [size]; exact more) ⟨hit, pl.isList⟩ fun v h' tk' hP hst' hk' => ?_))
    have hv : its[j + 1]? = some v := by simpa using hP
    obtain ⟨v', hv', rx'⟩ := rv.get (List.getElem?_eq_getElem more)
    rw [hv] at hv'
    cases hv'
    obtain ⟨oI, hoI, hoc, hod⟩ := id hst'.1
    have gS' := hk' S _ (by simpa using hSI) gS
    have J1 : L2.Inv X pins σ Hj { sj with heap := h', toks := tk' } := J.turnedL (ch := [I]) hk' fun b hb => by rw [List.mem_singleton.mp hb]; exact fI
    have J2 := J1.pinned (fp := [S, I]) (fun b hb => by
      rcases List.mem_cons.mp hb with e | e
      · rw [e]; exact fS
      · rw [List.mem_singleton.mp e]; exact fI) (fun b hb => by
      rcases List.mem_cons.mp hb with e | e
      · rw [e]; exact ⟨_, gS', fun v z => nomatch z⟩
      · rw [List.mem_singleton.mp e]; exact ⟨oI, hoI, fun v z => by rw [hod] at z; cases z⟩)
    show wpAny _ X.A.in1 (tryCatch (holding [v] (call (.ref f) [v])) _ >>= _) _ _ _
    refine wpAny_bind (wpAny_tryCatch (wpAny_holding (wpAny_mono (turn (j + 1) _ v Hj _ _ (List.getElem?_eq_getElem more) rx' sm J2) (fun y s2 he => ?_) fun _ _ hF => hF.elim)))
    obtain ⟨yv, H3, J3, ry, sm3, p1, rfl, t1⟩ := he
    obtain rfl : y = Value.ref p1 := ry
    obtain ⟨gS3, fS3⟩ := fp_later J3 (List.mem_cons_self ..) gS' fS
    obtain ⟨gI3, fI3⟩ := fp_later J3 (List.mem_cons_of_mem _ (List.mem_singleton.mpr rfl)) hoI fI
    have J4 := J3.unpinned
    have sm4 := sm.trans sm3
    have hk3 := Same.tup sm3 hk
    obtain ⟨it1, r1, T1, _⟩ := J4.tuple t1
    obtain ⟨it2, r2, T2, _⟩ := J4.tuple hk3
    obtain ⟨⟨cls, dd, data, sl⟩, ho, hc, n, hd⟩ := id T1
    obtain ⟨⟨cls2, dd2, data2, sl2⟩, ho2, hc2, n2, hd2⟩ := id T2
    simp only at hc hd hc2 hd2
    subst hc hd hc2 hd2
    show wpAny _ X.A.in1 (tryCatch (holding [v, .ref p1] (richCompare .Lt (.ref p1) (.ref kb) >>= _)) _ >>= _) _ _ _
    refine wpAny_bind (wpAny_tryCatch (wpAny_holding (wpAny_bind (richCompare_meets_room (op := .Lt) ⟨_, ho, rfl⟩ ⟨_, ho2, rfl⟩ PySem.F.slot_tuple_lt PySem.F.entry_tuple_lt (PySem.F.args_tuple_lt_2 _ _) (HT.tuple_lt_ints p1 kb it1.toArray it2.toArray n n2 dd dd2 sl sl2 (key (j + 1)) (key i) (intsAre_of r1) (intsAre_of r2))
      ⟨ho, ho2, (fun x => nomatch x), ?_⟩ hu))))
    refine wpAny_bind (wpAny_holding (wpAny_truthy_bool ?_))
    refine wpAny_bind (wpAny_letGo (wpAny_pure ?_))
    have hit3 : s2.heap.IsListIter I l (j + 1 + 1) := ⟨oI, gI3, hoc, hod⟩
    by_cases less : HT.lexLt (key (j + 1)) (key i) = true
    · have s1 := Heap.SameBut.update s2.heap S (Obj.mapSeq fun _ => #[v, Value.ref p1])
      obtain ⟨c2, hc2⟩ : ∃ c2, (s2.heap.update S (Obj.mapSeq fun _ => #[v, Value.ref p1])).get? S = some (seqObj "list" #[v, Value.ref p1] c2) := ⟨_, get?_update_seq gS3 fun _ => #[v, Value.ref p1]⟩
      simp only [less, if_true]
      refine wpAny_bind ?_
      refine wpAny_updateSeq gS3 rfl (wpAny_bind (wpAny_letGo ?_))
      rw [word]
      refine wpAny_pure ⟨plainId_quiet PySem.F.plain_min_loop _, ih (j + 1) (j + 1) H3 _ _ v p1 c2 (by omega) more sm4 (J4.turnedL (ch := [S]) (fun b o hb z => (s1.2 b (fun y => hb (by rw [y]; exact List.mem_singleton.mpr rfl))).trans z) fun b hb => by rw [List.mem_singleton.mp hb]; exact fS3) fS3 fI3 hc2 ?_ (List.getElem?_eq_getElem more) rx' t1 (Nat.le_refl _) fun j' hj' => ?_⟩
      · exact ⟨oI, (s1.2 I hSI.symm).trans gI3, hoc, hod⟩
      · by_cases e : j' = j + 1
        · subst e
          exact lex_irr _
        · have b1 := best j' (by omega)
          cases q : HT.lexLt (key j') (key (j + 1)) with
          | false => rfl
          | true =>
            rw [lex_trans q less] at b1
            cases b1
    · have less0 : HT.lexLt (key (j + 1)) (key i) = false := Bool.eq_false_iff.mpr less
      simp only [less0, Bool.false_eq_true, if_false]
      refine wpAny_bind (wpAny_letGo ?_)
      rw [word]
      refine wpAny_pure ⟨plainId_quiet PySem.F.plain_min_loop _, ih (j + 1) i H3 s2 x vb kb c (by omega) more sm4 J4 fS3 fI3 gS3 hit3 hx rb hk3 (by omega) fun j' hj' => ?_⟩
      by_cases e : j' = j + 1
      · subst e
        exact less0
      · exact best j' (by omega)
theorem minK {H : Hp} {s : Shared} {f l : Addr} {xs : List V} {key : Nat → List Int} {Q : VK} {E : Value → Shared → Prop} (hh : X.A.handled = none) (hu : X.A.units + 1 < cLine) (J : L2.Inv X pins σ H s) (hl : SqL X.K H l xs) (hne : 0 < xs.length) (turn : KeyTurn X σ H f xs key)
    (hQ : ∀ (i : Nat) (x : V) (H' : Hp), xs[i]? = some x → (∀ j, j < xs.length → HT.lexLt (key j) (key i) = false) → Same H H' → Q x H') :
    wpAny (model X.prog X.w) X.A (call (.builtin "min") [.ref l] [(Str.ofString "key", .ref f)]) (EP X pins σ Q) E s := by
  have word : (toString "min" ++ toString ".loop" : String) = "min.loop" := by decide
  obtain ⟨its, rv, pl, _⟩ := J.list hl
  obtain ⟨ol, hol, _⟩ := id pl.isList
  have hll : l < s.heap.objs.size := Heap.lt_size hol
  refine kmk_tree PySem.F.kind_min PySem.F.plain_min PySem.F.entry_min (kmk_min_key _ _) ?_
  show wpAny _ X.A.in1 (Builtin.Builtins.bindParams "min" ["key", "default"] 0 ⟨[], [(Str.ofString "key", .ref f)]⟩ >>= _) _ _ s
  refine wpAny_bind (wpAny_of_eq (show Builtin.Builtins.bindParams "min" ["key", "default"] 0 ⟨[], [(Str.ofString "key", .ref f)]⟩ = pure [some (.ref f), none] from rfl) ?_)
  refine wpAny_bind (wpAny_pure ?_)
  refine wpAny_bind (wpAny_pyIter_list pl.isList ?_)
  refine wpAny_bind (wpAny_newList ?_ (Nat.zero_le _))
  rw [word]
  have eS : (s.heap.push { cls := .type "list_iterator", data := .fields #[.ref l, .int 0 0] }).objs.size = s.heap.objs.size + 1 := size_push' ..
  have hlI : l ≠ s.heap.objs.size := Nat.ne_of_lt hll
  have J0 : L2.Inv X pins σ H { s with heap := (s.heap.push { cls := .type "list_iterator", data := .fields #[.ref l, .int 0 0] }).push (seqObj "list" #[] 0) } := (J.kept (t' := s.toks) fun b o z => Heap.get?_push_of_some _ (Heap.get?_push_of_some _ z))
  have gI : ((s.heap.push { cls := .type "list_iterator", data := .fields #[.ref l, .int 0 0] }).push (seqObj "list" #[] 0)).get? s.heap.objs.size = some { cls := .type "list_iterator", data := .fields #[.ref l, .int 0 0] } := Heap.get?_push_of_some _ (Heap.get?_push_size _ rfl)
  have gS : ((s.heap.push { cls := .type "list_iterator", data := .fields #[.ref l, .int 0 0] }).push (seqObj "list" #[] 0)).get? (s.heap.push { cls := .type "list_iterator", data := .fields #[.ref l, .int 0 0] }).objs.size = some (seqObj "list" #[] 0) := Heap.get?_push_size _ rfl
  have fI : FpOk X pins H s.heap.objs.size := J.fpOk (Nat.le_refl _) (J.hok.fresh (Nat.le_refl _))
  have fS : FpOk X pins H (s.heap.push { cls := .type "list_iterator", data := .fields #[.ref l, .int 0 0] }).objs.size := by
    rw [eS]
    exact J.fpOk (Nat.le_succ _) (J.hok.fresh (Nat.le_succ _))
  have hSI : (s.heap.push { cls := .type "list_iterator", data := .fields #[.ref l, .int 0 0] }).objs.size ≠ s.heap.objs.size := by rw [eS]; exact Nat.succ_ne_self _
  refine wpAny_pure ⟨plainId_quiet PySem.F.plain_min_loop _, ?_⟩
  obtain ⟨its0, rv0, pl0, _⟩ := J0.list hl
  have W := Walks.list (prog := X.prog) (w := X.w) (A := X.A.in1) hh s.heap.objs.size l hlI its0.toArray
  have size : its0.toArray.size = xs.length := by rw [List.size_toArray, ← rv0.length]
  generalize (s.heap.push { cls := .type "list_iterator", data := .fields #[.ref l, .int 0 0] }).objs.size = S at *
  generalize (s.heap.push { cls := .type "list_iterator", data := .fields #[.ref l, .int 0 0] }).push (seqObj "list" #[] 0) = h0 at *
  refine codeAny_builtin PySem.F.entry_min_loop ?_
  rw [Around.under_plainId PySem.F.plain_min_loop _]
  show wpAny _ X.A.in1 (seqItems? (.ref S) >>= _) _ _ _
  refine wpAny_bind (wpAny_seqItems gS rfl ?_)
  show wpAny _ X.A.in1 (tryCatch (pyNext (.ref s.heap.objs.size)) _ >>= _) _ _ _
  refine wpAny_bind (wpAny_tryCatch (W.item 0 _ _ _ (by rw [size]; exact hne) ⟨⟨_, gI, rfl, rfl⟩, pl0.isList⟩ fun v h' tk' hP hst' hk' => ?_))
  have hv : its0[0]? = some v := by simpa using hP
  obtain ⟨v', hv', rx'⟩ := rv0.get (List.getElem?_eq_getElem hne)
  rw [hv] at hv'
  cases hv'
  obtain ⟨oI, hoI, hoc, hod⟩ := id hst'.1
  have gS' := hk' S _ (by simpa using hSI) gS
  have J1 : L2.Inv X pins σ H { s with heap := h', toks := tk' } := L2.Inv.turnedL (s := { s with heap := h0 }) (ch := [s.heap.objs.size]) J0 hk' fun b hb => by rw [List.mem_singleton.mp hb]; exact fI
  have J2 := J1.pinned (fp := [S, s.heap.objs.size]) (fun b hb => by
    rcases List.mem_cons.mp hb with e | e
    · rw [e]; exact fS
    · rw [List.mem_singleton.mp e]; exact fI) (fun b hb => by
    rcases List.mem_cons.mp hb with e | e
    · rw [e]; exact ⟨_, gS', fun v z => nomatch z⟩
    · rw [List.mem_singleton.mp e]; exact ⟨oI, hoI, fun v z => by rw [hod] at z; cases z⟩)
  show wpAny _ X.A.in1 (tryCatch (holding [v] (call (.ref f) [v])) _ >>= _) _ _ _
  refine wpAny_bind (wpAny_tryCatch (wpAny_holding (wpAny_mono (turn 0 _ v H _ _ (List.getElem?_eq_getElem hne) rx' (Same.refl _) J2) (fun y s2 he => ?_) fun _ _ hF => hF.elim)))
  obtain ⟨yv, H3, J3, ry, sm3, p1, rfl, t1⟩ := he
  obtain rfl : y = Value.ref p1 := ry
  obtain ⟨gS3, fS3⟩ := fp_later J3 (List.mem_cons_self ..) gS' fS
  obtain ⟨gI3, fI3⟩ := fp_later J3 (List.mem_cons_of_mem _ (List.mem_singleton.mpr rfl)) hoI fI
  have J4 := J3.unpinned
  have s1 := Heap.SameBut.update s2.heap S (Obj.mapSeq fun _ => #[v, Value.ref p1])
  obtain ⟨c2, hc2⟩ : ∃ c2, (s2.heap.update S (Obj.mapSeq fun _ => #[v, Value.ref p1])).get? S = some (seqObj "list" #[v, Value.ref p1] c2) := ⟨_, get?_update_seq gS3 fun _ => #[v, Value.ref p1]⟩
  show wpAny _ X.A.in1 (updateSeq S (fun _ => #[v, Value.ref p1]) >>= _) _ _ _
  refine wpAny_bind ?_
  refine wpAny_updateSeq gS3 rfl ?_
  rw [word]
  refine wpAny_pure ⟨plainId_quiet PySem.F.plain_min_loop _, minK_loop (pins := pins) hh hu hl hlI hSI turn (fun i x u H' s' hx ru hb sm J => ⟨x, H', J, ru, hQ i x H' hx hb sm⟩) _ 0 0 H3 _ _ v p1 c2 rfl hne sm3 (J4.turnedL (ch := [S]) (fun b o hb z => (s1.2 b (fun y => hb (by rw [y]; exact List.mem_singleton.mpr rfl))).trans z) fun b hb => by rw [List.mem_singleton.mp hb]; exact fS3) fS3 fI3 hc2 ⟨oI, (s1.2 _ hSI.symm).trans gI3, hoc, hod⟩ (List.getElem?_eq_getElem hne) rx' t1 (Nat.le_refl _) fun j' hj' => ?_⟩
  have e : j' = 0 := by omega
  subst e
  exact lex_irr _
end
/-- min(e, key=lambda x: b): js, where the captured names stand -/
def MinR (K : PySem.W.Frag) (Ps : List Addr) (nm : Nat → Nat → Str) (N : List Str) (js : List Nat) (tb : TE) (σ : L2.St) (Q : VK) (vs : List V) (H1 : Hp) : Prop := ∃ (a : Addr) (xs : List V), vs = [.ref a] ∧ SqL K H1 a xs ∧ 0 < xs.length ∧ TabsOk Ps nm H1 ∧
  ∀ H2, ExtN H1 H2 → TabsOk Ps nm H2 → ∃ key : Nat → List Int, (∀ (i : Nat) (x : V) (H' : Hp), xs[i]? = some x → Same H2 H' → tb (startF N [x] (js.map (slotAt σ))) H' fun v H'' => Same H' H'' ∧ ∃ p, v = .ref p ∧ SqT K H'' p ((key i).map V.int)) ∧
    ∀ (i : Nat) (x : V) (H' : Hp), xs[i]? = some x → (∀ j, j < xs.length → HT.lexLt (key j) (key i) = false) → Same H2 H' → Q x H'
def tMinL (K : PySem.W.Frag) (Ps : List Addr) (nm : Nat → Nat → Str) (N : List Str) (js : List Nat) (te : TA) (tb : TE) : TE := fun σ H Q => te σ H (MinR K Ps nm N js tb σ Q)
theorem ExtN.seq {K : PySem.W.Frag} {H H' : Hp} {a : Addr} {xs : List V} (e : ExtN H H') (h : SqL K H a xs) : SqL K H' a xs := by
  rcases h with (h | ⟨o, h⟩) | h
  · exact .inl (.inl (e _ _ h fun ps z => nomatch z))
  · exact .inl (.inr ⟨o, e _ _ h fun ps z => nomatch z⟩)
  · exact .inr h
theorem ExtN.tup {K : PySem.W.Frag} {H H' : Hp} {a : Addr} {xs : List V} (e : ExtN H H') (h : SqT K H a xs) : SqT K H' a xs := by
  rcases h with (h | ⟨o, h⟩) | h
  · exact .inl (.inl (e _ _ h fun ps z => nomatch z))
  · exact .inl (.inr ⟨o, e _ _ h fun ps z => nomatch z⟩)
  · exact .inr h
abbrev lamF (X : Cx) (params : Arguments) (scope : Scope) (c' : Addr) : NF := ⟨"<lambda>", X.env.qual ++ "<lambda>", params, [], scope, cloFrom X.env.cells scope.names [], c'⟩
theorem pe_minL {X : Cx} {K : PySem.W.Frag} {Ps : List Addr} {nm : Nat → Nat → Str} {c P : Addr} {N fr : List Str} {js : List Nat} {k : Nat} {a : Str} {x : Str} {e : Expr} {params : Arguments} {b : Expr} {scope : Scope} {p pos lpos kpos : Pos} {te : TA} {tb : TE}
    (eK : X.K = K) (calm : X.calm = true) (room : Room (k + 2) X.A) (hg : Gl X x) (hm : X.mg x = none) (hv : bootBuiltins x = some (.builtin "min")) (ha : PA X [e] te) (TB : TabB X.base X.mg c P) (hcode : X.env.code = .ref c) (hP : P ∈ Ps) (hn : nm lpos.line lpos.col = X.env.qual ++ "<lambda>")
    (hdef : defaultsOf params X.env = ([], [])) (S : NScope N [a] fr scope) (hsc : ndefB X.env.scope scope fr = true) (hjs : js.map (fun j => X.N[j]?) = fr.map some)
    (bnd : ∀ (q : Str) (cl : List (Str × Addr)) (pm cv ctv : Value) (us : List Value), us.length = 1 → bindArgs (PySem.W.kla_fn "<lambda>" q params b scope cl pm cv ctv) ⟨us, []⟩ = pure ([a].zip us))
    (hb : ∀ (A : Around) (outer : List Env) (s : Shared) (H : Hp) (f c' : Addr), Room k (A.deeper (envF (lamF X params scope c') f s.heap.objs.size)) → PE (ncx CX0 X.prog X.w X.K X.mg X.base N (lamF X params scope c') f A outer s H E0) b tb)
    (hnm : x ≠ "__name__" := by decide) (hdb : (x == ("__debug__" : Str)) = false := by decide)
    (hst : backTo pos (starEach [e] X.env) = (false, eval e X.env) :: backTo pos (starEach [] X.env) := by rfl) (hpl : (backTo pos (starEach [e] X.env)).any (·.1) = false := by rfl) :
    PE X (.Call (.Name x p) [e] [⟨some "key", .Lambda params b scope lpos, kpos⟩] pos) (tMinL K Ps nm N js te tb) := by
  subst eK
  refine ⟨fun pins s σ H Q I h => ?_⟩
  refine wpAny_Call_Name_kw (ld_blt I hg hm hv ?_ hnm hdb)
  refine PyProof.Rows.callWith_kw (thn (ha.run pos pins s σ H _ I h) fun us s1 ⟨vs, H1, I1, r1, q1⟩ => ?_) hst hpl rfl rfl
  obtain ⟨l, xs, rfl, hl, hne, hT, q⟩ := q1
  rw [Vals.ref1 r1]
  show wpAny _ _ (evalAll ((do let v ← eval (.Lambda params b scope lpos) X.env; standAt pos; pure v) :: [])) _ _ _
  have hf := ndef_free hsc
  refine wpAny_evalAll_cons (wpAny_bind (lam_made I1 TB hcode hP hn hT hdef (fun y hy z => (hf y hy z).elim (fun z => I1.ok.has _ (.inl z)) fun z => I1.ok.has _ (.inr z)) fun f c' H2 s2 I2 gr T2 nf isL isC => wpAny_bind (wpAny_standAt (wpAny_pure ?_))))
  refine wpAny_evalAll_nil ?_
  obtain ⟨key, each, fin⟩ := q H2 gr T2
  show wpAny _ _ (call (.builtin "min") [.ref l] [(Str.ofString "key", .ref f)]) _ _ _
  have cps := Caps.made (js := js) I2.ok hf (ndef_fr hsc) hjs
  refine minK (I2.ok.hd calm) (by have := room.units; omega) I2 (ExtN.seq gr hl) hne (fun i x u H' s' pins' hx ru sm J => ?_) fin
  have isL' := sm _ _ isL
  have isC' := sm _ _ isC
  have run := lam_run (CX := CX0) (E := E0) (k := k) (N := N) (ps := [a]) (fr := fr) (us := [u]) (vs := [x]) (ws := js.map (slotAt σ)) (Q := fun v H'' => Same H' H'' ∧ ∃ p, v = .ref p ∧ SqT X.K H'' p ((key i).map V.int)) S (fun pm ctv us hl => bnd _ _ pm _ ctv us hl) rfl room.in1 J.env0.in1 isL' isC' (cells_of J cps) (.cons ru .nil) fun hr => ⟨tb, hb _ _ _ _ _ c' hr, each i x H' hx sm⟩
  refine wpAny_call (codeAny_mono run fun res s'' hq => ?_)
  cases res with
  | error ex => exact (show False from hq).elim
  | ok fl =>
    cases fl with
    | ret u => exact J.after hq
    | next => exact False.elim hq
    | brk => exact False.elim hq
    | cont => exact False.elim hq
end NS

/-! ### the end of a law whose text makes lambdas -/
namespace NS
open PySem PySem.Spec PyProof.Rows L2 LamX NdefX
/-- a def whose code object stands at c -/
structure DfC (K : PySem.W.Frag) (x : Str) (st : Stmt) (f : Addr) (fd : FuncData) (c : Addr) : Prop where
  ex : ∃ (oc : Value) (od : Option Addr) (kV doc pm : Value) (an : Option Addr) (ct : Value) (osl : Array (Option Value)), fd = PySem.W.fnOf x x (defArgs st) (defBody st) (defScope st) .none kV doc pm an (.ref c) ct ∧
    K.lookup f = some ⟨oc, od, .func (PySem.W.fnOf x x (defArgs st) (defBody st) (defScope st) .none kV doc pm an (.ref c) ct), osl⟩ ∧ PySem.W.codeIn K (.ref c) x = true
theorem okC {P : Program} {w : World} {K : PySem.W.Frag} {mg : Str → Option Value} {base : Heap} {x : Str} {st : Stmt} {f c : Addr} {fd : FuncData} {N ps : List Str} {k : Nat} {sp : Sp} (L : DfC K x st f fd c) (S : FnScope N ps (defScope st)) (len : ∀ vs H Q E, sp vs H Q E → vs.length = ps.length)
    (body : ∀ (A : Around) (outer : List Env) (s : Shared) (H : Hp) (vs : List V) (Q : VK) (E : XK), Room k (A.deeper (envOfC x (defScope st) s.heap.objs.size f (.ref c))) → sp vs H Q E →
      ∃ t, PSs (cxOf CX0 P w K mg base N x (defScope st) f (.ref c) A outer s H E).nox (defBody st) t ∧ t { nx := fun _ H' => Q .non H', rt := Q } (start N vs) H) : FnOk P w K mg base CX0 (k + 1) f fd ps sp := by
  obtain ⟨oc, od, kV, doc, pm, an, ct, osl, rfl, lk, hcd⟩ := L.ex
  refine fn_of lk hcd S len fun A outer s H vs Q E hr h => ?_
  obtain ⟨t, der, rd⟩ := body A outer s H vs Q E hr h
  exact ⟨t, der.nox, rd⟩
/-- what the top tells of the table of the def x -/
def TabAt (mg : Str → Option Value) (h : Heap) (x : Str) : Prop := ∃ (a : Addr) (o : Obj) (fd : FuncData) (c P : Addr), mg x = some (.ref a) ∧ h.get? a = some o ∧ o.data = .func fd ∧ fd.code = .ref c ∧ PySem.W.CodeHd h c P ∧ h.get? P = some { cls := .none, data := .fields #[] }
theorem tab_at {K : PySem.W.Frag} {h : Heap} {mg : Str → Option Value} {x : Str} {f : Addr} {oc : Value} {od : Option Addr} {fd : FuncData} {osl : Array (Option Value)} (t : TabAt mg h x) (X : K.In h) (g : mg x = some (.ref f)) (lk : K.lookup f = some ⟨oc, od, .func fd, osl⟩) :
    ∃ c P, fd.code = .ref c ∧ PySem.W.CodeHd h c P ∧ h.get? P = some { cls := .none, data := .fields #[] } := by
  obtain ⟨a, o, fd', c, P, e1, e2, e3, e4, e5, e6⟩ := t
  rw [g] at e1
  cases e1
  rw [X _ _ lk] at e2
  cases e2
  cases e3
  exact ⟨c, P, e4, e5, e6⟩
theorem no_tab {K : PySem.W.Frag} {h : Heap} {P : Addr} (X : K.In h) (hK : PySem.W.noTabs K = true) (e : h.get? P = some { cls := .none, data := .fields #[] }) : K.lookup P = none := by
  cases q : K.lookup P with
  | none => rfl
  | some o =>
    have z := X _ _ q
    rw [e] at z
    cases z
    have y := List.all_eq_true.mp hK (P, _) (PySem.W.mem_of_lookupK q)
    exact absurd (show false = true from y) Bool.false_ne_true
theorem lawGT {P : Program} {w : World} {K : PySem.W.Frag} {mg mb : Str → Option Value} {k : Nat} {fa a : Addr} {cs : List (Addr × Addr)} {fd : FuncData} {x : Str} {sp : Sp} {s₁ : Shared} {vs : List Value} {ns : List Int}
    (KX : K.In s₁.heap) (hns : s₁.heap.Ns mainGlobals mg) (hb : s₁.heap.Ns builtinsNs mb) (hbb : ∀ x : Str, x ≠ "__name__" → mb x = bootBuiltins x) (hlim : s₁.heap.NoLimit) (hgn : s₁.gens = #[])
    (tabs : ∀ p ∈ cs, s₁.heap.get? p.2 = some { cls := .none, data := .fields #[] } ∧ K.lookup p.2 = none ∧ PySem.W.CodeHd s₁.heap p.1 p.2)
    (bmain : ∃ (bm : Addr) (ob : Obj), mg "__builtins__" = some (.ref bm) ∧ bm ≠ builtinsNs ∧ s₁.heap.get? bm = some ob ∧ ob.cls = .type "module" ∧ ob.dict = some builtinsNs ∧ ob.data = .plain)
    (ha : s₁.heap.get? a = some { cls := .type "list", data := .seq vs.toArray }) (hi : IntsAre vs ns) (hl : ns.length ≤ sizeLine) (room : Room k callerA)
    (F : ∀ base : Heap, K.In base → base.Ns mainGlobals mg → (∀ p ∈ cs, TabB base mg p.1 p.2) → FnOkG P w K mg base k fa fd [x] sp) (hbind : ∀ (s : Shared) (u : Value), BindsTo s fd ⟨[u], []⟩ [(x, u)])
    (hsp : ∀ H : Hp, (∀ p ∈ cs, H p.2 = some (.tbl #[])) → SqL K H a (ns.map V.int) → sp [.ref a] H (fun v _ => v = .bl true) fun _ _ _ => False) :
    codeAny (model P w) callerA (.call (.ref fa) ⟨[.ref a], []⟩) (fun r s' => r = .ok (.ret (.bool true)) ∧ OldK s₁.heap s'.heap ∧ s'.os = s₁.os ∧ AllBare s'.gens) s₁ := by
  have rv := vals_ints hi
  have lenV := hi.length
  have notA : ∀ p ∈ cs, p.2 ≠ a := fun p hp z => by
    have e := (tabs p hp).1
    rw [z, ha] at e
    cases e
  obtain ⟨H, hH⟩ : ∃ H : Hp, H = fun b => if b = a then (if (K.lookup a).isSome = true then none else some (.frz { cls := .type "list", data := .seq vs.toArray } (.lst (ns.map V.int)))) else if b ∈ cs.map (·.2) then some (.tbl #[]) else none := ⟨_, rfl⟩
  have atT : ∀ p ∈ cs, H p.2 = some (.tbl #[]) := fun p hp => by
    rw [hH]
    show (if p.2 = a then _ else _) = _
    rw [if_neg (notA p hp), if_pos (List.mem_map.mpr ⟨p, hp, rfl⟩)]
  have kinds : ∀ b u, H b = some u → (b = a ∧ K.lookup a = none ∧ u = .frz { cls := .type "list", data := .seq vs.toArray } (.lst (ns.map V.int))) ∨ (∃ p ∈ cs, p.2 = b ∧ u = .tbl #[]) := fun b u z => by
    rw [hH] at z
    have z' : (if b = a then (if (K.lookup a).isSome = true then none else some (HO.frz { cls := .type "list", data := .seq vs.toArray } (.lst (ns.map V.int)))) else if b ∈ cs.map (·.2) then some (.tbl #[]) else none) = some u := z
    by_cases e : b = a
    · rw [if_pos e] at z'
      cases q : K.lookup a with
      | none =>
        rw [q] at z'
        exact .inl ⟨e, rfl, (Option.some.inj z').symm⟩
      | some o =>
        rw [q] at z'
        cases z'
    · rw [if_neg e] at z'
      by_cases m : b ∈ cs.map (·.2)
      · rw [if_pos m] at z'
        obtain ⟨p, hp, ep⟩ := List.mem_map.mp m
        exact .inr ⟨p, hp, ep, (Option.some.inj z').symm⟩
      · rw [if_neg m] at z'
        cases z'
  have script : SqL K H a (ns.map V.int) := by
    cases q : K.lookup a with
    | some o =>
      have z := KX a o q
      rw [ha] at z
      cases z
      exact .inr ⟨_, vs.toArray, _, q, rfl, rfl, rfl, by rw [List.size_toArray, lenV]; exact hl, by simpa using rv⟩
    | none =>
      refine .inl (.inr ⟨{ cls := .type "list", data := .seq vs.toArray }, ?_⟩)
      rw [hH]
      show (if a = a then _ else _) = _
      rw [if_pos rfl, q]
      rfl
  have hok : HOk P w H s₁.heap := fun b u z => by
    rcases kinds b u z with ⟨rfl, _, rfl⟩ | ⟨p, hp, rfl, rfl⟩
    · exact ⟨ha, by rw [List.length_map]; exact hl, vs, _, rv, ha⟩
    · exact (tabs p hp).1
  have seen : ∀ {b : Addr} {o : Obj}, s₁.heap.get? b = some o → (∀ us n, o.data ≠ .seq us n) → o.data ≠ .fields #[] → H b = none := fun {b o} z n1 n2 => by
    cases q : H b with
    | none => rfl
    | some u =>
      rcases kinds b u q with ⟨e, _, _⟩ | ⟨p, hp, e, _⟩
      · rw [e, ha] at z
        cases z
        exact (n1 _ _ rfl).elim
      · rw [← e, (tabs p hp).1] at z
        cases z
        exact (n2 rfl).elim
  have dictK : ∀ {b : Addr} {m : Str → Option Value}, s₁.heap.Ns b m → (hidT s₁.heap H).Ns b m := fun {b m} z => by
    obtain ⟨o, es, ep, g, d, r⟩ := z
    exact ⟨o, es, ep, hidT_get g (seen g (fun us n z => by rw [d] at z; cases z) fun z => by rw [d] at z; cases z), d, r⟩
  have inB : K.In (hidT s₁.heap H) := fun b o z => hidT_get (KX b o z) (by
    cases q : H b with
    | none => rfl
    | some u =>
      rcases kinds b u q with ⟨e, n, _⟩ | ⟨p, hp, e, _⟩
      · rw [e, n] at z
        cases z
      · rw [← e, (tabs p hp).2.1] at z
        cases z)
  have TB : ∀ p ∈ cs, TabB (hidT s₁.heap H) mg p.1 p.2 := fun p hp => by
    obtain ⟨t1, _, o, us, file, tf, flags, tg, inF, text, tt, e1, r1, r2, r3, rr⟩ := tabs p hp
    refine ⟨⟨o, us, file, tf, flags, tg, inF, text, tt, hidT_get e1 (seen e1 (fun us n z => by rw [r2] at z; cases z) fun z => ?_), r1, r2, r3, rr⟩, ?_, fun z => ?_⟩
    · rw [r2] at z
      cases z
      exact absurd r3 (by simp)
    · obtain ⟨bm, ob, b1, b2, b3, b4, b5, b6⟩ := bmain
      refine ⟨bm, ob, b1, b2, fun q => ?_, fun q => ?_, hidT_get b3 (seen b3 (fun us n z => by rw [b6] at z; cases z) fun z => by rw [b6] at z; cases z), b4, b5, b6⟩
      · obtain ⟨o, es, ep, e, hd, _⟩ := hns
        rw [q, e] at b3
        cases b3
        rw [hd] at b6
        cases b6
      · rw [q, t1] at b3
        cases b3
        cases b6
    · obtain ⟨o, es, ep, e, hd, _⟩ := hns
      rw [z, t1] at e
      cases e
      cases hd
  have hM : Mod K mg (hidT s₁.heap H) := ⟨inB, dictK hns, ⟨mb, dictK hb, hbb⟩, hlim.elim fun mc z => ⟨mc, dictK z.1, z.2⟩⟩
  have en : Env0 P w K mg (hidT s₁.heap H) callerA [] s₁ H := ⟨rfl, hM, fun b o z => of_hidT z, Nat.le_of_eq (hidT_size _ _), trivial, (fun b z => absurd (show b ∈ ([] : List Addr) from z) (by simp)), hok, .of_eq hgn⟩
  refine codeAny_mono ((F _ inB (dictK hns) TB).run callerA [] s₁ H ⟨[.ref a], []⟩ [.ref a] [.ref a] _ _ rfl room en (hbind s₁ (.ref a)) (.cons rfl .nil) (hsp H atT script)) fun res s' out => ?_
  cases res with
  | error ex => exact (show False from out).elim
  | ok fl =>
    cases fl with
    | next => exact False.elim out
    | brk => exact False.elim out
    | cont => exact False.elim out
    | ret u =>
      obtain ⟨v, H', os, bare, un, hok', rel, isT⟩ := out
      have isT' : v = .bl true := isT
      subst isT'
      obtain rfl : u = Value.bool true := rel
      have kept : ∀ b o, (∀ p ∈ cs, p.2 ≠ b) → s₁.heap.get? b = some o → s'.heap.get? b = some o := fun b o nb z => by
        cases q : H b with
        | none => exact un.keep b o z q (fun y => absurd (show b ∈ ([] : List Addr) from y) (by simp)) (by simp)
        | some u =>
          rcases kinds b u q with ⟨_, _, rfl⟩ | ⟨p, hp, e, _⟩
          · have z1 := (hok b _ q).1
            have z2 := (hok' b _ (un.frzs b _ _ q)).1
            rw [z] at z1
            cases z1
            exact z2
          · exact absurd e (nb p hp)
      have grown : ∀ p ∈ cs, ∃ more : Array Value, s'.heap.get? p.2 = some { cls := .none, data := .fields more } := fun p hp => by
        obtain ⟨more, z⟩ := un.tbls p.2 #[] (atT p hp)
        exact ⟨_, hok' p.2 _ z⟩
      refine ⟨rfl, ⟨fun b o e => ?_, fun b o e => ?_⟩, os, bare⟩
      · by_cases q : ∃ p ∈ cs, p.2 = b
        · obtain ⟨p, hp, rfl⟩ := q
          obtain ⟨more, hm⟩ := grown p hp
          rw [(tabs p hp).1] at e
          cases e
          exact .inr (.inl ⟨((tabs p hp).2.2.tab (tabs p hp).1).isCodeTable, rfl, #[], more, rfl, by rw [Array.empty_append]; exact hm⟩)
        · exact .inl (kept b o (fun p hp z => q ⟨p, hp, z⟩) e)
      · by_cases q : ∃ p ∈ cs, p.2 = b
        · obtain ⟨p, hp, rfl⟩ := q
          obtain ⟨more, hm⟩ := grown p hp
          exact ⟨_, hm⟩
        · exact ⟨o, kept b o (fun p hp z => q ⟨p, hp, z⟩) e⟩
/-- what is to be shown of the law where the tables of the defs xs are known -/
theorem walkGT {l : PySem.W.OpenLaw} {n k : Nat} {q : Program} {loose : List Str} {XP : (Str → Option Value) → Heap → Prop} {YP : World → Heap → Prop} {d : DefRec} {K : Params → PySem.W.Frag} {sp : World → List (Addr × Addr) → Sp} {x : Str} (xs : List Str)
    (hn : l.most = some n) (hn2 : n ≤ sizeLine) (hdf : d.params.defaults = []) (room : Room k callerA) (recs : ∀ y ∈ xs, ((recsOf q).any fun e => e.name == y) = true) (hK : ∀ p : Params, PySem.W.noTabs (K p) = true)
    (hY : ∀ (w : World) (h : Heap), YP w h → (K w.params).In h)
    (F : ∀ (w : World) (mg : Str → Option Value) (fa : Addr) (h : Heap), (K w.params).In h → h.Ns mainGlobals mg → mg d.name = some (.ref fa) → (∀ y ∈ xs, TabAt mg h y) →
      ∃ (fd : FuncData) (cs : List (Addr × Addr)), (∀ (s : Shared) (u : Value), BindsTo s fd ⟨[u], []⟩ [(x, u)]) ∧ (∀ p ∈ cs, h.get? p.2 = some { cls := .none, data := .fields #[] } ∧ PySem.W.CodeHd h p.1 p.2) ∧
        ∀ base : Heap, (K w.params).In base → base.Ns mainGlobals mg → (∀ p ∈ cs, TabB base mg p.1 p.2) → FnOkG l.prog w (K w.params) mg base k fa fd [x] (sp w cs))
    (hsp : ∀ (w : World) (cs : List (Addr × Addr)) (H : Hp) (a : Addr) (ns : List Int), ns.length ≤ n → (∀ p ∈ cs, H p.2 = some (.tbl #[])) → SqL (K w.params) H a (ns.map V.int) → sp w cs [.ref a] H (fun v _ => v = .bl true) fun _ _ _ => False) :
    PySem.W.WalkO q loose XP YP l.row.toRowW d [] (fun f vs => PySem.call f vs) := by
  refine Att.attach_call hn hdf fun w s₀ s₁ mg mb fa o pm cd doc a vs ns G Y ho hd hcd hmg hobj hints hlen hgn => ?_
  have KX := hY w _ Y
  obtain ⟨fd, cs, bnd, tbs, kept⟩ := F w mg fa _ KX G.T.g hmg fun y hy => by
    obtain ⟨dL, hm, hn1⟩ := List.any_eq_true.mp (recs y hy)
    have hn2 : dL.name = y := beq_iff_eq.mp hn1
    obtain ⟨a', o', fd', c', P', h1, h2, h3, h4, h5, h6⟩ := G.T.tab dL hm
    rw [hn2] at h1
    exact ⟨a', o', fd', c', P', h1, h2, h3, h4, PySem.W.CodeHd.of h5 h6, h6.2⟩
  exact lawGT KX G.T.g G.T.b G.T.builtins G.T.nolimit hgn (fun p hp => ⟨(tbs p hp).1, no_tab KX (hK _) (tbs p hp).1, (tbs p hp).2⟩) G.T.bmain hobj hints (Nat.le_trans hlen hn2) room kept bnd fun H hT hS => hsp w cs H a ns hlen hT hS
end NS

/-! ### t * n, n from 1 on; lemmas of growing tables -/
namespace NS
open PySem PySem.Spec PyProof.Rows L2
theorem tuple_once (l : Addr) (items : Array Value) (n : Nat) (dd : Option Addr) (sl : Array (Option Value)) (u : Tok) :
    Meets (Builtin.«tuple.__mul__» ⟨[.ref l, .int 1 u], []⟩) (fun _ R s => s.heap.get? l = some { cls := .type "tuple", dict := dd, data := .seq items n, slots := sl } ∧ R (.ok (.ret (Value.ref l))) s) :=
  .of_wp fun prog w A R s h => by
    obtain ⟨hp, g, d, tk, os⟩ := s
    obtain ⟨hl, h⟩ := h
    have f1 := AutoSeq1.idx_int
    wp_walk using wpAny_loadPart' hl
    exact ⟨_, rfl, h⟩
/-- t * k of a tuple, k at least 1 -/
def rRepA (K : PySem.W.Frag) : R2 := fun x y H Q => ∃ (l : Addr) (k : Int) (xs : List V), x = .ref l ∧ y = .int k ∧ SqT K H l xs ∧ xs ≠ [] ∧ 1 ≤ k ∧ k ≤ 1000 ∧ xs.length ≤ 1000 ∧ ∀ p H', Same H H' → SqT K H' p (List.replicate k.toNat xs).flatten → Q (.ref p) H'
theorem op_repA {X : Cx} : OpR X (binaryOp .Mult) (rRepA X.K) := by
  intro pins s σ H x y v u Q I rx ry h
  obtain ⟨l, k, xs, e1, e2, hT, hne, h1, h2, hz, q⟩ := h
  rcases Int.lt_or_eq_of_le h1 with hk | hk
  · exact op_repT pins s σ H x y v u Q I rx ry ⟨l, k, xs, e1, e2, hT, hne, by omega, h2, hz, fun p hp => q p _ (same_upd hp) (sqT upd_same)⟩
  · subst e1 e2 hk
    cases rx
    obtain ⟨t, rfl⟩ := ry
    obtain ⟨its, r, ⟨⟨cls, dd, data, sl⟩, ho, hc, n, hd⟩, hs⟩ := I.tuple hT
    simp only at hc hd
    subst hc hd
    refine wpAny_binaryOp_repeat_ref (T := "tuple") (U := "int") (by decide) ⟨_, ho, rfl⟩ (fun s' => typeIs_int s' 1 t) noFill_tuple_mul F.fills_int_mul F.slot_int_rmul repeat_tuple F.slot_int_index.lookup
      (call_meets F.slot_int_rmul (typeIs_int s 1 t) F.entry_int_rmul (F.args_int_rmul_2 _ _) (int_rmul_tuple 1 t l its.toArray n dd sl)
        ⟨ho, rfl, ⟨_, ho, rfl⟩, call_meets F.slot_tuple_mul ⟨_, ho, rfl⟩ F.entry_tuple_mul (F.args_tuple_mul_2 _ _) (tuple_once l its.toArray n dd sl t) ⟨ho, ?_⟩⟩)
    refine ⟨.ref l, H, I, rfl, q l H (Same.refl _) ?_⟩
    show SqT X.K H l (xs ++ [])
    rw [List.append_nil]
    exact hT
theorem tuple_none (l : Addr) (items : Array Value) (n : Nat) (dd : Option Addr) (sl : Array (Option Value)) (u : Tok) (c1 : (items.isEmpty || (0 : Int) == 1) = false) :
    Meets (Builtin.«tuple.__mul__» ⟨[.ref l, .int 0 u], []⟩) (fun _ R s => s.heap.get? l = some { cls := .type "tuple", dict := dd, data := .seq items n, slots := sl } ∧
      R (.ok (.ret (Value.ref s.heap.objs.size))) { s with heap := s.heap.push { cls := Value.type "tuple", data := Data.seq #[] }, toks := s.toks }) :=
  .of_wp fun prog w A R s h => by
    obtain ⟨hp, g, d, tk, os⟩ := s
    obtain ⟨hl, h⟩ := h
    have f1 := AutoSeq1.idx_int
    wp_walk using wpAny_loadPart' hl
    repeat (first
      | (refine wpAny_ite_false (decide_eq_false (by rw [c1]; exact Bool.false_ne_true)) ?_; wp_walk using wpAny_loadPart' hl))
    exact ⟨_, rfl, h⟩
/-- t * k of a tuple, k at least 0 -/
def rRepN (K : PySem.W.Frag) : R2 := fun x y H Q => ∃ (l : Addr) (k : Nat) (xs : List V), x = .ref l ∧ y = .int (k : Int) ∧ SqT K H l xs ∧ xs ≠ [] ∧ k ≤ 1000 ∧ xs.length ≤ 1000 ∧ ∀ p H', Same H H' → SqT K H' p (List.replicate k xs).flatten → Q (.ref p) H'
theorem op_repN {X : Cx} : OpR X (binaryOp .Mult) (rRepN X.K) := by
  intro pins s σ H x y v u Q I rx ry h
  obtain ⟨l, k, xs, e1, e2, hT, hne, h2, hz, q⟩ := h
  by_cases hk : k = 0
  · subst hk e1 e2
    cases rx
    obtain ⟨t, rfl⟩ := ry
    obtain ⟨its, r, ⟨⟨cls, dd, data, sl⟩, ho, hc, n, hd⟩, hs⟩ := I.tuple hT
    simp only at hc hd
    subst hc hd
    have hi : (its.toArray.isEmpty || (0 : Int) == 1) = false := by
      have : its ≠ [] := fun e => hne (List.eq_nil_of_length_eq_zero (by rw [r.length, e]; rfl))
      cases its with
      | nil => exact absurd rfl this
      | cons _ _ => rfl
    refine wpAny_binaryOp_repeat_ref (T := "tuple") (U := "int") (by decide) ⟨_, ho, rfl⟩ (fun s' => typeIs_int s' 0 t) noFill_tuple_mul F.fills_int_mul F.slot_int_rmul repeat_tuple F.slot_int_index.lookup
      (call_meets F.slot_int_rmul (typeIs_int s 0 t) F.entry_int_rmul (F.args_int_rmul_2 _ _) (int_rmul_tuple 0 t l its.toArray n dd sl)
        ⟨ho, rfl, ⟨_, ho, rfl⟩, call_meets F.slot_tuple_mul ⟨_, ho, rfl⟩ F.entry_tuple_mul (F.args_tuple_mul_2 _ _) (tuple_none l its.toArray n dd sl t hi) ⟨ho, ?_⟩⟩)
    refine ⟨.ref s.heap.objs.size, _, I.laid (t' := s.toks) (o := .tup []) (fun b ob q => Heap.get?_push_of_some _ q) (Nat.le_refl _) ?_, rfl, q _ _ (same_upd (I.hok.fresh (Nat.le_refl _))) (sqT upd_same)⟩
    exact ⟨Nat.zero_le _, [], .nil, IsTup.new _ _⟩
  · exact op_repA pins s σ H x y v u Q I rx ry ⟨l, (k : Int), xs, e1, e2, hT, hne, by omega, by omega, hz, fun p H' e hp => q p H' e (by rw [Int.toNat_natCast] at hp; exact hp)⟩
theorem op_repNK {X : Cx} {K : PySem.W.Frag} (e : X.K = K) : OpR X (binaryOp .Mult) (rRepN K) := by subst e; exact op_repN
theorem op_repAK {X : Cx} {K : PySem.W.Frag} (e : X.K = K) : OpR X (binaryOp .Mult) (rRepA K) := by subst e; exact op_repA
section
open LamX
variable {K : PySem.W.Frag} {H H1 H2 H' : Hp} {a p : Addr} {xs : List V} {o : HO} {Ps : List Addr} {nm : Nat → Nat → Str}
def NotTbl (H : Hp) (a : Addr) : Prop := ∀ ps, H a ≠ some (.tbl ps)
theorem ntb_l (h : H a = some (.lst xs)) : NotTbl H a := fun ps z => by rw [h] at z; cases z
theorem ntb_t (h : H a = some (.tup xs)) : NotTbl H a := fun ps z => by rw [h] at z; cases z
def TrkN (H : Hp) (a : Addr) : Prop := ∃ o, H a = some o ∧ ∀ ps, o ≠ .tbl ps
theorem trk_l (h : H a = some (.lst xs)) : TrkN H a := ⟨_, h, fun ps z => nomatch z⟩
theorem trk_t (h : H a = some (.tup xs)) : TrkN H a := ⟨_, h, fun ps z => nomatch z⟩
theorem trk_ext (t : TrkN H a) (e : ExtN H H') : TrkN H' a := t.elim fun o z => ⟨o, e a o z.1 z.2, z.2⟩
theorem trk_ats (t : TrkN H a) (e1 : ExtN H H1) (e2 : ExtN H H2) : AtS a H1 H2 := fun o z => by
  obtain ⟨u, h1, h2⟩ := t
  rw [e1 a u h1 h2] at z
  cases z
  exact e2 a _ h1 h2
theorem ext_same (e : Same H H') : ExtN H H' := fun b o h _ => e b o h
theorem ext_mut (e : ExtN H H1) (h : H p = none) : ExtN H (upd H1 p o) := fun b u z n => by
  rw [upd_ne (ne_of_none z h)]
  exact e b u z n
theorem ext_sq (e : ExtN H H') (h : Sq K H a xs) : Sq K H' a xs := h.imp (ExtN.seq e) (ExtN.tup e)
theorem ats_ext (e : ExtN H H') (n : NotTbl H a) : AtS a H H' := fun o h => e a o h fun ps z => n ps (by rw [h, z])
theorem ext_lst (e : ExtN H H') (h : H a = some (.lst xs)) : H' a = some (.lst xs) := e a _ h fun ps z => nomatch z
theorem ext_tup (e : ExtN H H') (h : H a = some (.tup xs)) : H' a = some (.tup xs) := e a _ h fun ps z => nomatch z
theorem tabs_upd (t : TabsOk Ps nm H) (h : H p = some (.lst xs)) : TabsOk Ps nm (upd H p o) := fun P hP => by
  obtain ⟨ps, h1, h2, h3⟩ := t P hP
  refine ⟨ps, ?_, h2, fun pos cv hc => ?_⟩
  · rw [upd_ne (fun z => by rw [z, h] at h1; cases h1)]
    exact h1
  · obtain ⟨c, e1, e2⟩ := h3 pos cv hc
    refine ⟨c, e1, ?_⟩
    rw [upd_ne (fun z => by
      rw [z, h] at e2
      have := Option.some.inj e2
      unfold CodeO at this
      cases this)]
    exact e2
theorem tabs_new (t : TabsOk Ps nm H) (h : H p = none) : TabsOk Ps nm (upd H p o) := t.ext (same_upd h)
theorem tabs_nil (h : ∀ P ∈ Ps, H P = some (.tbl #[])) : TabsOk Ps nm H := fun P hP => NdefX.TabN.nil (h P hP)
/-- all but s and the tables stays -/
def StayN (s : Addr) (H H' : Hp) : Prop := ∀ b o, b ≠ s → H b = some o → (∀ ps, o ≠ .tbl ps) → H' b = some o
variable {s : Addr} {n : Nat}
theorem StayN.trans (a : StayN s H H1) (b : StayN s H1 H2) : StayN s H H2 := fun c o n h t => b c o n (a c o n h t) t
theorem StayN.of (e : ExtN H H') : StayN s H H' := fun b o _ h t => e b o h t
theorem StayN.st (e : Stay s H H') : StayN s H H' := fun b o n h _ => e b o n h
theorem StayN.mut (e : StayN s H H1) (h : H p = none) : StayN s H (upd H1 p o) := fun a u n ha t => by
  rw [upd_ne (ne_of_none ha h)]
  exact e a u n ha t
theorem ext_stayN (hn : H s = none) (e : StayN s (upd H s o) H') : ExtN H H' := fun b x h t => by
  have nb : b ≠ s := ne_of_none h hn
  exact e b x nb (by rw [upd_ne nb]; exact h) t
theorem tabs_stay (t : TabsOk Ps nm H) (e : Stay s H H') (hs : H s = some (.lst xs)) : TabsOk Ps nm H' := fun P hP => by
  obtain ⟨ps, h1, h2, h3⟩ := t P hP
  refine ⟨ps, e _ _ (fun z => by rw [z, hs] at h1; cases h1) h1, h2, fun pos cv hc => ?_⟩
  obtain ⟨c, e1, e2⟩ := h3 pos cv hc
  refine ⟨c, e1, e _ _ (fun z => ?_) e2⟩
  rw [z, hs] at e2
  have := Option.some.inj e2
  unfold CodeO at this
  cases this
theorem tabs_src (t : TabsOk Ps nm H) (e : Stay s H H') (hs : Src H s n) : TabsOk Ps nm H' := by
  obtain ⟨o, ho, a, b, c, rfl, _⟩ := hs
  exact tabs_stay t e ho
theorem src_ext (e : ExtN H H') (hs : Src H s n) : Src H' s n := by
  obtain ⟨o, ho, a, b, c, rfl, r⟩ := hs
  exact ⟨_, ext_lst e ho, a, b, c, rfl, r⟩
theorem src_same (e : Same H H') (hs : Src H s n) : Src H' s n := hs.elim fun o z => ⟨o, e _ _ z.1, z.2⟩
mutual
theorem dp_ext (e : ExtN H H') : ∀ {v : V} {d : PyData}, Dp K H v d → Dp K H' v d
  | _, _, .non => .non
  | _, _, .bl b => .bl b
  | _, _, .int i => .int i
  | _, _, .str x => .str x
  | _, _, .lst h a => .lst (ExtN.seq e h) (dp_extA e a)
  | _, _, .tup h a => .tup (ExtN.tup e h) (dp_extA e a)
theorem dp_extA (e : ExtN H H') : ∀ {vs : List V} {ds : List PyData}, DpAll K H vs ds → DpAll K H' vs ds
  | _, _, .nil => .nil
  | _, _, .cons a b => .cons (dp_ext e a) (dp_extA e b)
end
end
end NS

/-! ### own exception classes straight over a built-in one, with their own __init__ -/
namespace NS
open PySem PySem.Spec PyProof.Rows L2 HandSPX Builtin Builtin.ObjectAttr PySem.Calls
/-- a built-in class that own classes are made over -/
structure Bas (B newId initId : String) (bm : List Value) : Prop where
  F : ExcBaseFacts B newId initId bm
  pass : ∀ self : Value, refuseLoop self "__setattr__" bm = pure ()
  ob : bm.contains (.type "object") = true
  ty : typeOf (.type B) = pure (.type "type")
  stub : Manifest.isStub B = false
  hin : PySem.W.handedIn (.builtin initId) = true
abbrev tlV (B : String) : List Value := [.type B, .type "Exception", .type "BaseException", .type "object"]
abbrev tlA (B : String) : List Value := [.type B, .type "ArithmeticError", .type "Exception", .type "BaseException", .type "object"]
theorem bas_V : Bas "ValueError" "ValueError.__new__" "ValueError.__init__" (tlV "ValueError") := ⟨PySem.F.excBase_ValueError, PySem.F.store_ValueError.passes, by decide +kernel, by kernel_rfl, by decide +kernel, by decide +kernel⟩
theorem bas_L : Bas "LookupError" "LookupError.__new__" "LookupError.__init__" (tlV "LookupError") := ⟨PySem.F.excBase_LookupError, PySem.F.store_LookupError.passes, by decide +kernel, by kernel_rfl, by decide +kernel, by decide +kernel⟩
theorem bas_R : Bas "RuntimeError" "RuntimeError.__new__" "RuntimeError.__init__" (tlV "RuntimeError") := ⟨PySem.F.excBase_RuntimeError, PySem.F.store_RuntimeError.passes, by decide +kernel, by kernel_rfl, by decide +kernel, by decide +kernel⟩
theorem bas_O : Bas "OverflowError" "OverflowError.__new__" "OverflowError.__init__" (tlA "OverflowError") := ⟨PySem.F.excBase_OverflowError, PySem.F.store_OverflowError.passes, by decide +kernel, by kernel_rfl, by decide +kernel, by decide +kernel⟩
/-- what the top says of the class at C -/
structure OexB (K : PySem.W.Frag) (C : Addr) (newId : String) (bm : List Value) : Prop where
  cls : ∃ nm q N bs sn sub ab col dd k0 k1 k2 k3 k5, K.lookup C = some (excClassObj nm q C N bs bm true sn sub ab col dd k0 k1 k2 k3 k5 newId)
  sa : PySem.W.findIn K (.ref C) "__setattr__" = some (some (.builtin "object.__setattr__"))
  exC : PySem.W.subIn K (.ref C) (.type "BaseException") = some true
  tyC : PySem.W.typeIn K (.ref C) = some (.type "type")
  kC : PySem.W.keepIn K (.ref C) = true
section
variable {prog : Program} {w : World} {A : Around} {R : Result → Shared → Prop} {hp : Heap} {g : Array GenState} {d : Drawn} {t : Nat} {os : OsState}
/-- the first store into an exception lays its dict -/
theorem osa_first {K : PySem.W.Frag} {name : Str} {tk : Tok} {v : Value} {x C : Addr} {fv : Array Value} {cd : ClassData} {bm : List Value} (pass : ∀ self : Value, refuseLoop self "__setattr__" bm = pure ()) (obj : bm.contains (.type "object") = true)
    (inK : K.In hp) (at_ : hp.get? x = some { cls := .ref C, data := .fields fv }) (clE : PySem.W.clsIn K C = some cd) (mroE : cd.mro = .ref C :: bm) (dictE : cd.hasDict = true) (noN : PySem.W.findIn K (.ref C) name = some none)
    (back : ∀ h' tk' dx, (∀ b o, b ≠ x → hp.get? b = some o → h'.get? b = some o) → hp.objs.size ≤ dx → dx ≠ x → h'.get? x = some { cls := .ref C, dict := some dx, data := .fields fv } → h'.Ns1 dx (fun y => if y = name then some v else none) → R (.ok (.ret .none)) ⟨h', g, d, tk', os⟩) :
    codeAny (model prog w) A (.call (.builtin "object.__setattr__") ⟨[.ref x, .str name tk, v], []⟩) R ⟨hp, g, d, t, os⟩ := by
  have inst : PySem.W.InstAt hp x { cls := .ref C, data := .fields fv } C none := ⟨at_, rfl, rfl, trivial⟩
  have isObj : cd.mro.contains (.type "object") = true := by
    rw [mroE, List.contains_cons, obj, Bool.or_true]
  have xs : x ≠ hp.objs.size := Nat.ne_of_lt (Heap.lt_size at_)
  have below : PySem.W.Looks (model prog w) hp (isInstance (.ref x) (.type "object")) true := inst.type.andThen (PySem.W.looks_mroIn inK (by
    unfold PySem.W.mroIn
    rw [clE, Option.bind_some, if_neg (by rw [mroE]; exact Bool.false_ne_true), isObj]))
  refine codeAny_call_builtin PySem.F.store_object.slot.plain PySem.F.store_object.entry (@PySem.W.check_slot (model prog w) _ _ ⟨hp, g, d, t, os⟩ "object.__setattr__" "object" "__setattr__" (.ref x) [.str name tk, v] [] _ PySem.F.store_object.kind PySem.F.store_object.split below (PySem.F.store_object.args (.ref x) (.str name tk) v) ?_)
  have lm : PySem.W.Looks (model prog w) hp (mroOf (.ref C)) cd.mro := (PySem.W.looks_clsIn inK clE).andThen .now
  have ltk : PySem.W.Looks (model prog w) hp (storeTaker? none) none := .now
  have lcl : PySem.W.Looks (model prog w) hp (classData C) cd := PySem.W.looks_clsIn inK clE
  rw [PySem.W.osa_eq, refuse_eq]
  refine wpAny_bind (wpAny_bind (inst.type.at (wpAny_bind (lm.at ?_))))
  rw [mroE, refuseLoop_ref, pass]
  refine wpAny_pure (wpAny_bind (inst.type.at (wpAny_bind ((PySem.W.looks_findIn inK noN).at (wpAny_bind (ltk.at ?_))))))
  show wpAny _ _ (storeInOwnDict (.ref x) (.ref C) (.str name tk) name v false) _ _ _
  obtain ⟨c1, c2, c3, c4, c5, c6, c7, c8, c9, c10, c11⟩ := cd
  cases (show c6 = true from dictE)
  unfold storeInOwnDict ownDictForStores
  repeat (first | with_reducible refine store_in_new ?_ ?_ | with_reducible refine wpAny_loadPart_at at_ ?_ | with_reducible refine lcl.at ?_ | wp_step)
  · exact ⟨_, #[], _, (Heap.get?_update_ne _ _ _ _ xs.symm).trans (Heap.get?_push_at rfl rfl), rfl, fun e he => absurd he (by simp), fun _ => rfl⟩
  · intro h' tk' nsd same
    have on1 : (hp.push { cls := .type "dict", data := .dict #[] }).get? x = some { cls := .ref C, data := .fields fv } := Heap.get?_push_of_some _ at_
    exact back h' tk' hp.objs.size (fun b o hb ho => (same.2 b (Nat.ne_of_lt (Heap.lt_size ho))).trans ((Heap.get?_update_ne _ _ _ _ hb).trans (Heap.get?_push_of_some _ ho))) (Nat.le_refl _) xs.symm ((same.2 x xs).trans (Heap.get?_update_self _ on1 rfl)) nsd
end
section
variable {X : Cx} {pins : List (Addr × Obj)} {σ : L2.St} {H : Hp} {s : Shared} {a C dx : Addr} {f : Str} {y : V} {u : Value} {E : Value → Shared → Prop} {A : Around} {B newId initId : String} {bm : List Value}
theorem OexB.data (T : OexB X.K C newId bm) : ∃ cd : ClassData, PySem.W.clsIn X.K C = some cd ∧ cd.mro = .ref C :: bm ∧ cd.hasDict = true := by
  obtain ⟨nm, q, N, bs, sn, sub, ab, col, dd, k0, k1, k2, k3, k5, hC⟩ := T.cls
  exact ⟨{ name := nm, bases := bs, mro := .ref C :: bm, ns := N, qualname := q, hasDict := true, slotNames := sn, subclasses := sub, abstract := ab, collection := col, hasDel := false }, by unfold PySem.W.clsIn; rw [hC] <;> rfl, rfl, rfl⟩
/-- self.f = y, the first one -/
theorem ost_first {Q : Unit → Shared → Prop} (S : Bas B newId initId bm) (T : OexB X.K C newId bm) (I : L2.Inv X pins σ H s) (e : H a = some (exo a C none)) (hno : PySem.W.findIn X.K (.ref C) f = some none) (ry : RelV y u)
    (h : ∀ dx s', H dx = none → dx ≠ a → L2.Inv X pins σ (upd (upd H dx (exd dx [(f, y)])) a (exo a C (some dx))) s' → Q () s') : wpAny (model X.prog X.w) A (setAttr (.ref a) f u) Q E s := by
  obtain ⟨cd, hcl, hm, hh⟩ := T.data
  obtain ⟨t1, ho⟩ := exo_at I.hok e
  obtain ⟨hp, g, d, t, os⟩ := s
  refine PySem.W.set_plain I.kIn (ox := { cls := .ref C, dict := none, data := .fields #[.ref t1, .none, .none, .none, .bool false, .none] }) (od := none) ⟨ho, rfl, rfl, trivial⟩ T.sa ?_
  refine osa_first S.pass S.ob I.kIn ho hcl hm hh hno (fun h' tk' dx k dn dne hx hn => ?_)
  have newD : H dx = none := I.hok.fresh dn
  have notD : ∀ {b : Addr} {o : Obj}, hp.get? b = some o → b ≠ dx := fun {b o} q => Nat.ne_of_lt (Nat.lt_of_lt_of_le (Heap.lt_size q) dn)
  have notA : ∀ {b : Addr}, H b = none → b ≠ a := fun {b} n z => by
    rw [z, e] at n
    cases n
  have grow : Un X.fs [] H (upd (upd H dx (exd dx [(f, y)])) a (exo a C (some dx))) hp h' := {
    keep := fun b o q n _ _ => k b o (notA n) q
    slot := fun b o q n _ _ => ⟨o.slots, k b o (notA n) q⟩
    free := fun b o q n _ => by
      rw [upd_ne (notA n), upd_ne (notD q)]
      exact n
    there := fun b o q _ => by
      by_cases hb : b = a
      · rw [hb]
        exact ⟨_, hx⟩
      · exact ⟨o, k b o hb q⟩
    tups := fun b xs q => by
      rw [upd_ne (at_ne e q exo_tup), upd_ne (ne_of_none q newD)]
      exact q
    frzs := fun b o v q => by
      rw [upd_ne (at_ne e q exo_frz), upd_ne (ne_of_none q newD)]
      exact q
    tbls := fun b ps q => ⟨#[], by
      rw [upd_ne (at_ne e q exo_tbl), upd_ne (ne_of_none q newD), q]
      simp⟩ }
  refine h dx _ newD dne (I.un (t' := tk') grow fun b o q => ?_)
  by_cases hb : b = a
  · subst hb
    rw [upd_same] at q
    cases q
    exact exo_ok hx
  · rw [upd_ne hb] at q
    by_cases hd : b = dx
    · subst hd
      rw [upd_same] at q
      cases q
      exact exd_ok hn (relO_put (fs := []) ry fun g => True.intro)
    · rw [upd_ne hd] at q
      refine (I.hok b o q).stay (fun c v hc z => k c v ?_ z) (fun c hc => ?_) fun c xs hc => ?_
      · rcases hc with hc | hc
        · rw [hc]
          exact hb
        · exact at_ne e hc exo_own
      · rw [upd_ne (at_ne e hc exo_own), upd_ne (ne_of_none hc newD)]
        exact hc
      · rw [upd_ne (at_ne e hc exo_tup), upd_ne (ne_of_none hc newD)]
        exact hc
/-- B.__init__(self, ..) -/
theorem binit_ok {us : List Value} {Q : Value → Shared → Prop} (S : Bas B newId initId bm) (T : OexB X.K C newId bm) (I : L2.Inv X pins σ H s) (e : H a = some (exo a C none)) (hl : us.length ≤ sizeLine) (h : ∀ s', L2.Inv X pins σ H s' → Q .none s') :
    wpAny (model X.prog X.w) A (call (.builtin initId) (.ref a :: us)) Q E s := by
  obtain ⟨nm, q, N, bs, sn, sub, ab, col, dd, k0, k1, k2, k3, k5, hC⟩ := T.cls
  obtain ⟨t1, ho⟩ := exo_at I.hok e
  obtain ⟨hp, g, d, t, os⟩ := s
  refine wpAny_call (init_base S.F (fun _ => rfl) (I.kIn _ _ hC) ho hl fun h' t2 k hx => ?_)
  have J := I.write (t' := t) (x := a) (e := a) (o := exo a C none) (by rw [e]; exact True.intro) (.inl rfl) k ⟨_, hx⟩ (exo_ok hx)
  have same : upd H a (exo a C none) = H := funext fun b => (Decidable.em (b = a)).elim (fun hb => by rw [hb, upd_same, e]) fun hb => upd_ne hb
  rw [same] at J
  exact h _ J
end
/-! the readings -/
def tBinit (K : PySem.W.Frag) (newId : String) (bm : List Value) (ta : TA) : TE := fun σ H Q => ta σ H fun vs H1 => ∃ (a C : Addr) (ws : List V), vs = .ref a :: ws ∧ ws.length ≤ 1000 ∧ OexB K C newId bm ∧ H1 a = some (exo a C none) ∧ Q .non H1
def tOst1 (K : PySem.W.Frag) (newId : String) (bm : List Value) (f : Str) (to te : TE) : TS := fun D σ H => te σ H fun y H1 => to σ H1 fun x H2 => ∃ a C : Addr, x = .ref a ∧ OexB K C newId bm ∧ PySem.W.findIn K (.ref C) f = some none ∧
  H2 a = some (exo a C none) ∧ ∀ dx, H2 dx = none → dx ≠ a → D.nx σ (upd (upd H2 dx (exd dx [(f, y)])) a (exo a C (some dx)))
/-- C(e, ..): dict told, or none -/
def tMkB (C : Addr) (sp : Sp) (ta : TA) : L2.St → Hp → XK → Prop := fun σ H Q => ta σ H fun vs H1 => vs.length ≤ 1000 ∧ ∀ a, H1 a = none → sp (.ref a :: vs) (upd H1 a (exo a C none))
  (fun v H2 => v = .non ∧ ((∃ (d : Addr) (fs : List (Str × V)), H2 a = some (exo a C (some d)) ∧ H2 d = some (exd d fs) ∧ H1 d = none ∧ Q (.ref C) (some d) (upd (del H2 a) d (.xd fs))) ∨ (H2 a = some (exo a C none) ∧ Q (.ref C) none (del H2 a)))) (fun _ _ _ => False)
section
variable {X : Cx} {o e : Expr} {es : List Expr} {to te : TE} {ta : TA} {f : Str} {p p' p1 p2 pos : Pos} {B newId initId : String} {bm : List Value}
theorem pe_binit {b : Str} {pl : Sem Bool} (S : Bas B newId initId bm) (hg : Gl X b) (hm : X.mg b = none) (boot : bootBuiltins b = some (.type B)) (vV : PySem.W.findCls X.K (.type B) (.type "type") "__init__" = some (.val (.builtin initId))) (ha : PA X (e :: es) ta)
    (hn : b ≠ "__name__") (hdb : (b == ("__debug__" : Str)) = false)
    (hc : eval (.Call (.Attribute (.Name b p1) "__init__" p2) (e :: es) [] pos) X.env = (do
      let ov ← eval (.Name b p1) X.env
      standAt p2.atName
      let (f, first) ← holding [ov] (getMethod ov "__init__" pl)
      callWith pos f first (backTo pos (starEach (e :: es) X.env)) (backToKw pos (keywordEach [] X.env))) := by rfl)
    (he : starEach (e :: es) X.env = (false, eval e X.env) :: starEach es X.env := by rfl) (hpl : (backTo pos (starEach es X.env)).any (·.1) = false := by rfl) :
    PE X (.Call (.Attribute (.Name b p1) "__init__" p2) (e :: es) [] pos) (tBinit X.K newId bm ta) := by
  constructor
  intro pins s σ H Q I h
  refine PySem.W.methodCall_KW (ld_blt I hg hm boot ?_ hn hdb) hc
  obtain ⟨m, fr⟩ := I.fr
  refine PySem.W.method_type fr I.ok.mod.kin S.ty S.stub vV S.hin ?_
  show wpAny _ _ (callWith pos (Value.builtin initId) [] (backTo pos (starEach (e :: es) X.env)) []) _ _ _
  refine PyProof.Rows.callWith_method1 (thn (ha.run pos pins _ σ H _ (I.tok _) h) fun us s1 got => ?_) he hpl
  obtain ⟨vs, H1, I1, r1, a, C, ws, ev, hl, T, ea, q⟩ := got
  subst ev
  cases r1 with
  | @cons _ u0 _ ur ra rw' =>
    obtain rfl : u0 = Value.ref a := ra
    have hlen : ur.length ≤ sizeLine := by
      rw [← Paired.length rw', sizeLine_eq]
      omega
    exact binit_ok S T I1 ea hlen fun s' J => ⟨.non, H1, J, rfl, q⟩
theorem ps_ost1 (S : Bas B newId initId bm) (ho : PE X o to) (he : PE X e te) (hs : swapsWith e (some (.Attribute o f p')) pos.line X.env = pure false := by rfl) : PS X (.Assign [.Attribute o f p'] e pos) (tOst1 X.K newId bm f to te) := by
  constructor
  intro pins s σ H D I h
  refine plainObj_wpAny_Assign_Attribute (thn (he.run pins s σ H _ I h) fun v s1 got => ?_) hs
  obtain ⟨y, H1, I1, r1, q1⟩ := got
  refine thn (ho.run pins s1 σ H1 _ I1 q1) fun u s2 got => ?_
  obtain ⟨x, H2, I2, r2, a, C, ex, T, hno, ea, q⟩ := got
  subst ex
  obtain rfl : u = Value.ref a := r2
  exact ost_first S T I2 ea hno r1 fun dx s' n ne J => ⟨σ, _, J, q dx n ne⟩
/-- the end where no field was stored -/
theorem mk_endN {pins : List (Addr × Obj)} {σ : L2.St} {H1 H2 : Hp} {Q : XK} {hp hp2 h2 : Heap} {g1 g2 : Array GenState} {d1 d2 : Drawn} {t1 t2 : Nat} {os1 os2 : OsState} {a C : Addr} (T : Raises X (.ref C)) (I1 : L2.Inv X pins σ H1 ⟨hp, g1, d1, t1, os1⟩)
    (ha : hp.objs.size ≤ a) (k : ∀ b o, hp.get? b = some o → hp2.get? b = some o) (un : Un (frs X.stack) [] (upd H1 a (exo a C none)) H2 hp2 h2) (hok : HOk X.prog X.w H2 h2) (ho : os2 = os1) (hb : AllBare g2)
    (ea : H2 a = some (exo a C none)) (q : Q (.ref C) none (del H2 a)) : MkP X pins σ Q (.ref a) ⟨h2, g2, d2, t2, os2⟩ := by
  obtain ⟨t0, hoe⟩ := exo_at hok ea
  have hn : H1 a = none := I1.hok.fresh ha
  obtain ⟨G, g1', g2'⟩ := restrict h2 fun b => decide (b ≠ a)
  have gk : ∀ b, b ≠ a → G.get? b = h2.get? b := fun b hb => g1' b (decide_eq_true hb)
  have ge : G.get? a = none := g2' a (by simp)
  have old : ∀ {b : Addr} {o : Obj}, hp.get? b = some o → b ≠ a := fun {b o} z => Nat.ne_of_lt (Nat.lt_of_lt_of_le (Heap.lt_size z) ha)
  have up : ∀ {b : Addr}, b ≠ a → H1 b = none → upd H1 a (exo a C none) b = none := fun {b} hb n => (upd_ne hb).trans n
  have U : Un (frs X.stack) [] H1 (del H2 a) hp G := {
    keep := fun b o z n hf hx => (gk b (old z)).trans (un.keep b o (k b o z) (up (old z) n) hf hx)
    slot := fun b o z n hf hx => by
      rw [gk b (old z)]
      exact un.slot b o (k b o z) (up (old z) n) hf hx
    free := fun b o z n hx => by
      rw [del_ne (old z)]
      exact un.free b o (k b o z) (up (old z) n) hx
    there := fun b o z hx => by
      rw [gk b (old z)]
      exact un.there b o (k b o z) hx
    tups := fun b xs z => by
      rw [del_ne (ne_of_none z hn)]
      exact un.tups b xs ((upd_ne (ne_of_none z hn)).trans z)
    frzs := fun b o v z => by
      rw [del_ne (ne_of_none z hn)]
      exact un.frzs b o v ((upd_ne (ne_of_none z hn)).trans z)
    tbls := fun b ps z => by
      rw [del_ne (ne_of_none z hn)]
      exact un.tbls b ps ((upd_ne (ne_of_none z hn)).trans z) }
  have hok3 : HOk X.prog X.w (del H2 a) G := fun b o z => by
    have hba : b ≠ a := fun e => by
      rw [e, del_same] at z
      cases z
    rw [del_ne hba] at z
    have noa : ∀ {c : Addr}, H2 c = some (.own b) → c ≠ a := fun {c} hc => at_ne ea hc exo_own
    refine (hok b o z).stay (fun c v hc y => ?_) (fun c hc => ?_) fun c xs hc => ?_
    · have hca : c ≠ a := hc.elim (fun q => by rw [q]; exact hba) noa
      exact (gk c hca).trans y
    · exact (del_ne (noa hc)).trans hc
    · exact (del_ne (at_ne ea hc exo_tup)).trans hc
  have J : L2.Inv X pins σ (del H2 a) ⟨G, g2, d2, t2, os2⟩ := I1.call' (ch := []) ho U hok3 hb (fun b z => absurd z (by simp))
  refine ⟨a, _, _, ⟨G, g2, d2, t2, os2⟩, _, .ref C, none, rfl, J, fun b o z => ?_, ge, hoe, ⟨rfl, rfl⟩, rfl, rfl, del_same, rfl, hb, T, q⟩
  have hba : b ≠ a := fun e => by
    have z' : G.get? b = some o := z
    rw [e, ge] at z'
    cases z'
  exact (gk b hba).symm.trans z
/-- the class called, told over what gives the arguments -/
theorem mk_run {CX : CXT} {C fI : Addr} {k : Nat} {fd : FuncData} {ps : List Str} {sp : Sp} {pins : List (Addr × Obj)} {σ : L2.St} {H1 : Hp} {Q : XK} {s1 : Shared} {us : List Value} {vs : List V} (S : Bas B newId initId bm) (T : OexB X.K C newId bm)
    (iC : PySem.W.findIn X.K (.ref C) "__init__" = some (some (.ref fI))) (tI : PySem.W.typeIn X.K (.ref fI) = some (.type "function"))
    (F1 : FnOk X.prog X.w X.K X.mg X.base CX k fI fd ps sp) (hr : Room (k + 1) X.A) (hb : Binds X.K fd ps []) (hx : Passes CX X (fun _ _ _ => False)) (I1 : L2.Inv X pins σ H1 s1) (r1 : Vals vs us) (hz : vs.length ≤ 1000)
    (q1 : ∀ a, H1 a = none → sp (.ref a :: vs) (upd H1 a (exo a C none)) (fun v H2 => v = .non ∧ ((∃ (d : Addr) (fs : List (Str × V)), H2 a = some (exo a C (some d)) ∧ H2 d = some (exd d fs) ∧ H1 d = none ∧ Q (.ref C) (some d) (upd (del H2 a) d (.xd fs))) ∨ (H2 a = some (exo a C none) ∧ Q (.ref C) none (del H2 a)))) (fun _ _ _ => False)) :
    wpAny (model X.prog X.w) X.A (call (.ref C) us) (MkP X pins σ Q) X.xe s1 := by
  obtain ⟨nm, q, N, bs, sn, sub, ab, col, dd, k0, k1, k2, k3, k5, hC⟩ := T.cls
  obtain ⟨hp, g, dr, tk, os⟩ := s1
  have big : hp.objs.size ≤ hp.objs.size + 1 := Nat.le_succ _
  have hn : H1 (hp.objs.size + 1) = none := I1.hok.fresh big
  have hq := q1 (hp.objs.size + 1) hn
  have kk : ∀ b o, hp.get? b = some o → ((hp.push (PySem.W.kdv_tup us)).push (excO C hp.objs.size)).get? b = some o := fun b o e => Heap.get?_push_of_some _ (Heap.get?_push_of_some _ e)
  have made : ((hp.push (PySem.W.kdv_tup us)).push (excO C hp.objs.size)).get? (hp.objs.size + 1) = some (excO C hp.objs.size) := by heap_get
  have I2 : L2.Inv X pins σ (upd H1 (hp.objs.size + 1) (exo (hp.objs.size + 1) C none)) ⟨(hp.push (PySem.W.kdv_tup us)).push (excO C hp.objs.size), g, dr, tk, os⟩ :=
    I1.laid (t' := tk) (a := hp.objs.size + 1) (o := exo (hp.objs.size + 1) C none) (h' := (hp.push (PySem.W.kdv_tup us)).push (excO C hp.objs.size)) kk big (exo_ok made)
  have r2 : Vals (V.ref (hp.objs.size + 1) :: vs) (Value.ref (hp.objs.size + 1) :: us) := .cons rfl r1
  have hl : ((Value.ref (hp.objs.size + 1) :: us) ++ []).length = ps.length := by
    rw [List.append_nil, ← r2.length]
    exact F1.len _ _ _ _ hq
  have short : us.length ≤ sizeLine := by
    rw [← Paired.length r1, sizeLine_eq]
    omega
  have bd := hb _ (Value.ref (hp.objs.size + 1) :: us) I2.kIn hl
  rw [List.append_nil] at bd
  refine wpAny_call (call_own S.F (fun _ => rfl) (I1.kIn _ _ hC) (PySem.W.looks_findIn I1.kIn iC) (fun self => PySem.W.bind_fn I1.kIn self tI) short
    (codeAny_mono (F1.run _ X.stack _ _ ⟨Value.ref (hp.objs.size + 1) :: us, []⟩ (Value.ref (hp.objs.size + 1) :: us) (V.ref (hp.objs.size + 1) :: vs) _ (fun _ _ _ => False) (hr.make C us []) (I2.env0.make C us []) bd r2 hq) fun r s' hq' => ?_))
  cases r with
  | error er => exact hx pins σ _ _ er s' I2 hq'
  | ok fl =>
    cases fl with
    | next => exact False.elim hq'
    | brk => exact False.elim hq'
    | cont => exact False.elim hq'
    | ret u =>
      obtain ⟨v, H2, os2, bare2, un2, hok2, rv, ev, alt⟩ := hq'
      subst ev
      obtain ⟨h2, g2, d2, t2, os'⟩ := s'
      rcases alt with ⟨d, fs, ea, ed, hd1, q2⟩ | ⟨ea, q2⟩
      · exact ⟨rv, mk_end (raises_own T.exC T.tyC) I1 big kk un2 hok2 os2 bare2 ea ed hd1 q2⟩
      · exact ⟨rv, mk_endN (raises_own T.exC T.tyC) I1 big kk un2 hok2 os2 bare2 ea q2⟩
theorem pmk_b {CX : CXT} {x : Str} {C fI : Addr} {k : Nat} {fd : FuncData} {ps : List Str} {sp : Sp} (S : Bas B newId initId bm) (T : OexB X.K C newId bm) (iC : PySem.W.findIn X.K (.ref C) "__init__" = some (some (.ref fI))) (tI : PySem.W.typeIn X.K (.ref fI) = some (.type "function"))
    (F1 : FnOk X.prog X.w X.K X.mg X.base CX k fI fd ps sp) (hr : Room (k + 1) X.A) (hb : Binds X.K fd ps []) (hx : Passes CX X (fun _ _ _ => False)) (hg : Gl X x) (hm : X.mg x = some (.ref C)) (ha : PA X (e :: es) ta)
    (hdb : (x == ("__debug__" : Str)) = false := by decide) (he : starEach (e :: es) X.env = (false, eval e X.env) :: starEach es X.env := by rfl) (hpl : (backTo pos (starEach es X.env)).any (·.1) = false := by rfl) :
    PMk X (.Call (.Name x p) (e :: es) [] pos) (tMkB C sp ta) := by
  intro pins s σ H Q I h
  refine wpAny_Call_Name_kw (ld_glob I hg hm ?_ hdb)
  refine PySem.W.callWith_K (h₀ := X.base) I.ok.mod.kin T.kC (thn (ha.run pos pins s σ H _ I h) fun us s1 got => ?_) he hpl
  obtain ⟨vs, H1, I1, r1, hz, q1⟩ := got
  exact ⟨I1.kIn, mk_run S T iC tI F1 hr hb hx I1 r1 hz q1⟩
theorem pmk_b0 {CX : CXT} {x : Str} {C fI : Addr} {k : Nat} {fd : FuncData} {ps : List Str} {sp : Sp} (S : Bas B newId initId bm) (T : OexB X.K C newId bm) (iC : PySem.W.findIn X.K (.ref C) "__init__" = some (some (.ref fI))) (tI : PySem.W.typeIn X.K (.ref fI) = some (.type "function"))
    (F1 : FnOk X.prog X.w X.K X.mg X.base CX k fI fd ps sp) (hr : Room (k + 1) X.A) (hb : Binds X.K fd ps []) (hx : Passes CX X (fun _ _ _ => False)) (hg : Gl X x) (hm : X.mg x = some (.ref C)) (hdb : (x == ("__debug__" : Str)) = false := by decide) :
    PMk X (.Call (.Name x p) [] [] pos) (tMkB C sp tNil) := by
  intro pins s σ H Q I h
  refine wpAny_Call_Name_kw (ld_glob I hg hm ?_ hdb)
  exact PySem.W.callWith_K0 I.kIn T.kC (mk_run (us := []) (vs := []) S T iC tI F1 hr hb hx I .nil (Nat.zero_le _) h.2)
end
end NS

/-! ### an exception that is caught and kept: try .. except A as n, except (A, B, ..) as n -/
namespace NS
open PySem PySem.Spec PyProof.Rows L2 PySem.Calls
/-- at a: an exception of the class cls, its dict at d -/
def ExV (cls : Value) (d : Option Addr) (a : Addr) : HO := .ext fun h => ∃ (oe : Obj) (vs : Array Value), h.get? a = some oe ∧ Zc cls d oe ∧ oe.data = .fields vs
theorem exV_ok {P : Program} {w : World} {H : Hp} {h : Heap} {a : Addr} {cls : Value} {d : Option Addr} {oe : Obj} {vs : Array Value} (e : h.get? a = some oe) (z : Zc cls d oe) (f : oe.data = .fields vs) : ObjOk P w H h a (ExV cls d a) :=
  ⟨⟨oe, vs, e, z, f⟩, ⟨oe, e⟩, fun _ _ ⟨o, v, q, r⟩ k => ⟨o, v, k o q, r⟩⟩
theorem exV_at {P : Program} {w : World} {H : Hp} {h : Heap} {a : Addr} {cls : Value} {d : Option Addr} (hok : HOk P w H h) (e : H a = some (ExV cls d a)) : ∃ (oe : Obj) (vs : Array Value), h.get? a = some oe ∧ Zc cls d oe ∧ oe.data = .fields vs := (hok a _ e).1
/-- one class, or a tuple of them: whether the exception is among them -/
def ClM (K : PySem.W.Frag) (cls : Value) (v : V) (H : Hp) (b : Bool) : Prop :=
  (∃ C : Addr, v = .ref C ∧ PySem.W.exmOne K cls (.ref C) = some b) ∨ (∃ (tp : Addr) (Cs : List Addr), v = .ref tp ∧ H tp = some (.tup (Cs.map V.ref)) ∧ PySem.W.exmAny K cls (Cs.map Value.ref) = some b)
section
variable {M : Model} {A : Around} {E : Value → Shared → Prop}
/-- all are classes of exceptions -/
theorem loop_cls {h : Heap} {f : Value → PUnit → Sem (ForInStep PUnit)} {Q : PUnit → Shared → Prop} {s : Shared} : ∀ {cs : List Value}, (∀ c ∈ cs, ∀ Q' : ForInStep PUnit → Shared → Prop, Q' (.yield ⟨⟩) s → wpAny M A (f c ⟨⟩) Q' E s) → Q ⟨⟩ s → wpAny M A (forIn cs PUnit.unit f) Q E s
  | [], _, q => by
    rw [List.forIn_nil]
    exact wpAny_pure q
  | c :: cs, hf, q => by
    rw [List.forIn_cons]
    refine wpAny_bind (hf c (List.mem_cons_self ..) _ ?_)
    exact loop_cls (h := h) (fun c' m => hf c' (List.mem_cons_of_mem _ m)) q
/-- the first that it is of -/
theorem loop_any {σ : Type} {f : Value → σ → Sem (ForInStep σ)} {Q : σ → Shared → Prop} {s : Shared} {y : σ} {z : σ} : ∀ {cs : List Value} {b : Bool} (m : Value → Bool), (∀ c ∈ cs, ∀ Q' : ForInStep σ → Shared → Prop, Q' (if m c = true then .done z else .yield y) s → wpAny M A (f c y) Q' E s) →
    b = cs.any m → Q (if b = true then z else y) s → wpAny M A (forIn cs y f) Q E s
  | [], b, m, _, e, q => by
    subst e
    rw [List.forIn_nil]
    exact wpAny_pure q
  | c :: cs, b, m, hf, e, q => by
    rw [List.forIn_cons]
    refine wpAny_bind (hf c (List.mem_cons_self ..) _ ?_)
    rw [List.any_cons] at e
    by_cases mc : m c = true
    · rw [if_pos mc]
      have eb : b = true := by rw [e, mc]; rfl
      rw [eb, if_pos rfl] at q
      exact wpAny_pure q
    · rw [if_neg mc]
      have mc' : m c = false := by simpa using mc
      rw [mc', Bool.false_or] at e
      exact loop_any m (fun c' h => hf c' (List.mem_cons_of_mem _ h)) e q
end
theorem exm_all {K : PySem.W.Frag} {cls : Value} : ∀ {cs : List Value} {b : Bool}, PySem.W.exmAny K cls cs = some b → ∃ m : Value → Bool, (∀ c ∈ cs, PySem.W.exmOne K cls c = some (m c)) ∧ b = cs.any m
  | [], b, h => ⟨fun _ => false, (fun _ z => nomatch z), (Option.some.inj h).symm⟩
  | c :: cs, b, h => by
    obtain ⟨b1, d1, h1, h2, rfl⟩ := PySem.W.exmAny_cons h
    obtain ⟨m, hm, e⟩ := exm_all h2
    refine ⟨fun x => (PySem.W.exmOne K cls x).getD false, fun x hx => ?_, ?_⟩
    · rcases List.mem_cons.mp hx with z | z
      · subst z
        show PySem.W.exmOne K cls x = some ((PySem.W.exmOne K cls x).getD false)
        rw [h1]
        rfl
      · show PySem.W.exmOne K cls x = some ((PySem.W.exmOne K cls x).getD false)
        rw [hm x z]
        rfl
    · rw [List.any_cons, h1, e]
      show (b1 || cs.any m) = (b1 || cs.any fun x => (PySem.W.exmOne K cls x).getD false)
      congr 1
      rw [Bool.eq_iff_iff, List.any_eq_true, List.any_eq_true]
      constructor
      · rintro ⟨x, hx, q⟩
        exact ⟨x, hx, by rw [hm x hx]; exact q⟩
      · rintro ⟨x, hx, q⟩
        refine ⟨x, hx, ?_⟩
        rw [hm x hx] at q
        exact q
theorem exm_tupN {M : Model} {K : PySem.W.Frag} {cls : Value} {tp e : Addr} {b : Bool} {h : Heap} {cs : List Value} {ot : Obj} (KX : K.In h) (LT : PySem.W.Looks M h (typeOf (.ref e)) cls) (ht : h.get? tp = some ot) (hcl : ot.cls = .type "tuple") {n : Nat} (hd : ot.data = .seq cs.toArray n)
    (hx : PySem.W.exmAny K cls cs = some b) : PySem.W.Looks M h (excMatches (.ref e) (.ref tp)) b := by
  intro A Q E s k₀ q
  obtain ⟨hh, g, d, tk, os⟩ := s
  have k : ∀ b o, h.get? b = some o → hh.get? b = some o := k₀
  obtain ⟨m, hm, eb⟩ := exm_all hx
  have isT : PySem.W.Looks M h (isInstance (.ref tp) (.type "tuple")) true := ((PySem.W.Looks.ld ht).andThen (by rw [hcl]; exact .now)).andThen (PySem.W.Looks.of_pure isSubtype_tuple_tuple)
  have LT2 := LT.keeps k
  have isT2 := isT.keeps k
  have hp' := k _ _ ht
  unfold excMatches
  refine wpAny_bind (isT2.at ?_)
  dsimp only
  rw [if_pos rfl]
  first
    | refine wpAny_bind (wpAny_seqItems hp' hd ?_)
    | refine wpAny_bind (wpAny_bind (wpAny_seqItems hp' hd (wpAny_pure ?_)))
  dsimp only [Option.getD_some, Option.getD]
  refine wpAny_bind (wpAny_pure ?_)
  refine wpAny_bind (loop_cls (h := h) (fun c hc Q' q' => ?_) ?_)
  · have L1 := (PySem.W.exm_cls (M := M) KX (hm c hc)).1.keeps k
    refine wpAny_bind (L1.at ?_)
    simp only [Bool.not_true, Bool.false_eq_true, if_false]
    exact wpAny_pure q'
  · refine wpAny_bind (LT2.at ?_)
    refine wpAny_bind (loop_any (z := (some true, PUnit.unit)) (y := (none, PUnit.unit)) m (fun c hc Q' q' => ?_) eb ?_)
    · have L2' := (PySem.W.exm_cls (M := M) KX (hm c hc)).2.keeps k
      refine wpAny_bind (L2'.at ?_)
      cases hmc : m c with
      | true =>
        rw [hmc] at q'
        first | exact wpAny_pure q' | exact wpAny_bind (wpAny_pure (wpAny_pure q'))
      | false =>
        rw [hmc] at q'
        first | exact wpAny_pure q' | exact wpAny_bind (wpAny_pure (wpAny_pure q'))
    · cases b with
      | true => exact wpAny_pure q
      | false => exact wpAny_pure q
theorem clm_looks {M : Model} {P : Program} {w : World} {K : PySem.W.Frag} {cls : Value} {v : V} {u : Value} {H : Hp} {b : Bool} {h : Heap} {e : Addr} (KX : K.In h) (hok : HOk P w H h) (LT : PySem.W.Looks M h (typeOf (.ref e)) cls) (r : RelV v u) (c : ClM K cls v H b) : PySem.W.Looks M h (excMatches (.ref e) u) b := by
  rcases c with ⟨C, rfl, hx⟩ | ⟨tp, Cs, rfl, ht, hx⟩
  · obtain rfl : u = Value.ref C := r
    exact PySem.W.exm_one KX LT hx
  · obtain rfl : u = Value.ref tp := r
    obtain ⟨_, its, rv, ob, e1, e2, n, e3⟩ := hok tp _ ht
    have eq : its = Cs.map Value.ref := by
      have gen : ∀ (Cs : List Addr) (its : List Value), Vals (Cs.map V.ref) its → its = Cs.map Value.ref := by
        intro Cs
        induction Cs with
        | nil =>
          intro its z
          cases z
          rfl
        | cons c Cs ih =>
          intro its z
          cases z with
          | cons z1 z2 =>
            rw [ih _ z2]
            exact congrArg (· :: Cs.map Value.ref) z1
      exact gen Cs its rv
    rw [eq] at e3
    exact exm_tupN KX LT e1 e2 e3 hx
section
variable {X : Cx} {pins : List (Addr × Obj)} {σ : L2.St} {H : Hp} {s : Shared}
/-- an object that is there and came after the entry is tracked from now on -/
theorem inv_track {a : Addr} {o : HO} {oe : Obj} {vs : Array Value} (I : L2.Inv X pins σ H s) (ha : s.heap.get? a = some oe) (hd : oe.data = .fields vs) (n0 : X.s_0.heap.get? a = none) (na : H a = none) (nL : a ≠ X.env.locals) (nP : ∀ p ∈ X.pn ++ pins, p.1 ≠ a)
    (new : ObjOk X.prog X.w (upd H a o) s.heap a o) : L2.Inv X pins σ (upd H a o) s := by
  have sm : Same H (upd H a o) := fun b u q => by
    rw [upd_ne (ne_of_none q na)]
    exact q
  have n0' : ∀ {b : Addr} {u : Obj}, X.s_0.heap.get? b = some u → b ≠ a := fun {b u} q z => by
    rw [z, n0] at q
    cases q
  have nC : ∀ x c, X.env.cells.lookup x = some c → c ≠ a := fun x c e z => by
    obtain ⟨v, o', ho, hdc⟩ := I.cell x c e
    rw [z, ha] at ho
    cases ho
    rw [hd] at hdc
    cases hdc
  refine ⟨I.ok, I.os, I.bare, ⟨fun b u q n f x => I.base.keep b u q n f x, fun b u q n f x => I.base.slot b u q n f x, fun b u q n x => ?_, fun b u q x => I.base.there b u q x, fun b xs q => sm _ _ (I.base.tups b xs q), fun b u v q => sm _ _ (I.base.frzs b u v q), fun b ps q => ?_⟩,
    I.loc, I.cell, ?_, fun x c e => ?_, fun p hp => ?_, fun b u q => ?_, I.len⟩
  · rw [upd_ne (n0' q)]
    exact I.base.free b u q n x
  · obtain ⟨more, z⟩ := I.base.tbls b ps q
    exact ⟨more, sm _ _ z⟩
  · rw [upd_ne (Ne.symm nL)]
    exact I.free
  · rw [upd_ne (nC x c e)]
    exact I.freeC x c e
  · obtain ⟨e1, e2, e3, e4, e5⟩ := I.pin p hp
    refine ⟨e1, ?_, e3, e4, e5⟩
    rw [upd_ne (nP p hp)]
    exact e2
  · by_cases hb : b = a
    · subst hb
      rw [upd_same] at q
      cases q
      exact new
    · rw [upd_ne hb] at q
      exact (I.hok b u q).stay (fun c v _ z => z) (fun c z => sm _ _ z) fun c xs z => sm _ _ z
end
/-- the flight of an exception that stands on the ground is set to none once more: nothing changes -/
theorem ground_again {M : Model} {A : Around} {E : Value → Shared → Prop} {s : Shared} {e T : Addr} {oe oT : Obj} {vs ts : Array Value} {Q : Unit → Shared → Prop} (he : s.heap.get? e = some oe) (hd : oe.data = .fields vs) (h1 : vs[1]? = some (.ref T)) (hT : s.heap.get? T = some oT) (hdT : oT.data = .fields ts) (h3 : ts[3]? = some .none)
    (h : ∀ h', (∀ b o, s.heap.get? b = some o → h'.get? b = some o) → Q () { s with heap := h' }) : wpAny M A (setFlight (.ref e) none) Q E s := by
  unfold setFlight
  refine wpAny_bind (wpAny_field he hd h1 ?_)
  have nn : (Value.ref T != Value.none) = true := by simp
  rw [if_pos nn]
  refine wpAny_setField hT hdT (Array.getElem?_eq_some_iff.mp h3).1 (h _ fun b o hb => ?_)
  by_cases z : b = T
  · subst z
    rw [Heap.get?_update_self _ hT (Obj.isFreed_of_fields (Obj.data_mapFields hdT _))]
    rw [hT] at hb
    cases hb
    obtain ⟨c, d, dt, sl⟩ := oT
    have hdT' : dt = .fields ts := hdT
    subst hdT'
    obtain ⟨hlt, e3⟩ := Array.getElem?_eq_some_iff.mp h3
    have same : ts.setIfInBounds 3 Value.none = ts := by
      apply Array.ext_getElem?
      intro i
      rw [Array.getElem?_setIfInBounds]
      split
      · rename_i hi
        subst hi
        first
          | exact h3.symm
          | rw [if_pos hlt, h3]
      · rfl
    show some (Obj.mapFields (·.setIfInBounds 3 Value.none) { cls := c, dict := d, data := .fields ts, slots := sl }) = _
    show some ({ cls := c, dict := d, data := .fields (ts.setIfInBounds 3 Value.none), slots := sl } : Obj) = _
    rw [same]
  · exact (Heap.get?_update_other _ _ (Ne.symm z)).trans hb
/-- what «except .. as n» wishes of an exception of the body: slot i is n's; behind the suite the exception is kept -/
def wKeep (K : PySem.W.Frag) (tt : Addr → Value → Option Addr → TE) (i : Nat) (ts : Addr → Value → Option Addr → TS) (D : Ends) : WX := fun cls d σ H => ∀ a, H a = none → tt a cls d σ H fun v H1 => ClM K cls v H1 true ∧
  ts a cls d { nx := fun σ' H' => H' a = none → D.nx (σ'.set i none) (upd H' a (ExV cls d a)), rt := fun _ _ => False } (σ.set i (some (.ref a))) H1
section
variable {X : Cx} {n : Str} {i : Nat} {body suite : List Stmt} {b₀ : Stmt} {te : Expr} {pos pos' : Pos} {tb : WX → TS} {tt : Addr → Value → Option Addr → TE} {ts : Addr → Value → Option Addr → TS}
theorem ps_keep (hs : X.stack = X.env :: X.outer) (hf : X.env.frame = some X.env.locals) (hN : X.N.Nodup) (hi : X.N[i]? = some n) (hln : X.env.kindOf n = some .local) (hex : X.ex = [])
    (hb : ∀ (W : WX) (pn : List (Addr × Obj)) (xe : Value → Shared → Prop), Takes (X.tr pn xe) W → PassesOwn (model X.prog X.w) X.A X.env xe → PSs (X.tr pn xe) body (tb W))
    (hcl : ∀ (a : Addr) (oe : Obj) (cls : Value) (d : Option Addr) (pn : List (Addr × Obj)), Zc cls d oe → (∃ vs, oe.data = .fields vs) → PE (X.suite a ((a, oe) :: pn)) te (tt a cls d))
    (hsu : ∀ (a : Addr) (oe : Obj) (cls : Value) (d : Option Addr) (pn : List (Addr × Obj)), Zc cls d oe → (∃ vs, oe.data = .fields vs) → PSs (X.suite a ((a, oe) :: pn)) (b₀ :: suite) (ts a cls d)) :
    PS X (.Try body [.ExceptHandler (some te) (some n) (b₀ :: suite) pos'] [] [] pos) (fun D σ H => tb (wKeep X.K tt i ts D) D σ H) := by
  constructor
  intro pins s σ H D I h
  have ok := I.ok
  have hfr : X.A.frames = some (X.env :: X.outer) := ok.frames.trans (congrArg some hs)
  have hloc : L2.Loc X.env.scope n := .inl hln
  refine wpAny_Try_except ?_
  refine wpAny_mono ((hb (wKeep X.K tt i ts D) (X.pn ++ pins) (fun e s₁ => wpAny (model X.prog X.w) X.A (noteFrame e X.env) (fun _ s₂ => wpAny (model X.prog X.w) X.A (setFlight e none) (fun _ s₃ =>
    wpAny (model X.prog X.w) X.A (handleBy e X.env [.ExceptHandler (some te) (some n) (b₀ :: suite) pos']) (SP X pins D) X.xe s₃) X.xe s₂) X.xe s₁) (fun u s' caught => ?_) PassesOwn.looking).run [] s σ H D (I.toTry _) h) (fun f s1 hsp => ?_) (fun e s1 he => he)
  · obtain ⟨a, B, sI, pins', σ', H', cls, d, rfl, J', nb, up, sky, na, os, ag, wish⟩ := caught
    have J : L2.Inv X pins σ' H' sI := J'.ofTry ok
    have sky' : Sky B (X.env :: X.outer) a (Zc cls d) X.env.locals s'.heap := hs ▸ sky
    show wpAny (model X.prog X.w) X.A (noteFrame (.ref a) X.env) _ _ _
    refine Sky.land Zc.steady hfr hf sky' fun h3 fl3 up3 => ?_
    have J3 : L2.Inv X pins σ' H' { s' with heap := h3 } := J.landed nb fl3.1 (up.trans up3) os ag
    obtain ⟨-, nB, ff, oe3, vs3, T, oT, ts3, he3, hz3, hd3, hT1, nBT, hTe, hT, hdT, hT3⟩ := id fl3
    have nfr : a ∉ frs (X.env :: X.outer) := fun hm => by
      obtain ⟨_, o', e', hnf⟩ := ff.mem hm
      rw [he3] at e'
      cases e'
      exact hnf _ hd3
    have nfs : a ∉ frs X.stack := by
      rw [hs]
      exact nfr
    have nL : a ≠ X.env.locals := fun z => nfr (List.mem_filterMap.mpr ⟨X.env, List.mem_cons_self, by rw [hf, z]⟩)
    have nF : a ∉ X.fs := fun hm => by
      obtain ⟨e, he, q⟩ := List.mem_filterMap.mp hm
      exact nfr (List.mem_filterMap.mpr ⟨e, List.mem_cons_of_mem _ he, q⟩)
    have nI : sI.heap.get? a = none := by
      cases q : sI.heap.get? a with
      | none => rfl
      | some o =>
        have z := nb a o q nfs
        rw [nB] at z
        cases z
    have n0 : X.s_0.heap.get? a = none := by
      cases q : X.s_0.heap.get? a with
      | none => rfl
      | some o =>
        obtain ⟨o', z⟩ := J.base.there a o q (by rw [hex]; exact fun z => nomatch z)
        rw [nI] at z
        cases z
    have nP : ∀ p ∈ X.pn ++ pins, p.1 ≠ a := fun p hp z => by
      have q := (J.pin p hp).1
      rw [z, nI] at q
      cases q
    have recNo : ∀ {b : Addr} {o : Obj} {fs : Array Value}, h3.get? b = some o → o.data = .fields fs → b ∉ frs (X.env :: X.outer) := fun {b o fs} e dd hm => by
      obtain ⟨_, o', e', hnf⟩ := ff.mem hm
      rw [e] at e'
      cases e'
      exact hnf _ dd
    have tfr := recNo hT hdT
    have nTL : T ≠ X.env.locals := fun z => tfr (List.mem_filterMap.mpr ⟨X.env, List.mem_cons_self, by rw [hf, z]⟩)
    have nTF : T ∉ X.fs := fun hm => by
      obtain ⟨e, he, q⟩ := List.mem_filterMap.mp hm
      exact tfr (List.mem_filterMap.mpr ⟨e, List.mem_cons_of_mem _ he, q⟩)
    have nHT : H' T = none := HOk.gone (show HOk X.prog X.w H' B from J.inGround nb) nBT
    have J3T : L2.Inv X ((T, oT) :: pins) σ' H' { s' with heap := h3 } := { J3 with
      pin := fun p hp => by
        rcases List.mem_append.mp hp with z | z
        · exact J3.pin p (List.mem_append_left _ z)
        · rcases List.mem_cons.mp z with z | z
          · subst z
            exact ⟨hT, nHT, nTL, nTF, fun v y => by
              have y' : oT.data = .cell v := y
              rw [hdT] at y'
              cases y'⟩
          · exact J3.pin p (List.mem_append_right _ z) }
    have S3 := J3T.suite he3 hd3 na nL nF
    refine wpAny_handleBy_cons (codeAny_handlers_test ?_) (by intro q; cases q)
    refine wpAny_mono ((hcl a oe3 cls d (X.pn ++ (T, oT) :: pins) hz3 ⟨_, hd3⟩).run [] _ _ H' _ S3 (wish a na)) (fun u sx got => ?_) (fun _ _ z => False.elim z)
    obtain ⟨v, H1, I1, r1, cm, sw⟩ := got
    have atA := (I1.pin (a, oe3) (List.mem_append_left _ List.mem_cons_self)).1
    have atT := (I1.pin (T, oT) (List.mem_append_left _ (List.mem_cons_of_mem _ (List.mem_append_right _ List.mem_cons_self)))).1
    have LT : PySem.W.Looks (model X.prog X.w) sx.heap (typeOf (.ref a)) cls := fun A Q E s k q => wpAny_typeOf_ref (k _ _ atA) (by rw [hz3.1]; exact q)
    refine (clm_looks (M := model X.prog X.w) I1.kIn I1.hok LT r1 cm).here ?_
    refine codeAny_handlers_suite_as ?_
    refine ground_again atA hd3 hT1 atT hdT hT3 fun h4 k4 => ?_
    have S4 : L2.Inv (X.suite a ((a, oe3) :: (X.pn ++ (T, oT) :: pins))) [] σ' H1 { sx with heap := h4 } := I1.kept (t' := sx.toks) k4
    refine store_ok (X := X.suite a ((a, oe3) :: (X.pn ++ (T, oT) :: pins))) (v := .ref a) S4 hN hi hloc rfl (fun s5 S5 => ?_) (.inr hln)
    refine wpAny_mono ((hsu a oe3 cls d (X.pn ++ (T, oT) :: pins) hz3 ⟨_, hd3⟩).run [] s5 _ H1 _ S5 sw) (fun f s6 hsp => ?_) (fun _ _ z => False.elim z)
    cases f with
    | next =>
      obtain ⟨σ6, H6, S6, q6⟩ := hsp
      obtain ⟨at6, n6, _⟩ := S6.pin (a, oe3) (List.mem_append_left _ List.mem_cons_self)
      have K6 := S6.unsuite J3T.ok
      have K7 : L2.Inv X pins σ6 H6 s6 := { K6 with
        pin := fun p hp => K6.pin p (by
          rcases List.mem_append.mp hp with z | z
          · exact List.mem_append_left _ z
          · exact List.mem_append_right _ (List.mem_cons_of_mem _ z)) }
      have K8 := inv_track (o := ExV cls d a) K7 at6 hd3 n0 n6 nL nP (exV_ok at6 hz3 hd3)
      exact gone_ok K8 hN hi hln fun s7 J7 => ⟨_, _, J7, q6 n6⟩
    | brk =>
      obtain ⟨σ6, H6, S6, q6⟩ := hsp
      exact False.elim q6
    | cont =>
      obtain ⟨σ6, H6, S6, q6⟩ := hsp
      exact False.elim q6
    | ret u =>
      obtain ⟨v6, σ6, H6, S6, r6, q6⟩ := hsp
      exact False.elim q6
  · cases f with
    | next =>
      obtain ⟨σ', H', J', q⟩ := hsp
      exact wpAny_execs_nil ⟨σ', H', J'.ofTry ok, q⟩
    | brk =>
      obtain ⟨σ', H', J', q⟩ := hsp
      exact ⟨σ', H', J'.ofTry ok, q⟩
    | cont =>
      obtain ⟨σ', H', J', q⟩ := hsp
      exact ⟨σ', H', J'.ofTry ok, q⟩
    | ret u =>
      obtain ⟨v, σ', H', J', r, q⟩ := hsp
      exact ⟨v, σ', H', J'.ofTry ok, r, q⟩
end
end NS

/-! ### a kept exception is read: its class, its field -/
namespace NS
open PySem PySem.Spec PyProof.Rows L2
/-- at a: an exception of the class at D with the fields fs -/
def Exn (H : Hp) (a D : Addr) (fs : List (Str × V)) : Prop := (H a = some (ExV (.ref D) none a) ∧ fs = []) ∨ ∃ dd, H a = some (ExV (.ref D) (some dd) a) ∧ H dd = some (.xd fs)
theorem Exn.ext {H H' : Hp} {a D : Addr} {fs : List (Str × V)} (s : ∀ b o, H b = some o → (∀ ps, o ≠ .tbl ps) → H' b = some o) (e : Exn H a D fs) : Exn H' a D fs := by
  rcases e with ⟨h, z⟩ | ⟨dd, h1, h2⟩
  · exact .inl ⟨s _ _ h (fun ps z => by unfold ExV at z; cases z), z⟩
  · exact .inr ⟨dd, s _ _ h1 (fun ps z => by unfold ExV at z; cases z), s _ _ h2 fun ps z => nomatch z⟩
theorem Exn.same {H H' : Hp} {a D : Addr} {fs : List (Str × V)} (s : Same H H') (e : Exn H a D fs) : Exn H' a D fs := e.ext fun b o h _ => s b o h
/-- what the top says of the own class named x, at C -/
structure ErrC (K : PySem.W.Frag) (mg : Str → Option Value) (x : Str) (newId : String) (bm : List Value) (fld : Str) (C : Addr) : Prop where
  g : mg x = some (.ref C)
  o : OexB K C newId bm
  nof : PySem.W.findIn K (.ref C) fld = some none
  hg : PySem.W.findIn K (.ref C) "__getattribute__" = some (some (.builtin "BaseException.__getattribute__"))
  hk : PySem.W.findIn K (.ref C) "__getattr__" = some none
  hd : PySem.W.hasDictIn K C = true
  ha : PySem.W.findIn K (.ref C) "__class__" = some (some (.builtin "object.__class__"))
  hm : PySem.W.mroIn K C (.type "object") = some true
  hn : PySem.W.specialIn K (.builtin "object.__class__") "__get__" = some (some (.builtin "getset_descriptor.__get__"))
  ht : PySem.W.takesIn K (.builtin "object.__class__") = some true
/-- its __init__ -/
structure ErrI (K : PySem.W.Frag) (C : Addr) (qual : Str) (st : Stmt) (ps : List Str) (fI : Addr) (fd : FuncData) : Prop where
  iC : PySem.W.findIn K (.ref C) "__init__" = some (some (.ref fI))
  tI : PySem.W.typeIn K (.ref fI) = some (.type "function")
  F : Fun K "__init__" qual st fI fd
  b : Binds K fd ps []
theorem kit_own {K : PySem.W.Frag} {D C : Addr} {b : Bool} (hd : PySem.W.hasDictIn K C = true) (ht : PySem.W.typeIn K (.ref C) = some (.type "type")) (hs : PySem.W.subIn K (.ref D) (.ref C) = some b) (hr : PySem.W.subIn K (.ref D) (.ref D) = some true) : PySem.W.kitOne K (.ref D) (.ref C) = some b := by
  obtain ⟨cd, hc, _⟩ := PySem.W.any_some hd
  unfold PySem.W.kitOne
  by_cases e : D = C
  · subst e
    rw [hs] at hr
    cases hr
    rw [if_pos (by simp)]
  · rw [if_neg (by simpa using e)]
    show (if ((PySem.W.clsIn K C).isSome && PySem.W.typeIn K (.ref C) == some (.type "type")) = true then PySem.W.subIn K (.ref D) (.ref C) else none) = some b
    rw [hc, ht, hs]
    rfl
theorem kit_bt {K : PySem.W.Frag} {D : Addr} {T : String} {b : Bool} (hm : PySem.W.kitMeta T = true) (hs : PySem.W.subIn K (.ref D) (.type T) = some b) : PySem.W.kitOne K (.ref D) (.type T) = some b := by
  unfold PySem.W.kitOne
  rw [if_neg (by simp)]
  show (if PySem.W.kitMeta T = true then PySem.W.subIn K (.ref D) (.type T) else none) = some b
  rw [if_pos hm, hs]
theorem exm_own {K : PySem.W.Frag} {cls : Value} {C : Addr} {b : Bool} (hb : PySem.W.subIn K (.ref C) (.type "BaseException") = some true) (hd : PySem.W.hasDictIn K C = true) (ht : PySem.W.typeIn K (.ref C) = some (.type "type")) (hs : PySem.W.subIn K cls (.ref C) = some b) : PySem.W.exmOne K cls (.ref C) = some b := by
  obtain ⟨cd, hc, _⟩ := PySem.W.any_some hd
  unfold PySem.W.exmOne
  rw [hb, if_pos (by rfl)]
  show (if ((PySem.W.clsIn K C).isSome && PySem.W.typeIn K (.ref C) == some (.type "type")) = true then PySem.W.subIn K cls (.ref C) else none) = some b
  rw [hc, ht, hs]
  rfl
theorem exmAny_nil {K : PySem.W.Frag} {cls : Value} : PySem.W.exmAny K cls [] = some false := rfl
theorem exmAny_c {K : PySem.W.Frag} {cls c : Value} {r : List Value} {b d : Bool} (h1 : PySem.W.exmOne K cls c = some b) (h2 : PySem.W.exmAny K cls r = some d) : PySem.W.exmAny K cls (c :: r) = some (b || d) := by
  unfold PySem.W.exmAny
  rw [h1, h2]
/-- what isinstance asks of the class D -/
structure IsD (K : PySem.W.Frag) (D : Addr) : Prop where
  hg : PySem.W.findIn K (.ref D) "__getattribute__" = some (some (.builtin "BaseException.__getattribute__"))
  hk : PySem.W.findIn K (.ref D) "__getattr__" = some none
  hs : PySem.W.subIn K (.ref D) (.type "BaseException") = some true
  hd : PySem.W.hasDictIn K D = true
  ha : PySem.W.findIn K (.ref D) "__class__" = some (some (.builtin "object.__class__"))
  hm : PySem.W.mroIn K D (.type "object") = some true
  hn : PySem.W.specialIn K (.builtin "object.__class__") "__get__" = some (some (.builtin "getset_descriptor.__get__"))
  ht : PySem.W.takesIn K (.builtin "object.__class__") = some true
theorem ErrC.isD {K : PySem.W.Frag} {mg : Str → Option Value} {x : Str} {newId : String} {bm : List Value} {fld : Str} {C : Addr} (e : ErrC K mg x newId bm fld C) : IsD K C := ⟨e.hg, e.hk, e.o.exC, e.hd, e.ha, e.hm, e.hn, e.ht⟩
section
variable {X : Cx} {pins : List (Addr × Obj)} {σ : L2.St} {H : Hp} {s : Shared}
theorem exn_inst {a D : Addr} {fs : List (Str × V)} (I : L2.Inv X pins σ H s) (e : Exn H a D fs) : ∃ (oe : Obj) (od : Option Obj), PySem.W.InstAt s.heap a oe D od := by
  rcases e with ⟨h, _⟩ | ⟨dd, h1, h2⟩
  · obtain ⟨oe, vs, ho, hz, hv⟩ := exV_at I.hok h
    refine ⟨oe, none, ho, hz.1, by unfold PySem.W.notCls; rw [hv] <;> rfl, ?_⟩
    rw [hz.2]
    trivial
  · obtain ⟨oe, vs, ho, hz, hv⟩ := exV_at I.hok h1
    have hx : ObjOk X.prog X.w H s.heap dd (.xd fs) := I.hok dd _ h2
    obtain ⟨mA, hns, _⟩ := hx
    obtain ⟨od, hod, _⟩ := lookIn_ns hns
    refine ⟨oe, some od, ho, hz.1, by unfold PySem.W.notCls; rw [hv] <;> rfl, ?_⟩
    rw [hz.2]
    exact hod
end
def rIsX (K : PySem.W.Frag) : List V → Hp → VK → Prop := fun xs H Q => ∃ (a D : Addr) (fs : List (Str × V)) (c : V) (cv : Value) (b : Bool), xs = [.ref a, c] ∧ Exn H a D fs ∧ IsD K D ∧ (∀ u, RelV c u → u = cv) ∧ PySem.W.kitOne K (.ref D) cv = some b ∧ Q (.bl b) H
theorem call_isX {X : Cx} : CallR X (.builtin "isinstance") (rIsX X.K) := by
  intro pins s σ H xs us Q I r h
  obtain ⟨a, D, fs, c, cv, b, rfl, ex, C, hcv, e, q⟩ := h
  cases r with
  | cons rx rr =>
    cases rr with
    | cons rt rr =>
      cases rr
      cases rx
      have ec := hcv _ rt
      subst ec
      obtain ⟨oe, od, J⟩ := exn_inst I ex
      have isC : (PySem.W.clsIn X.K D).isSome = true := by
        obtain ⟨cd, hc, _⟩ := PySem.W.any_some C.hd
        rw [hc]
        rfl
      exact PySem.W.kia_one (PySem.W.kitx_exc isC C.hg C.hk C.hs C.ha C.hn C.ht C.hm) I.kIn J e (fun z => nomatch z) fun tk => ⟨.bl b, H, I.kept (t' := tk) fun _ _ z => z, rfl, q⟩
/-- e.f, e a kept exception -/
def tXv (K : PySem.W.Frag) (f : Str) (te : TE) : TE := fun σ H Q => te σ H fun x H1 => ∃ (a D dd : Addr) (fs : List (Str × V)) (v : V), x = .ref a ∧ H1 a = some (ExV (.ref D) (some dd) a) ∧ H1 dd = some (.xd fs) ∧ IsD K D ∧ PySem.W.findIn K (.ref D) f = some none ∧ fs.lookup f = some v ∧ Q v H1
theorem pe_xv {X : Cx} {e : Expr} {te : TE} {pos : Pos} {n : Str} (he : PE X e te) (hb : attributeBase e n X.env (eval e X.env) = eval e X.env := by rfl) : PE X (.Attribute e n pos) (tXv X.K n te) := by
  refine ⟨fun pins s σ H Q I h => ?_⟩
  refine attr_of hb (thn (he.run pins s σ H _ I h) fun u s1 got => ?_)
  obtain ⟨x, H1, I1, rx, a, D, dd, fs, v, ex, e1, e2, T, hno, l, q⟩ := got
  subst ex
  obtain rfl : u = Value.ref a := rx
  obtain ⟨oe, vs, ho, hz, hv⟩ := exV_at I1.hok e1
  have hx : ObjOk X.prog X.w H1 s1.heap dd (.xd fs) := I1.hok dd _ e2
  obtain ⟨mA, hns, hr⟩ := hx
  obtain ⟨od, hod, hl⟩ := lookIn_ns hns
  obtain ⟨u, hu, ru⟩ := RelO.some_of (v := v) (o := mA n) (by rw [← l]; exact hr n)
  have J : PySem.W.InstAt s1.heap a oe D (some od) := ⟨ho, hz.1, by unfold PySem.W.notCls; rw [hv] <;> rfl, by rw [hz.2]; exact hod⟩
  exact HandSPX.exc_get I1.kIn J T.hg T.hk T.hs (PySem.W.findObj_own T.hd hno rfl (by rw [hl, hu])) (handed_of ru) ⟨v, H1, I1.tok _, ru, q⟩
/-! ### the __init__ of an own class -/
def spInit (K : PySem.W.Frag) (newId : String) (bm : List Value) (f : Str) : Sp := fun vs H Q _ => ∃ (a C : Addr) (v : V), vs = [.ref a, v] ∧ H a = some (exo a C none) ∧ OexB K C newId bm ∧ PySem.W.findIn K (.ref C) f = some none ∧ ∀ dx, H dx = none → dx ≠ a → Q .non (upd (upd H dx (exd dx [(f, v)])) a (exo a C (some dx)))
def spInit0 (K : PySem.W.Frag) (newId : String) (bm : List Value) : Sp := fun vs H Q _ => ∃ a C : Addr, vs = [.ref a] ∧ H a = some (exo a C none) ∧ OexB K C newId bm ∧ Q .non H
/-- what C(v) asks -/
theorem made_of {K : PySem.W.Frag} {newId : String} {bm : List Value} {f : Str} {C : Addr} {v : V} {H : Hp} {Q : XK} (T : OexB K C newId bm) (hno : PySem.W.findIn K (.ref C) f = some none) (q : ∀ d, H d = none → Q (.ref C) (some d) (upd H d (.xd [(f, v)]))) :
    [v].length ≤ 1000 ∧ ∀ a, H a = none → spInit K newId bm f (.ref a :: [v]) (upd H a (exo a C none)) (fun u H2 => u = .non ∧ ((∃ (d : Addr) (fs : List (Str × V)), H2 a = some (exo a C (some d)) ∧ H2 d = some (exd d fs) ∧ H d = none ∧ Q (.ref C) (some d) (upd (del H2 a) d (.xd fs))) ∨ (H2 a = some (exo a C none) ∧ Q (.ref C) none (del H2 a)))) (fun _ _ _ => False) := by
  refine ⟨(by show 1 ≤ 1000; decide), fun a na => ⟨a, C, v, rfl, upd_same, T, hno, fun dx n1 n2 => ⟨rfl, .inl ⟨dx, [(f, v)], upd_same, ?_, ?_, ?_⟩⟩⟩⟩
  · rw [upd_ne n2, upd_same]
  · rw [upd_ne n2] at n1
    exact n1
  · have e : upd (del (upd (upd (upd H a (exo a C none)) dx (exd dx [(f, v)])) a (exo a C (some dx))) a) dx (.xd [(f, v)]) = upd H dx (.xd [(f, v)]) := by
      funext b
      by_cases h1 : b = dx
      · rw [h1, upd_same, upd_same]
      · rw [upd_ne h1, upd_ne h1]
        by_cases h2 : b = a
        · rw [h2, del_same, na]
        · rw [del_ne h2, upd_ne h2, upd_ne h1, upd_ne h2]
    rw [e]
    rw [upd_ne n2] at n1
    exact q dx n1
theorem made_of0 {K : PySem.W.Frag} {newId : String} {bm : List Value} {C : Addr} {H : Hp} {Q : XK} (T : OexB K C newId bm) (q : Q (.ref C) none H) :
    ([] : List V).length ≤ 1000 ∧ ∀ a, H a = none → spInit0 K newId bm (.ref a :: []) (upd H a (exo a C none)) (fun u H2 => u = .non ∧ ((∃ (d : Addr) (fs : List (Str × V)), H2 a = some (exo a C (some d)) ∧ H2 d = some (exd d fs) ∧ H d = none ∧ Q (.ref C) (some d) (upd (del H2 a) d (.xd fs))) ∨ (H2 a = some (exo a C none) ∧ Q (.ref C) none (del H2 a)))) (fun _ _ _ => False) := by
  refine ⟨Nat.zero_le _, fun a na => ⟨a, C, rfl, upd_same, T, rfl, .inr ⟨upd_same, ?_⟩⟩⟩
  have e : del (upd H a (exo a C none)) a = H := by
    funext b
    by_cases h2 : b = a
    · rw [h2, del_same, na]
    · rw [del_ne h2, upd_ne h2]
  rw [e]
  exact q
/-- a def that may raise -/
structure KnX (P : Program) (w : World) (K : PySem.W.Frag) (mg : Str → Option Value) (base : Heap) (k : Nat) (x : Str) (st : Stmt) (ps : List Str) (sp : Sp) (f : Addr) (fd : FuncData) : Prop where
  D : Df K mg x st ps f fd
  G : FnOk P w K mg base (L2.CX P w) k f fd ps sp
/-! ### list.count of a plain value -/
def rCntF (K : PySem.W.Frag) : V → List V → Hp → VK → Prop := fun x xs H Q => ∃ (a : Addr) (ys : List V) (y : V), x = .ref a ∧ xs = [y] ∧ SqL K H a ys ∧ flatV y = true ∧ ys.all flatV = true ∧ Q (.int (ys.countP (fun z => eqV z y) : Nat)) H
theorem mt_cntF {X : Cx} : MtR X "list.count" (rCntF X.K) := by
  intro pins s σ H x xs v us Q I rx rxs h
  obtain ⟨a, ys, y, rfl, rfl, hs, fy, fys, q⟩ := h
  cases rx
  cases rxs with
  | cons ry rt =>
    rename_i uy ut
    cases rt
    obtain ⟨its, rv, ⟨⟨cls, dd, data, sl⟩, n, ho, hc, hdn, hd⟩, hlen⟩ := I.list hs
    simp only at hc hd
    subst hc hd
    have cnt : ∀ (ys : List V) (its : List Value), Vals ys its → ys.all flatV = true → its.countP (eqU y) = ys.countP fun z => eqV z y := by
      intro ys
      induction ys with
      | nil =>
        intro its r _
        cases r
        rfl
      | cons z ys ih =>
        intro its r fz
        cases r with
        | cons r1 r2 =>
          rw [List.all_cons, Bool.and_eq_true] at fz
          rw [List.countP_cons, List.countP_cons, ih _ r2 fz.2, eqU_of r1 fz.1]
    refine call_meets PySem.F.slot_list_count ⟨_, ho, rfl⟩ PySem.F.entry_list_count (PySem.F.args_list_count_2 _ _) (SeqAt.list_countAt a its.toArray n dd sl uy (eqU y)) ⟨ho, fun u' hu' => mem_eqAt ry fy rv fys u' (by simpa using hu'), ?_⟩
    refine ⟨.int (ys.countP (fun z => eqV z y) : Nat), H, I.tok _, ⟨s.toks, ?_⟩, q⟩
    show Value.int ((its.toArray.toList.countP (eqU y) : Nat) : Int) s.toks = _
    rw [← cnt ys its rv fys]
end NS

/-! ### g(lambda: b): a lambda without parameters, handed to a def that calls it -/
namespace NS
open PySem PySem.Spec PyProof.Rows L2 LamX NdefX
/-- what the captured cells held when the running frame began they hold still -/
theorem cells_keep {X : Cx} {pins : List (Addr × Obj)} {σ : L2.St} {H : Hp} {s : Shared} {cl : List (Str × Addr)} {fr : List Str} {ws : List (Option V)} (C : CellsAt cl fr ws X.s_0.heap X.H_0) (hx : X.ex = []) (I : L2.Inv X pins σ H s) : CellsAt cl fr ws s.heap H := by
  have no : ∀ c : Addr, c ∉ X.ex := fun c z => by
    rw [hx] at z
    exact nomatch z
  have kp : ∀ {y c}, cl.lookup y = some c → ∀ {v}, X.s_0.heap.IsCell c v → s.heap.IsCell c v := fun {y c} e {v} z => by
    obtain ⟨o, ho, hd⟩ := z
    obtain ⟨sl, q⟩ := I.base.any ho (C.all y c e).1 (no c)
    exact ⟨_, q, hd⟩
  refine ⟨C.len, fun y c e => ?_, C.inj, fun i y e => ?_⟩
  · obtain ⟨n, v, z⟩ := C.all y c e
    obtain ⟨o, ho, _⟩ := id z
    exact ⟨I.base.free c o ho n (no c), v, kp e z⟩
  · obtain ⟨c, hc, hv⟩ := C.has i y e
    refine ⟨c, hc, fun v ev => ?_⟩
    obtain ⟨u, r, z⟩ := hv v ev
    exact ⟨u, r, kp hc z⟩
/-- a(), in the def that got the lambda as a -/
theorem pe_actL {Z : Cx} {N fr : List Str} {F : NF} {b : Expr} {f : Addr} {k i : Nat} {a : Str} {pn : List (Addr × Obj)} {xe : Value → Shared → Prop} {W : WX} {tb : XK → TE} {ws : List (Option V)} {p1 p2 : Pos} (S : NScope N [] fr F.scope)
    (bnd : ∀ pm ctv : Value, bindArgs (PySem.W.kla_fn F.name F.qual F.params b F.scope F.cl pm (.ref F.c) ctv) ⟨[], []⟩ = pure []) (C : CellsAt F.cl fr ws Z.s_0.heap Z.H_0) (hex : Z.ex = []) (tk : Takes (Z.tr pn xe) W) (hr : Room (k + 1) Z.A)
    (hb : ∀ (A : Around) (outer : List Env) (s : Shared) (H : Hp) (E : XK), Room k (A.deeper (envF F f s.heap.objs.size)) → PE (ncx (L2.CX Z.prog Z.w) Z.prog Z.w Z.K Z.mg Z.base N F f A outer s H E) b (tb E))
    (hN : Z.N[i]? = some a) (hv : Vis Z.env.scope a) (hd : (a == ("__debug__" : Str)) = false) (hcd : (a == ("__classdict__" : Str)) = false) :
    PE (Z.tr pn xe) (.Call (.Name a p1) [] [] p2) (fun σZ HZ Q => σZ[i]? = some (some (.ref f)) ∧ HZ f = some (LamO f F b) ∧ HZ F.c = some (CodeO F.c F.qual) ∧ tb (fun cls d H' => W cls d σZ H') (startF N [] ws) HZ Q) := by
  refine ⟨fun pinsZ sZ σZ HZ Q IZ h => ?_⟩
  obtain ⟨hs, isL, isC, ht⟩ := h
  refine wpAny_Call_Name_kw (thn ((pe_var (X := Z.tr pn xe) (pos := p1) (i := i) hN hv hd hcd).run pinsZ sZ σZ HZ (fun v H1 => v = .ref f ∧ H1 = HZ) IZ ⟨.ref f, hs, rfl, rfl⟩) fun u s1 got => ?_)
  obtain ⟨v, H1, I1, r1, ev, eH⟩ := got
  subst ev
  rw [eH] at I1
  obtain rfl : u = Value.ref f := r1
  obtain ⟨od, sl, pm, ctv, ho⟩ := lamO_at I1.hok isL
  refine PySem.W.callWith_F0 ⟨_, _, _, _, ho⟩ ?_
  have CZ : CellsAt F.cl fr ws s1.heap HZ := cells_keep (X := Z.tr pn xe) C hex I1
  have run := lam_run (CX := L2.CX Z.prog Z.w) (E := fun cls d H' => W cls d σZ H') (k := k) (N := N) (ps := []) (fr := fr) (us := []) (vs := []) (ws := ws) (Q := Q) S (fun pm ctv us hl => by
    obtain rfl : us = [] := List.length_eq_zero_iff.mp hl
    exact bnd pm ctv) rfl (show Room (k + 1) Z.A from hr) I1.env0 isL isC CZ .nil fun hr' => ⟨_, hb _ _ _ _ _ hr', ht⟩
  refine wpAny_call (codeAny_mono run fun r s' hq => ?_)
  cases r with
  | error e => exact tk e s' (XE.of_call I1 (fun _ _ _ h => h) hq)
  | ok fl =>
    cases fl with
    | ret u => exact I1.after hq
    | next => exact False.elim hq
    | brk => exact False.elim hq
    | cont => exact False.elim hq
/-- the def that calls what it got as a; TT: what it makes of the lambda's reading -/
def GivesL (P : Program) (w : World) (K : PySem.W.Frag) (mg : Str → Option Value) (base : Heap) (A : Around) (stack : List Env) (Ng : List Str) (x : Str) (sg : Scope) (g : Addr) (cdg : Value) (bg : List Stmt) (a : Str) (kg : Nat) (TT : (XK → Hp → VK → Prop) → Hp → VK → Prop) : Prop :=
  ∀ (f : Addr) (F : NF) (b : Expr) (s : Shared) (H : Hp) (Q : VK) (tl : XK → Hp → VK → Prop), Room kg (cxOf CX0 P w K mg base Ng x sg g cdg A stack s H E0).A →
    (∀ (W : WX) (pn : List (Addr × Obj)) (xe : Value → Shared → Prop) (p1 p2 : Pos), Takes ((cxOf CX0 P w K mg base Ng x sg g cdg A stack s H E0).nox.tr pn xe) W →
      PE ((cxOf CX0 P w K mg base Ng x sg g cdg A stack s H E0).nox.tr pn xe) (.Call (.Name a p1) [] [] p2) (fun σZ HZ Q => σZ[0]? = some (some (.ref f)) ∧ HZ f = some (LamO f F b) ∧ HZ F.c = some (CodeO F.c F.qual) ∧ tl (fun cls d H' => W cls d σZ H') HZ Q)) →
    H f = some (LamO f F b) → H F.c = some (CodeO F.c F.qual) → TT tl H Q →
    ∃ t, PSs (cxOf CX0 P w K mg base Ng x sg g cdg A stack s H E0).nox bg t ∧ t { nx := fun _ H' => Q .non H', rt := Q } (L2.start Ng [.ref f]) H
def tGive (Ps : List Addr) (nm : Nat → Nat → Str) (N : List Str) (js : List Nat) (TT : (XK → Hp → VK → Prop) → Hp → VK → Prop) (tb : XK → TE) : TE := fun σ H Q => TabsOk Ps nm H ∧ ∀ H1, ExtN H H1 → TabsOk Ps nm H1 → TT (fun E H' Q' => tb E (startF N [] (js.map (slotAt σ))) H' Q') H1 Q
theorem pe_giveL {X : Cx} {Ps : List Addr} {nm : Nat → Nat → Str} {c P g : Addr} {N Ng fr : List Str} {js : List Nat} {k : Nat} {a x : Str} {st : Stmt} {fd : FuncData} {params : Arguments} {b : Expr} {scope : Scope} {p pos lpos : Pos} {TT : (XK → Hp → VK → Prop) → Hp → VK → Prop} {tb : XK → TE}
    (D : Df X.K X.mg x st [a] g fd) (Sg : FnScope Ng [a] (defScope st)) (hNg : Ng[0]? = some a) (hva : Vis (defScope st) a) (hG : ∀ cdg, GivesL X.prog X.w X.K X.mg X.base X.A X.stack Ng x (defScope st) g cdg (defBody st) a (k + 1) TT) (hg : Gl X x)
    (TB : TabB X.base X.mg c P) (hcode : X.env.code = .ref c) (hP : P ∈ Ps) (hn : nm lpos.line lpos.col = X.env.qual ++ "<lambda>") (hdef : defaultsOf params X.env = ([], [])) (S : NScope N [] fr scope) (hsc : ndefB X.env.scope scope fr = true) (hjs : js.map (fun j => X.N[j]?) = fr.map some)
    (bnd : ∀ (q : Str) (cl : List (Str × Addr)) (pm cv ctv : Value), bindArgs (PySem.W.kla_fn "<lambda>" q params b scope cl pm cv ctv) ⟨[], []⟩ = pure []) (room : Room (k + 2) X.A)
    (hb : ∀ (A : Around) (outer : List Env) (s : Shared) (H : Hp) (E : XK) (f c' : Addr), Room k (A.deeper (envF (lamF X params scope c') f s.heap.objs.size)) → PE (ncx (L2.CX X.prog X.w) X.prog X.w X.K X.mg X.base N (lamF X params scope c') f A outer s H E) b (tb E))
    (hdb : (x == ("__debug__" : Str)) = false := by decide) (hd : (a == ("__debug__" : Str)) = false := by decide) (hcd : (a == ("__classdict__" : Str)) = false := by decide) :
    PE X (.Call (.Name x p) [.Lambda params b scope lpos] [] pos) (tGive Ps nm N js TT tb) := by
  refine ⟨fun pins s σ H Q I h => ?_⟩
  obtain ⟨hT, h⟩ := h
  refine wpAny_Call_Name_kw (ld_glob I hg D.g ?_ hdb)
  refine PySem.W.callWith_K (h₀ := X.base) I.ok.mod.kin D.F.kp ?_ (by rfl) (by rfl)
  show wpAny _ _ (spliced ((false, eval (.Lambda params b scope lpos) X.env) :: backTo pos (starEach [] X.env))) _ _ s
  have hf := ndef_free hsc
  refine Calls.spliced_cons (lam_made I TB hcode hP hn hT hdef (fun y hy z => (hf y hy z).elim (fun z => I.ok.has _ (.inl z)) fun z => I.ok.has _ (.inr z)) fun f c' H1 s' I1 gr T1 nf isL isC => ?_)
  refine Calls.spliced_nil ⟨I1.kIn, ?_⟩
  have caps := Caps.made (js := js) I1.ok hf (ndef_fr hsc) hjs
  have cells := cells_of I1 caps
  obtain ⟨oc, od, kV, doc, pm, an, cdg, ct, osl, efd, lk, hcd'⟩ := D.F.ex
  have bd : BindsTo s' fd ⟨[.ref f], []⟩ ([a].zip [.ref f]) := D.b s' [.ref f] I1.kIn rfl
  subst efd
  have rc : codeAny (model X.prog X.w) X.A (.call (.ref g) ⟨[.ref f], []⟩) (CR CX0 X.stack X.prog X.w H1 s' Q E0) s' := by
    refine run_ofS (k := k + 1) (N := Ng) (ps := [a]) (us := [.ref f]) (vs := [.ref f]) lk hcd' Sg room I1.env0 bd (.cons rfl .nil) rfl fun hr' => ?_
    obtain ⟨t', ht', hq'⟩ := hG cdg f (lamF X params scope c') b s' H1 Q (fun E H' Q' => tb E (startF N [] (js.map (slotAt σ))) H' Q') hr' (fun W pn xe p1 p2 tk => pe_actL (Z := (cxOf CX0 X.prog X.w X.K X.mg X.base Ng x (defScope st) g cdg X.A X.stack s' H1 E0).nox) S (fun pm ctv => bnd _ _ pm _ ctv) cells rfl tk hr' (fun A outer s H E hr2 => hb A outer s H E f c' hr2) hNg hva hd hcd) isL isC (h H1 gr T1)
    exact ⟨t', ht'.nox, hq'⟩
  refine wpAny_call (codeAny_mono rc fun r s2 hq => ?_)
  cases r with
  | error e => exact (show False from hq).elim
  | ok fl =>
    cases fl with
    | ret u => exact I1.after hq
    | next => exact False.elim hq
    | brk => exact False.elim hq
    | cont => exact False.elim hq
/-- f(..) within a try, f a def that may raise -/
def tCallW (sp : Sp) (W : WX) (t : TA) : TE := fun σ H Q => t σ H fun vs H1 => sp vs H1 Q (fun cls d H' => W cls d σ H')
theorem pe_callW {X : Cx} {k : Nat} {f : Addr} {fd : FuncData} {ps : List Str} {sp : Sp} {x : Str} {p pos : Pos} {e : Expr} {es : List Expr} {t : TA} {W : WX} (F : FnOk X.prog X.w X.K X.mg X.base (L2.CX X.prog X.w) k f fd ps sp) (hr : Room k X.A) (hg : Gl X x) (hm : X.mg x = some (.ref f)) (hk : PySem.W.keepIn X.K (.ref f) = true) (hb : Binds X.K fd ps [])
    (tk : Takes X W) (ha : PA X (e :: es) t) (hdb : (x == ("__debug__" : Str)) = false := by decide) (he : starEach (e :: es) X.env = (false, eval e X.env) :: starEach es X.env := by rfl) (hpl : (backTo pos (starEach es X.env)).any (·.1) = false := by rfl) :
    PE X (.Call (.Name x p) (e :: es) [] pos) (tCallW sp W t) := by
  constructor
  intro pins s σ H Q I h
  refine wpAny_Call_Name_kw (ld_glob I hg hm ?_ hdb)
  refine PySem.W.callWith_K (h₀ := X.base) I.ok.mod.kin hk (thn (ha.run pos pins s σ H _ I h) fun us s1 got => ?_) he hpl
  obtain ⟨vs, H1, I1, r, q⟩ := got
  refine ⟨I1.kIn, ?_⟩
  have hl : (us ++ []).length = ps.length := by
    rw [List.append_nil, ← r.length]
    exact F.len _ _ _ _ q
  have bd := hb s1 us I1.kIn hl
  rw [List.append_nil] at bd
  show wpAny _ _ (call (.ref f) us) _ _ _
  refine wpAny_call (codeAny_mono (F.run X.A X.stack s1 H1 ⟨us, []⟩ us vs Q _ hr I1.env0 bd r q) fun res s' hq => ?_)
  cases res with
  | error ex => exact tk ex s' (XE.of_call I1 (fun _ _ _ h => h) hq)
  | ok fl =>
    cases fl with
    | ret u => exact I1.after hq
    | next => exact False.elim hq
    | brk => exact False.elim hq
    | cont => exact False.elim hq
theorem sl_listK {X : Cx} {K : PySem.W.Frag} (e : X.K = K) : SlR X (rSlL K) := by subst e; exact sl_list
theorem takesE {P : Program} {w : World} {K : PySem.W.Frag} {mg : Str → Option Value} {base : Heap} {N : List Str} {q : Str} {sc : Scope} {f : Addr} {cd : Value} {A : Around} {outer : List Env} {s : Shared} {H : Hp} {E : XK} : Takes (cxOf (L2.CX P w) P w K mg base N q sc f cd A outer s H E) (fun cls d _ H' => E cls d H') :=
  takes_of (E₁ := fun e' s'' => L2.CX P w outer H s E e' s'') rfl rfl rfl rfl
theorem ownE {P : Program} {w : World} {K : PySem.W.Frag} {mg : Str → Option Value} {base : Heap} {N : List Str} {q : Str} {sc : Scope} {f : Addr} {cd : Value} {A : Around} {outer : List Env} {s : Shared} {H : Hp} {E : XK} : PassesOwn (model P w) (cxOf (L2.CX P w) P w K mg base N q sc f cd A outer s H E).A (cxOf (L2.CX P w) P w K mg base N q sc f cd A outer s H E).env (cxOf (L2.CX P w) P w K mg base N q sc f cd A outer s H E).xe :=
  passes_of (X := cxOf (L2.CX P w) P w K mg base N q sc f cd A outer s H E) (K := fun e s'' => L2.CX P w outer H s E e s'') (E₁ := fun e' s'' => L2.CX P w outer H s E e' s'') rfl
theorem takesN {P : Program} {w : World} {K : PySem.W.Frag} {mg : Str → Option Value} {base : Heap} {N : List Str} {F : NF} {f : Addr} {A : Around} {outer : List Env} {s : Shared} {H : Hp} {E : XK} : Takes (ncx (L2.CX P w) P w K mg base N F f A outer s H E) (fun cls d _ H' => E cls d H') :=
  takes_of (E₁ := fun e' s'' => L2.CX P w outer H s E e' s'') rfl rfl rfl rfl
/-- a guarded def whose code object is known -/
theorem okGC {P : Program} {w : World} {K : PySem.W.Frag} {mg : Str → Option Value} {base : Heap} {x : Str} {st : Stmt} {f c : Addr} {fd : FuncData} {N ps : List Str} {k : Nat} {sp : Sp} (L : DfC K x st f fd c) (S : FnScope N ps (defScope st)) (len : ∀ vs H Q E, sp vs H Q E → vs.length = ps.length)
    (body : ∀ (A : Around) (outer : List Env) (s : Shared) (H : Hp) (vs : List V) (Q : VK) (E : XK), A.guards = some [] → Room k (A.deeper (envOfC x (defScope st) s.heap.objs.size f (.ref c))) → sp vs H Q E →
      ∃ t, PSs (cxOf CX0 P w K mg base N x (defScope st) f (.ref c) A outer s H E).nox (defBody st) t ∧ t { nx := fun _ H' => Q .non H', rt := Q } (start N vs) H) : FnOkG P w K mg base (k + 1) f fd ps sp := by
  obtain ⟨oc, od, kV, doc, pm, an, ct, osl, efd, lk, hcd⟩ := L.ex
  subst efd
  refine ⟨len, fun A outer s H args us vs Q E hgd room en bnd rel promised => ?_⟩
  exact run_ofS (CX := CX0) (k := k) lk hcd S room en bnd rel (len _ _ _ _ promised) fun hr' => by
    obtain ⟨t, der, rd⟩ := body A outer s H vs Q E hgd hr' promised
    exact ⟨t, der.nox, rd⟩
/-- a def that may raise, whose code object is known -/
theorem okCX {P : Program} {w : World} {K : PySem.W.Frag} {mg : Str → Option Value} {base : Heap} {x : Str} {st : Stmt} {f c : Addr} {fd : FuncData} {N ps : List Str} {k : Nat} {sp : Sp} (L : DfC K x st f fd c) (S : FnScope N ps (defScope st)) (len : ∀ vs H Q E, sp vs H Q E → vs.length = ps.length)
    (body : ∀ (A : Around) (outer : List Env) (s : Shared) (H : Hp) (vs : List V) (Q : VK) (E : XK), Room k (A.deeper (envOfC x (defScope st) s.heap.objs.size f (.ref c))) → sp vs H Q E →
      ∃ t, PSs (cxOf (L2.CX P w) P w K mg base N x (defScope st) f (.ref c) A outer s H E) (defBody st) t ∧ t { nx := fun _ H' => Q .non H', rt := Q } (start N vs) H) : FnOk P w K mg base (L2.CX P w) (k + 1) f fd ps sp := by
  obtain ⟨oc, od, kV, doc, pm, an, ct, osl, efd, lk, hcd⟩ := L.ex
  subst efd
  exact fn_of lk hcd S len fun A outer s H vs Q E hr h => body A outer s H vs Q E hr h
end NS

/-! ### isinstance of a kept exception, of some classes -/
namespace NS
open PySem PySem.Spec PyProof.Rows L2
theorem kitAny_nil {K : PySem.W.Frag} {t : Value} : PySem.W.kitAny K t [] = some false := rfl
theorem kitAny_c {K : PySem.W.Frag} {t c : Value} {r : List Value} {b d : Bool} (h1 : PySem.W.kitOne K t c = some b) (h2 : PySem.W.kitAny K t r = some d) : PySem.W.kitAny K t (c :: r) = some (b || d) := by
  unfold PySem.W.kitAny
  rw [h1]
  cases b with
  | true => rfl
  | false => exact h2
def rIsXT (K : PySem.W.Frag) : List V → Hp → VK → Prop := fun xs H Q => ∃ (a D tp : Addr) (fs : List (Str × V)) (Cs : List V) (cvs : List Value) (b : Bool), xs = [.ref a, .ref tp] ∧ Exn H a D fs ∧ IsD K D ∧ H tp = some (.tup Cs) ∧ (∀ us, Vals Cs us → us = cvs) ∧ PySem.W.kitAny K (.ref D) cvs = some b ∧ Q (.bl b) H
theorem call_isXT {X : Cx} : CallR X (.builtin "isinstance") (rIsXT X.K) := by
  intro pins s σ H xs us Q I r h
  obtain ⟨a, D, tp, fs, Cs, cvs, b, rfl, ex, C, hT, hcv, e, q⟩ := h
  cases r with
  | cons rx rr =>
    cases rr with
    | cons rt rr =>
      cases rr
      cases rx
      cases rt
      obtain ⟨oe, od, J⟩ := exn_inst I ex
      have isC : (PySem.W.clsIn X.K D).isSome = true := by
        obtain ⟨cd, hc, _⟩ := PySem.W.any_some C.hd
        rw [hc]
        rfl
      obtain ⟨_, its, rv, o, h1, h2, n, h3⟩ := (show ObjOk X.prog X.w H s.heap tp (.tup Cs) from I.hok tp _ hT)
      have e3 := hcv _ rv
      subst e3
      obtain ⟨oc, od2, dt, sl⟩ := o
      simp only at h2 h3
      subst h2 h3
      exact PySem.W.kia_tup (PySem.W.kitx_exc isC C.hg C.hk C.hs C.ha C.hn C.ht C.hm) I.kIn J h1 e (fun z => nomatch z) fun tk => ⟨.bl b, H, I.kept (t' := tk) fun _ _ z => z, rfl, q⟩
theorem vals_ref2 {a b : Addr} : ∀ us, Vals [V.ref a, V.ref b] us → us = [Value.ref a, Value.ref b] := fun us h => by
  cases h with
  | cons r1 h =>
    cases h with
    | cons r2 h =>
      cases h
      cases r1
      cases r2
      rfl
theorem vals_ref3 {a b c : Addr} : ∀ us, Vals [V.ref a, V.ref b, V.ref c] us → us = [Value.ref a, Value.ref b, Value.ref c] := fun us h => by
  cases h with
  | cons r1 h =>
    cases h with
    | cons r2 h =>
      cases h with
      | cons r3 h =>
        cases h
        cases r1
        cases r2
        cases r3
        rfl
end NS

/-! ### integers and tables in texts: mathematics -/
namespace NS
open PySem PySem.Spec PyProof.Rows L2 TL
def digB (c : Nat) : Bool := decide (48 ≤ c) && decide (c ≤ 57)
theorem digB_iff {c : Nat} : digB c = true ↔ 48 ≤ c ∧ c ≤ 57 := by
  unfold digB
  rw [Bool.and_eq_true, decide_eq_true_eq, decide_eq_true_eq]
theorem digB_all {l : List Nat} : l.all digB = true ↔ NumText.AllDigits l := by
  rw [List.all_eq_true]
  exact ⟨fun h c hc => digB_iff.mp (h c hc), fun h c hc => digB_iff.mpr (h c hc)⟩
/-- written in digits without a leading zero -/
def canB (l : List Nat) : Bool := !l.isEmpty && l.all digB && !(decide (l.head? = some 48) && decide (l ≠ [48]))
theorem canB_iff {l : List Nat} : canB l = true ↔ l ≠ [] ∧ NumText.AllDigits l ∧ (l.head? = some 48 → l = [48]) := by
  unfold canB
  rw [Bool.and_eq_true, Bool.and_eq_true, digB_all, Bool.not_eq_true', Bool.not_eq_true', List.isEmpty_eq_false_iff, Bool.and_eq_false_iff, decide_eq_false_iff_not, decide_eq_false_iff_not]
  constructor
  · rintro ⟨⟨h1, h2⟩, h3⟩
    exact ⟨h1, h2, fun h => Classical.byContradiction fun z => h3.elim (fun y => y h) fun y => y z⟩
  · rintro ⟨h1, h2, h3⟩
    refine ⟨⟨h1, h2⟩, ?_⟩
    by_cases h : l.head? = some 48
    · exact .inr fun z => z (h3 h)
    · exact .inl h
theorem ofNat_digit : ∀ c : Nat, c < 58 → (Char.ofNat c).toNat = c := by decide
theorem map_digit {l : List Nat} (h : NumText.AllDigits l) : (l.map Char.ofNat).map Char.toNat = l := by
  rw [List.map_map]
  conv => rhs; rw [← List.map_id l]
  refine List.map_congr_left fun c hc => ?_
  have := h c hc
  exact ofNat_digit c (by omega)
theorem can_num {l : List Nat} (h : canB l = true) : numL (NumText.digitsVal l) = l := by
  obtain ⟨h1, h2, h3⟩ := canB_iff.mp h
  cases l with
  | nil => exact absurd rfl h1
  | cons c r =>
    have hc := h2 c List.mem_cons_self
    have := NumText.toDigits_digitsVal r.length (c :: r) rfl h2 (by
      cases r with
      | nil => exact .inl rfl
      | cons d r =>
        refine .inr ⟨c, d :: r, rfl, ?_⟩
        by_cases e : c = 48
        · subst e
          cases h3 rfl
        · omega)
    unfold numL
    rw [this, map_digit h2]
theorem num_head {n : Nat} (h : 1 ≤ n) : (numL n).head? ≠ some 48 := by
  induction n using Nat.strongRecOn with
  | _ n ih =>
    by_cases h10 : n < 10
    · rw [numL_lt h10]
      intro z
      have : 48 + n = 48 := Option.some.inj z
      omega
    · rw [numL_step (by omega)]
      have := ih (n / 10) (by omega) (by omega)
      rw [List.head?_append]
      cases hq : numL (n / 10) with
      | nil => exact absurd hq (numL_ne _)
      | cons c r =>
        rw [hq] at this
        exact this
theorem num_can (n : Nat) : canB (numL n) = true := by
  refine canB_iff.mpr ⟨numL_ne n, numL_digits n, fun h => ?_⟩
  by_cases h0 : 1 ≤ n
  · exact absurd h (num_head h0)
  · obtain rfl : n = 0 := by omega
    rw [numL_lt (by decide)]
theorem can_iff {l : List Nat} : numL (NumText.digitsVal l) = l ↔ canB l = true := ⟨fun h => by rw [← h]; exact num_can _, can_num⟩
theorem num_lt_pow (n : Nat) : n < 10 ^ (numL n).length := by
  induction n using Nat.strongRecOn with
  | _ n ih =>
    by_cases h10 : n < 10
    · rw [numL_lt h10]
      show n < 10 ^ 1
      omega
    · rw [numL_step (by omega), List.length_append, List.length_singleton, Nat.pow_succ]
      have := ih (n / 10) (by omega)
      omega
theorem num_mono {m n : Nat} (h : m ≤ n) : (numL m).length ≤ (numL n).length :=
  numL_len (List.length_pos_iff.mpr (numL_ne n)) (Nat.lt_of_le_of_lt h (num_lt_pow n))
/-- the integer that is written, with at most so many digits -/
def numO (l : List Nat) (most : Int) : Option Nat := if (1 : Int) ≤ l.length ∧ (l.length : Int) ≤ most ∧ canB l = true then some (NumText.digitsVal l) else none
/-- the cell of a row of k -/
def cellO (l : List Nat) (k : Nat) : Option Nat := if canB l = true ∧ NumText.digitsVal l < k then some (NumText.digitsVal l) else none
theorem num_cell {l : List Nat} {k : Nat} : ((numO l ((numL k).length : Nat)).bind fun n => if n < k then some n else none) = cellO l k := by
  unfold numO cellO
  by_cases hc : canB l = true
  · have e := can_num hc
    have hp : 1 ≤ l.length := List.length_pos_iff.mpr (canB_iff.mp hc).1
    by_cases hk : NumText.digitsVal l < k
    · have hl : l.length ≤ (numL k).length := by
        conv => lhs; rw [← e]
        exact num_mono (by omega)
      rw [if_pos ⟨by omega, by omega, hc⟩, if_pos ⟨hc, hk⟩, Option.bind_some, if_pos hk]
    · rw [show (if canB l = true ∧ NumText.digitsVal l < k then some (NumText.digitsVal l) else none) = none from if_neg fun z => hk z.2]
      split
      · rw [Option.bind_some, if_neg hk]
      · rfl
  · rw [if_neg fun z => hc z.2.2, if_neg fun z => hc z.1]
    rfl
theorem cell_num {n k : Nat} (h : n < k) : cellO (numL n) k = some n := by
  unfold cellO
  rw [numL_val, if_pos ⟨num_can n, h⟩]
/-- what a word writes in a table of k cells -/
def entO (w : Str) (k : Nat) : Option V := if w = "?" then some (.str "?") else if w = "-" then some .non else (cellO (tl w) k).map fun (n : Nat) => V.int (n : Int)
theorem tl_q : tl "?" = [63] := by decide +kernel
theorem tl_m : tl "-" = [45] := by decide +kernel
theorem tl_0 : tl "0" = [48] := by decide +kernel
theorem tl_sp : tl " " = [32] := by decide +kernel
theorem tl_dig : tl "0123456789" = [48, 49, 50, 51, 52, 53, 54, 55, 56, 57] := by decide +kernel
theorem str_tl {a b : Str} : a = b ↔ tl a = tl b := ⟨fun h => by rw [h], ext_tl⟩
theorem cell_q {k : Nat} : cellO (tl "?") k = none := by
  unfold cellO
  rw [if_neg]
  rintro ⟨h, _⟩
  rw [tl_q] at h
  exact absurd h (by decide)
theorem cell_m {k : Nat} : cellO (tl "-") k = none := by
  unfold cellO
  rw [if_neg]
  rintro ⟨h, _⟩
  rw [tl_m] at h
  exact absurd h (by decide)
/-- the text of an entry -/
def entT : V → Str
  | .non => "-"
  | .int i => toString i
  | .str x => x
  | _ => Str.empty
theorem tl_int (n : Nat) : tl (entT (.int (n : Int))) = numL n := tl_num n
theorem ent_back {k : Nat} {y : V} (h : TabV k y) : entO (entT y) k = some y := by
  unfold entO
  rcases h with rfl | rfl | ⟨i, rfl, hi⟩
  · show (if ("-" : Str) = "?" then _ else _) = _
    rw [if_neg (by decide +kernel)]
    exact if_pos rfl
  · show (if ("?" : Str) = "?" then _ else _) = _
    rw [if_pos rfl]
  · have e1 : entT (.int (i : Int)) ≠ "?" := fun z => by
      have := str_tl.mp z
      rw [tl_int, tl_q] at this
      have h2 := numL_digits i 63 (by rw [this]; exact List.mem_singleton.mpr rfl)
      omega
    have e2 : entT (.int (i : Int)) ≠ "-" := fun z => by
      have := str_tl.mp z
      rw [tl_int, tl_m] at this
      have h2 := numL_digits i 45 (by rw [this]; exact List.mem_singleton.mpr rfl)
      omega
    rw [if_neg e1, if_neg e2, tl_int, cell_num hi]
    rfl
theorem ent_free {k : Nat} {y : V} (h : TabV k y) : 32 ∉ tl (entT y) := by
  rcases h with rfl | rfl | ⟨i, rfl, hi⟩
  · show 32 ∉ tl "-"
    rw [tl_m]
    decide
  · show 32 ∉ tl "?"
    rw [tl_q]
    decide
  · rw [tl_int]
    exact numL_free (.inl (by decide))
theorem ent_len {k : Nat} {y : V} (hk : k ≤ 100) (h : TabV k y) : (entT y).length ≤ 2 := by
  rw [len_tl]
  rcases h with rfl | rfl | ⟨i, rfl, hi⟩
  · show (tl "-").length ≤ 2
    rw [tl_m]
    decide
  · show (tl "?").length ≤ 2
    rw [tl_q]
    decide
  · rw [tl_int]
    exact numL_len (by decide) (by omega)
/-- the text of a table -/
def tabT (ys : List V) : Str := Txt.join " " (ys.map entT)
theorem tab_words {k : Nat} {ys : List V} (h : ∀ y ∈ ys, TabV k y) (h0 : ys ≠ []) : Txt.split (tabT ys) " " = ys.map entT := by
  unfold tabT
  refine split_join (s := 32) (S := []) tl_sp (by decide +kernel) (by simpa using h0) fun p hp => ?_
  obtain ⟨y, hy, rfl⟩ := List.mem_map.mp hp
  exact ent_free (h y hy)
/-- the entries up to the first wrong word -/
def readN (k : Nat) : Nat → List Str → Sum Nat (List V)
  | _, [] => .inr []
  | i, w :: ws => match entO w k with
    | none => .inl i
    | some v => (readN k (i + 1) ws).map id (v :: ·)
def readT (x : Str) : Sum Nat (List V) := readN (Txt.split x " ").length 0 (Txt.split x " ")
theorem readN_all {k : Nat} : ∀ (ys : List V) (i : Nat), (∀ y ∈ ys, entO (entT y) k = some y) → readN k i (ys.map entT) = .inr ys
  | [], _, _ => rfl
  | y :: ys, i, h => by
    rw [List.map_cons, readN, h y List.mem_cons_self, readN_all ys (i + 1) fun z hz => h z (List.mem_cons_of_mem _ hz)]
    rfl
theorem read_back {ys : List V} (h : ∀ y ∈ ys, TabV ys.length y) (h0 : ys ≠ []) : readT (tabT ys) = .inr ys := by
  unfold readT
  rw [tab_words h h0, List.length_map]
  exact readN_all ys 0 fun y hy => ent_back (h y hy)
theorem readN_at {k : Nat} : ∀ (ws : List Str) (b i : Nat), (∀ j, j < i → ∃ v, (ws[j]?).bind (entO · k) = some v) → (∃ w, ws[i]? = some w ∧ entO w k = none) → readN k b ws = .inl (b + i)
  | [], b, i, _, ⟨w, h, _⟩ => by cases h
  | w :: ws, b, 0, _, ⟨w', h, e⟩ => by
    obtain rfl : w = w' := by simpa using h
    rw [readN, e]
    rfl
  | w :: ws, b, i + 1, h1, ⟨w', h, e⟩ => by
    obtain ⟨v, hv⟩ := h1 0 (Nat.succ_pos _)
    have hv : entO w k = some v := by simpa using hv
    rw [readN, hv, readN_at ws (b + 1) i (fun j hj => h1 (j + 1) (Nat.succ_lt_succ hj)) ⟨w', by simpa using h, e⟩]
    show Sum.inl (b + 1 + i) = Sum.inl (b + (i + 1))
    rw [Nat.add_right_comm, Nat.add_assoc]
theorem readN_ok {k : Nat} : ∀ (ws : List Str) (vs : List V) (b : Nat), ws.map (entO · k) = vs.map some → readN k b ws = .inr vs
  | [], [], _, _ => rfl
  | [], _ :: _, _, h => by cases h
  | _ :: _, [], _, h => by cases h
  | w :: ws, v :: vs, b, h => by
    rw [List.map_cons, List.map_cons] at h
    injection h with h1 h2
    rw [readN, h1, readN_ok ws vs (b + 1) h2]
    rfl
/-- strip of all digits -/
theorem strip_empty (x : Str) : Txt.stripChars x "0123456789" = Str.empty ↔ NumText.AllDigits (tl x) := by
  have hg : ∀ c, ("0123456789" : Str).cps.contains c = digB c := fun c => by
    rw [Bool.eq_iff_iff, digB_iff, Array.contains_iff_mem, ← Array.mem_toList_iff]
    show c ∈ tl "0123456789" ↔ _
    rw [tl_dig]
    simp only [List.mem_cons, List.not_mem_nil, or_false]
    omega
  unfold Txt.stripChars
  rw [PySem.W.stripBy_eq, str_tl]
  unfold PySem.W.stripped
  simp only [if_true]
  rw [tl_strSub]
  show _ = [] ↔ _
  have e0 : (("0123456789" : Str).cps.contains) = digB := funext hg
  rw [e0]
  show (((tl x).drop ((tl x).takeWhile digB).length).take (x.length - (((tl x).drop ((tl x).takeWhile digB).length).reverse.takeWhile digB).length - ((tl x).takeWhile digB).length)) = [] ↔ _
  rw [← digB_all, len_tl]
  have ed : (tl x).drop ((tl x).takeWhile digB).length = (tl x).dropWhile digB := by
    conv => lhs; arg 2; rw [← List.takeWhile_append_dropWhile (p := digB) (l := tl x)]
    exact List.drop_left
  rw [ed]
  have el : ((tl x).takeWhile digB).length + ((tl x).dropWhile digB).length = (tl x).length := by
    rw [← List.length_append, List.takeWhile_append_dropWhile]
  constructor
  · intro h
    cases hd : (tl x).dropWhile digB with
    | nil =>
      rw [← List.takeWhile_append_dropWhile (p := digB) (l := tl x), hd, List.append_nil]
      exact List.all_takeWhile
    | cons c r =>
      exfalso
      rw [hd] at h el
      have hc : digB c = false := by
        have := List.head?_dropWhile_not digB (tl x)
        rw [hd] at this
        simpa using this
      have hlen : (((c :: r).reverse).takeWhile digB).length < (c :: r).length := by
        refine Nat.lt_of_le_of_ne ?_ fun z => ?_
        · have := (List.takeWhile_sublist digB (l := (c :: r).reverse)).length_le
          rw [List.length_reverse] at this
          exact this
        · have e2 : ((c :: r).reverse).takeWhile digB = (c :: r).reverse := (List.takeWhile_sublist digB).eq_of_length (by rw [List.length_reverse]; exact z)
          have := List.all_takeWhile (p := digB) (l := (c :: r).reverse)
          rw [e2, List.all_reverse, List.all_cons, hc] at this
          cases this
      have := congrArg List.length h
      rw [List.length_take, List.length_nil] at this
      omega
  · intro h
    have : ∀ l : List Nat, l.all digB = true → l.dropWhile digB = [] := fun l => by
      induction l with
      | nil => exact fun _ => rfl
      | cons c r ih =>
        intro h
        rw [List.all_cons, Bool.and_eq_true] at h
        rw [List.dropWhile_cons, if_pos h.1]
        exact ih h.2
    rw [this _ h, List.take_nil]
theorem starts_0 (x : Str) : Txt.startswith x "0" = decide ((tl x).head? = some 48) := by
  unfold Txt.startswith
  rw [StrLaws.subAt_eq]
  show (decide (0 + ("0" : Str).length ≤ x.length) && (((tl x).drop 0).take ("0" : Str).length == tl "0")) = _
  rw [len_tl "0", tl_0, len_tl x, List.drop_zero]
  cases h : tl x with
  | nil => rfl
  | cons c r =>
    by_cases hc : c = 48
    · subst hc
      simp
    · simp [hc]
theorem spl_lens (S : List Nat) : ∀ (l : List Nat) (k : Nat) (acc : List Nat), (spl S k acc l).length ≤ l.length + 1 ∧ ∀ p ∈ spl S k acc l, p.length ≤ acc.length + l.length
  | [], k, acc => by
    rw [spl_nil]
    exact ⟨Nat.le_refl _, fun p hp => by rw [List.mem_singleton.mp hp]; exact Nat.le_add_right _ _⟩
  | c :: r, 0, acc => by
    by_cases h : pre S (c :: r) = true
    · rw [spl_hit h]
      obtain ⟨h1, h2⟩ := spl_lens S r (S.length - 1) []
      refine ⟨by rw [List.length_cons, List.length_cons]; omega, fun p hp => ?_⟩
      rcases List.mem_cons.mp hp with rfl | hp
      · exact Nat.le_add_right _ _
      · have := h2 p hp
        rw [List.length_nil] at this
        rw [List.length_cons]
        omega
    · rw [spl_miss (by simpa using h)]
      obtain ⟨h1, h2⟩ := spl_lens S r 0 (acc ++ [c])
      refine ⟨by rw [List.length_cons]; omega, fun p hp => ?_⟩
      have := h2 p hp
      rw [List.length_append, List.length_singleton] at this
      rw [List.length_cons]
      omega
  | c :: r, k + 1, acc => by
    show (spl S k acc r).length ≤ _ ∧ ∀ p ∈ spl S k acc r, _
    obtain ⟨h1, h2⟩ := spl_lens S r k acc
    refine ⟨by rw [List.length_cons]; omega, fun p hp => ?_⟩
    have := h2 p hp
    rw [List.length_cons]
    omega
theorem split_lens (x y : Str) (hy : tl y ≠ []) (hk : y.cps.all (· < 256) = true) : (Txt.split x y).length ≤ x.length + 1 ∧ ∀ w ∈ Txt.split x y, w.length ≤ x.length := by
  have e := split_spl x y hy (kind_ok hk)
  obtain ⟨h1, h2⟩ := spl_lens (tl y) (tl x) 0 []
  rw [← e] at h1 h2
  rw [List.length_map] at h1
  refine ⟨by rw [len_tl x]; exact h1, fun w hw => ?_⟩
  have := h2 (tl w) (List.mem_map.mpr ⟨w, hw, rfl⟩)
  rw [len_tl w, len_tl x]
  simpa using this
theorem sp_lens (x : Str) : (Txt.split x " ").length ≤ x.length + 1 ∧ ∀ w ∈ Txt.split x " ", w.length ≤ x.length := split_lens x " " (by rw [tl_sp]; exact fun h => nomatch h) (by decide +kernel)
/-- slices by positions that are not negative -/
theorem cut_natF (xs : List V) (a : Nat) : cutV xs (some (a : Int)) none = xs.drop a := by
  unfold cutV
  rw [HT.sIx_nat, HT.sIx_none]
  by_cases h : a ≤ xs.length
  · rw [Nat.min_eq_left h]
    exact List.take_of_length_le (by rw [List.length_drop]; exact Nat.le_refl _)
  · rw [Nat.min_eq_right (by omega), Nat.sub_self, List.take_zero, List.drop_eq_nil_of_le (by omega)]
theorem cut_natT (xs : List V) (b : Nat) : cutV xs none (some (b : Int)) = xs.take b := by
  unfold cutV
  rw [HT.sIx_nat, HT.sIx_none, List.drop_zero, Nat.sub_zero]
  by_cases h : b ≤ xs.length
  · rw [Nat.min_eq_left h]
  · rw [Nat.min_eq_right (by omega), List.take_length, List.take_of_length_le (by omega)]
theorem cut_natM (xs : List V) {a b : Nat} (h : a ≤ xs.length) : cutV xs (some (a : Int)) (some (b : Int)) = (xs.drop a).take (b - a) := by
  unfold cutV
  rw [HT.sIx_nat, HT.sIx_nat, Nat.min_eq_left h]
  by_cases h2 : b ≤ xs.length
  · rw [Nat.min_eq_left h2]
  · rw [Nat.min_eq_right (by omega), List.take_of_length_le (by rw [List.length_drop]; omega), List.take_of_length_le (by rw [List.length_drop]; omega)]
theorem cutS_len (z : Str) (lo hi : Option Int) : (cutS z lo hi).length ≤ z.length := by
  rw [len_tl, len_tl z]
  unfold cutS
  rw [tl_mk, List.length_take, List.length_drop]
  show min _ ((tl z).length - _) ≤ (tl z).length
  omega
def sumL (ws : List Str) : Nat := (ws.map (·.length)).sum
theorem sumL_app (a b : List Str) : sumL (a ++ b) = sumL a + sumL b := by
  unfold sumL
  rw [List.map_append, List.sum_append]
theorem sumL_rev (a : List Str) : sumL a.reverse = sumL a := by
  unfold sumL
  rw [List.map_reverse, List.sum_reverse]
theorem sumL_mem {w : Str} : ∀ {ws : List Str}, w ∈ ws → w.length ≤ sumL ws
  | v :: ws, h => by
    unfold sumL
    rw [List.map_cons, List.sum_cons]
    rcases List.mem_cons.mp h with rfl | h
    · omega
    · have := sumL_mem h
      unfold sumL at this
      omega
theorem join_len (m : Str) (ws : List Str) : (Txt.join m ws).length ≤ sumL ws + ws.length * m.length := by
  rw [join_eq]
  exact StrLaws.join_length_le m ws
theorem spl_sum (S : List Nat) : ∀ (l : List Nat) (k : Nat) (acc : List Nat), ((spl S k acc l).map (·.length)).sum ≤ acc.length + l.length
  | [], k, acc => by
    rw [spl_nil]
    simp
  | c :: r, 0, acc => by
    by_cases h : pre S (c :: r) = true
    · rw [spl_hit h, List.map_cons, List.sum_cons]
      have := spl_sum S r (S.length - 1) []
      rw [List.length_nil] at this
      rw [List.length_cons]
      omega
    · rw [spl_miss (by simpa using h)]
      have := spl_sum S r 0 (acc ++ [c])
      rw [List.length_append, List.length_singleton] at this
      rw [List.length_cons]
      omega
  | c :: r, k + 1, acc => by
    show ((spl S k acc r).map (·.length)).sum ≤ _
    have := spl_sum S r k acc
    rw [List.length_cons]
    omega
theorem spl_ne (S : List Nat) : ∀ (l : List Nat) (k : Nat) (acc : List Nat), spl S k acc l ≠ []
  | [], k, acc => by
    rw [spl_nil]
    exact fun h => nomatch h
  | c :: r, 0, acc => by
    by_cases h : pre S (c :: r) = true
    · rw [spl_hit h]
      exact fun h => nomatch h
    · rw [spl_miss (by simpa using h)]
      exact spl_ne S r 0 (acc ++ [c])
  | c :: r, k + 1, acc => spl_ne S r k acc
theorem split_sum (x y : Str) (hy : tl y ≠ []) (hk : y.cps.all (· < 256) = true) : sumL (Txt.split x y) ≤ x.length ∧ Txt.split x y ≠ [] := by
  have e := split_spl x y hy (kind_ok hk)
  have h1 := spl_sum (tl y) (tl x) 0 []
  have h2 := spl_ne (tl y) (tl x) 0 []
  rw [← e] at h1 h2
  refine ⟨?_, fun h => h2 (by rw [h]; rfl)⟩
  have : sumL (Txt.split x y) = (((Txt.split x y).map tl).map (·.length)).sum := by
    unfold sumL
    rw [List.map_map]
    refine congrArg List.sum (List.map_congr_left fun w _ => len_tl w)
  rw [this, len_tl x]
  rw [List.length_nil, Nat.zero_add] at h1
  exact h1
end NS

/-! ### rules about texts -/
namespace NS
open PySem PySem.Spec PyProof.Rows L2 TL
/-- str(x), x an int or a text -/
def rStrA : List V → Hp → VK → Prop := fun xs H Q => (∃ i, xs = [.int i] ∧ i.natAbs.log2 < 1920 ∧ Q (.str (toString i)) H) ∨ ∃ a, xs = [.str a] ∧ Q (.str a) H
theorem call_strA {X : Cx} : CallR X (.type "str") rStrA := by
  intro pins s σ H xs us Q I r h
  rcases h with h | h
  · exact call_str_int pins s σ H xs us Q I r h
  · exact SkE.call_str_str pins s σ H xs us Q I r h
/-- len(x), x a text or a row -/
def rLenA (K : PySem.W.Frag) : List V → Hp → VK → Prop := fun xs H Q => (∃ p ys, xs = [.ref p] ∧ Sq K H p ys ∧ Q (.int ys.length) H) ∨ ∃ z : Str, xs = [.str z] ∧ z.length ≤ sizeLine ∧ Q (.int z.length) H
theorem call_lenA {X : Cx} : CallR X (.builtin "len") (rLenA X.K) := by
  intro pins s σ H xs us Q I r h
  rcases h with h | h
  · exact call_len_seq pins s σ H xs us Q I r h
  · exact call_len_str pins s σ H xs us Q I r h
/-- x * n of a text -/
def rRepS : R2 := fun x y H Q => ∃ (z : Str) (n : Int), x = .str z ∧ y = .int n ∧ 2 ≤ n ∧ n ≤ 1000 ∧ 1 ≤ z.length ∧ z.length ≤ 1000 ∧ (⟨(List.replicate n.toNat z.cps).foldl (· ++ ·) #[]⟩ : Str).length ≤ sizeLine ∧ Q (.str ⟨(List.replicate n.toNat z.cps).foldl (· ++ ·) #[]⟩) H
theorem op_repS {X : Cx} : OpR X (binaryOp .Mult) rRepS := by
  intro pins s σ H x y v u Q I rx ry h
  obtain ⟨z, n, e1, e2, h1, h2, h3, h4, h5, q⟩ := h
  subst e1 e2
  obtain ⟨t, rfl⟩ := rx
  obtain ⟨t2, rfl⟩ := ry
  have hn : n.toNat ≤ 1000 := by omega
  have hl : z.length * n.toNat ≤ 1000000 := Nat.le_trans (Nat.mul_le_mul h4 hn) (by decide)
  have c1 : ¬ n < 1 := by omega
  have c2 : (n == 1 || z.length == 0) = false := by
    rw [Bool.or_eq_false_iff, beq_eq_false_iff_ne, beq_eq_false_iff_ne]
    exact ⟨by omega, by omega⟩
  refine PySem.P.mul_str (by rw [decide_eq_false (show ¬ n < -(2 ^ 63 : Int) by omega), decide_eq_false (show ¬ n ≥ 2 ^ 63 by omega)]; rfl) (fun _ _ => ?_) (fun _ _ => ?_) ?_
  · have : (1000 : Int) ≤ (2 ^ 63 - 1) / n := by
      rw [Int.le_ediv_iff_mul_le (by omega)]
      have : 1000 * n ≤ 1000000 := by omega
      omega
    omega
  · unfold PySem.Builtin.Str.tooLong
    rw [decide_eq_false_iff_not]
    exact Nat.not_lt.mpr (Nat.le_trans hl (by decide))
  · rw [if_neg c1, c2, if_neg Bool.false_ne_true]
    exact ⟨h5, ⟨.str _, H, I.tok _, ⟨_, rfl⟩, q⟩⟩
end NS

namespace NS
open PySem L2
def top (i : Nat) : Stmt := PySem.Challenge.pw_nearslot_k39_texts_of_tables.main.body.getD i (.Pass ⟨0, 0, 0, 0⟩)
abbrev s_number_in : Stmt := top 8
abbrev s_cell_in : Stmt := top 9
abbrev s_entry_text : Stmt := top 10
abbrev s_table_text : Stmt := top 11
abbrev s_table_in : Stmt := top 12
abbrev s_law_source : Stmt := top 14
abbrev s_law_draw : Stmt := top 15
abbrev s_law_choice : Stmt := top 16
abbrev s_law_equal : Stmt := top 17
abbrev s_law_decimal : Stmt := top 18
abbrev s_law_text_changed : Stmt := top 19
abbrev s_law_fill : Stmt := top 20
abbrev s_law_hopes : Stmt := top 21
abbrev s_law_veiled : Stmt := top 22
abbrev s_law_case : Stmt := top 23
abbrev s_law_spoiled : Stmt := top 24
abbrev s_law_any : Stmt := top 25
abbrev s_law_written : Stmt := top 26
abbrev s_law_read : Stmt := top 27
abbrev s_law_told : Stmt := top 28
abbrev s_law_holds : Stmt := top 29
abbrev s_law : Stmt := top 30
abbrev s_BadText_init : Stmt := inClass (PySem.Challenge.pw_nearslot_k39_texts_of_tables.main.body.getD 1 (.Pass ⟨0, 0, 0, 0⟩)) 0
abbrev s_BadLine_init : Stmt := inClass (PySem.Challenge.pw_nearslot_k39_texts_of_tables.main.body.getD 2 (.Pass ⟨0, 0, 0, 0⟩)) 0
abbrev s_NoObject_init : Stmt := inClass (PySem.Challenge.pw_nearslot_k39_texts_of_tables.main.body.getD 3 (.Pass ⟨0, 0, 0, 0⟩)) 0

theorem sc_number_in : FnScope ["word", "most_digits", "digit"] ["word", "most_digits"] (defScope s_number_in) := ⟨rfl, rfl, rfl, by decide +kernel, rfl, by decide +kernel, by decide +kernel⟩
theorem sc_cell_in : FnScope ["word", "size", "number"] ["word", "size"] (defScope s_cell_in) := ⟨rfl, rfl, rfl, by decide +kernel, rfl, by decide +kernel, by decide +kernel⟩
theorem sc_entry_text : FnScope ["entry"] ["entry"] (defScope s_entry_text) := ⟨rfl, rfl, rfl, by decide +kernel, rfl, by decide +kernel, by decide +kernel⟩
theorem sc_table_text : FnScope ["table", "entry"] ["table"] (defScope s_table_text) := ⟨rfl, rfl, rfl, by decide +kernel, rfl, by decide +kernel, by decide +kernel⟩
theorem sc_table_in : FnScope ["text", "words", "entries", "place", "word", "entry"] ["text"] (defScope s_table_in) := ⟨rfl, rfl, rfl, by decide +kernel, rfl, by decide +kernel, by decide +kernel⟩
theorem sc_law_source : FnScope ["_law_script", "_law_index", "_law_core"] ["_law_script", "_law_index"] (defScope s_law_source) := ⟨rfl, rfl, rfl, by decide +kernel, rfl, by decide +kernel, by decide +kernel⟩
theorem sc_law_draw : FnScope ["_law_source_here", "_law_bound", "_law_found", "_law_once"] ["_law_source_here", "_law_bound"] (defScope s_law_draw) := ⟨rfl, rfl, rfl, by decide +kernel, rfl, by decide +kernel, by decide +kernel⟩
theorem sc_law_choice : FnScope ["_law_source_here", "_law_row_here"] ["_law_source_here", "_law_row_here"] (defScope s_law_choice) := ⟨rfl, rfl, rfl, by decide +kernel, rfl, by decide +kernel, by decide +kernel⟩
theorem sc_law_equal : FnScope ["_law_found", "_law_due", "_law_lone", "_law_mate"] ["_law_found", "_law_due"] (defScope s_law_equal) := ⟨rfl, rfl, rfl, by decide +kernel, rfl, by decide +kernel, by decide +kernel⟩
theorem sc_law_decimal : FnScope ["_law_word"] ["_law_word"] (defScope s_law_decimal) := ⟨rfl, rfl, rfl, by decide +kernel, rfl, by decide +kernel, by decide +kernel⟩
theorem sc_law_text_changed : FnScope ["_law_source_here", "_law_words", "_law_at", "_law_way", "_law_sign", "_law_mark", "_law_pieces", "_law_spot", "_law_pair"] ["_law_source_here", "_law_words"] (defScope s_law_text_changed) := ⟨rfl, rfl, rfl, by decide +kernel, rfl, by decide +kernel, by decide +kernel⟩
theorem sc_law_fill : FnScope ["_law_width", "_law_hopes_here", "_law_shelf", "_law_queue", "_law_hope", "_law_spot", "_law_at"] ["_law_width", "_law_hopes_here"] (defScope s_law_fill) := ⟨rfl, rfl, rfl, by decide +kernel, rfl, by decide +kernel, by decide +kernel⟩
theorem sc_law_hopes : FnScope ["_law_source_here", "_law_width", "_law_near", "_law_way", "_law_found", "_law_turn", "_law_hope"] ["_law_source_here", "_law_width"] (defScope s_law_hopes) := ⟨rfl, rfl, rfl, by decide +kernel, rfl, by decide +kernel, by decide +kernel⟩
theorem sc_law_veiled : FnScope ["_law_source_here", "_law_shelf", "_law_odds", "_law_part"] ["_law_source_here", "_law_shelf"] (defScope s_law_veiled) := ⟨rfl, rfl, rfl, by decide +kernel, rfl, by decide +kernel, by decide +kernel⟩
theorem sc_law_case : FnScope ["_law_source_here", "_law_most", "_law_width", "_law_shelf", "_law_queue"] ["_law_source_here", "_law_most"] (defScope s_law_case) := ⟨rfl, rfl, rfl, by decide +kernel, rfl, by decide +kernel, by decide +kernel⟩
theorem sc_law_spoiled : FnScope ["_law_source_here", "_law_shelf", "_law_found", "_law_turn"] ["_law_source_here", "_law_shelf"] (defScope s_law_spoiled) := ⟨rfl, rfl, rfl, by decide +kernel, rfl, by decide +kernel, by decide +kernel⟩
theorem sc_law_any : FnScope ["_law_source_here", "_law_most", "_law_shelf", "_law_queue"] ["_law_source_here", "_law_most"] (defScope s_law_any) := ⟨rfl, rfl, rfl, by decide +kernel, rfl, by decide +kernel, by decide +kernel⟩
theorem sc_law_written : FnScope ["_law_shelf", "_law_part"] ["_law_shelf"] (defScope s_law_written) := ⟨rfl, rfl, rfl, by decide +kernel, rfl, by decide +kernel, by decide +kernel⟩
theorem sc_law_read : FnScope ["_law_words", "_law_entries", "_law_found", "_law_at", "_law_word"] ["_law_words"] (defScope s_law_read) := ⟨rfl, rfl, rfl, by decide +kernel, rfl, by decide +kernel, by decide +kernel⟩
theorem sc_law_told : FnScope ["_law_words", "_law_found", "_law_caught", "error", "_law_fine"] ["_law_words"] (defScope s_law_told) := ⟨rfl, rfl, rfl, by decide +kernel, rfl, by decide +kernel, by decide +kernel⟩
theorem sc_law_holds : FnScope ["_law_source_here", "_law_shelf", "_law_words", "_law_told_here", "_law_tests", "_law_turn", "_law_bent", "_law_test"] ["_law_source_here"] (defScope s_law_holds) := ⟨rfl, rfl, rfl, by decide +kernel, rfl, by decide +kernel, by decide +kernel⟩
theorem sc_law : FnScope ["_law_script", "_law_index", "_law_source_here", "_law_turn"] ["_law_script"] (defScope s_law) := ⟨rfl, rfl, rfl, by decide +kernel, rfl, by decide +kernel, by decide +kernel⟩
theorem sc_BadText_init : FnScope ["self", "entry"] ["self", "entry"] (defScope s_BadText_init) := ⟨rfl, rfl, rfl, by decide +kernel, rfl, by decide +kernel, by decide +kernel⟩
theorem sc_BadLine_init : FnScope ["self", "line"] ["self", "line"] (defScope s_BadLine_init) := ⟨rfl, rfl, rfl, by decide +kernel, rfl, by decide +kernel, by decide +kernel⟩
theorem sc_NoObject_init : FnScope ["self", "cell"] ["self", "cell"] (defScope s_NoObject_init) := ⟨rfl, rfl, rfl, by decide +kernel, rfl, by decide +kernel, by decide +kernel⟩

def pm_kb_table_text_table {α : Type} : List α → List α
  | [a0] => [a0]
  | l => l
theorem kb_table_text_table {K : PySem.W.Frag} {f : Addr} {fd : FuncData} (F : Fun K "table_text" "table_text" s_table_text f fd) : KBn K fd ["table"] 0 ["table"] (fun _ ws => pm_kb_table_text_table ws) (fun _ zs => pm_kb_table_text_table zs) := by
  obtain ⟨oc, od, kV, doc, pm, an, cdv, ct, osl, rfl, lk, hcd⟩ := F.ex
  refine ⟨fun s us ws X l1 l2 => match us, ws, l1, l2 with | [], [_], _, _ => .of_eq rfl, fun {vs us zs ws} r1 r2 => ?_⟩
  exact (match r2 with
    | .nil => .nil
    | (.cons a0 .nil) => (.cons a0 .nil)
    | (.cons a0 (.cons b r)) => (.cons a0 (.cons b r)))
def pm_kb_table_in_text {α : Type} : List α → List α
  | [a0] => [a0]
  | l => l
theorem kb_table_in_text {K : PySem.W.Frag} {f : Addr} {fd : FuncData} (F : Fun K "table_in" "table_in" s_table_in f fd) : KBn K fd ["text"] 0 ["text"] (fun _ ws => pm_kb_table_in_text ws) (fun _ zs => pm_kb_table_in_text zs) := by
  obtain ⟨oc, od, kV, doc, pm, an, cdv, ct, osl, rfl, lk, hcd⟩ := F.ex
  refine ⟨fun s us ws X l1 l2 => match us, ws, l1, l2 with | [], [_], _, _ => .of_eq rfl, fun {vs us zs ws} r1 r2 => ?_⟩
  exact (match r2 with
    | .nil => .nil
    | (.cons a0 .nil) => (.cons a0 .nil)
    | (.cons a0 (.cons b r)) => (.cons a0 (.cons b r)))

structure Bt (mg : Str → Option Value) : Prop where
  LookupError : mg "LookupError" = none
  ValueError : mg "ValueError" = none
  abs : mg "abs" = none
  all : mg "all" = none
  bool : mg "bool" = none
  enumerate : mg "enumerate" = none
  int : mg "int" = none
  isinstance : mg "isinstance" = none
  len : mg "len" = none
  list : mg "list" = none
  max : mg "max" = none
  min : mg "min" = none
  range : mg "range" = none
  str : mg "str" = none
  tuple : mg "tuple" = none
  zip : mg "zip" = none
  c_DIGITS : ∃ t, mg "DIGITS" = some (Value.str "0123456789" t)
  c_EMPTY : ∃ t, mg "EMPTY" = some (Value.str "-" t)
  c_UNKNOWN : ∃ t, mg "UNKNOWN" = some (Value.str "?" t)
structure Er (K : PySem.W.Frag) (mg : Str → Option Value) where
  C_BadText : Addr
  f_BadText : Addr
  fd_BadText : FuncData
  E_BadText : ErrC K mg "BadText" "ValueError.__new__" (tlV "ValueError") "entry" C_BadText
  I_BadText : ErrI K C_BadText "BadText.__init__" s_BadText_init ["self", "entry"] f_BadText fd_BadText
  C_BadLine : Addr
  f_BadLine : Addr
  fd_BadLine : FuncData
  E_BadLine : ErrC K mg "BadLine" "ValueError.__new__" (tlV "ValueError") "line" C_BadLine
  I_BadLine : ErrI K C_BadLine "BadLine.__init__" s_BadLine_init ["self", "line"] f_BadLine fd_BadLine
  C_NoObject : Addr
  f_NoObject : Addr
  fd_NoObject : FuncData
  E_NoObject : ErrC K mg "NoObject" "LookupError.__new__" (tlV "LookupError") "cell" C_NoObject
  I_NoObject : ErrI K C_NoObject "NoObject.__init__" s_NoObject_init ["self", "cell"] f_NoObject fd_NoObject
  k_BadText_BadText : PySem.W.kitOne K (.ref C_BadText) (.ref C_BadText) = some true
  k_BadText_ValueError : PySem.W.kitOne K (.ref C_BadText) (.type "ValueError") = some true
  k_BadText_BadLine : PySem.W.kitOne K (.ref C_BadText) (.ref C_BadLine) = some false
  k_BadText_NoObject : PySem.W.kitOne K (.ref C_BadText) (.ref C_NoObject) = some false
  x0_BadText : PySem.W.exmAny K (.ref C_BadText) [.ref C_BadLine, .ref C_BadText, .ref C_NoObject] = some true
def ErrK {K : PySem.W.Frag} {mg : Str → Option Value} (R : Er K mg) (D : Addr) (nm : Str) (fs : List (Str × V)) (v : V) : Prop := (D = R.C_BadText ∧ nm = "BadText" ∧ fs = [(("entry" : Str), v)])
theorem ok_init_BadText {P : Program} {w : World} {K : PySem.W.Frag} {mg : Str → Option Value} {base : Heap} (T : Bt mg) {C fI : Addr} {fd : FuncData} (I : ErrI K C "BadText.__init__" s_BadText_init ["self", "entry"] fI fd) : FnOk P w K mg base CX0 1 fI fd ["self", "entry"] (spInit K "ValueError.__new__" (tlV "ValueError") "entry") := by
  refine I.F.ok sc_BadText_init (fun vs H Q E h => ?_) (fun cdv A outer s H vs Q E hr h => ?_)
  · obtain ⟨a, C, v, rfl, _⟩ := h
    rfl
  obtain ⟨a, C, v, rfl, ha, hT, hno, q⟩ := h
  refine ⟨_, pss_cons (ps_expr (pe_binit bas_V (by rfl) T.ValueError (by decide +kernel) (by kernel_rfl) (pa_cons (pv 0) (pa_cons pe_str pa_nil)) (by decide) (by decide))) (pss_one (ps_ost1 bas_V (pv 0) (pv 1))), ?_⟩
  exact ⟨_, rfl, a, C, [_], rfl, (by show 1 ≤ 1000; decide), hT, ha, _, rfl, _, rfl, a, C, rfl, hT, hno, ha, fun dx n1 n2 => q dx n1 n2⟩
theorem ok_init_BadLine {P : Program} {w : World} {K : PySem.W.Frag} {mg : Str → Option Value} {base : Heap} (T : Bt mg) {C fI : Addr} {fd : FuncData} (I : ErrI K C "BadLine.__init__" s_BadLine_init ["self", "line"] fI fd) : FnOk P w K mg base CX0 1 fI fd ["self", "line"] (spInit K "ValueError.__new__" (tlV "ValueError") "line") := by
  refine I.F.ok sc_BadLine_init (fun vs H Q E h => ?_) (fun cdv A outer s H vs Q E hr h => ?_)
  · obtain ⟨a, C, v, rfl, _⟩ := h
    rfl
  obtain ⟨a, C, v, rfl, ha, hT, hno, q⟩ := h
  refine ⟨_, pss_cons (ps_expr (pe_binit bas_V (by rfl) T.ValueError (by decide +kernel) (by kernel_rfl) (pa_cons (pv 0) (pa_cons pe_str pa_nil)) (by decide) (by decide))) (pss_one (ps_ost1 bas_V (pv 0) (pv 1))), ?_⟩
  exact ⟨_, rfl, a, C, [_], rfl, (by show 1 ≤ 1000; decide), hT, ha, _, rfl, _, rfl, a, C, rfl, hT, hno, ha, fun dx n1 n2 => q dx n1 n2⟩
theorem ok_init_NoObject {P : Program} {w : World} {K : PySem.W.Frag} {mg : Str → Option Value} {base : Heap} (T : Bt mg) {C fI : Addr} {fd : FuncData} (I : ErrI K C "NoObject.__init__" s_NoObject_init ["self", "cell"] fI fd) : FnOk P w K mg base CX0 1 fI fd ["self", "cell"] (spInit K "LookupError.__new__" (tlV "LookupError") "cell") := by
  refine I.F.ok sc_NoObject_init (fun vs H Q E h => ?_) (fun cdv A outer s H vs Q E hr h => ?_)
  · obtain ⟨a, C, v, rfl, _⟩ := h
    rfl
  obtain ⟨a, C, v, rfl, ha, hT, hno, q⟩ := h
  refine ⟨_, pss_cons (ps_expr (pe_binit bas_L (by rfl) T.LookupError (by decide +kernel) (by kernel_rfl) (pa_cons (pv 0) (pa_cons pe_str pa_nil)) (by decide) (by decide))) (pss_one (ps_ost1 bas_L (pv 0) (pv 1))), ?_⟩
  exact ⟨_, rfl, a, C, [_], rfl, (by show 1 ≤ 1000; decide), hT, ha, _, rfl, _, rfl, a, C, rfl, hT, hno, ha, fun dx n1 n2 => q dx n1 n2⟩

section
variable {P : Program} {w : World} {K : PySem.W.Frag} {mg : Str → Option Value} {base : Heap}
/-! ### _law_source -/
def spSource (K : PySem.W.Frag) : Sp := fun vs H Q _ => ∃ (a : Addr) (ns : List Int) (i : Nat), vs = [.ref a, .int i] ∧ SqL K H a (ns.map V.int) ∧ ns.length ≤ 63 ∧ i ≤ 63 ∧ ∀ p o, H p = none → SrcO 1000000000000 o → Q (.ref p) (upd H p o)
theorem ok_source (T : Bt mg) {f : Addr} {fd : FuncData} {k : Nat} (D : Df K mg "_law_source" s_law_source ["_law_script", "_law_index"] f fd) : Kn P w K mg base (k + 1) "_law_source" s_law_source ["_law_script", "_law_index"] (spSource K) f fd := by
  refine ⟨D, D.F.ok sc_law_source (fun vs H Q E h => ?_) (fun cdv A outer s H vs Q E hr h => ?_)⟩
  · obtain ⟨a, ns, i, rfl, _⟩ := h
    rfl
  obtain ⟨a, ns, i, rfl, hS, h63, hi, q⟩ := h
  refine ⟨_, (pss_cons (ps_set (i := 2) sc_law_source.nd rfl (.inl rfl) pe_int)
      (pss_cons (ps_if (pt_cmpR op_lt (pv 1) (pe_callB (call_lenK (K := K) rfl) (by rfl) T.len (by decide +kernel) (pa_cons (pv 0) pa_nil)) (nomark _)) (pss_one (ps_set (i := 2) sc_law_source.nd rfl (.inl rfl) (pe_ix (ix_listK (K := K) rfl) (pv 0) (pv 1) (fun _ _ => rfl)))) pss_nil)
      (pss_one (ps_ret (pe_lst (pa_cons (pe_op op_mul (pe_callB call_abs (by rfl) T.abs (by decide +kernel) (pa_cons (pv 2) pa_nil)) (pe_callTy call_int1 (by rfl) T.int (by decide +kernel) (pa_cons (pe_cmpR op_ge (pe_callB call_abs (by rfl) T.abs (by decide +kernel) (pa_cons (pv 2) pa_nil)) (pe_op op_pow pe_int pe_int) (nomark _)) pa_nil))) (pa_cons (pe_op op_mod (pe_op op_mul (pe_op op_add (pe_op op_add (pe_op op_mod (pv 2) pe_int) (pe_op op_mul pe_int (pv 1))) pe_int) pe_int) pe_int) (pa_cons pe_int pa_nil)))))))), ?_⟩
  refine ⟨_, rfl, _, rfl, a, _, rfl, .inl hS, _, _, rfl, rfl, _, rfl, ?_⟩
  refine ite2 (fun c => ?_) (fun c => ?_)
  · have c' : (i : Int) < (((ns.map V.int).length : Nat) : Int) := of_decide_eq_true c
    rw [List.length_map] at c'
    have g : (ns.map V.int)[i]? = some (.int ns[i]) := by
      rw [List.getElem?_map, List.getElem?_eq_getElem (by omega)]
      rfl
    refine ⟨_, rfl, _, rfl, a, _, _, _, rfl, rfl, hS, atI_nat g, ?_⟩
    generalize ns[i] = z
    refine ⟨_, rfl, _, rfl, _, rfl, _, rfl, _, _, rfl, rfl, ⟨by decide, by decide, by decide⟩, _, _, rfl, rfl, .inr ⟨_, rfl, _, _, rfl, rfl, cmul_b _ _, ?_⟩⟩
    refine ⟨_, rfl, _, _, rfl, rfl, (by show (0 : Int) < 2147483563; decide), _, rfl, _, _, rfl, rfl, .inl ⟨by decide, by decide⟩, _, _, rfl, rfl, _, _, rfl, rfl, _, _, rfl, rfl, .inr ⟨by decide, by decide⟩, _, _, rfl, rfl, (by show (0 : Int) < 2147483543; decide), (by show 3 ≤ sizeLine; decide), fun p hp => q p _ hp ?_⟩
    exact ⟨_, _, _, rfl, src_a z _, Int.emod_nonneg _ (by decide), Int.lt_trans (Int.emod_lt_of_pos _ (by decide)) (by decide), Int.le_refl 0, by decide⟩
  · refine ⟨_, rfl, _, rfl, _, rfl, _, rfl, _, _, rfl, rfl, ⟨by decide, by decide, by decide⟩, _, _, rfl, rfl, .inr ⟨_, rfl, _, _, rfl, rfl, cmul_b _ _, ?_⟩⟩
    refine ⟨_, rfl, _, _, rfl, rfl, (by show (0 : Int) < 2147483563; decide), _, rfl, _, _, rfl, rfl, .inl ⟨by decide, by decide⟩, _, _, rfl, rfl, _, _, rfl, rfl, _, _, rfl, rfl, .inr ⟨by decide, by decide⟩, _, _, rfl, rfl, (by show (0 : Int) < 2147483543; decide), (by show 3 ≤ sizeLine; decide), fun p hp => q p _ hp ?_⟩
    exact ⟨_, _, _, rfl, src_a 0 _, Int.emod_nonneg _ (by decide), Int.lt_trans (Int.emod_lt_of_pos _ (by decide)) (by decide), Int.le_refl 0, by decide⟩

/-! ### _law_draw, of at most ten million -/
def spDraw : Sp := fun vs H Q _ => ∃ (s : Addr) (m : Int) (n : Nat), vs = [.ref s, .int m] ∧ 0 < m ∧ m ≤ 10000000 ∧ Src H s (n + 1) ∧ ∀ r o, 0 ≤ r → r < m → SrcO n o → Q (.int r) (upd H s o)
theorem ok_draw (T : Bt mg) {f : Addr} {fd : FuncData} {k : Nat} (D : Df K mg "_law_draw" s_law_draw ["_law_source_here", "_law_bound"] f fd) : Kn P w K mg base (k + 1) "_law_draw" s_law_draw ["_law_source_here", "_law_bound"] spDraw f fd := by
  refine ⟨D, D.F.ok sc_law_draw (fun vs H Q E h => ?_) (fun cdv A outer s H vs Q E hr h => ?_)⟩
  · obtain ⟨a, m, n, rfl, _⟩ := h
    rfl
  obtain ⟨s', m, n, rfl, hm0, hm, ⟨_, hs, a, b, c, rfl, ha, hb0, hb, hc0, hc⟩, q⟩ := h
  refine ⟨_, (pss_cons (ps_if (pt_cmpR op_gt (pe_ix (ix_listK (K := K) rfl) (pv 0) pe_int (fun _ _ => rfl)) pe_int (nomark _)) (pss_cons (ps_set (i := 2) sc_law_draw.nd rfl (.inl rfl) (pe_op op_mod (pe_ix (ix_listK (K := K) rfl) (pv 0) pe_int (fun _ _ => rfl)) (pv 1)))
      (pss_cons (ps_asg (pe_op op_fdiv (pe_ix (ix_listK (K := K) rfl) (pv 0) pe_int (fun _ _ => rfl)) (pv 1)) (pg_sub (pv 0) pe_int set_list))
      (pss_one (ps_ret (pv 2))))) pss_nil)
      (pss_cons (ps_if (pt_cmpR op_gt (pv 1) (pe_op op_pow pe_int pe_int) (nomark _)) (pss_one ps_never) pss_nil)
      (pss_cons (ps_asg (pe_op op_add (pe_ix (ix_listK (K := K) rfl) (pv 0) pe_int (fun _ _ => rfl)) pe_int) (pg_sub (pv 0) pe_int set_list))
      (pss_cons (ps_set (i := 3) sc_law_draw.nd rfl (.inl rfl) (pe_op op_mod (pe_op op_pow (pe_op op_add (pe_ix (ix_listK (K := K) rfl) (pv 0) pe_int (fun _ _ => rfl)) (pe_op op_mul pe_int (pe_ix (ix_listK (K := K) rfl) (pv 0) pe_int (fun _ _ => rfl)))) pe_int) pe_int))
      (pss_one (ps_ret (pe_op op_mod (pe_op op_fdiv (pe_op op_mod (pe_op op_add (pe_op op_mul (pv 3) (pe_op op_add (pe_op op_mod (pv 3) pe_int) pe_int)) (pe_op op_mul (pe_ix (ix_listK (K := K) rfl) (pv 0) pe_int (fun _ _ => rfl)) pe_int)) pe_int) pe_int) (pv 1)))))))), ?_⟩
  refine ⟨_, rfl, s', _, _, _, rfl, rfl, sqL hs, atI_nat (j := 0) rfl, _, _, rfl, rfl, _, rfl, ?_⟩
  refine ite2 (fun hp => ?_) (fun hp => ?_)
  · refine ⟨_, rfl, s', _, _, _, rfl, rfl, sqL hs, atI_nat (j := 0) rfl, _, rfl, _, _, rfl, rfl, hm0, ?_⟩
    refine ⟨_, rfl, s', _, _, _, rfl, rfl, sqL hs, atI_nat (j := 0) rfl, _, rfl, _, _, rfl, rfl, ⟨hm0, by omega⟩, ?_⟩
    refine ⟨_, rfl, s', _, _, 0, rfl, rfl, hs, rfl, ?_⟩
    refine ⟨_, rfl, ?_⟩
    exact q _ _ (Int.emod_nonneg _ (by omega)) (Int.emod_lt_of_pos _ hm0) ⟨_, _, _, rfl, Int.ediv_nonneg ha (by omega), hb0, hb, hc0, by omega⟩
  · refine ⟨_, rfl, _, _, rfl, rfl, ⟨by decide, by decide, by decide⟩, _, _, rfl, rfl, _, rfl, ?_⟩
    refine ite2 (fun hp2 => ?_) (fun hp2 => ?_)
    · have z : ((10 : Int) ^ (7 : Int).toNat) < m := of_decide_eq_true hp2
      have z2 : ((10 : Int) ^ (7 : Int).toNat) = 10000000 := by decide
      rw [z2] at z
      omega
    · refine ⟨_, rfl, s', _, _, _, rfl, rfl, sqL hs, atI_nat (j := 2) rfl, _, _, rfl, rfl, ?_⟩
      refine ⟨_, rfl, s', _, _, 2, rfl, rfl, hs, rfl, ?_⟩
      have hs2 : (upd H s' (.lst [.int a, .int b, .int (c + 1)])) s' = some (.lst [.int a, .int b, .int (c + 1)]) := upd_same
      refine ⟨_, rfl, s', _, _, _, rfl, rfl, sqL hs2, atI_nat (j := 1) rfl, _, rfl, s', _, _, _, rfl, rfl, sqL hs2, atI_nat (j := 2) rfl, _, _, rfl, rfl, .inl ⟨by decide, by decide⟩, _, _, rfl, rfl, _, _, rfl, rfl, ⟨by decide, by decide, ?_⟩, _, _, rfl, rfl, (by show (0 : Int) < 2147483579; decide), ?_⟩
      · have h64 : (2 : Nat) ^ 64 = 18446744073709551616 := by decide
        rw [h64]
        omega
      · refine ⟨_, rfl, _, rfl, _, _, rfl, rfl, (by show (0 : Int) < 40009; decide), _, _, rfl, rfl, _, _, rfl, rfl, ?_, _, rfl, s', _, _, _, rfl, rfl, sqL hs2, atI_nat (j := 2) rfl, _, _, rfl, rfl, .inr ⟨by decide, by decide⟩, _, _, rfl, rfl, _, _, rfl, rfl, (by show (0 : Int) < 2147483647; decide), _, _, rfl, rfl, ⟨by decide, by decide⟩, _, rfl, _, _, rfl, rfl, hm0, ?_⟩
        · refine .inl ⟨?_, ?_⟩
          · exact Int.lt_of_lt_of_le (by decide) (Int.emod_nonneg _ (by decide))
          · exact Int.lt_trans (Int.emod_lt_of_pos _ (by decide)) (by decide)
        · exact q _ _ (Int.emod_nonneg _ (by omega)) (Int.emod_lt_of_pos _ hm0) ⟨_, _, _, rfl, ha, hb0, hb, by omega, by omega⟩

/-! ### _law_equal, of two values that are the same data -/
def spEqual (K : PySem.W.Frag) (n : Nat) : Sp := fun vs H Q _ => ∃ (x y : V) (d : PyData), vs = [x, y] ∧ Dp K H x d ∧ Dp K H y d ∧ depthD d + 1 ≤ n ∧ wideD d ≤ 500 ∧ ∀ H', Same H H' → Q (.bl true) H'
theorem ok_equal1 (T : Bt mg) {f : Addr} {fd : FuncData} {n : Nat} (D : Df K mg "_law_equal" s_law_equal ["_law_found", "_law_due"] f fd) (G : FnOk P w K mg base CX0 n f fd ["_law_found", "_law_due"] (spEqual K n)) : FnOk P w K mg base CX0 (n + 1) f fd ["_law_found", "_law_due"] (spEqual K (n + 1)) := by
  have k_law_equal : Kn P w K mg base n "_law_equal" s_law_equal ["_law_found", "_law_due"] (spEqual K n) f fd := ⟨D, G⟩
  refine D.F.ok sc_law_equal (fun vs H Q E h => ?_) (fun cdv A outer s H vs Q E hr h => ?_)
  · obtain ⟨x, y, d, rfl, _⟩ := h
    rfl
  obtain ⟨x, y, d, rfl, hx, hy, hd, hw, q⟩ := h
  refine ⟨_, (pss_cons (ps_if (pt_val (pe_callB (call_isiTK (K := K) rfl) (by rfl) T.isinstance (by decide +kernel) (pa_cons (pv 1) (pa_cons (pe_tup (pa_cons (pe_bltn (v := .ty "list") (by rfl) T.list (by decide +kernel) rfl) (pa_cons (pe_bltn (v := .ty "tuple") (by rfl) T.tuple (by decide +kernel) rfl) pa_nil))) pa_nil)))) (pss_cons (ps_if (PW.pt (pw_or (pt_cmpR op_ne (pe_callB (call_isiKK (K := K) rfl) (by rfl) T.isinstance (by decide +kernel) (pa_cons (pv 0) (pa_cons (pe_bltn (v := .ty "list") (by rfl) T.list (by decide +kernel) rfl) pa_nil))) (pe_callB (call_isiKK (K := K) rfl) (by rfl) T.isinstance (by decide +kernel) (pa_cons (pv 1) (pa_cons (pe_bltn (v := .ty "list") (by rfl) T.list (by decide +kernel) rfl) pa_nil))) (nomark _)) (pw_or1 (pt_cmpR op_ne (pe_callB (call_isiKK (K := K) rfl) (by rfl) T.isinstance (by decide +kernel) (pa_cons (pv 0) (pa_cons (pe_bltn (v := .ty "tuple") (by rfl) T.tuple (by decide +kernel) rfl) pa_nil))) (pe_callB (call_isiKK (K := K) rfl) (by rfl) T.isinstance (by decide +kernel) (pa_cons (pv 1) (pa_cons (pe_bltn (v := .ty "tuple") (by rfl) T.tuple (by decide +kernel) rfl) pa_nil))) (nomark _))))) (pss_one (ps_ret pe_bl)) pss_nil)
      (pss_one (ps_ret (pe_and (pe_cmpR op_eq (pe_callB (call_lenK (K := K) rfl) (by rfl) T.len (by decide +kernel) (pa_cons (pv 0) pa_nil)) (pe_callB (call_lenK (K := K) rfl) (by rfl) T.len (by decide +kernel) (pa_cons (pv 1) pa_nil)) (nomark _)) (pe_one (pe_callB (cr_allK (K := K) rfl rfl) (by rfl) T.all (by decide +kernel) (pa_cons (pe_lc (own := [("_law_lone", 2), ("_law_mate", 3)]) (by rfl) sc_law_equal.nd (RZ.pi_zipA (by rfl) T.zip (pa_cons (pv 0) (pa_cons (pv 1) pa_nil))) (blkOk_by (own := [("_law_lone", 2), ("_law_mate", 3)]) (N := ["_law_found", "_law_due", "_law_lone", "_law_mate"]) (sc := defScope s_law_equal) (by decide +kernel)) (fun _ _ _ _ _ => (pg_tupK (K := K) (n := 2) rfl rfl (pgs_cons (pg_name (i := 2) sc_law_equal.nd rfl (.inl rfl)) (pgs_cons (pg_name (i := 3) sc_law_equal.nd rfl (.inl rfl)) pgs_nil)))) (fun _ _ _ _ _ => pts_nil) (fun _ _ _ _ _ => (pe_call k_law_equal.G (hr.mono (by omega)) (by rfl) k_law_equal.D.g k_law_equal.D.F.kp k_law_equal.D.b .nil pass0 (pa_cons (pv 2) (pa_cons (pv 3) pa_nil))))) pa_nil))))))) pss_nil)
      (pss_cons (ps_if (PW.pt (pw_or (pt_cmpR op_isN (pv 1) pe_non (nomark _)) (pw_or1 (pt_val (pe_callB (call_isiKK (K := K) rfl) (by rfl) T.isinstance (by decide +kernel) (pa_cons (pv 1) (pa_cons (pe_bltn (v := .ty "str") (by rfl) T.str (by decide +kernel) rfl) pa_nil))))))) (pss_one (ps_ret (pe_and (pe_cmpR op_eq (pv 0) (pv 1) (nomark _)) (pe_one (pe_cmpR op_eq (pe_callB (call_isiKK (K := K) rfl) (by rfl) T.isinstance (by decide +kernel) (pa_cons (pv 0) (pa_cons (pe_bltn (v := .ty "str") (by rfl) T.str (by decide +kernel) rfl) pa_nil))) (pe_callB (call_isiKK (K := K) rfl) (by rfl) T.isinstance (by decide +kernel) (pa_cons (pv 1) (pa_cons (pe_bltn (v := .ty "str") (by rfl) T.str (by decide +kernel) rfl) pa_nil))) (nomark _)))))) pss_nil)
      (pss_one (ps_ret (pe_and (pe_callB (call_isiKK (K := K) rfl) (by rfl) T.isinstance (by decide +kernel) (pa_cons (pv 0) (pa_cons (pe_bltn (v := .ty "int") (by rfl) T.int (by decide +kernel) rfl) pa_nil))) (pe_and (pe_cmpR op_eq (pe_callB (call_isiKK (K := K) rfl) (by rfl) T.isinstance (by decide +kernel) (pa_cons (pv 0) (pa_cons (pe_bltn (v := .ty "bool") (by rfl) T.bool (by decide +kernel) rfl) pa_nil))) (pe_callB (call_isiKK (K := K) rfl) (by rfl) T.isinstance (by decide +kernel) (pa_cons (pv 1) (pa_cons (pe_bltn (v := .ty "bool") (by rfl) T.bool (by decide +kernel) rfl) pa_nil))) (nomark _)) (pe_one (pe_cmpR op_eq (pv 0) (pv 1) (nomark _))))))))), ?_⟩
  have sb : ∀ {tp : Addr}, H tp = none → Same H (upd H tp (.tup [.ty "list", .ty "tuple"])) := fun h => same_upd h
  have cs2 : Paired ClsV [.ty "list", .ty "tuple"] [.type "list", .type "tuple"] := .cons (.ty _) (.cons (.ty _) .nil)
  cases hx with
  | non =>
    cases hy
    refine ⟨_, rfl, (by show 2 ≤ sizeLine; decide), fun tp htp => ⟨_, tp, _, _, _, _, rfl, upd_same, cs2, .base .non, kit_n (kit_ty (by decide +kernel)) (kit_n (kit_ty (by decide +kernel)) kitAny_nil), _, rfl, iteF ?_⟩⟩
    refine ⟨_, rfl, rfl, _, rfl, iteT ?_⟩
    refine iteT ?_
    refine ⟨_, rfl, _, rfl, rfl, true, rfl, ?_⟩
    refine iteT ?_
    refine ⟨_, rfl, _, _, _, _, _, rfl, .ty _, .base .non, kit_ty (r := false) (by decide +kernel), _, rfl, _, _, _, _, _, rfl, .ty _, .base .non, kit_ty (r := false) (by decide +kernel), rfl, ?_⟩
    exact q _ (sb htp)
  | bl b =>
    cases hy
    refine ⟨_, rfl, (by show 2 ≤ sizeLine; decide), fun tp htp => ⟨_, tp, _, _, _, _, rfl, upd_same, cs2, .base (.bl _), kit_n (kit_ty (by decide +kernel)) (kit_n (kit_ty (by decide +kernel)) kitAny_nil), _, rfl, iteF ?_⟩⟩
    refine ⟨_, rfl, rfl, _, rfl, ?_⟩
    refine iteF ?_
    refine ⟨_, rfl, _, _, _, _, _, rfl, .ty _, .base (.bl _), kit_ty (r := false) (by decide +kernel), _, rfl, iteF ?_⟩
    refine ⟨_, rfl, _, _, _, _, _, rfl, .ty _, .base (.bl _), kit_ty (r := true) (by decide +kernel), _, rfl, iteT ?_⟩
    refine ⟨_, rfl, _, _, _, _, _, rfl, .ty _, .base (.bl _), kit_ty (r := true) (by decide +kernel), _, rfl, _, _, _, _, _, rfl, .ty _, .base (.bl _), kit_ty (r := true) (by decide +kernel), rfl, true, rfl, iteT ?_⟩
    refine ⟨_, rfl, _, rfl, rfl, ?_⟩
    exact dec_t rfl (Q := fun b => Q (.bl b) _) (q _ (sb htp))
  | int i =>
    cases hy
    refine ⟨_, rfl, (by show 2 ≤ sizeLine; decide), fun tp htp => ⟨_, tp, _, _, _, _, rfl, upd_same, cs2, .base (.int _), kit_n (kit_ty (by decide +kernel)) (kit_n (kit_ty (by decide +kernel)) kitAny_nil), _, rfl, iteF ?_⟩⟩
    refine ⟨_, rfl, rfl, _, rfl, ?_⟩
    refine iteF ?_
    refine ⟨_, rfl, _, _, _, _, _, rfl, .ty _, .base (.int _), kit_ty (r := false) (by decide +kernel), _, rfl, iteF ?_⟩
    refine ⟨_, rfl, _, _, _, _, _, rfl, .ty _, .base (.int _), kit_ty (r := true) (by decide +kernel), _, rfl, iteT ?_⟩
    refine ⟨_, rfl, _, _, _, _, _, rfl, .ty _, .base (.int _), kit_ty (r := false) (by decide +kernel), _, rfl, _, _, _, _, _, rfl, .ty _, .base (.int _), kit_ty (r := false) (by decide +kernel), rfl, true, rfl, iteT ?_⟩
    refine ⟨_, rfl, _, rfl, rfl, ?_⟩
    exact dec_t rfl (Q := fun b => Q (.bl b) _) (q _ (sb htp))
  | str z =>
    cases hy
    refine ⟨_, rfl, (by show 2 ≤ sizeLine; decide), fun tp htp => ⟨_, tp, _, _, _, _, rfl, upd_same, cs2, .base (.str _), kit_n (kit_ty (by decide +kernel)) (kit_n (kit_ty (by decide +kernel)) kitAny_nil), _, rfl, iteF ?_⟩⟩
    refine ⟨_, rfl, rfl, _, rfl, ?_⟩
    refine iteF ?_
    refine ⟨_, rfl, _, _, _, _, _, rfl, .ty _, .base (.str _), kit_ty (r := true) (by decide +kernel), _, rfl, iteT ?_⟩
    refine ⟨_, rfl, _, rfl, rfl, true, dec_t (Q := fun b => V.bl b = V.bl true) rfl rfl, ?_⟩
    refine iteT ?_
    refine ⟨_, rfl, _, _, _, _, _, rfl, .ty _, .base (.str _), kit_ty (r := true) (by decide +kernel), _, rfl, _, _, _, _, _, rfl, .ty _, .base (.str _), kit_ty (r := true) (by decide +kernel), rfl, ?_⟩
    exact q _ (sb htp)
  | @lst a xs ds hS hA =>
    cases hy with
    | @lst b ys _ hS2 hA2 =>
    refine ⟨_, rfl, (by show 2 ≤ sizeLine; decide), fun tp htp => ⟨_, tp, _, _, _, _, rfl, upd_same, cs2, tyL ((sb htp).seq hS2), kit_y (kit_ty (by decide +kernel)), _, rfl, iteT ?_⟩⟩
    have hS' := (sb htp).seq hS
    have hS2' := (sb htp).seq hS2
    refine ⟨_, rfl, _, _, _, _, _, rfl, .ty _, tyL hS', kit_ty (r := true) (by decide +kernel), _, rfl, _, _, _, _, _, rfl, .ty _, tyL hS2', kit_ty (r := true) (by decide +kernel), rfl, false, rfl, iteF ?_⟩
    refine ⟨_, rfl, _, _, _, _, _, rfl, .ty _, tyL hS', kit_ty (r := false) (by decide +kernel), _, rfl, _, _, _, _, _, rfl, .ty _, tyL hS2', kit_ty (r := false) (by decide +kernel), rfl, false, rfl, iteF ?_⟩
    have l1 := dpAll_len hA
    have l2 := dpAll_len hA2
    have wl : ds.length ≤ 500 := Nat.le_trans (Nat.le_trans (Nat.le_max_left _ _) (by unfold wideD at hw; exact hw)) (Nat.le_refl _)
    have ww : wideL ds ≤ 500 := Nat.le_trans (Nat.le_trans (Nat.le_max_right _ _) (by unfold wideD at hw; exact hw)) (Nat.le_refl _)
    refine ⟨_, rfl, a, _, rfl, .inl hS', _, rfl, b, _, rfl, .inl hS2', rfl, true, dec_t (Q := fun b => V.bl b = V.bl true) (by rw [l1, l2]) rfl, iteT ?_⟩
    refine ⟨_, rfl, _, rfl, a, b, xs, ys, rfl, .inl ⟨hS', hS2', fun L hL => ?_⟩⟩
    refine lc_zipL (by rw [l1, l2]) (fun i H2 => Same (upd H tp (.tup [.ty "list", .ty "tuple"])) H2 ∧ H2 L = some (.lst ((List.replicate i true).map V.bl))) ⟨same_upd hL, upd_same⟩ (fun i H2 hP => ⟨hP.1.seq hS', hP.1.seq hS2'⟩) (fun i x y T' H2 gx gy hP hT => ?_) (fun H2 hP => ?_)
    · obtain ⟨s2, e2⟩ := hP
      have h1 : Same H2 (upd H2 T' (.tup [x, y])) := same_upd hT
      refine ⟨T', [x, y], rfl, sqT upd_same, rfl, x, [y], rfl, y, [], rfl, rfl, rfl, ?_⟩
      obtain ⟨d1, g1, p1⟩ := dpAll_get hA gx
      obtain ⟨d2, g2, p2⟩ := dpAll_get hA2 gy
      rw [g1] at g2
      cases g2
      have hdd := depthL_get g1
      have hww := wideL_get g1
      have hd' : depthL ds + 1 + 1 ≤ n + 1 := by unfold depthD at hd; exact hd
      refine ⟨_, rfl, _, rfl, x, y, d1, rfl, dp_same (((sb htp).trans s2).trans h1) p1, dp_same (((sb htp).trans s2).trans h1) p2, by omega, by omega, fun H3 h3 => ?_⟩
      have hi : i < xs.length := (List.getElem?_eq_some_iff.mp gx).1
      refine ⟨_, h3 _ _ (h1 _ _ e2), ?_, Same.mut ((s2.trans h1).trans h3) hL, ?_⟩
      · rw [List.length_map, List.length_replicate]
        exact small1000 (by omega)
      · rw [upd_same, List.replicate_succ', List.map_append]
        rfl
    · obtain ⟨s2, e2⟩ := hP
      refine ⟨L, _, rfl, sqL e2, ?_⟩
      rw [all_rep]
      exact q _ ((sb htp).trans s2)
  | @tup a xs ds hS hA =>
    cases hy with
    | @tup b ys _ hS2 hA2 =>
    refine ⟨_, rfl, (by show 2 ≤ sizeLine; decide), fun tp htp => ⟨_, tp, _, _, _, _, rfl, upd_same, cs2, tyT (Same.tup (sb htp) hS2), kit_n (kit_ty (by decide +kernel)) (kit_y (kit_ty (by decide +kernel))), _, rfl, iteT ?_⟩⟩
    have hS' := Same.tup (sb htp) hS
    have hS2' := Same.tup (sb htp) hS2
    refine ⟨_, rfl, _, _, _, _, _, rfl, .ty _, tyT hS', kit_ty (r := false) (by decide +kernel), _, rfl, _, _, _, _, _, rfl, .ty _, tyT hS2', kit_ty (r := false) (by decide +kernel), rfl, false, rfl, iteF ?_⟩
    refine ⟨_, rfl, _, _, _, _, _, rfl, .ty _, tyT hS', kit_ty (r := true) (by decide +kernel), _, rfl, _, _, _, _, _, rfl, .ty _, tyT hS2', kit_ty (r := true) (by decide +kernel), rfl, false, rfl, iteF ?_⟩
    have l1 := dpAll_len hA
    have l2 := dpAll_len hA2
    have wl : ds.length ≤ 500 := Nat.le_trans (Nat.le_trans (Nat.le_max_left _ _) (by unfold wideD at hw; exact hw)) (Nat.le_refl _)
    have ww : wideL ds ≤ 500 := Nat.le_trans (Nat.le_trans (Nat.le_max_right _ _) (by unfold wideD at hw; exact hw)) (Nat.le_refl _)
    refine ⟨_, rfl, a, _, rfl, .inr hS', _, rfl, b, _, rfl, .inr hS2', rfl, true, dec_t (Q := fun b => V.bl b = V.bl true) (by rw [l1, l2]) rfl, iteT ?_⟩
    refine ⟨_, rfl, _, rfl, a, b, xs, ys, rfl, .inr ⟨hS', hS2', fun L hL => ?_⟩⟩
    refine lc_zipT (by rw [l1, l2]) (fun i H2 => Same (upd H tp (.tup [.ty "list", .ty "tuple"])) H2 ∧ H2 L = some (.lst ((List.replicate i true).map V.bl))) ⟨same_upd hL, upd_same⟩ (fun i H2 hP => ⟨Same.tup hP.1 hS', Same.tup hP.1 hS2'⟩) (fun i x y T' H2 gx gy hP hT => ?_) (fun H2 hP => ?_)
    · obtain ⟨s2, e2⟩ := hP
      have h1 : Same H2 (upd H2 T' (.tup [x, y])) := same_upd hT
      refine ⟨T', [x, y], rfl, sqT upd_same, rfl, x, [y], rfl, y, [], rfl, rfl, rfl, ?_⟩
      obtain ⟨d1, g1, p1⟩ := dpAll_get hA gx
      obtain ⟨d2, g2, p2⟩ := dpAll_get hA2 gy
      rw [g1] at g2
      cases g2
      have hdd := depthL_get g1
      have hww := wideL_get g1
      have hd' : depthL ds + 1 + 1 ≤ n + 1 := by unfold depthD at hd; exact hd
      refine ⟨_, rfl, _, rfl, x, y, d1, rfl, dp_same (((sb htp).trans s2).trans h1) p1, dp_same (((sb htp).trans s2).trans h1) p2, by omega, by omega, fun H3 h3 => ?_⟩
      have hi : i < xs.length := (List.getElem?_eq_some_iff.mp gx).1
      refine ⟨_, h3 _ _ (h1 _ _ e2), ?_, Same.mut ((s2.trans h1).trans h3) hL, ?_⟩
      · rw [List.length_map, List.length_replicate]
        exact small1000 (by omega)
      · rw [upd_same, List.replicate_succ', List.map_append]
        rfl
    · obtain ⟨s2, e2⟩ := hP
      refine ⟨L, _, rfl, sqL e2, ?_⟩
      rw [all_rep]
      exact q _ ((sb htp).trans s2)
theorem ok_equal (T : Bt mg) {f : Addr} {fd : FuncData} (D : Df K mg "_law_equal" s_law_equal ["_law_found", "_law_due"] f fd) : ∀ n : Nat, FnOk P w K mg base CX0 n f fd ["_law_found", "_law_due"] (spEqual K n)
  | 0 => by
    have no : ∀ vs H Q E, ¬ spEqual K 0 vs H Q E := fun vs H Q E h => by
      obtain ⟨x, y, d, _, _, _, h1, _⟩ := h
      omega
    exact ⟨fun vs H Q E h => absurd h (no vs H Q E), fun A outer s H args us vs Q E _ _ _ _ h => absurd h (no vs H Q E)⟩
  | n + 1 => ok_equal1 T D (ok_equal T D n)

/-! ### _law_choice -/
def spChoice (K : PySem.W.Frag) : Sp := fun vs H Q _ => ∃ (s p : Addr) (xs : List V) (n : Nat), vs = [.ref s, .ref p] ∧ SqL K (Hid [s] H) p xs ∧ 0 < xs.length ∧ xs.length ≤ 1000 ∧ Src H s (n + 1) ∧ ∀ (i : Nat) (v : V) (o : HO), xs[i]? = some v → SrcO n o → Q v (upd H s o)
theorem ok_choice (T : Bt mg) {f f1 : Addr} {fd fd1 : FuncData} {k : Nat} (D : Df K mg "_law_choice" s_law_choice ["_law_source_here", "_law_row_here"] f fd) (k_law_draw : Kn P w K mg base (k + 1) "_law_draw" s_law_draw ["_law_source_here", "_law_bound"] spDraw f1 fd1) :
    Kn P w K mg base (k + 2) "_law_choice" s_law_choice ["_law_source_here", "_law_row_here"] (spChoice K) f fd := by
  refine ⟨D, D.F.ok sc_law_choice (fun vs H Q E h => ?_) (fun cdv A outer s H vs Q E hr h => ?_)⟩
  · obtain ⟨s', p, xs, n, rfl, _⟩ := h
    rfl
  obtain ⟨s', p, xs, n, rfl, hS, h0, h1, hsrc, q⟩ := h
  refine ⟨_, (pss_one (ps_ret (pe_ix (ix_listK (K := K) rfl) (pv 1) (pe_call k_law_draw.G (hr.mono (by omega)) (by rfl) k_law_draw.D.g k_law_draw.D.F.kp k_law_draw.D.b .nil pass0 (pa_cons (pv 0) (pa_cons (pe_callB (call_lenK (K := K) rfl) (by rfl) T.len (by decide +kernel) (pa_cons (pv 1) pa_nil)) pa_nil))) (fun _ _ => rfl)))), ?_⟩
  refine ⟨_, rfl, _, rfl, _, rfl, p, _, rfl, .inl (same_hid.seq hS), s', (xs.length : Int), n, rfl, by omega, by omega, hsrc, fun r o r0 r1 hO => ?_⟩
  have hi : r.toNat < xs.length := by omega
  have er : r = ((r.toNat : Nat) : Int) := by omega
  have ha : atI xs r = some xs[r.toNat] := at_of er (List.getElem?_eq_getElem hi)
  exact ⟨p, xs, r, _, rfl, rfl, (hid_to (List.mem_singleton.mpr rfl)).seq hS, ha, q _ _ _ (List.getElem?_eq_getElem hi) hO⟩

/-! ### _law_hopes -/
def spHopes : Sp := fun vs H Q _ => ∃ (s : Addr) (n b : Nat), vs = [.ref s, .int n] ∧ 1 ≤ n ∧ n ≤ 100 ∧ Src H s (b + n + 3) ∧
  ∀ (p : Addr) (hs : List Int) (H' : Hp), Stay s H H' → Src H' s b → H p = none → p ≠ s → H' p = some (.lst (hs.map V.int)) → hs.length ≤ n → (∀ h ∈ hs, 0 ≤ h ∧ h < (n : Int)) → Q (.ref p) H'
theorem clip {n : Nat} (hn : 1 ≤ n) (z : Int) : 0 ≤ (if (if z < (n : Int) - 1 then z else (n : Int) - 1) > 0 then (if z < (n : Int) - 1 then z else (n : Int) - 1) else 0) ∧ (if (if z < (n : Int) - 1 then z else (n : Int) - 1) > 0 then (if z < (n : Int) - 1 then z else (n : Int) - 1) else 0) < (n : Int) := by
  split <;> split <;> omega
theorem ok_hopes (T : Bt mg) {f f1 : Addr} {fd fd1 : FuncData} {k : Nat} (D : Df K mg "_law_hopes" s_law_hopes ["_law_source_here", "_law_width"] f fd) (k_law_draw : Kn P w K mg base (k + 1) "_law_draw" s_law_draw ["_law_source_here", "_law_bound"] spDraw f1 fd1) :
    Kn P w K mg base (k + 2) "_law_hopes" s_law_hopes ["_law_source_here", "_law_width"] spHopes f fd := by
  refine ⟨D, D.F.ok sc_law_hopes (fun vs H Q E h => ?_) (fun cdv A outer s H vs Q E hr h => ?_)⟩
  · obtain ⟨s', n, b, rfl, _⟩ := h
    rfl
  obtain ⟨s', n, b, rfl, hn1, hn, hsrc, q⟩ := h
  refine ⟨_, (pss_cons (ps_par (i := 2) (j := 3) (by rfl) sc_law_hopes.nd rfl rfl (by decide) rfl rfl (pa_cons (pe_call k_law_draw.G (hr.mono (by omega)) (by rfl) k_law_draw.D.g k_law_draw.D.F.kp k_law_draw.D.b .nil pass0 (pa_cons (pv 0) (pa_cons (pv 1) pa_nil))) (pa_cons (pe_call k_law_draw.G (hr.mono (by omega)) (by rfl) k_law_draw.D.g k_law_draw.D.F.kp k_law_draw.D.b .nil pass0 (pa_cons (pv 0) (pa_cons pe_int pa_nil))) pa_nil)) (by rfl))
      (pss_cons (ps_set (i := 4) sc_law_hopes.nd rfl (.inl rfl) (pe_lst pa_nil))
      (pss_cons (ps_for PassesOwn.never rfl (pi_range1 (by rfl) T.range (pa_cons (pe_call k_law_draw.G (hr.mono (by omega)) (by rfl) k_law_draw.D.g k_law_draw.D.F.kp k_law_draw.D.b .nil pass0 (pa_cons (pv 0) (pa_cons (pe_op op_add (pv 1) pe_int) pa_nil))) pa_nil)) (pg_name (i := 5) sc_law_hopes.nd rfl (.inl rfl)) (pss_cons (ps_set (i := 6) sc_law_hopes.nd rfl (.inl rfl) (pe_ifExp (pt_cmpR op_gt (pv 3) pe_int (nomark _)) (pe_call k_law_draw.G (hr.mono (by omega)) (by rfl) k_law_draw.D.g k_law_draw.D.F.kp k_law_draw.D.b .nil pass0 (pa_cons (pv 0) (pa_cons (pv 1) pa_nil))) (pe_op op_sub (pe_op op_add (pv 2) (pe_call k_law_draw.G (hr.mono (by omega)) (by rfl) k_law_draw.D.g k_law_draw.D.F.kp k_law_draw.D.b .nil pass0 (pa_cons (pv 0) (pa_cons pe_int pa_nil)))) pe_int)))
      (pss_one (ps_expr (pe_bm PySem.F.plainAttrs_list PySem.F.slot_list_append PySem.F.type_list_append mt_append (pv 4) (pa_cons (pe_callB (call_max2 rfl) (by rfl) T.max (by decide +kernel) (pa_cons pe_int (pa_cons (pe_callB (call_min2 rfl) (by rfl) T.min (by decide +kernel) (pa_cons (pe_op op_sub (pv 1) pe_int) (pa_cons (pv 6) pa_nil))) pa_nil))) pa_nil))))))
      (pss_one (ps_ret (pv 4)))))), ?_⟩
  refine ⟨_, rfl, _, rfl, s', (n : Int), b + n + 2, rfl, by omega, by omega, hsrc, fun r0 o0 a0 b0 hO0 => ?_⟩
  have st1 : Stay s' H (upd H s' o0) := stay_upd
  have sr1 : Src (upd H s' o0) s' (b + n + 2) := ⟨o0, upd_same, hO0⟩
  generalize upd H s' o0 = H1 at st1 sr1
  refine ⟨_, rfl, s', 3, b + n + 1, rfl, by decide, by decide, sr1, fun r1 o1 a1 b1 hO1 => ⟨_, _, rfl, ?_⟩⟩
  have st2 : Stay s' H (upd H1 s' o1) := st1.trans stay_upd
  have sr2 : Src (upd H1 s' o1) s' (b + n + 1) := ⟨o1, upd_same, hO1⟩
  generalize upd H1 s' o1 = H2 at st2 sr2
  refine ⟨(by show 0 ≤ sizeLine; decide), fun p hp => ?_⟩
  have np : p ≠ s' := fun e => by
    obtain ⟨o, z⟩ := src_has sr2
    rw [← e, hp] at z
    cases z
  have nH : H p = none := by
    cases hq : H p with
    | none => rfl
    | some u =>
      have := st2 p u np hq
      rw [hp] at this
      cases this
  have st3 : Stay s' H (upd H2 p (.lst [])) := st2.mut nH
  have sr3 : Src (upd H2 p (.lst [])) s' (b + n + 1) := sr2.elim fun o z => ⟨o, same_upd hp _ _ z.1, z.2⟩
  have g3 : (upd H2 p (.lst [])) p = some (.lst []) := upd_same
  generalize upd H2 p (.lst []) = H3 at st3 sr3 g3
  refine ⟨_, rfl, _, rfl, _, _, rfl, rfl, s', (n : Int) + 1, b + n, rfl, by omega, by omega, sr3, fun r2 o2 a2 b2 hO2 => ?_⟩
  have st4 : Stay s' H (upd H3 s' o2) := st3.trans stay_upd
  have sr4 : Src (upd H3 s' o2) s' (b + n) := ⟨o2, upd_same, hO2⟩
  have g4 : (upd H3 s' o2) p = some (.lst []) := by
    rw [upd_ne np]
    exact g3
  generalize upd H3 s' o2 = H4 at st4 sr4 g4
  obtain ⟨m, hm⟩ : ∃ m : Nat, r2 = (m : Int) := ⟨r2.toNat, by omega⟩
  subst hm
  refine ⟨(m : Int), rfl, by omega, by omega, ?_⟩
  have en : ((m : Int)).toNat = m := Int.toNat_natCast m
  rw [en]
  refine for_range (lo := 0) (n := m) (fun i σ H' => ∃ (hs : List Int) (y5 y6 : Option V), σ = [some (.ref s'), some (.int (n : Int)), some (.int r0), some (.int r1), some (.ref p), y5, y6] ∧ Stay s' H H' ∧ Src H' s' (b + (n - i)) ∧ H' p = some (.lst (hs.map V.int)) ∧ hs.length = i ∧ ∀ h ∈ hs, 0 ≤ h ∧ h < (n : Int))
    ⟨[], _, _, rfl, st4, sr4, g4, rfl, fun h hh => nomatch hh⟩ (fun i σ H5 hi hP => ?_) (fun σ H5 hP => ?_)
  · obtain ⟨hs, y5, y6, rfl, st5, sr5, g5, hlen, hall⟩ := hP
    have fin : ∀ (z : Int) (H6 : Hp), Stay s' H H6 → Src H6 s' (b + (n - (i + 1))) → H6 p = some (.lst (hs.map V.int)) → ∃ (hs2 : List Int) (y5 y6 : Option V), [some (V.ref s'), some (.int (n : Int)), some (.int r0), some (.int r1), some (.ref p), some (.int (0 + (i : Int))), some (.int z)] = [some (.ref s'), some (.int (n : Int)), some (.int r0), some (.int r1), some (.ref p), y5, y6] ∧
        Stay s' H (upd H6 p (.lst (hs.map V.int ++ [.int (if (if z < (n : Int) - 1 then z else (n : Int) - 1) > 0 then (if z < (n : Int) - 1 then z else (n : Int) - 1) else 0)]))) ∧ Src (upd H6 p (.lst (hs.map V.int ++ [.int (if (if z < (n : Int) - 1 then z else (n : Int) - 1) > 0 then (if z < (n : Int) - 1 then z else (n : Int) - 1) else 0)]))) s' (b + (n - (i + 1))) ∧
        (upd H6 p (.lst (hs.map V.int ++ [.int (if (if z < (n : Int) - 1 then z else (n : Int) - 1) > 0 then (if z < (n : Int) - 1 then z else (n : Int) - 1) else 0)]))) p = some (.lst (hs2.map V.int)) ∧ hs2.length = i + 1 ∧ ∀ h ∈ hs2, 0 ≤ h ∧ h < (n : Int) := fun z H6 st6 sr6 g6 => by
      refine ⟨hs ++ [_], _, _, rfl, st6.mut nH, sr6.elim fun o y => ⟨o, by rw [upd_ne np.symm]; exact y.1, y.2⟩, by rw [upd_same, List.map_append]; rfl, by rw [List.length_append, hlen]; rfl, fun h hh => ?_⟩
      rcases List.mem_append.mp hh with hh | hh
      · exact hall h hh
      · rw [List.mem_singleton.mp hh]
        exact clip hn1 z
    refine ⟨_, rfl, _, _, rfl, rfl, _, rfl, ite2 (fun c => ?_) (fun c => ?_)⟩
    · refine ⟨_, rfl, _, rfl, s', (n : Int), b + (n - (i + 1)), rfl, by omega, by omega, sr5.mono (by omega), fun r o ra rb hO => ?_⟩
      have g6 : (upd H5 s' o) p = some (.lst (hs.map V.int)) := by
        rw [upd_ne np]
        exact g5
      refine ⟨_, rfl, .inl ⟨rfl, _, sqL g6⟩, _, rfl, _, _, rfl, rfl, _, rfl, _, _, rfl, _, _, rfl, p, _, _, rfl, rfl, g6, ?_, fin r _ (st5.trans stay_upd) ⟨o, upd_same, hO⟩ g6⟩
      rw [List.length_map]
      exact small1000 (by omega)
    · refine ⟨_, rfl, _, rfl, s', 3, b + (n - (i + 1)), rfl, by decide, by decide, sr5.mono (by omega), fun r o ra rb hO => ?_⟩
      have g6 : (upd H5 s' o) p = some (.lst (hs.map V.int)) := by
        rw [upd_ne np]
        exact g5
      refine ⟨_, _, rfl, rfl, _, _, rfl, rfl, ?_⟩
      refine ⟨_, rfl, .inl ⟨rfl, _, sqL g6⟩, _, rfl, _, _, rfl, rfl, _, rfl, _, _, rfl, _, _, rfl, p, _, _, rfl, rfl, g6, ?_, fin (r0 + r - 1) _ (st5.trans stay_upd) ⟨o, upd_same, hO⟩ g6⟩
      rw [List.length_map]
      exact small1000 (by omega)
  · obtain ⟨hs, y5, y6, rfl, st5, sr5, g5, hlen, hall⟩ := hP
    exact ⟨_, rfl, q p hs H5 st5 (sr5.mono (by omega)) nH np g5 (by omega) hall⟩

/-! ### _law_fill -/
def spFill (K : PySem.W.Frag) : Sp := fun vs H Q _ => ∃ (n : Nat) (a : Addr) (hs : List Int), vs = [.int n, .ref a] ∧ SqL K H a (hs.map V.int) ∧ n ≤ 100 ∧ hs.length ≤ n ∧
  ∀ (t p q : Addr) (sh : List (Option Int)) (qs : List Int) (H' : Hp), Same H H' → H t = none → H p = none → H q = none → H' t = some (.tup [.ref p, .ref q]) → H' p = some (.tup (sh.map oV)) → H' q = some (.tup (qs.map V.int)) → Fill n hs sh qs → Q (.ref t) H'
theorem rep_non (n : Nat) : (List.replicate ((n : Int)).toNat [V.non]).flatten = (List.replicate n (none : Option Int)).map oV := by
  rw [Int.toNat_natCast]
  induction n with
  | zero => rfl
  | succ n ih =>
    rw [List.replicate_succ, List.replicate_succ, List.flatten_cons, ih]
    rfl
theorem ok_fill (T : Bt mg) {f : Addr} {fd : FuncData} {k : Nat} (D : Df K mg "_law_fill" s_law_fill ["_law_width", "_law_hopes_here"] f fd) : Kn P w K mg base (k + 1) "_law_fill" s_law_fill ["_law_width", "_law_hopes_here"] (spFill K) f fd := by
  refine ⟨D, D.F.ok sc_law_fill (fun vs H Q E h => ?_) (fun cdv A outer s H vs Q E hr h => ?_)⟩
  · obtain ⟨n, a, hs, rfl, _⟩ := h
    rfl
  obtain ⟨n, a, hs, rfl, hA, hn, hlen, q⟩ := h
  refine ⟨_, (pss_cons (ps_asg (pe_tup (pa_cons (pe_op op_rep (pe_lst (pa_cons pe_non pa_nil)) (pv 0)) (pa_cons (pe_lst pa_nil) pa_nil))) (pg_tup (by rfl) (pgs_cons (pg_name (i := 2) sc_law_fill.nd rfl (.inr rfl)) (pgs_cons (pg_name (i := 3) sc_law_fill.nd rfl (.inl rfl)) pgs_nil))))
      (pss_cons (ps_for PassesOwn.never rfl (pi_list (pv 1)) (pg_name (i := 4) sc_law_fill.nd rfl (.inr rfl)) (pss_cons (ps_set (i := 5) sc_law_fill.nd rfl (.inl rfl) (pe_ix (ix_tupK (K := K) rfl) (pe_callB (cr_minT (K := K) rfl rfl (hu_of hr)) (by rfl) T.min (by decide +kernel) (pa_cons (pe_lc (own := [("_law_at", 6)]) (by rfl) sc_law_fill.nd (pi_range1 (by rfl) T.range (pa_cons (pv 0) pa_nil)) (blkOk_by (own := [("_law_at", 6)]) (N := ["_law_width", "_law_hopes_here", "_law_shelf", "_law_queue", "_law_hope", "_law_spot", "_law_at"]) (sc := defScope s_law_fill) (by decide +kernel)) (fun _ _ _ _ _ => (pg_name (i := 6) sc_law_fill.nd rfl (.inl rfl))) (fun _ _ _ _ _ => (pts_one (pt_cmpR op_isN (pe_ix (ix_listK (K := K) rfl) (pv 2) (pv 6) (fun _ _ => rfl)) pe_non (nomark _)))) (fun _ _ _ _ _ => (pe_tup (pa_cons (pe_callB call_abs (by rfl) T.abs (by decide +kernel) (pa_cons (pe_op op_sub (pv 6) (pv 4)) pa_nil)) (pa_cons (pv 6) pa_nil))))) pa_nil)) pe_int (fun _ _ => rfl)))
      (pss_cons (ps_asg (pv 4) (pg_sub (pv 2) (pv 5) set_list))
      (pss_one (ps_expr (pe_bm PySem.F.plainAttrs_list PySem.F.slot_list_append PySem.F.type_list_append mt_append (pv 3) (pa_cons (pv 5) pa_nil)))))))
      (pss_one (ps_ret (pe_tup (pa_cons (pe_callTy (call_tupleK (K := K) rfl) (by rfl) T.tuple (by decide +kernel) (pa_cons (pv 2) pa_nil)) (pa_cons (pe_callTy (call_tupleK (K := K) rfl) (by rfl) T.tuple (by decide +kernel) (pa_cons (pv 3) pa_nil)) pa_nil))))))), ?_⟩
  refine ⟨(by show 1 ≤ sizeLine; decide), fun l0 hl0 => ?_⟩
  have s0 := same_upd (o := .lst [.non]) hl0
  refine ⟨_, rfl, l0, (n : Int), _, rfl, rfl, upd_same, by omega, by omega, small (by rw [Int.toNat_natCast]; show 1 * n ≤ 1000; omega), fun shelf hshelf => ?_⟩
  rw [rep_non]
  have s1 := same_upd (o := .lst ((List.replicate n (none : Option Int)).map oV)) hshelf
  have nsh : H shelf = none := s0.free hshelf
  have g1 : (upd (upd H l0 (.lst [.non])) shelf (.lst ((List.replicate n (none : Option Int)).map oV))) shelf = some (.lst ((List.replicate n (none : Option Int)).map oV)) := upd_same
  have t1 := s0.trans s1
  generalize upd (upd H l0 (.lst [.non])) shelf (.lst ((List.replicate n (none : Option Int)).map oV)) = H1 at t1 g1
  refine ⟨(by show 0 ≤ sizeLine; decide), fun queue hqueue => ?_⟩
  have s2 := same_upd (o := .lst []) hqueue
  have nqu : H queue = none := t1.free hqueue
  have g2 : (upd H1 queue (.lst [])) queue = some (.lst []) := upd_same
  have t2 := t1.trans s2
  have g1' := s2 _ _ g1
  generalize upd H1 queue (.lst []) = H2 at t2 g2 g1'
  refine ⟨(by show 2 ≤ sizeLine; decide), fun tt htt => ?_⟩
  have s3 := same_upd (o := .tup [.ref shelf, .ref queue]) htt
  have t3 := t2.trans s3
  refine ⟨tt, [.ref shelf, .ref queue], rfl, sqT upd_same, rfl, .ref shelf, [.ref queue], rfl, .ref queue, [], rfl, rfl, ?_⟩
  have g1'' := s3 _ _ g1'
  have g2' := s3 _ _ g2
  generalize upd H2 tt (.tup [.ref shelf, .ref queue]) = H3 at t3 g1'' g2'
  have nsq : shelf ≠ queue := fun e => by
    rw [e, hqueue] at g1
    cases g1
  refine ⟨_, rfl, a, rfl, ⟨_, t3.seq hA⟩, ?_⟩
  refine for_list (xs := hs.map V.int) (fun i σ H' => ∃ (sh : List (Option Int)) (qs : List Int) (y4 y5 : Option V), σ = [some (.int (n : Int)), some (.ref a), some (.ref shelf), some (.ref queue), y4, y5, none] ∧ Same H H' ∧ H' shelf = some (.lst (sh.map oV)) ∧ H' queue = some (.lst (qs.map V.int)) ∧ Fill n (hs.take i) sh qs)
    ⟨_, [], _, _, rfl, t3, g1'', g2', Fill.nil⟩ (fun i σ H' _ hP => ?_) (fun i x σ H4 gx hP => ?_) (fun σ H4 hP => ?_)
  · obtain ⟨_, _, _, _, _, t4, _⟩ := hP
    exact t4.seq hA
  · obtain ⟨sh, qs, y4, y5, rfl, t4, gs, gq, fl⟩ := hP
    have hi : i < hs.length := by
      have := (List.getElem?_eq_some_iff.mp gx).1
      rw [List.length_map] at this
      exact this
    have ex : x = .int hs[i] := by
      rw [List.getElem?_map, List.getElem?_eq_getElem hi] at gx
      exact (Option.some.inj gx).symm
    subst ex
    generalize hh : hs[i] = h
    have hsl := fl.len
    have hpos : 0 < fr sh := by
      have := fl.free
      rw [List.length_take, Nat.min_eq_left (by omega)] at this
      omega
    obtain ⟨c0, hc0, hf0⟩ := fr_pos hpos
    -- the pairs
    refine ⟨_, rfl, (n : Int), rfl, by omega, by omega, fun L hL => ?_⟩
    have en : ((n : Int)).toNat = n := Int.toNat_natCast n
    rw [en]
    refine lc_range (lo := 0) (n := n) (fun j H5 => ∃ ps : List Addr, Same H4 H5 ∧ H5 L = some (.lst (ps.map V.ref)) ∧ ps.length = (frees sh j).length ∧ ∀ (k : Nat) (p : Addr) (x : Nat), ps[k]? = some p → (frees sh j)[k]? = some x → H5 p = some (.tup [.int (dist (x : Int) h), .int (x : Int)]))
      ⟨[], same_upd hL, upd_same, rfl, fun k p x gp _ => by simp at gp⟩ (fun j H5 hj hP5 => ?_) (fun H5 hP5 => ?_)
    · obtain ⟨ps, t5, gL, hpl, hps⟩ := hP5
      have ez : (0 : Int) + (j : Int) = (j : Int) := Int.zero_add _
      rw [ez]
      refine ⟨rfl, _, rfl, _, rfl, shelf, _, _, _, rfl, rfl, sqL (t5 _ _ gs), atI_nat (oV_get (by omega)), rfl, _, rfl, ?_⟩
      rw [oV_isN]
      refine ite2 (fun c => ?_) (fun c => ?_)
      · refine ⟨_, rfl, _, rfl, _, _, rfl, rfl, _, rfl, _, rfl, (by show 2 ≤ sizeLine; decide), fun p hp => ?_⟩
        have t6 := same_upd (o := .tup [.int (dist (j : Int) h), .int (j : Int)]) hp
        have gp6 : (upd H5 p (.tup [.int (dist (j : Int) h), .int (j : Int)])) p = some (.tup [.int (dist (j : Int) h), .int (j : Int)]) := upd_same
        refine ⟨_, t6 _ _ gL, ?_, ps ++ [p], Same.mut (t5.trans t6) hL, ?_, ?_, fun k p' x gp gx' => ?_⟩
        · rw [List.length_map, hpl]
          have := frees_len sh j
          exact small1000 (by omega)
        · rw [upd_same, List.map_append]
          rfl
        · rw [List.length_append, frees_succ, if_pos c, List.length_append, hpl]
          rfl
        · have old : ∀ p' : Addr, ∀ o : List V, (upd H5 p (.tup [.int (dist (j : Int) h), .int (j : Int)])) p' = some (.tup o) → (upd (upd H5 p (.tup [.int (dist (j : Int) h), .int (j : Int)])) L (.lst (ps.map V.ref ++ [.ref p]))) p' = some (.tup o) := fun p' o z => by
            have ne : p' ≠ L := fun e => by
              rw [e, t6 _ _ gL] at z
              cases z
            rw [upd_ne ne]
            exact z
          rw [frees_succ, if_pos c] at gx'
          by_cases hk : k < ps.length
          · rw [List.getElem?_append_left hk] at gp
            rw [List.getElem?_append_left (by omega)] at gx'
            exact old _ _ (t6 _ _ (hps k p' x gp gx'))
          · rw [List.getElem?_append_right (by omega)] at gp
            rw [List.getElem?_append_right (by omega), ← hpl] at gx'
            have hk0 : k - ps.length = 0 := by
              have := (List.getElem?_eq_some_iff.mp gp).1
              rw [List.length_singleton] at this
              omega
            rw [hk0] at gp gx'
            have e1 : p = p' := Option.some.inj gp
            have e2 : j = x := Option.some.inj gx'
            subst e1 e2
            exact old _ _ gp6
      · refine ⟨ps, t5, gL, ?_, fun k p x gp gx' => ?_⟩
        · rw [frees_succ, if_neg c, List.append_nil]
          exact hpl
        · rw [frees_succ, if_neg c, List.append_nil] at gx'
          exact hps k p x gp gx'
    · obtain ⟨ps, t5, gL, hpl, hps⟩ := hP5
      refine ⟨L, ps, (frees sh n).map (fun (x : Nat) => [dist (x : Int) h, (x : Int)]), rfl, sqL gL, by rw [List.length_map]; exact hpl, ?_, fun i p ns gp gn => ?_, fun i p ns gp gn hb => ?_⟩
      · rw [List.length_map]
        have := mem_frees.mpr ⟨(by omega : c0 < n), getD_none.mpr hf0⟩
        exact List.length_pos_of_mem this
      · rw [List.getElem?_map] at gn
        cases gx' : (frees sh n)[i]? with
        | none => rw [gx'] at gn; cases gn
        | some x =>
          rw [gx'] at gn
          cases gn
          exact sqT (hps i p x gp gx')
      · rw [List.getElem?_map] at gn
        cases gx' : (frees sh n)[i]? with
        | none => rw [gx'] at gn; cases gn
        | some x =>
          rw [gx'] at gn
          cases gn
          have sp := spot_of gx' hb
          refine ⟨p, _, 1, .int (x : Int), rfl, rfl, sqT (hps i p x gp gx'), atI_nat (j := 1) rfl, ?_⟩
          -- shelf[spot] = hope, queue.append(spot)
          have gs5 := t5 _ _ gs
          have gq5 := t5 _ _ gq
          refine ⟨_, rfl, _, rfl, _, rfl, shelf, _, _, x, rfl, rfl, gs5, ixn' (by rw [List.length_map, hsl]; exact sp.lt), ?_⟩
          have e6 : (sh.map oV).set x (.int h) = (sh.set x (some h)).map oV := by
            rw [List.map_set]
            rfl
          rw [e6]
          have t6 : Same H (upd H5 shelf (.lst ((sh.set x (some h)).map oV))) := Same.mut (t4.trans t5) nsh
          have gq6 : (upd H5 shelf (.lst ((sh.set x (some h)).map oV))) queue = some (.lst (qs.map V.int)) := by
            rw [upd_ne nsq.symm]
            exact gq5
          have gs6 : (upd H5 shelf (.lst ((sh.set x (some h)).map oV))) shelf = some (.lst ((sh.set x (some h)).map oV)) := upd_same
          generalize upd H5 shelf (.lst ((sh.set x (some h)).map oV)) = H6 at t6 gq6 gs6
          have ql : qs.length ≤ 100 := by
            have := fl.qlen
            rw [List.length_take, Nat.min_eq_left (by omega)] at this
            omega
          refine ⟨_, rfl, .inl ⟨rfl, _, sqL gq6⟩, _, rfl, queue, _, _, rfl, rfl, gq6, by rw [List.length_map]; exact small1000 (by omega), ?_⟩
          refine ⟨sh.set x (some h), qs ++ [(x : Int)], _, _, rfl, Same.mut t6 nqu, ?_, ?_, ?_⟩
          · rw [upd_ne nsq]
            exact gs6
          · rw [upd_same, List.map_append]
            rfl
          · rw [take_snoc hi, hh]
            exact Fill.snoc fl sp
  · obtain ⟨sh, qs, y4, y5, rfl, t4, gs, gq, fl⟩ := hP
    rw [List.length_map, List.take_length] at fl
    refine ⟨_, rfl, shelf, _, rfl, .inl ⟨sqL gs, fun p hp => ?_⟩⟩
    have t5 := same_upd (o := .tup (sh.map oV)) hp
    refine ⟨_, rfl, queue, _, rfl, .inl ⟨sqL (t5 _ _ gq), fun q' hq' => ?_⟩⟩
    have t6 := same_upd (o := .tup (qs.map V.int)) hq'
    refine ⟨(by show 2 ≤ sizeLine; decide), fun t ht => ?_⟩
    have t7 := same_upd (o := .tup [.ref p, .ref q']) ht
    exact q t p q' sh qs _ (((t4.trans t5).trans t6).trans t7) (t4.free (t5.free (t6.free ht))) (t4.free hp) (t4.free (t5.free hq')) upd_same (t7 _ _ (t6 _ _ upd_same)) (t7 _ _ upd_same) fl

/-! ### _law_veiled, _law_case, _law_spoiled, _law_any -/
def spVeiled (K : PySem.W.Frag) : Sp := fun vs H Q _ => ∃ (s a : Addr) (xs : List V) (b : Nat), vs = [.ref s, .ref a] ∧ SqT K (Hid [s] H) a xs ∧ xs.length ≤ 100 ∧ Src H s (b + xs.length + 1) ∧
  ∀ (p : Addr) (ys : List V) (H' : Hp), Stay s H H' → Src H' s b → H p = none → p ≠ s → H' p = some (.tup ys) → Veil xs ys → Q (.ref p) H'
theorem veil_snoc {xs ys : List V} {i : Nat} {v y : V} (hi : xs[i]? = some v) (hv : Veil (xs.take i) ys) (h : y = v ∨ (y = .str "?" ∧ v ≠ .non)) : Veil (xs.take (i + 1)) (ys ++ [y]) := by
  have hl := hv.len
  have hlt : i < xs.length := (List.getElem?_eq_some_iff.mp hi).1
  rw [List.length_take, Nat.min_eq_left (by omega)] at hl
  refine ⟨by rw [List.length_append, List.length_take, hl, Nat.min_eq_left (by omega)]; rfl, fun j => ?_⟩
  rw [List.take_add_one, hi]
  show (ys ++ [y])[j]? = (xs.take i ++ [v])[j]? ∨ ((ys ++ [y])[j]? = some (.str "?") ∧ ∃ v', (xs.take i ++ [v])[j]? = some v' ∧ v' ≠ .non)
  by_cases hj : j < i
  · rw [List.getElem?_append_left (by omega), List.getElem?_append_left (by rw [List.length_take]; omega)]
    exact hv.at_ j
  · rw [List.getElem?_append_right (by omega), List.getElem?_append_right (by rw [List.length_take]; omega), List.length_take, Nat.min_eq_left (by omega), hl]
    cases hk : j - i with
    | zero =>
      rcases h with h | ⟨h1, h2⟩
      · exact .inl (by rw [h])
      · exact .inr ⟨by rw [h1]; rfl, v, rfl, h2⟩
    | succ k => exact .inl rfl
theorem ok_veiled (T : Bt mg) {f f1 f2 : Addr} {fd fd1 fd2 : FuncData} {k : Nat} (D : Df K mg "_law_veiled" s_law_veiled ["_law_source_here", "_law_shelf"] f fd) (k_law_draw : Kn P w K mg base (k + 1) "_law_draw" s_law_draw ["_law_source_here", "_law_bound"] spDraw f1 fd1)
    (k_law_choice : Kn P w K mg base (k + 2) "_law_choice" s_law_choice ["_law_source_here", "_law_row_here"] (spChoice K) f2 fd2) : Kn P w K mg base (k + 3) "_law_veiled" s_law_veiled ["_law_source_here", "_law_shelf"] (spVeiled K) f fd := by
  refine ⟨D, D.F.ok sc_law_veiled (fun vs H Q E h => ?_) (fun cdv A outer s H vs Q E hr h => ?_)⟩
  · obtain ⟨s', a, xs, b, rfl, _⟩ := h
    rfl
  obtain ⟨s', a, xs, b, rfl, hA, hlen, hsrc, q⟩ := h
  refine ⟨_, (pss_cons (ps_set (i := 2) sc_law_veiled.nd rfl (.inr rfl) (pe_call k_law_choice.G (hr.mono (by omega)) (by rfl) k_law_choice.D.g k_law_choice.D.F.kp k_law_choice.D.b .nil pass0 (pa_cons (pv 0) (pa_cons (pe_lst (pa_cons pe_int (pa_cons pe_int (pa_cons pe_int (pa_cons pe_int pa_nil))))) pa_nil))))
      (pss_one (ps_ret (pe_callTy (call_tupleK (K := K) rfl) (by rfl) T.tuple (by decide +kernel) (pa_cons (pe_lc (own := [("_law_part", 3)]) (by rfl) sc_law_veiled.nd (pi_tup (pv 1)) (blkOk_by (own := [("_law_part", 3)]) (N := ["_law_source_here", "_law_shelf", "_law_odds", "_law_part"]) (sc := defScope s_law_veiled) (by decide +kernel)) (fun _ _ _ _ _ => (pg_name (i := 3) sc_law_veiled.nd rfl (.inl rfl))) (fun _ _ _ _ _ => pts_nil) (fun _ _ _ _ _ => (pe_ifExp (PW.pt (pw_and (pt_cmpR op_notN (pv 3) pe_non (nomark _)) (pw_and1 (pt_cmpR op_lt (pe_call k_law_draw.G (hr.mono (by omega)) (by rfl) k_law_draw.D.g k_law_draw.D.F.kp k_law_draw.D.b .nil pass0 (pa_cons (pv 0) (pa_cons pe_int pa_nil))) (pv 2) (nomark _))))) pe_str (pv 3)))) pa_nil))))), ?_⟩
  have mS : s' ∈ [s'] := List.mem_singleton.mpr rfl
  refine ⟨_, rfl, (by show 4 ≤ sizeLine; decide), fun l hl => ?_⟩
  have s1 := same_upd (o := .lst [.int 0, .int 2, .int 5, .int 8]) hl
  have nl : l ∉ [s'] := fun z => by
    obtain ⟨o, y⟩ := src_has hsrc
    rw [← List.mem_singleton.mp z, hl] at y
    cases y
  refine ⟨s', l, [.int 0, .int 2, .int 5, .int 8], b + xs.length, rfl, sqL_hid nl upd_same, by decide, by decide, hsrc.elim fun o z => ⟨o, s1 _ _ z.1, z.2⟩, fun i v o gi hO => ?_⟩
  obtain ⟨z, ez⟩ : ∃ z : Int, v = .int z := by
    rcases i with _ | _ | _ | _ | i
    · exact ⟨_, (Option.some.inj gi).symm⟩
    · exact ⟨_, (Option.some.inj gi).symm⟩
    · exact ⟨_, (Option.some.inj gi).symm⟩
    · exact ⟨_, (Option.some.inj gi).symm⟩
    · simp at gi
  subst ez
  have st1 : Stay s' H (upd (upd H l (.lst [.int 0, .int 2, .int 5, .int 8])) s' o) := (Stay.of s1).trans stay_upd
  have sr1 : Src (upd (upd H l (.lst [.int 0, .int 2, .int 5, .int 8])) s' o) s' (b + xs.length) := ⟨o, upd_same, hO⟩
  generalize upd (upd H l (.lst [.int 0, .int 2, .int 5, .int 8])) s' o = H1 at st1 sr1
  refine ⟨_, rfl, a, rfl, ⟨_, Same.tup same_hid (Same.tup (hid_stay mS st1) hA)⟩, fun L hL => ?_⟩
  have nL : L ≠ s' := fun e => by
    obtain ⟨o, y⟩ := src_has sr1
    rw [← e, hL] at y
    cases y
  have nHL : H L = none := by
    cases hq : H L with
    | none => rfl
    | some u =>
      have := st1 L u nL hq
      rw [hL] at this
      cases this
  refine lc_tup (xs := xs) (fun i H2 => ∃ ys : List V, Stay s' H H2 ∧ Src H2 s' (b + (xs.length - i)) ∧ H2 L = some (.lst ys) ∧ Veil (xs.take i) ys)
    ⟨[], st1.mut nHL, sr1.elim fun o z => ⟨o, by rw [upd_ne nL.symm]; exact z.1, z.2⟩, upd_same, ⟨rfl, fun j => .inl rfl⟩⟩ (fun i H2 _ hP => ?_) (fun i x H2 gx hP => ?_) (fun H2 hP => ?_)
  · obtain ⟨ys, st2, _⟩ := hP
    exact Same.tup same_hid (Same.tup (hid_stay mS st2) hA)
  · obtain ⟨ys, st2, sr2, gL, vl⟩ := hP
    have hi : i < xs.length := (List.getElem?_eq_some_iff.mp gx).1
    have hyl := vl.len
    rw [List.length_take, Nat.min_eq_left (by omega)] at hyl
    have fin : ∀ (y : V) (H3 : Hp), Stay s' H H3 → Src H3 s' (b + (xs.length - (i + 1))) → H3 L = some (.lst ys) → (y = x ∨ (y = .str "?" ∧ x ≠ .non)) →
        ∃ acc, H3 L = some (.lst acc) ∧ acc.length < sizeLine ∧ ∃ ys2 : List V, Stay s' H (upd H3 L (.lst (acc ++ [y]))) ∧ Src (upd H3 L (.lst (acc ++ [y]))) s' (b + (xs.length - (i + 1))) ∧ (upd H3 L (.lst (acc ++ [y]))) L = some (.lst ys2) ∧ Veil (xs.take (i + 1)) ys2 := fun y H3 st3 sr3 g3 hy =>
      ⟨ys, g3, small1000 (by omega), ys ++ [y], st3.mut nHL, sr3.elim fun o z => ⟨o, by rw [upd_ne nL.symm]; exact z.1, z.2⟩, upd_same, veil_snoc gx vl hy⟩
    refine ⟨rfl, _, rfl, rfl, _, rfl, ?_⟩
    by_cases hx : x = .non
    · subst hx
      refine iteF ?_
      exact iteF ⟨_, rfl, fin _ _ st2 (sr2.mono (by omega)) gL (.inl rfl)⟩
    · rw [decide_eq_false hx]
      refine iteT ?_
      refine ⟨_, rfl, s', 9, b + (xs.length - (i + 1)), rfl, by decide, by decide, sr2.mono (by omega), fun r o ra rb hO => ?_⟩
      have g3 : (upd H2 s' o) L = some (.lst ys) := by
        rw [upd_ne nL]
        exact gL
      refine ⟨_, rfl, _, _, rfl, rfl, _, rfl, ite2 (fun c => ?_) (fun c => ?_)⟩
      · exact fin _ _ (st2.trans stay_upd) ⟨o, upd_same, hO⟩ g3 (.inr ⟨rfl, hx⟩)
      · exact ⟨_, rfl, fin _ _ (st2.trans stay_upd) ⟨o, upd_same, hO⟩ g3 (.inl rfl)⟩
  · obtain ⟨ys, st2, sr2, gL, vl⟩ := hP
    rw [List.take_length] at vl
    refine ⟨L, _, rfl, .inl ⟨sqL gL, fun p hp => ?_⟩⟩
    have np : p ≠ s' := fun e => by
      obtain ⟨o, y⟩ := src_has sr2
      rw [← e, hp] at y
      cases y
    have nHp : H p = none := by
      cases hq : H p with
      | none => rfl
      | some u =>
        have := st2 p u np hq
        rw [hp] at this
        cases this
    exact q p ys _ (st2.trans (Stay.of (same_upd hp))) (sr2.elim fun o z => ⟨o, same_upd hp _ _ z.1, z.2.mono (by omega)⟩) nHp np upd_same vl
/-- what _law_case gives: the filled row of n cells, veiled, and the cells in order -/
structure CaseR (s : Addr) (H H' : Hp) (m : Nat) (t p q : Addr) (n : Nat) (hs : List Int) (sh : List (Option Int)) (qs : List Int) (ys : List V) : Prop where
  st : Stay s H H'
  nt : t ≠ s
  np : p ≠ s
  nq : q ≠ s
  gt : H' t = some (.tup [.ref p, .ref q])
  gp : H' p = some (.tup ys)
  gq : H' q = some (.tup (qs.map V.int))
  n1 : 1 ≤ n
  nm : n ≤ m
  hl : hs.length ≤ n
  hr : ∀ h ∈ hs, 0 ≤ h ∧ h < (n : Int)
  fl : Fill n hs sh qs
  vl : Veil (sh.map oV) ys
def spCase : Sp := fun vs H Q _ => ∃ (s : Addr) (m b : Nat), vs = [.ref s, .int m] ∧ 1 ≤ m ∧ m ≤ 90 ∧ Src H s (b + 2 * m + 8) ∧
  ∀ (t p q : Addr) (n : Nat) (hs : List Int) (sh : List (Option Int)) (qs : List Int) (ys : List V) (H' : Hp), CaseR s H H' m t p q n hs sh qs ys → Src H' s b → H t = none → H p = none → H q = none → Q (.ref t) H'
theorem ok_case (T : Bt mg) {f f1 f2 f3 f4 : Addr} {fd fd1 fd2 fd3 fd4 : FuncData} (D : Df K mg "_law_case" s_law_case ["_law_source_here", "_law_most"] f fd) (k_law_draw : Kn P w K mg base 1 "_law_draw" s_law_draw ["_law_source_here", "_law_bound"] spDraw f1 fd1)
    (k_law_hopes : Kn P w K mg base 2 "_law_hopes" s_law_hopes ["_law_source_here", "_law_width"] spHopes f2 fd2) (k_law_fill : Kn P w K mg base 1 "_law_fill" s_law_fill ["_law_width", "_law_hopes_here"] (spFill K) f3 fd3) (k_law_veiled : Kn P w K mg base 3 "_law_veiled" s_law_veiled ["_law_source_here", "_law_shelf"] (spVeiled K) f4 fd4) :
    Kn P w K mg base 4 "_law_case" s_law_case ["_law_source_here", "_law_most"] spCase f fd := by
  refine ⟨D, D.F.ok sc_law_case (fun vs H Q E h => ?_) (fun cdv A outer s H vs Q E hr h => ?_)⟩
  · obtain ⟨s', m, b, rfl, _⟩ := h
    rfl
  obtain ⟨s', m, b, rfl, hm1, hm, hsrc, q⟩ := h
  refine ⟨_, (pss_cons (ps_set (i := 2) sc_law_case.nd rfl (.inl rfl) (pe_op op_add pe_int (pe_call k_law_draw.G (hr.mono (by omega)) (by rfl) k_law_draw.D.g k_law_draw.D.F.kp k_law_draw.D.b .nil pass0 (pa_cons (pv 0) (pa_cons (pv 1) pa_nil)))))
      (pss_cons (ps_asg (pe_call k_law_fill.G (hr.mono (by omega)) (by rfl) k_law_fill.D.g k_law_fill.D.F.kp k_law_fill.D.b .nil pass0 (pa_cons (pv 2) (pa_cons (pe_call k_law_hopes.G (hr.mono (by omega)) (by rfl) k_law_hopes.D.g k_law_hopes.D.F.kp k_law_hopes.D.b .nil pass0 (pa_cons (pv 0) (pa_cons (pv 2) pa_nil))) pa_nil))) (pg_tup (by rfl) (pgs_cons (pg_name (i := 3) sc_law_case.nd rfl (.inl rfl)) (pgs_cons (pg_name (i := 4) sc_law_case.nd rfl (.inl rfl)) pgs_nil))))
      (pss_one (ps_ret (pe_tup (pa_cons (pe_call k_law_veiled.G (hr.mono (by omega)) (by rfl) k_law_veiled.D.g k_law_veiled.D.F.kp k_law_veiled.D.b .nil pass0 (pa_cons (pv 0) (pa_cons (pv 3) pa_nil))) (pa_cons (pv 4) pa_nil))))))), ?_⟩
  refine ⟨_, rfl, _, rfl, s', (m : Int), b + 2 * m + 7, rfl, by omega, by omega, hsrc, fun r o ra rb hO => ⟨_, _, rfl, rfl, ?_⟩⟩
  obtain ⟨n, hn⟩ : ∃ n : Nat, 1 + r = (n : Int) := ⟨(1 + r).toNat, by omega⟩
  dsimp only
  rw [hn]
  have st1 : Stay s' H (upd H s' o) := stay_upd
  have sr1 : Src (upd H s' o) s' (b + 2 * m + 7) := ⟨o, upd_same, hO⟩
  generalize upd H s' o = H1 at st1 sr1
  have fresh : ∀ {p : Addr} {H' : Hp}, Stay s' H H' → p ≠ s' → H' p = none → H p = none := fun {p H'} st np hp => by
    cases hq : H p with
    | none => rfl
    | some u =>
      have := st p u np hq
      rw [hp] at this
      cases this
  refine ⟨_, rfl, _, rfl, _, rfl, s', n, b + n + 4, rfl, by omega, by omega, sr1.mono (by omega), fun p0 hs H2 st2 sr2 nh0 np0 g0 hl hr' => ?_⟩
  refine ⟨n, p0, hs, rfl, sqL g0, by omega, hl, fun t0 p1 q1 sh qs H3 s3 nt0 np1 nq1 gt gp gq fl => ?_⟩
  have hs2 := src_has sr2
  have ne1 : p1 ≠ s' := fun e => by
    obtain ⟨o, y⟩ := hs2
    rw [← e, np1] at y
    cases y
  have ne2 : q1 ≠ s' := fun e => by
    obtain ⟨o, y⟩ := hs2
    rw [← e, nq1] at y
    cases y
  have st3 : Stay s' H H3 := (st1.trans st2).trans (Stay.of s3)
  have sr3 : Src H3 s' (b + n + 4) := sr2.elim fun o z => ⟨o, s3 _ _ z.1, z.2⟩
  refine ⟨t0, [.ref p1, .ref q1], rfl, sqT gt, rfl, .ref p1, [.ref q1], rfl, .ref q1, [], rfl, rfl, ?_⟩
  have hsl := fl.len
  refine ⟨_, rfl, _, rfl, s', p1, sh.map oV, b + 3, rfl, sqT_hid (fun z => ne1 (List.mem_singleton.mp z)) gp, by rw [List.length_map]; omega, by rw [List.length_map]; exact sr3.mono (by omega), fun p2 ys H4 st4 sr4 np2 ne3 gy vl => ?_⟩
  refine ⟨_, rfl, (by show 2 ≤ sizeLine; decide), fun t2 ht2 => ?_⟩
  have ne4 : t2 ≠ s' := fun e => by
    obtain ⟨o, y⟩ := src_has sr4
    rw [← e, ht2] at y
    cases y
  have t5 := same_upd (o := .tup [.ref p2, .ref q1]) ht2
  have st5 := (st3.trans st4).trans (Stay.of t5)
  exact q t2 p2 q1 n hs sh qs ys _ ⟨st5, ne4, ne3, ne2, upd_same, t5 _ _ gy, t5 _ _ (st4 _ _ ne2 gq), by omega, by omega, hl, hr', fl, vl⟩ (sr4.elim fun o z => ⟨o, t5 _ _ z.1, z.2.mono (by omega)⟩) (fresh (st3.trans st4) ne4 ht2) (fresh st3 ne3 np2) (fresh (st1.trans st2) ne2 nq1)

/-! ### _law_spoiled -/
def spSpoiled (K : PySem.W.Frag) : Sp := fun vs H Q _ => ∃ (s a : Addr) (xs : List V) (b : Nat), vs = [.ref s, .ref a] ∧ SqT K (Hid [s] H) a xs ∧ 1 ≤ xs.length ∧ xs.length ≤ 100 ∧ (∀ x ∈ xs, TabV xs.length x) ∧ Src H s (b + 8) ∧
  ∀ (p : Addr) (ys : List V) (H' : Hp), Stay s H H' → Src H' s b → H p = none → p ≠ s → H' p = some (.tup ys) → ys.length = xs.length → (∀ y ∈ ys, TabV xs.length y) → Q (.ref p) H'
theorem rg_mem {n : Nat} {v : V} (h : v ∈ rgV 0 (n : Int)) : TabV n v := by
  unfold rgV at h
  obtain ⟨i, hi, rfl⟩ := List.mem_map.mp h
  have hi' := List.mem_range.mp hi
  exact .inr (.inr ⟨i, by rw [Int.zero_add], by omega⟩)
theorem ok_spoiled (T : Bt mg) {f f1 f2 : Addr} {fd fd1 fd2 : FuncData} {k : Nat} (D : Df K mg "_law_spoiled" s_law_spoiled ["_law_source_here", "_law_shelf"] f fd) (k_law_draw : Kn P w K mg base (k + 1) "_law_draw" s_law_draw ["_law_source_here", "_law_bound"] spDraw f1 fd1)
    (k_law_choice : Kn P w K mg base (k + 2) "_law_choice" s_law_choice ["_law_source_here", "_law_row_here"] (spChoice K) f2 fd2) : Kn P w K mg base (k + 3) "_law_spoiled" s_law_spoiled ["_law_source_here", "_law_shelf"] (spSpoiled K) f fd := by
  refine ⟨D, D.F.ok sc_law_spoiled (fun vs H Q E h => ?_) (fun cdv A outer s H vs Q E hr h => ?_)⟩
  · obtain ⟨s', a, xs, b, rfl, _⟩ := h
    rfl
  obtain ⟨s', a, xs, b, rfl, hA, hl1, hlen, hall, hsrc, q⟩ := h
  refine ⟨_, (pss_cons (ps_set (i := 2) sc_law_spoiled.nd rfl (.inl rfl) (pe_callTy (call_listK (K := K) rfl) (by rfl) T.list (by decide +kernel) (pa_cons (pv 1) pa_nil)))
      (pss_cons (ps_for PassesOwn.never rfl (pi_range1 (by rfl) T.range (pa_cons (pe_op op_add pe_int (pe_call k_law_draw.G (hr.mono (by omega)) (by rfl) k_law_draw.D.g k_law_draw.D.F.kp k_law_draw.D.b .nil pass0 (pa_cons (pv 0) (pa_cons pe_int pa_nil)))) pa_nil)) (pg_name (i := 3) sc_law_spoiled.nd rfl (.inl rfl)) (pss_one (ps_asg (pe_call k_law_choice.G (hr.mono (by omega)) (by rfl) k_law_choice.D.g k_law_choice.D.F.kp k_law_choice.D.b .nil pass0 (pa_cons (pv 0) (pa_cons (pe_op op_cat (pe_op op_rep (pe_listRg (by rfl) (by rfl) T.list (prg_1 (by rfl) T.range (pe_callB (call_lenK (K := K) rfl) (by rfl) T.len (by decide +kernel) (pa_cons (pv 1) pa_nil)))) pe_int) (pe_lst (pa_cons pe_non (pa_cons pe_str pa_nil)))) pa_nil))) (pg_sub (pv 2) (pe_call k_law_draw.G (hr.mono (by omega)) (by rfl) k_law_draw.D.g k_law_draw.D.F.kp k_law_draw.D.b .nil pass0 (pa_cons (pv 0) (pa_cons (pe_callB (call_lenK (K := K) rfl) (by rfl) T.len (by decide +kernel) (pa_cons (pv 1) pa_nil)) pa_nil))) set_list))))
      (pss_one (ps_ret (pe_callTy (call_tupleK (K := K) rfl) (by rfl) T.tuple (by decide +kernel) (pa_cons (pv 2) pa_nil)))))), ?_⟩
  have mS : s' ∈ [s'] := List.mem_singleton.mpr rfl
  have apart : ∀ {p : Addr} {H' : Hp} {m : Nat}, Src H' s' m → H' p = none → p ≠ s' := fun {p H' m} sr hp e => by
    obtain ⟨o, y⟩ := src_has sr
    rw [← e, hp] at y
    cases y
  have fresh : ∀ {p : Addr} {H' : Hp}, Stay s' H H' → p ≠ s' → H' p = none → H p = none := fun {p H'} st np hp => by
    cases hq : H p with
    | none => rfl
    | some u =>
      have := st p u np hq
      rw [hp] at this
      cases this
  refine ⟨_, rfl, a, xs, rfl, .inr (Same.tup same_hid hA), fun L hL => ?_⟩
  have nL := apart hsrc hL
  have st1 : Stay s' H (upd H L (.lst xs)) := Stay.of (same_upd hL)
  have sr1 : Src (upd H L (.lst xs)) s' (b + 8) := hsrc.elim fun o z => ⟨o, same_upd hL _ _ z.1, z.2⟩
  have g1 : (upd H L (.lst xs)) L = some (.lst xs) := upd_same
  generalize upd H L (.lst xs) = H1 at st1 sr1 g1
  refine ⟨_, rfl, s', 3, b + 7, rfl, by decide, by decide, sr1, fun r o ra rb hO => ⟨_, _, rfl, rfl, ?_⟩⟩
  have st2 : Stay s' H (upd H1 s' o) := st1.trans stay_upd
  have sr2 : Src (upd H1 s' o) s' (b + 7) := ⟨o, upd_same, hO⟩
  have g2 : (upd H1 s' o) L = some (.lst xs) := by
    rw [upd_ne nL]
    exact g1
  generalize upd H1 s' o = H2 at st2 sr2 g2
  obtain ⟨m, hm⟩ : ∃ m : Nat, 1 + r = (m : Int) := ⟨(1 + r).toNat, by omega⟩
  refine ⟨1 + r, rfl, by omega, by omega, ?_⟩
  have en : (1 + r).toNat = m := by omega
  rw [en]
  refine for_range (lo := 0) (n := m) (fun i σ H' => ∃ (ys : List V) (y3 : Option V), σ = [some (.ref s'), some (.ref a), some (.ref L), y3] ∧ Stay s' H H' ∧ Src H' s' (b + 2 * (m - i)) ∧ H' L = some (.lst ys) ∧ ys.length = xs.length ∧ ∀ y ∈ ys, TabV xs.length y)
    ⟨xs, _, rfl, st2, sr2.mono (by omega), g2, rfl, hall⟩ (fun i σ H3 hi hP => ?_) (fun σ H3 hP => ?_)
  · obtain ⟨ys, y3, rfl, st3, sr3, g3, hyl, hya⟩ := hP
    have hA3 := Same.tup same_hid (Same.tup (hid_stay mS st3) hA)
    -- the value
    refine ⟨_, rfl, _, rfl, a, xs, rfl, .inr hA3, _, rfl, RgOk.of_le (by omega) (by omega) (by omega) (by omega), fun l1 hl1' => ?_⟩
    have s4 := same_upd (o := .lst (rgV 0 (xs.length : Int))) hl1'
    refine ⟨l1, 2, _, rfl, rfl, upd_same, by decide, by decide, small (by rw [rgV_length]; show ((xs.length : Int) - 0).toNat * 2 ≤ 1000; omega), fun l2 hl2' => ?_⟩
    have er : (List.replicate (2 : Int).toNat (rgV 0 (xs.length : Int))).flatten = rgV 0 (xs.length : Int) ++ rgV 0 (xs.length : Int) := by
      show (rgV 0 (xs.length : Int) ++ (rgV 0 (xs.length : Int) ++ [])) = _
      rw [List.append_nil]
    rw [er]
    have s5 := same_upd (o := .lst (rgV 0 (xs.length : Int) ++ rgV 0 (xs.length : Int))) hl2'
    refine ⟨(by show 2 ≤ sizeLine; decide), fun l3 hl3' => ?_⟩
    have s6 := same_upd (o := .lst [.non, .str "?"]) hl3'
    refine ⟨l2, l3, _, _, rfl, rfl, s6 _ _ upd_same, upd_same, small (by rw [List.length_append, rgV_length]; show ((xs.length : Int) - 0).toNat + ((xs.length : Int) - 0).toNat + 2 ≤ 1000; omega), fun l4 hl4' => ?_⟩
    have s7 := same_upd (o := .lst ((rgV 0 (xs.length : Int) ++ rgV 0 (xs.length : Int)) ++ [.non, .str "?"])) hl4'
    have t7 := ((s4.trans s5).trans s6).trans s7
    have sr7 := sr3.elim fun o z => (⟨o, t7 _ _ z.1, z.2⟩ : Src _ s' (b + 2 * (m - i)))
    refine ⟨s', l4, _, b + 2 * (m - i) - 1, rfl, sqL_hid (fun z => apart (sr3.elim fun o z => ⟨o, ((s4.trans s5).trans s6) _ _ z.1, z.2⟩) hl4' (List.mem_singleton.mp z)) upd_same, by rw [List.length_append]; exact Nat.succ_pos _, by rw [List.length_append, List.length_append, rgV_length]; show ((xs.length : Int) - 0).toNat + ((xs.length : Int) - 0).toNat + 2 ≤ 1000; omega, Src.mono sr7 (by omega), fun j v o gj hO => ?_⟩
    have hv : TabV xs.length v := by
      rcases List.mem_append.mp (List.mem_of_getElem? gj) with z | z
      · rcases List.mem_append.mp z with z | z
        · exact rg_mem z
        · exact rg_mem z
      · rcases List.mem_cons.mp z with z | z
        · exact .inl z
        · exact .inr (.inl (List.mem_singleton.mp z))
    have st8 := (st3.trans (Stay.of t7)).trans (stay_upd (o := o))
    have g8 : (upd (upd (upd (upd (upd H3 l1 (.lst (rgV 0 (xs.length : Int)))) l2 (.lst (rgV 0 (xs.length : Int) ++ rgV 0 (xs.length : Int)))) l3 (.lst [.non, .str "?"])) l4 (.lst ((rgV 0 (xs.length : Int) ++ rgV 0 (xs.length : Int)) ++ [.non, .str "?"]))) s' o) L = some (.lst ys) := by
      rw [upd_ne nL]
      exact t7 _ _ g3
    have sr8 : Src (upd (upd (upd (upd (upd H3 l1 (.lst (rgV 0 (xs.length : Int)))) l2 (.lst (rgV 0 (xs.length : Int) ++ rgV 0 (xs.length : Int)))) l3 (.lst [.non, .str "?"])) l4 (.lst ((rgV 0 (xs.length : Int) ++ rgV 0 (xs.length : Int)) ++ [.non, .str "?"]))) s' o) s' (b + 2 * (m - i) - 1) := ⟨o, upd_same, hO⟩
    generalize upd (upd (upd (upd (upd H3 l1 (.lst (rgV 0 (xs.length : Int)))) l2 (.lst (rgV 0 (xs.length : Int) ++ rgV 0 (xs.length : Int)))) l3 (.lst [.non, .str "?"])) l4 (.lst ((rgV 0 (xs.length : Int) ++ rgV 0 (xs.length : Int)) ++ [.non, .str "?"]))) s' o = H8 at st8 g8 sr8
    have hA8 := Same.tup same_hid (Same.tup (hid_stay mS st8) hA)
    -- the place
    refine ⟨_, rfl, _, rfl, _, rfl, a, xs, rfl, .inr hA8, s', (xs.length : Int), b + 2 * (m - (i + 1)), rfl, by omega, by omega, sr8.mono (by omega), fun rr oo rra rrb hOO => ?_⟩
    have g9 : (upd H8 s' oo) L = some (.lst ys) := by
      rw [upd_ne nL]
      exact g8
    obtain ⟨c, hc⟩ : ∃ c : Nat, rr = (c : Int) := ⟨rr.toNat, by omega⟩
    subst hc
    refine ⟨L, ys, (c : Int), c, rfl, rfl, g9, ixn' (by omega), ?_⟩
    refine ⟨ys.set c v, _, rfl, (st8.trans stay_upd).mut (fresh (Stay.refl _ _) nL hL), ⟨oo, by rw [upd_ne nL.symm, upd_same], hOO⟩, upd_same, by rw [List.length_set]; exact hyl, fun y hy => ?_⟩
    rcases List.mem_or_eq_of_mem_set hy with hy | hy
    · exact hya y hy
    · rw [hy]
      exact hv
  · obtain ⟨ys, y3, rfl, st3, sr3, g3, hyl, hya⟩ := hP
    refine ⟨_, rfl, L, _, rfl, .inl ⟨sqL g3, fun p hp => ?_⟩⟩
    have np := apart sr3 hp
    exact q p ys _ (st3.trans (Stay.of (same_upd hp))) (sr3.elim fun o z => ⟨o, same_upd hp _ _ z.1, z.2.mono (by omega)⟩) (fresh st3 np hp) np upd_same hyl hya

/-! ### _law_any -/
/-- a table (or what could be one) of at most m cells -/
def spAny : Sp := fun vs H Q _ => ∃ (s : Addr) (m b : Nat), vs = [.ref s, .int m] ∧ 1 ≤ m ∧ m ≤ 90 ∧ Src H s (b + 2 * m + 20) ∧
  ∀ (p : Addr) (ys : List V) (H' : Hp), Stay s H H' → Src H' s b → H p = none → p ≠ s → H' p = some (.tup ys) → 1 ≤ ys.length → ys.length ≤ m → (∀ y ∈ ys, TabV ys.length y) → Q (.ref p) H'
theorem ok_any (T : Bt mg) {f f1 f2 f3 : Addr} {fd fd1 fd2 fd3 : FuncData} (D : Df K mg "_law_any" s_law_any ["_law_source_here", "_law_most"] f fd) (k_law_draw : Kn P w K mg base 1 "_law_draw" s_law_draw ["_law_source_here", "_law_bound"] spDraw f1 fd1)
    (k_law_case : Kn P w K mg base 4 "_law_case" s_law_case ["_law_source_here", "_law_most"] spCase f2 fd2) (k_law_spoiled : Kn P w K mg base 3 "_law_spoiled" s_law_spoiled ["_law_source_here", "_law_shelf"] (spSpoiled K) f3 fd3) : Kn P w K mg base 5 "_law_any" s_law_any ["_law_source_here", "_law_most"] spAny f fd := by
  refine ⟨D, D.F.ok sc_law_any (fun vs H Q E h => ?_) (fun cdv A outer s H vs Q E hr h => ?_)⟩
  · obtain ⟨s', m, b, rfl, _⟩ := h
    rfl
  obtain ⟨s', m, b, rfl, hm1, hm, hsrc, q⟩ := h
  refine ⟨_, (pss_cons (ps_asg (pe_call k_law_case.G (hr.mono (by omega)) (by rfl) k_law_case.D.g k_law_case.D.F.kp k_law_case.D.b .nil pass0 (pa_cons (pv 0) (pa_cons (pv 1) pa_nil))) (pg_tup (by rfl) (pgs_cons (pg_name (i := 2) sc_law_any.nd rfl (.inl rfl)) (pgs_cons (pg_name (i := 3) sc_law_any.nd rfl (.inl rfl)) pgs_nil))))
      (pss_one (ps_ret (pe_ifExp (pt_cmpR op_eq (pe_call k_law_draw.G (hr.mono (by omega)) (by rfl) k_law_draw.D.g k_law_draw.D.F.kp k_law_draw.D.b .nil pass0 (pa_cons (pv 0) (pa_cons pe_int pa_nil))) pe_int (nomark _)) (pe_call k_law_spoiled.G (hr.mono (by omega)) (by rfl) k_law_spoiled.D.g k_law_spoiled.D.F.kp k_law_spoiled.D.b .nil pass0 (pa_cons (pv 0) (pa_cons (pv 2) pa_nil))) (pv 2))))), ?_⟩
  refine ⟨_, rfl, _, rfl, s', m, b + 9, rfl, hm1, hm, hsrc.mono (by omega), fun t p q' n hs sh qs ys H1 c sr1 nt np nq => ?_⟩
  obtain ⟨hyl, hyt⟩ := veil_tab c.fl c.hr c.vl
  have hn1 := c.n1
  have hnm := c.nm
  refine ⟨t, [.ref p, .ref q'], rfl, sqT c.gt, rfl, .ref p, [.ref q'], rfl, .ref q', [], rfl, rfl, ?_⟩
  refine ⟨_, rfl, s', 2, b + 8, rfl, by decide, by decide, sr1, fun r o ra rb hO => ⟨rfl, _, rfl, ?_⟩⟩
  have st2 : Stay s' H (upd H1 s' o) := c.st.trans stay_upd
  have sr2 : Src (upd H1 s' o) s' (b + 8) := ⟨o, upd_same, hO⟩
  have gp2 : (upd H1 s' o) p = some (.tup ys) := by
    rw [upd_ne c.np]
    exact c.gp
  generalize upd H1 s' o = H2 at st2 sr2 gp2
  refine ite2 (fun cc => ?_) (fun cc => ?_)
  · refine ⟨_, rfl, _, rfl, s', p, ys, b, rfl, sqT_hid (fun z => c.np (List.mem_singleton.mp z)) gp2, by omega, by omega, by rw [hyl]; exact hyt, sr2, fun p3 zs H3 st3 sr3 np3 ne3 g3 hzl hzt => ?_⟩
    refine q p3 zs H3 (st2.trans st3) sr3 ?_ ne3 g3 (by omega) (by omega) (by rw [hzl]; exact hzt)
    cases hq : H p3 with
    | none => rfl
    | some u =>
      have := st2 p3 u ne3 hq
      rw [np3] at this
      cases this
  · exact ⟨_, rfl, q p ys H2 st2 (sr2.mono (by omega)) np c.np gp2 (by omega) (by omega) (by rw [hyl]; exact hyt)⟩

/-! ### nearslot.texts -/
open TL
theorem ite_noT {c : Bool} {A B : Prop} (hc : c = false) (h : B) : if c = true then A else B := by
  rw [hc]
  exact h
theorem ite_yesT {c : Bool} {A B : Prop} (hc : c = true) (h : A) : if c = true then A else B := by
  rw [hc]
  exact h
theorem asg_toT {te : TE} {i : Nat} {D : Ends} {σ : L2.St} {H : Hp} (R : V → Hp → Prop) (k : ∀ v H', R v H' → gName i v σ H' D.nx) (h : ∀ Q : VK, (∀ v H', R v H' → Q v H') → te σ H Q) : tAsg te (gName i) D σ H := h _ k
theorem if_thenT {c : TT} {a b : TS} {D : Ends} {σ : L2.St} {H : Hp} (R : Hp → Prop) (k : ∀ H', R H' → D.nx σ H') (h : ∀ D' : Ends, (∀ H', R H' → D'.nx σ H') → tIfS c a b D' σ H) : tIfS c a b D σ H := h D k
def nV : Option Nat → V
  | none => .non
  | some n => .int (n : Int)
def spNumberIn (K : PySem.W.Frag) : Sp := fun vs H Q _ => ∃ (w : Str) (m : Int), vs = [.str w, .int m] ∧ w.length ≤ 100000 ∧ m ≤ 600 ∧ ∀ H', Same H H' → Q (nV (numO (tl w) m)) H'
theorem in_digits (c : Nat) : decide (c ∈ ("0123456789" : Str).cps.toList) = digB c := by
  rw [Bool.eq_iff_iff, decide_eq_true_iff, digB_iff]
  show c ∈ tl "0123456789" ↔ _
  rw [tl_dig]
  simp only [List.mem_cons, List.not_mem_nil, or_false]
  omega
theorem ok_numberin (T : Bt mg) {f : Addr} {fd : FuncData} (D : Df K mg "number_in" s_number_in ["word", "most_digits"] f fd) : Kn P w K mg base 1 "number_in" s_number_in ["word", "most_digits"] (spNumberIn K) f fd := by
  refine ⟨D, D.F.ok sc_number_in (fun vs H Q E h => ?_) (fun cdv A outer s H vs Q E hr h => ?_)⟩
  · obtain ⟨z, m, rfl, _⟩ := h
    rfl
  obtain ⟨z, m, rfl, hz, hm, q⟩ := h
  obtain ⟨tc_DIGITS, gc_DIGITS⟩ := T.c_DIGITS
  refine ⟨_, (pss_cons (ps_if (pt_not (pt_chain op_le op_le pe_int (pe_callB call_len_str (by rfl) T.len (by decide +kernel) (pa_cons (pv 0) pa_nil)) (pv 1))) (pss_one (ps_ret pe_non)) pss_nil)
      (pss_cons (ps_if (pt_not (pt_val (pe_callB (cr_allK (K := K) rfl rfl) (by rfl) T.all (by decide +kernel) (pa_cons (pe_lc (own := [("digit", 2)]) (by rfl) sc_number_in.nd (pi_str (pv 0)) (blkOk_by (own := [("digit", 2)]) (N := ["word", "most_digits", "digit"]) (sc := defScope s_number_in) (by decide +kernel)) (fun _ _ _ _ _ => (pg_name (i := 2) sc_number_in.nd rfl (.inl rfl))) (fun _ _ _ _ _ => pts_nil) (fun _ _ _ _ _ => (pe_cmpR op_in_sign (pv 2) (pe_glob (v := .str "0123456789") (by rfl) gc_DIGITS ⟨_, rfl⟩) (by rfl)))) pa_nil)))) (pss_one (ps_ret pe_non)) pss_nil)
      (pss_cons (ps_if (PW.pt (pw_and (pt_val (pe_bm PySem.F.plainAttrs_str PySem.F.slot_str_startswith PySem.F.type_str_startswith mt_startswith (pv 0) (pa_cons pe_str pa_nil))) (pw_and1 (pt_cmpR op_ne (pv 0) pe_str (nomark _))))) (pss_one (ps_ret pe_non)) pss_nil)
      (pss_one (ps_ret (pe_callTy call_int_str (by rfl) T.int (by decide +kernel) (pa_cons (pv 0) pa_nil))))))), ?_⟩
  have hsz : z.length ≤ sizeLine := Nat.le_of_lt (line_ok (by omega))
  have hl : (tl z).length = z.length := (len_tl z).symm
  have hno : ∀ H', Same H H' → numO (tl z) m = none → Q .non H' := fun H' s e => by
    have := q H' s
    rw [e] at this
    exact this
  refine ⟨_, rfl, z, rfl, hsz, _, _, rfl, rfl, _, rfl, ?_⟩
  by_cases h1 : (1 : Int) ≤ (z.length : Int)
  rotate_left
  · rw [decide_eq_false h1]
    exact iteF ⟨_, rfl, iteT (hno H (Same.refl _) (if_neg fun y => h1 (by rw [hl] at y; exact y.1)))⟩
  rw [decide_eq_true h1]
  refine iteT ⟨_, rfl, _, _, rfl, rfl, _, rfl, ?_⟩
  by_cases h2 : (z.length : Int) ≤ m
  rotate_left
  · rw [decide_eq_false h2]
    exact iteT (hno H (Same.refl _) (if_neg fun y => h2 (by rw [hl] at y; exact y.2.1)))
  rw [decide_eq_true h2]
  refine iteF ?_
  dsimp only [tNext, tSeq]
  refine ⟨_, rfl, _, rfl, fun L1 hL1 => ?_⟩
  refine lc_it walk_str (fun i H' => Same H H' ∧ H' L1 = some (.lst ((((tl z).take i).map digB).map V.bl))) ⟨same_upd hL1, upd_same⟩ (fun _ _ _ _ => trivial) (fun i x H2 H3 hi hP hY => ?_) (fun H2 hP => ?_)
  · obtain ⟨s2, g2⟩ := hP
    obtain ⟨rfl, c, gc, rfl⟩ := hY
    have gc' : (tl z)[i]? = some c := by rw [← gc]; exact Array.getElem?_toList
    refine ⟨rfl, _, rfl, c, _, rfl, rfl, _, g2, line_ok (by rw [List.length_map, List.length_map, List.length_take]; omega), Same.mut s2 hL1, ?_⟩
    rw [upd_same, in_digits, List.take_succ, gc', List.map_append, List.map_append]
    rfl
  · obtain ⟨s2, g2⟩ := hP
    have e0 : (tl z).take z.cps.size = tl z := List.take_of_length_le (Nat.le_of_eq hl)
    rw [e0] at g2
    refine ⟨L1, _, rfl, sqL g2, _, rfl, ?_⟩
    rw [List.all_map]
    by_cases h3 : (tl z).all digB = true
    rotate_left
    · rw [show ((tl z).all (id ∘ digB)) = false from by simpa using h3]
      refine iteT (hno H2 s2 (if_neg fun y => h3 ?_))
      exact digB_all.mpr (canB_iff.mp y.2.2).2.1
    rw [show ((tl z).all (id ∘ digB)) = true from h3]
    refine iteF ?_
    dsimp only [tNext, tSeq]
    refine ⟨_, rfl, rfl, z, _, rfl, rfl, _, rfl, ?_⟩
    rw [starts_0]
    have h640 : z.length ≤ 640 := by omega
    have hne : tl z ≠ [] := fun e => by rw [e] at hl; rw [← hl] at h1; exact absurd h1 (by decide)
    have fin : canB (tl z) = true → Q (V.int ((NumText.digitsVal (tl z) : Nat) : Int)) H2 := fun hc => by
      have := q H2 s2
      unfold numO at this
      rw [if_pos ⟨by rw [hl]; exact h1, by rw [hl]; exact h2, hc⟩] at this
      exact this
    have hint : intText? z = some ((NumText.digitsVal (tl z) : Nat) : Int) := intText_digits (digB_all.mp h3) hne (by omega)
    by_cases h4 : (tl z).head? = some 48
    · rw [decide_eq_true h4]
      refine iteT ⟨_, rfl, rfl, _, rfl, ?_⟩
      by_cases h5 : z = "0"
      · refine ite_noT (by rw [h5]; decide +kernel) ⟨_, rfl, z, _, rfl, hint, h640, fin (canB_iff.mpr ⟨hne, digB_all.mp h3, fun _ => ?_⟩)⟩
        rw [h5, tl_0]
      · refine ite_yesT (by rw [decide_eq_false fun y => h5 (V.str.inj y)]; rfl) (hno H2 s2 (if_neg fun y => ?_))
        have := (canB_iff.mp y.2.2).2.2 h4
        rw [← tl_0] at this
        exact h5 (ext_tl this)
    · rw [decide_eq_false h4]
      refine iteF ⟨_, rfl, z, _, rfl, hint, h640, fin (canB_iff.mpr ⟨hne, digB_all.mp h3, fun y => absurd y h4⟩)⟩
def spCellIn (K : PySem.W.Frag) : Sp := fun vs H Q _ => ∃ (w : Str) (k : Nat), vs = [.str w, .int (k : Int)] ∧ w.length ≤ 100000 ∧ k ≤ 100000 ∧ ∀ H', Same H H' → Q (nV (cellO (tl w) k)) H'
theorem tl_nat (n : Nat) : tl (toString (n : Int) : Str) = numL n := tl_num n
theorem log_nat {n : Nat} (h : n ≤ 100000) : ((n : Int)).natAbs.log2 < 1920 := by
  rw [Int.natAbs_natCast]
  have : n.log2 ≤ n := Nat.log2_le_self n
  by_cases h0 : n = 0
  · subst h0
    decide
  · exact Nat.lt_of_lt_of_le ((Nat.log2_lt h0).mpr (show n < 2 ^ 17 by omega)) (by decide)
theorem ok_cellin (T : Bt mg) {f f1 : Addr} {fd fd1 : FuncData} (D : Df K mg "cell_in" s_cell_in ["word", "size"] f fd) (k_number_in : Kn P w K mg base 1 "number_in" s_number_in ["word", "most_digits"] (spNumberIn K) f1 fd1) : Kn P w K mg base 2 "cell_in" s_cell_in ["word", "size"] (spCellIn K) f fd := by
  refine ⟨D, D.F.ok sc_cell_in (fun vs H Q E h => ?_) (fun cdv A outer s H vs Q E hr h => ?_)⟩
  · obtain ⟨z, k, rfl, _⟩ := h
    rfl
  obtain ⟨z, k, rfl, hz, hk, q⟩ := h
  refine ⟨_, (pss_cons (ps_set (i := 2) sc_cell_in.nd rfl (.inl rfl) (pe_call k_number_in.G (hr.mono (by omega)) (by rfl) k_number_in.D.g k_number_in.D.F.kp k_number_in.D.b .nil pass0 (pa_cons (pv 0) (pa_cons (pe_callB call_len_str (by rfl) T.len (by decide +kernel) (pa_cons (pe_callTy call_str_int (by rfl) T.str (by decide +kernel) (pa_cons (pv 1) pa_nil)) pa_nil)) pa_nil))))
      (pss_one (ps_ret (pe_ifExp (PW.pt (pw_and (pt_cmpR op_notN (pv 2) pe_non (nomark _)) (pw_and1 (pt_cmpR op_lt (pv 2) (pv 1) (nomark _))))) (pv 2) pe_non)))), ?_⟩
  have hkl : (toString (k : Int) : Str).length = (numL k).length := by rw [len_tl, tl_nat]
  have hk6 : (numL k).length ≤ 6 := numL_len (by decide) (by omega)
  refine ⟨_, rfl, _, rfl, _, rfl, log_nat hk, _, rfl, by rw [hkl]; exact Nat.le_of_lt (line_ok (by omega)), z, _, rfl, hz, by rw [hkl]; omega, fun H2 s2 => ?_⟩
  have hq := q H2 s2
  rw [← num_cell] at hq
  rw [hkl]
  dsimp only [gName, tSeq]
  cases hn : numO (tl z) ((numL k).length : Nat) with
  | none =>
    rw [hn] at hq
    exact ⟨_, rfl, rfl, _, rfl, iteF hq⟩
  | some n =>
    rw [hn] at hq
    refine ⟨_, rfl, rfl, _, rfl, iteT ⟨_, rfl, _, rfl, _, _, rfl, rfl, _, rfl, ?_⟩⟩
    rw [Option.bind_some] at hq
    by_cases hlt : n < k
    · rw [if_pos hlt] at hq
      exact ite_yesT (decide_eq_true (by omega)) ⟨_, rfl, hq⟩
    · rw [if_neg hlt] at hq
      exact ite_noT (decide_eq_false (by omega)) hq
def spEntT : Sp := fun vs H Q _ => ∃ (y : V) (k : Nat), vs = [y] ∧ TabV k y ∧ k ≤ 1000 ∧ Q (.str (entT y)) H
theorem ok_enttext (T : Bt mg) {f : Addr} {fd : FuncData} (D : Df K mg "entry_text" s_entry_text ["entry"] f fd) : Kn P w K mg base 1 "entry_text" s_entry_text ["entry"] spEntT f fd := by
  refine ⟨D, D.F.ok sc_entry_text (fun vs H Q E h => ?_) (fun cdv A outer s H vs Q E hr h => ?_)⟩
  · obtain ⟨y, k, rfl, _⟩ := h
    rfl
  obtain ⟨y, k, rfl, hy, hk, q⟩ := h
  obtain ⟨tc_EMPTY, gc_EMPTY⟩ := T.c_EMPTY
  refine ⟨_, (pss_one (ps_ret (pe_ifExp (pt_cmpR op_isN (pv 0) pe_non (nomark _)) (pe_glob (v := .str "-") (by rfl) gc_EMPTY ⟨_, rfl⟩) (pe_callTy call_strA (by rfl) T.str (by decide +kernel) (pa_cons (pv 0) pa_nil))))), ?_⟩
  rcases hy with rfl | rfl | ⟨i, rfl, hi⟩
  · exact ⟨_, rfl, rfl, _, rfl, iteT q⟩
  · exact ⟨_, rfl, rfl, _, rfl, iteF ⟨_, rfl, .inr ⟨_, rfl, q⟩⟩⟩
  · exact ⟨_, rfl, rfl, _, rfl, iteF ⟨_, rfl, .inl ⟨_, rfl, log_nat (by omega), q⟩⟩⟩
def spTabT (K : PySem.W.Frag) : Sp := fun vs H Q _ => ∃ (a : Addr) (ys : List V), vs = [.ref a] ∧ Sq K H a ys ∧ ys.length ≤ 100 ∧ (∀ y ∈ ys, TabV ys.length y) ∧ ∀ H', Same H H' → Q (.str (tabT ys)) H'
theorem sum_len {ys : List V} {k : Nat} (hk : k ≤ 100) (h : ∀ y ∈ ys, TabV k y) : ((ys.map entT).map (·.length)).sum ≤ 2 * ys.length := by
  induction ys with
  | nil => exact Nat.zero_le _
  | cons y ys ih =>
    rw [List.map_cons, List.map_cons, List.sum_cons, List.length_cons]
    have h1 := ent_len hk (h y List.mem_cons_self)
    have h2 := ih fun z hz => h z (List.mem_cons_of_mem _ hz)
    omega
theorem ok_tabtext (T : Bt mg) {f f1 : Addr} {fd fd1 : FuncData} (D : Df K mg "table_text" s_table_text ["table"] f fd) (k_entry_text : Kn P w K mg base 1 "entry_text" s_entry_text ["entry"] spEntT f1 fd1) : Kn P w K mg base 2 "table_text" s_table_text ["table"] (spTabT K) f fd := by
  refine ⟨D, D.F.ok sc_table_text (fun vs H Q E h => ?_) (fun cdv A outer s H vs Q E hr h => ?_)⟩
  · obtain ⟨a, ys, rfl, _⟩ := h
    rfl
  obtain ⟨a, ys, rfl, hA, hl, tab, q⟩ := h
  refine ⟨_, (pss_one (ps_ret (pe_bm PySem.F.plainAttrs_str PySem.F.slot_str_join PySem.F.type_str_join mt_join pe_str (pa_cons (pe_lc (own := [("entry", 1)]) (by rfl) sc_table_text.nd (pi_seq (pv 0)) (blkOk_by (own := [("entry", 1)]) (N := ["table", "entry"]) (sc := defScope s_table_text) (by decide +kernel)) (fun _ _ _ _ _ => (pg_name (i := 1) sc_table_text.nd rfl (.inl rfl))) (fun _ _ _ _ _ => pts_nil) (fun _ _ _ _ _ => (pe_call k_entry_text.G (hr.mono (by omega)) (by rfl) k_entry_text.D.g k_entry_text.D.F.kp k_entry_text.D.b .nil pass0 (pa_cons (pv 1) pa_nil)))) pa_nil)))), ?_⟩
  refine ⟨rfl, _, rfl, a, ys, rfl, hA, fun J G wk hG D1 hD1 => ?_⟩
  refine lc_it wk (fun i H' => Same H H' ∧ H' D1 = some (.lst (((ys.take i).map entT).map V.str))) ⟨same_upd hD1, upd_same⟩ (fun i H' _ hP => hG _ (ats_same hP.1)) (fun i x H2 H3 hi hP hY => ?_) (fun H2 hP => ?_)
  · obtain ⟨s2, g2⟩ := hP
    obtain ⟨rfl, gx⟩ := hY
    refine ⟨rfl, _, rfl, x, ys.length, rfl, tab x (List.mem_of_getElem? gx), by omega, _, g2, line_ok (by rw [List.length_map, List.length_map, List.length_take]; omega), Same.mut s2 hD1, ?_⟩
    rw [upd_same, List.take_succ, gx, List.map_append, List.map_append]
    rfl
  · obtain ⟨s2, g2⟩ := hP
    rw [List.take_length] at g2
    refine ⟨_, D1, ys.map entT, rfl, rfl, .inl (sqL g2), ?_, q H2 s2⟩
    have := sum_len hl tab
    have e1 : (" " : Str).length = 1 := by decide +kernel
    rw [e1, List.length_map]
    omega
/-- what is wanted of the error with the field f -/
def Errd (E : XK) (C : Addr) (f : Str) (v : V) (H : Hp) : Prop := ∀ (d : Addr) (H' : Hp), Same H H' → H' d = none → E (.ref C) (some d) (upd H' d (.xd [(f, v)]))

def spTabIn (K : PySem.W.Frag) (C : Addr) : Sp := fun vs H Q E => ∃ x : Str, vs = [.str x] ∧ x.length ≤ 5000 ∧ (∀ i, readT x = .inl i → Errd E C "entry" (.int (i : Nat)) H) ∧ ∀ ys, readT x = .inr ys → ∀ p H', Same H H' → H p = none → H' p = some (.tup ys) → Q (.ref p) H'
theorem ok_tabin (T : Bt mg) (R : Er K mg) {f f1 : Addr} {fd fd1 : FuncData} (D : Df K mg "table_in" s_table_in ["text"] f fd) (k_cell_in : Kn P w K mg base 2 "cell_in" s_cell_in ["word", "size"] (spCellIn K) f1 fd1) : KnX P w K mg base 3 "table_in" s_table_in ["text"] (spTabIn K R.C_BadText) f fd := by
  refine ⟨D, D.F.okX sc_table_in (fun vs H Q E h => ?_) (fun cdv A outer s H vs Q E hr h => ?_)⟩
  · obtain ⟨x, rfl, _⟩ := h
    rfl
  obtain ⟨x, rfl, hx, qE, q⟩ := h
  obtain ⟨tc_EMPTY, gc_EMPTY⟩ := T.c_EMPTY
  obtain ⟨tc_UNKNOWN, gc_UNKNOWN⟩ := T.c_UNKNOWN
  refine ⟨_, (pss_cons (ps_set (i := 1) sc_table_in.nd rfl (.inl rfl) (pe_bm PySem.F.plainAttrs_str PySem.F.slot_str_split PySem.F.type_str_split mt_split (pv 0) (pa_cons pe_str pa_nil)))
      (pss_cons (ps_set (i := 2) sc_table_in.nd rfl (.inl rfl) (pe_lst pa_nil))
      (pss_cons (ps_for ownE rfl (pi_enum (by rfl) T.enumerate (pa_cons (pv 1) pa_nil)) (pg_tup (by rfl) (pgs_cons (pg_name (i := 3) sc_table_in.nd rfl (.inl rfl)) (pgs_cons (pg_name (i := 4) sc_table_in.nd rfl (.inl rfl)) pgs_nil))) (pss_cons (ps_set (i := 5) sc_table_in.nd rfl (.inl rfl) (pe_ifExp (pt_cmpR op_eq (pv 4) (pe_glob (v := .str "?") (by rfl) gc_UNKNOWN ⟨_, rfl⟩) (nomark _)) (pe_glob (v := .str "?") (by rfl) gc_UNKNOWN ⟨_, rfl⟩) (pe_call k_cell_in.G (hr.mono (by omega)) (by rfl) k_cell_in.D.g k_cell_in.D.F.kp k_cell_in.D.b .nil pass0 (pa_cons (pv 4) (pa_cons (pe_callB (call_lenK (K := K) rfl) (by rfl) T.len (by decide +kernel) (pa_cons (pv 1) pa_nil)) pa_nil)))))
      (pss_cons (ps_if (PW.pt (pw_and (pt_cmpR op_isN (pv 5) pe_non (nomark _)) (pw_and1 (pt_cmpR op_ne (pv 4) (pe_glob (v := .str "-") (by rfl) gc_EMPTY ⟨_, rfl⟩) (nomark _))))) (pss_one (ps_raise rfl takesE (pmk_b bas_V R.E_BadText.o R.I_BadText.iC R.I_BadText.tI (ok_init_BadText T R.I_BadText) (hr.mono (by omega)) R.I_BadText.b pass0 (by rfl) R.E_BadText.g (pa_cons (pv 3) pa_nil)))) pss_nil)
      (pss_one (ps_expr (pe_bm PySem.F.plainAttrs_list PySem.F.slot_list_append PySem.F.type_list_append mt_append (pv 2) (pa_cons (pv 5) pa_nil)))))))
      (pss_one (ps_ret (pe_callTy (call_tupleK (K := K) rfl) (by rfl) T.tuple (by decide +kernel) (pa_cons (pv 2) pa_nil))))))), ?_⟩
  obtain ⟨hw1, hw2⟩ := sp_lens x
  unfold readT at qE q
  refine ⟨_, rfl, rfl, x, " ", rfl, rfl, by decide +kernel, line_ok (by omega), fun p1 hp1 => ?_⟩
  have s1 := same_upd (o := .lst ((Txt.split x " ").map V.str)) hp1
  have g1 : (upd H p1 (.lst ((Txt.split x " ").map V.str))) p1 = some (.lst ((Txt.split x " ").map V.str)) := upd_same
  generalize Txt.split x " " = ws at hw1 hw2 qE q s1 g1
  generalize upd H p1 (.lst (ws.map V.str)) = H1 at s1 g1
  dsimp only [gName, tSeq]
  refine ⟨(by show 0 ≤ sizeLine; decide), fun p2 hp2 => ?_⟩
  have s2 := same_upd (o := .lst []) hp2
  have g2 := s2 _ _ g1
  have n2 : H p2 = none := s1.free hp2
  have n12 : p1 ≠ p2 := ne_of_none g1 hp2
  dsimp only [gName, tSeq]
  refine ⟨_, rfl, p1, _, rfl, sqL g2, ?_⟩
  refine for_it walk_enum (fun i σ H' => Same H H' ∧ H' p1 = some (.lst (ws.map V.str)) ∧ ∃ (vs : List V) (y3 y4 y5 : Option V), σ = [some (.str x), some (.ref p1), some (.ref p2), y3, y4, y5] ∧ H' p2 = some (.lst vs) ∧ (ws.take i).map (entO · ws.length) = vs.map some) ⟨s1.trans s2, g2, [], _, _, _, rfl, upd_same, rfl⟩ (fun i σ H' _ hP => sqL hP.2.1) (fun i v σ H2 H3 hi hP hY => ?_) (fun σ H2 hP => ?_)
  · obtain ⟨s3, g3, vs, y3, y4, y5, rfl, gv, hvs⟩ := hP
    obtain ⟨T', x0, x1, rfl, hT, rfl, e0, gx⟩ := hY
    cases e0
    change (ws.map V.str)[i]? = some x1 at gx
    rw [List.getElem?_map, Option.map_eq_some_iff] at gx
    obtain ⟨wd, gw, rfl⟩ := gx
    have hwd := hw2 wd (List.mem_of_getElem? gw)
    have hi' : i < ws.length := (List.getElem?_eq_some_iff.mp gw).1
    have hvl : vs.length = i := by
      have := congrArg List.length hvs
      rw [List.length_map, List.length_map, List.length_take] at this
      omega
    have u1 := same_upd (o := .tup [.int (i : Nat), .str wd]) hT
    refine ⟨T', [.int (i : Nat), .str wd], rfl, sqT upd_same, rfl, .int (i : Nat), [.str wd], rfl, .str wd, [], rfl, rfl, ?_⟩
    dsimp only [gName, tSeq]
    refine asg_toT (fun v Hx => Same (upd H2 T' (.tup [.int (i : Nat), .str wd])) Hx ∧ v = (if wd = "?" then .str "?" else nV (cellO (tl wd) ws.length))) (fun v H4 hv => ?_) (fun Q hQ => ?_)
    rotate_left
    · refine ⟨_, rfl, rfl, _, rfl, ?_⟩
      by_cases hq : wd = "?"
      · refine ite_yesT (by rw [hq]; decide +kernel) (hQ _ _ ⟨Same.refl _, ?_⟩)
        rw [if_pos hq]
      · refine ite_noT (decide_eq_false fun y => hq (V.str.inj y)) ?_
        refine ⟨_, rfl, _, rfl, p1, _, rfl, .inl (sqL (u1 _ _ g3)), wd, ws.length, ?_, by omega, by omega, fun H' s' => hQ _ _ ⟨s', ?_⟩⟩
        · rw [List.length_map]
          rfl
        · rw [if_neg hq]
    obtain ⟨s4, rfl⟩ := hv
    have s24 := u1.trans s4
    have hkey : (entO wd ws.length = none ∧ (if wd = "?" then V.str "?" else nV (cellO (tl wd) ws.length)) = .non ∧ wd ≠ "-") ∨ (entO wd ws.length = some (if wd = "?" then V.str "?" else nV (cellO (tl wd) ws.length)) ∧ ((if wd = "?" then V.str "?" else nV (cellO (tl wd) ws.length)) = .non → wd = "-")) := by
      unfold entO
      by_cases hq : wd = "?"
      · rw [if_pos hq, if_pos hq]
        exact .inr ⟨rfl, fun z => nomatch z⟩
      · rw [if_neg hq, if_neg hq]
        by_cases hm : wd = "-"
        · rw [if_pos hm, hm, cell_m]
          exact .inr ⟨rfl, fun _ => rfl⟩
        · rw [if_neg hm]
          cases cellO (tl wd) ws.length with
          | none => exact .inl ⟨rfl, rfl, hm⟩
          | some n => exact .inr ⟨rfl, fun z => nomatch z⟩
    generalize (if wd = "?" then V.str "?" else nV (cellO (tl wd) ws.length)) = e at hkey
    dsimp only [gName, tSeq]
    rcases hkey with ⟨k1, rfl, k3⟩ | ⟨k1, k2⟩
    · refine ⟨_, rfl, rfl, _, rfl, iteT ⟨_, rfl, rfl, _, rfl, ?_⟩⟩
      refine ite_yesT (by rw [decide_eq_false fun y => k3 (V.str.inj y)]; rfl) ?_
      have hrd : readN ws.length 0 ws = .inl i := by
        have := readN_at (k := ws.length) ws 0 i (fun j hj => ?_) ⟨wd, gw, k1⟩
        · rw [Nat.zero_add] at this
          exact this
        · have hj' : j < ws.length := by omega
          have e1 : ((ws.take i).map (entO · ws.length))[j]? = (vs.map some)[j]? := by rw [hvs]
          rw [List.getElem?_map, List.getElem?_take_of_lt hj, List.getElem?_eq_getElem hj', List.getElem?_map, List.getElem?_eq_getElem (show j < vs.length by omega)] at e1
          refine ⟨vs[j]'(by omega), ?_⟩
          rw [List.getElem?_eq_getElem hj']
          exact Option.some.inj e1
      exact ⟨_, rfl, made_of R.E_BadText.o R.E_BadText.nof fun d hd => qE i hrd d _ (s3.trans s24) hd⟩
    · have fin : ∀ D' : Prop, D' → D' := fun _ h => h
      refine if_thenT (fun H' => H' = H4) (fun H' e' => ?_) (fun D' hD' => ?_)
      rotate_left
      · by_cases hn : e = .non
        · refine ⟨_, rfl, rfl, _, rfl, ite_yesT (decide_eq_true hn) ⟨_, rfl, rfl, _, rfl, ?_⟩⟩
          exact ite_noT (by rw [k2 hn]; decide +kernel) (hD' _ rfl)
        · exact ⟨_, rfl, rfl, _, rfl, ite_noT (decide_eq_false hn) (hD' _ rfl)⟩
      subst e'
      have gv4 := s24 _ _ gv
      refine ⟨_, rfl, .inl ⟨rfl, _, sqL gv4⟩, _, rfl, p2, _, _, rfl, rfl, gv4, line_ok (by omega), ?_⟩
      refine ⟨Same.mut (s3.trans s24) n2, (upd_ne n12).trans (s24 _ _ g3), vs ++ [e], _, _, _, rfl, upd_same, ?_⟩
      rw [List.take_succ, gw, List.map_append, List.map_append, hvs]
      show _ ++ [entO wd ws.length] = _
      rw [k1]
      rfl
  · obtain ⟨s3, g3, vs, y3, y4, y5, rfl, gv, hvs⟩ := hP
    rw [List.length_map, List.take_length] at hvs
    refine ⟨_, rfl, p2, _, rfl, .inl ⟨sqL gv, fun p3 hp3 => ?_⟩⟩
    exact q vs (readN_ok ws vs 0 hvs) p3 _ (s3.trans (same_upd hp3)) (s3.free hp3) upd_same

/-! ### _law_choice of a text -/
def spChoiceS : Sp := fun vs H Q _ => ∃ (s : Addr) (z : Str) (n : Nat), vs = [.ref s, .str z] ∧ 0 < z.length ∧ z.length ≤ 1000 ∧ Src H s (n + 1) ∧ ∀ (c : Nat) (o : HO), c ∈ z.cps.toList → SrcO n o → Q (.str ⟨#[c]⟩) (upd H s o)
theorem ok_choiceS (T : Bt mg) {f f1 : Addr} {fd fd1 : FuncData} {k : Nat} (D : Df K mg "_law_choice" s_law_choice ["_law_source_here", "_law_row_here"] f fd) (k_law_draw : Kn P w K mg base (k + 1) "_law_draw" s_law_draw ["_law_source_here", "_law_bound"] spDraw f1 fd1) :
    Kn P w K mg base (k + 2) "_law_choice" s_law_choice ["_law_source_here", "_law_row_here"] spChoiceS f fd := by
  refine ⟨D, D.F.ok sc_law_choice (fun vs H Q E h => ?_) (fun cdv A outer s H vs Q E hr h => ?_)⟩
  · obtain ⟨s', z, n, rfl, _⟩ := h
    rfl
  obtain ⟨s', z, n, rfl, h0, h1, hsrc, q⟩ := h
  refine ⟨_, (pss_one (ps_ret (pe_ix ix_str (pv 1) (pe_call k_law_draw.G (hr.mono (by omega)) (by rfl) k_law_draw.D.g k_law_draw.D.F.kp k_law_draw.D.b .nil pass0 (pa_cons (pv 0) (pa_cons (pe_callB call_len_str (by rfl) T.len (by decide +kernel) (pa_cons (pv 1) pa_nil)) pa_nil))) (fun _ _ => rfl)))), ?_⟩
  have hz : z.length ≤ sizeLine := Nat.le_of_lt (line_ok (by omega))
  refine ⟨_, rfl, _, rfl, _, rfl, z, rfl, hz, s', (z.length : Int), n, rfl, by omega, by omega, hsrc, fun r o r0 r1 hO => ?_⟩
  have hl : z.cps.toList.length = z.length := by simp [Str.length]
  obtain ⟨j, rfl⟩ : ∃ j : Nat, r = (j : Int) := ⟨r.toNat, by omega⟩
  have hi : j < z.cps.toList.length := by omega
  exact ⟨z, (j : Int), _, rfl, rfl, hz, atI_nat (j := j) (List.getElem?_eq_getElem hi), q _ _ (List.getElem_mem hi) hO⟩

/-! ### _law_decimal, _law_written, _law_read, _law_told (k39) -/
open TL
theorem val_lt : ∀ {l : List Nat}, NumText.AllDigits l → NumText.digitsVal l < 10 ^ l.length := fun {l} h => by
  have key : ∀ (l : List Nat) (a : Nat), NumText.AllDigits l → l.foldl (fun acc c => acc * 10 + (c - 48)) a < (a + 1) * 10 ^ l.length := fun l => by
    induction l with
    | nil =>
      intro a _
      simp
    | cons c r ih =>
      intro a h
      have hc := h c List.mem_cons_self
      have := ih (a * 10 + (c - 48)) fun d hd => h d (List.mem_cons_of_mem _ hd)
      rw [List.foldl_cons, List.length_cons, Nat.pow_succ]
      refine Nat.lt_of_lt_of_le this ?_
      rw [Nat.mul_comm (10 ^ r.length) 10, ← Nat.mul_assoc]
      exact Nat.mul_le_mul_right _ (by omega)
  have := key l 0 h
  rw [Nat.zero_add, Nat.one_mul] at this
  exact this
def spDecimal : Sp := fun vs H Q _ => ∃ w : Str, vs = [.str w] ∧ w.length ≤ 500 ∧ Q (.bl (canB (tl w))) H
theorem ok_decimal (T : Bt mg) {f : Addr} {fd : FuncData} (D : Df K mg "_law_decimal" s_law_decimal ["_law_word"] f fd) : Kn P w K mg base 1 "_law_decimal" s_law_decimal ["_law_word"] spDecimal f fd := by
  refine ⟨D, D.F.ok sc_law_decimal (fun vs H Q E h => ?_) (fun cdv A outer s H vs Q E hr h => ?_)⟩
  · obtain ⟨z, rfl, _⟩ := h
    rfl
  obtain ⟨z, rfl, hz, q⟩ := h
  refine ⟨_, (pss_one (ps_ret (pe_and (pe_cmpR op_ne (pv 0) pe_str (nomark _)) (pe_and (pe_cmpR op_eq (pe_bm PySem.F.plainAttrs_str PySem.F.slot_str_strip PySem.F.type_str_strip mt_stripChars (pv 0) (pa_cons pe_str pa_nil)) pe_str (nomark _)) (pe_one (pe_cmpR op_eq (pe_callTy call_str_int (by rfl) T.str (by decide +kernel) (pa_cons (pe_callTy call_int_str (by rfl) T.int (by decide +kernel) (pa_cons (pv 0) pa_nil)) pa_nil)) (pv 0) (nomark _))))))), ?_⟩
  have hl : (tl z).length = z.length := (len_tl z).symm
  have no : canB (tl z) = false → Q (.bl false) H := fun e => by rw [e] at q; exact q
  refine ⟨_, rfl, rfl, _, rfl, ?_⟩
  by_cases h1 : z = ""
  · refine ite_noT (by rw [h1]; decide +kernel) (no ?_)
    rw [h1]
    decide +kernel
  refine ite_yesT (by rw [decide_eq_false fun y => h1 (V.str.inj y)]; rfl) ?_
  have hne : tl z ≠ [] := fun e => h1 (ext_tl (by rw [e]; decide +kernel))
  refine ⟨_, rfl, rfl, z, _, rfl, rfl, Nat.le_of_lt (line_ok (by omega)), rfl, _, rfl, ?_⟩
  by_cases h2 : NumText.AllDigits (tl z)
  rotate_left
  · refine ite_noT (decide_eq_false fun y => h2 ((strip_empty z).mp ?_)) (no ?_)
    · exact V.str.inj y
    · cases hc : canB (tl z) with
      | false => rfl
      | true => exact absurd (canB_iff.mp hc).2.1 h2
  refine ite_yesT (decide_eq_true (congrArg V.str ((strip_empty z).mpr h2))) ?_
  have hint : intText? z = some ((NumText.digitsVal (tl z) : Nat) : Int) := intText_digits h2 hne (by omega)
  have hlog : ((NumText.digitsVal (tl z) : Nat) : Int).natAbs.log2 < 1920 := by
    rw [Int.natAbs_natCast]
    by_cases h0 : NumText.digitsVal (tl z) = 0
    · rw [h0]
      decide
    · refine (Nat.log2_lt h0).mpr (Nat.lt_of_lt_of_le (val_lt h2) ?_)
      exact Nat.le_trans (Nat.pow_le_pow_right (by decide) (show (tl z).length ≤ 500 by omega)) (by decide +kernel)
  refine ⟨_, rfl, z, _, rfl, hint, by omega, _, rfl, hlog, _, rfl, rfl, ?_⟩
  have : decide (V.str (toString ((NumText.digitsVal (tl z) : Nat) : Int) : Str) = V.str z) = canB (tl z) := by
    rw [Bool.eq_iff_iff, decide_eq_true_iff, ← can_iff, ← tl_nat]
    exact ⟨fun y => congrArg tl (V.str.inj y), fun y => congrArg V.str (ext_tl y)⟩
  rw [this]
  exact q
theorem ok_written (T : Bt mg) {f : Addr} {fd : FuncData} (D : Df K mg "_law_written" s_law_written ["_law_shelf"] f fd) : Kn P w K mg base 1 "_law_written" s_law_written ["_law_shelf"] (fun vs H Q _ => ∃ (a : Addr) (ys : List V), vs = [.ref a] ∧ SqT K H a ys ∧ ys.length ≤ 100 ∧ (∀ y ∈ ys, TabV ys.length y) ∧ ∀ H', Same H H' → Q (.str (tabT ys)) H') f fd := by
  refine ⟨D, D.F.ok sc_law_written (fun vs H Q E h => ?_) (fun cdv A outer s H vs Q E hr h => ?_)⟩
  · obtain ⟨a, ys, rfl, _⟩ := h
    rfl
  obtain ⟨a, ys, rfl, hA, hl, tab, q⟩ := h
  refine ⟨_, (pss_one (ps_ret (pe_bm PySem.F.plainAttrs_str PySem.F.slot_str_join PySem.F.type_str_join mt_join pe_str (pa_cons (pe_lc (own := [("_law_part", 1)]) (by rfl) sc_law_written.nd (pi_tup (pv 0)) (blkOk_by (own := [("_law_part", 1)]) (N := ["_law_shelf", "_law_part"]) (sc := defScope s_law_written) (by decide +kernel)) (fun _ _ _ _ _ => (pg_name (i := 1) sc_law_written.nd rfl (.inl rfl))) (fun _ _ _ _ _ => pts_nil) (fun _ _ _ _ _ => (pe_ifExp (pt_cmpR op_isN (pv 1) pe_non (nomark _)) pe_str (pe_callTy call_strA (by rfl) T.str (by decide +kernel) (pa_cons (pv 1) pa_nil))))) pa_nil)))), ?_⟩
  refine ⟨rfl, _, rfl, a, rfl, ⟨_, hA⟩, fun D1 hD1 => ?_⟩
  refine lc_tup (xs := ys) (fun i H' => Same H H' ∧ H' D1 = some (.lst (((ys.take i).map entT).map V.str))) ⟨same_upd hD1, upd_same⟩ (fun i H' _ hP => Same.tup hP.1 hA) (fun i x H2 gx hP => ?_) (fun H2 hP => ?_)
  · obtain ⟨s2, g2⟩ := hP
    have hx := tab x (List.mem_of_getElem? gx)
    have hi : i < ys.length := (List.getElem?_eq_some_iff.mp gx).1
    refine ⟨rfl, ?_⟩
    have fin : ∀ y, y = V.str (entT x) → ∃ acc, H2 D1 = some (.lst acc) ∧ acc.length < sizeLine ∧ Same H (upd H2 D1 (.lst (acc ++ [y]))) ∧ (upd H2 D1 (.lst (acc ++ [y]))) D1 = some (.lst (((ys.take (i + 1)).map entT).map V.str)) := fun y hy => by
      refine ⟨_, g2, line_ok (by rw [List.length_map, List.length_map, List.length_take]; omega), Same.mut s2 hD1, ?_⟩
      rw [upd_same, List.take_succ, gx, List.map_append, List.map_append, hy]
      rfl
    rcases hx with rfl | rfl | ⟨j, rfl, hj⟩
    · exact ⟨_, rfl, rfl, _, rfl, iteT (fin _ rfl)⟩
    · exact ⟨_, rfl, rfl, _, rfl, iteF ⟨_, rfl, .inr ⟨_, rfl, fin _ rfl⟩⟩⟩
    · exact ⟨_, rfl, rfl, _, rfl, iteF ⟨_, rfl, .inl ⟨_, rfl, log_nat (by omega), fin _ rfl⟩⟩⟩
  · obtain ⟨s2, g2⟩ := hP
    rw [List.take_length] at g2
    refine ⟨_, D1, ys.map entT, rfl, rfl, .inl (sqL g2), ?_, q H2 s2⟩
    have := sum_len hl tab
    have e1 : (" " : Str).length = 1 := by decide +kernel
    rw [e1, List.length_map]
    omega
def spRead39 : Sp := fun vs H Q _ => ∃ x : Str, vs = [.str x] ∧ x.length ≤ 500 ∧ (∀ i : Nat, readT x = .inl i → ∀ H', Same H H' → Q (.int (i : Int)) H') ∧ ∀ ys, readT x = .inr ys → ∀ p H', Same H H' → H' p = some (.tup ys) → Q (.ref p) H'
theorem ok_lawread (T : Bt mg) {f f1 : Addr} {fd fd1 : FuncData} (D : Df K mg "_law_read" s_law_read ["_law_words"] f fd) (k_law_decimal : Kn P w K mg base 1 "_law_decimal" s_law_decimal ["_law_word"] spDecimal f1 fd1) : Kn P w K mg base 2 "_law_read" s_law_read ["_law_words"] spRead39 f fd := by
  refine ⟨D, D.F.ok sc_law_read (fun vs H Q E h => ?_) (fun cdv A outer s H vs Q E hr h => ?_)⟩
  · obtain ⟨x, rfl, _⟩ := h
    rfl
  obtain ⟨x, rfl, hx, qI, q⟩ := h
  refine ⟨_, (pss_cons (ps_set (i := 1) sc_law_read.nd rfl (.inl rfl) (pe_bm PySem.F.plainAttrs_str PySem.F.slot_str_split PySem.F.type_str_split mt_split (pv 0) (pa_cons pe_str pa_nil)))
      (pss_cons (ps_set (i := 2) sc_law_read.nd rfl (.inl rfl) (pe_lst pa_nil))
      (pss_cons (ps_for PassesOwn.never rfl (pi_enum (by rfl) T.enumerate (pa_cons (pv 1) pa_nil)) (pg_tup (by rfl) (pgs_cons (pg_name (i := 3) sc_law_read.nd rfl (.inl rfl)) (pgs_cons (pg_name (i := 4) sc_law_read.nd rfl (.inl rfl)) pgs_nil))) (pss_one (ps_if (PW.pt (pw_or (pt_cmpR op_eq (pv 4) pe_str (nomark _)) (pw_or1 (pt_cmpR op_eq (pv 4) pe_str (nomark _))))) (pss_one (ps_expr (pe_bm PySem.F.plainAttrs_list PySem.F.slot_list_append PySem.F.type_list_append mt_append (pv 2) (pa_cons (pe_ifExp (pt_cmpR op_eq (pv 4) pe_str (nomark _)) pe_non pe_str) pa_nil)))) (pss_one (ps_if (PW.pt (pw_and (pt_val (pe_call k_law_decimal.G (hr.mono (by omega)) (by rfl) k_law_decimal.D.g k_law_decimal.D.F.kp k_law_decimal.D.b .nil pass0 (pa_cons (pv 4) pa_nil))) (pw_and1 (pt_cmpR op_lt (pe_callTy call_int_str (by rfl) T.int (by decide +kernel) (pa_cons (pv 4) pa_nil)) (pe_callB (call_lenK (K := K) rfl) (by rfl) T.len (by decide +kernel) (pa_cons (pv 1) pa_nil)) (nomark _))))) (pss_one (ps_expr (pe_bm PySem.F.plainAttrs_list PySem.F.slot_list_append PySem.F.type_list_append mt_append (pv 2) (pa_cons (pe_callTy call_int_str (by rfl) T.int (by decide +kernel) (pa_cons (pv 4) pa_nil)) pa_nil)))) (pss_one (ps_ret (pv 3))))))))
      (pss_one (ps_ret (pe_callTy (call_tupleK (K := K) rfl) (by rfl) T.tuple (by decide +kernel) (pa_cons (pv 2) pa_nil))))))), ?_⟩
  obtain ⟨hw1, hw2⟩ := sp_lens x
  unfold readT at qI q
  refine ⟨_, rfl, rfl, x, " ", rfl, rfl, by decide +kernel, line_ok (by omega), fun p1 hp1 => ?_⟩
  have s1 := same_upd (o := .lst ((Txt.split x " ").map V.str)) hp1
  have g1 : (upd H p1 (.lst ((Txt.split x " ").map V.str))) p1 = some (.lst ((Txt.split x " ").map V.str)) := upd_same
  generalize Txt.split x " " = ws at hw1 hw2 qI q s1 g1
  generalize upd H p1 (.lst (ws.map V.str)) = H1 at s1 g1
  dsimp only [gName, tSeq]
  refine ⟨(by show 0 ≤ sizeLine; decide), fun p2 hp2 => ?_⟩
  have s2 := same_upd (o := .lst []) hp2
  have g2 := s2 _ _ g1
  have n2 : H p2 = none := s1.free hp2
  have n12 : p1 ≠ p2 := ne_of_none g1 hp2
  dsimp only [gName, tSeq]
  refine ⟨_, rfl, p1, _, rfl, sqL g2, ?_⟩
  refine for_it walk_enum (fun i σ H' => Same H H' ∧ H' p1 = some (.lst (ws.map V.str)) ∧ ∃ (vs : List V) (y3 y4 : Option V), σ = [some (.str x), some (.ref p1), some (.ref p2), y3, y4] ∧ H' p2 = some (.lst vs) ∧ (ws.take i).map (entO · ws.length) = vs.map some) ⟨s1.trans s2, g2, [], _, _, rfl, upd_same, rfl⟩ (fun i σ H' _ hP => sqL hP.2.1) (fun i v σ H2 H3 hi hP hY => ?_) (fun σ H2 hP => ?_)
  · obtain ⟨s3, g3, vs, y3, y4, rfl, gv, hvs⟩ := hP
    obtain ⟨T', x0, x1, rfl, hT, rfl, e0, gx⟩ := hY
    cases e0
    change (ws.map V.str)[i]? = some x1 at gx
    rw [List.getElem?_map, Option.map_eq_some_iff] at gx
    obtain ⟨wd, gw, rfl⟩ := gx
    have hwd := hw2 wd (List.mem_of_getElem? gw)
    have hi' : i < ws.length := (List.getElem?_eq_some_iff.mp gw).1
    have hvl : vs.length = i := by
      have := congrArg List.length hvs
      rw [List.length_map, List.length_map, List.length_take] at this
      omega
    have u1 := same_upd (o := .tup [.int (i : Nat), .str wd]) hT
    refine ⟨T', [.int (i : Nat), .str wd], rfl, sqT upd_same, rfl, .int (i : Nat), [.str wd], rfl, .str wd, [], rfl, rfl, ?_⟩
    have s24 := s3.trans u1
    have gv4 := u1 _ _ gv
    have g34 := u1 _ _ g3
    generalize upd H2 T' (.tup [.int (i : Nat), .str wd]) = H4 at s24 gv4 g34
    have yes : ∀ e, entO wd ws.length = some e → ∃ (l : Addr) (xs : List V) (v : V), V.ref p2 = .ref l ∧ [e] = [v] ∧ H4 l = some (.lst xs) ∧ xs.length < sizeLine ∧ (Same H (upd H4 l (.lst (xs ++ [v]))) ∧ (upd H4 l (.lst (xs ++ [v]))) p1 = some (.lst (ws.map V.str)) ∧ ∃ (vs : List V) (z3 z4 : Option V), [some (V.str x), some (.ref p1), some (.ref p2), some (.int (i : Nat)), some (.str wd)] = [some (.str x), some (.ref p1), some (.ref p2), z3, z4] ∧ (upd H4 l (.lst (xs ++ [v]))) p2 = some (.lst vs) ∧ (ws.take (i + 1)).map (entO · ws.length) = vs.map some) := fun e he => by
      refine ⟨p2, vs, e, rfl, rfl, gv4, line_ok (by omega), Same.mut s24 n2, (upd_ne n12).trans g34, vs ++ [e], _, _, rfl, upd_same, ?_⟩
      rw [List.take_succ, gw, List.map_append, List.map_append, hvs]
      show _ ++ [entO wd ws.length] = _
      rw [he]
      rfl
    dsimp only [gName, tSeq]
    refine ⟨_, rfl, rfl, _, rfl, ?_⟩
    by_cases hm : wd = "-"
    · have e1 : entO wd ws.length = some .non := by
        unfold entO
        rw [if_neg (by rw [hm]; decide +kernel), if_pos hm]
      refine ite_yesT (by rw [hm]; decide +kernel) (iteT ?_)
      refine ⟨_, rfl, .inl ⟨rfl, _, sqL gv4⟩, _, rfl, rfl, _, rfl, ite_yesT (by rw [hm]; decide +kernel) (yes _ e1)⟩
    refine ite_noT (decide_eq_false fun y => hm (V.str.inj y)) ⟨_, rfl, rfl, _, rfl, ?_⟩
    by_cases hq : wd = "?"
    · have e1 : entO wd ws.length = some (.str "?") := by
        unfold entO
        rw [if_pos hq]
      refine ite_yesT (by rw [hq]; decide +kernel) ?_
      refine ⟨_, rfl, .inl ⟨rfl, _, sqL gv4⟩, _, rfl, rfl, _, rfl, ite_noT (by rw [hq]; decide +kernel) (yes _ e1)⟩
    refine ite_noT (decide_eq_false fun y => hq (V.str.inj y)) ?_
    have ee : entO wd ws.length = (cellO (tl wd) ws.length).map fun (n : Nat) => V.int (n : Int) := by
      unfold entO
      rw [if_neg hq, if_neg hm]
    have hrd : entO wd ws.length = none → readN ws.length 0 ws = .inl i := fun k1 => by
      have := readN_at (k := ws.length) ws 0 i (fun j hj => ?_) ⟨wd, gw, k1⟩
      · rw [Nat.zero_add] at this
        exact this
      · have hj' : j < ws.length := by omega
        have e1 : ((ws.take i).map (entO · ws.length))[j]? = (vs.map some)[j]? := by rw [hvs]
        rw [List.getElem?_map, List.getElem?_take_of_lt hj, List.getElem?_eq_getElem hj', List.getElem?_map, List.getElem?_eq_getElem (show j < vs.length by omega)] at e1
        refine ⟨vs[j]'(by omega), ?_⟩
        rw [List.getElem?_eq_getElem hj']
        exact Option.some.inj e1
    refine ⟨_, rfl, wd, rfl, by omega, _, rfl, ?_⟩
    cases hc : canB (tl wd) with
    | false =>
      refine iteF ⟨_, rfl, ?_⟩
      refine qI i (hrd ?_) _ s24
      rw [ee]
      unfold cellO
      rw [if_neg fun y => by rw [hc] at y; cases y.1]
      rfl
    | true =>
      obtain ⟨c1, c2, _⟩ := canB_iff.mp hc
      have hint : intText? wd = some ((NumText.digitsVal (tl wd) : Nat) : Int) := intText_digits c2 c1 (by omega)
      refine iteT ⟨_, rfl, wd, _, rfl, hint, by omega, _, rfl, p1, _, rfl, .inl (sqL g34), _, _, rfl, rfl, _, rfl, ?_⟩
      rw [List.length_map]
      by_cases hlt : NumText.digitsVal (tl wd) < ws.length
      · refine ite_yesT (decide_eq_true (by omega)) ?_
        refine ⟨_, rfl, .inl ⟨rfl, _, sqL gv4⟩, _, rfl, wd, _, rfl, hint, by omega, yes _ ?_⟩
        rw [ee]
        unfold cellO
        rw [if_pos ⟨hc, hlt⟩]
        rfl
      · refine ite_noT (decide_eq_false (by omega)) ⟨_, rfl, ?_⟩
        refine qI i (hrd ?_) _ s24
        rw [ee]
        unfold cellO
        rw [if_neg fun y => hlt y.2]
        rfl
  · obtain ⟨s3, g3, vs, y3, y4, rfl, gv, hvs⟩ := hP
    rw [List.length_map, List.take_length] at hvs
    refine ⟨_, rfl, p2, _, rfl, .inl ⟨sqL gv, fun p3 hp3 => ?_⟩⟩
    exact q vs (readN_ok ws vs 0 hvs) p3 _ (s3.trans (same_upd hp3)) upd_same
theorem ok_told39 (T : Bt mg) (R : Er K mg) {f f1 : Addr} {fd fd1 : FuncData} (D : Df K mg "_law_told" s_law_told ["_law_words"] f fd) (k_table_in : KnX P w K mg base 3 "table_in" s_table_in ["text"] (spTabIn K R.C_BadText) f1 fd1) : Kn P w K mg base 4 "_law_told" s_law_told ["_law_words"] spRead39 f fd := by
  refine ⟨D, D.F.ok sc_law_told (fun vs H Q E h => ?_) (fun cdv A outer s H vs Q E hr h => ?_)⟩
  · obtain ⟨x, rfl, _⟩ := h
    rfl
  obtain ⟨x, rfl, hx, qI, q⟩ := h
  refine ⟨_, (pss_cons (ps_asg (pe_tup (pa_cons pe_non (pa_cons pe_non pa_nil))) (pg_tup (by rfl) (pgs_cons (pg_name (i := 1) sc_law_told.nd rfl (.inl rfl)) (pgs_cons (pg_name (i := 2) sc_law_told.nd rfl (.inl rfl)) pgs_nil))))
      (pss_cons (ps_keep (i := 3) rfl rfl sc_law_told.nd rfl (by rfl) rfl (fun W pn xe tk _ => (pss_one (ps_set (i := 1) sc_law_told.nd rfl (.inl rfl) (pe_callW k_table_in.G (hr.mono (by omega)) (by rfl) k_table_in.D.g k_table_in.D.F.kp k_table_in.D.b tk (pa_cons (pv 0) pa_nil))))) (fun a oe cls d pn _ _ => (pe_tup (pa_cons (pe_glob (v := .ref R.C_BadLine) (by rfl) R.E_BadLine.g rfl) (pa_cons (pe_glob (v := .ref R.C_BadText) (by rfl) R.E_BadText.g rfl) (pa_cons (pe_glob (v := .ref R.C_NoObject) (by rfl) R.E_NoObject.g rfl) pa_nil))))) (fun a oe cls d pn _ _ => (pss_one (ps_set (i := 2) sc_law_told.nd rfl (.inl rfl) (pv 3)))))
      (pss_cons (ps_if (pt_cmpR op_isN (pv 2) pe_non (nomark _)) (pss_one (ps_ret (pv 1))) pss_nil)
      (pss_cons (ps_set (i := 4) sc_law_told.nd rfl (.inl rfl) (pe_and (pe_callB call_isX (by rfl) T.isinstance (by decide +kernel) (pa_cons (pv 2) (pa_cons (pe_glob (v := .ref R.C_BadText) (by rfl) R.E_BadText.g rfl) pa_nil))) (pe_one (pe_callB call_isX (by rfl) T.isinstance (by decide +kernel) (pa_cons (pv 2) (pa_cons (pe_bltn (v := .ty "ValueError") (by rfl) T.ValueError (by decide +kernel) rfl) pa_nil))))))
      (pss_one (ps_ret (pe_ifExp (PW.pt (pw_and (pt_val (pv 4)) (pw_and1 (pt_not (pt_val (pe_callB call_isXT (by rfl) T.isinstance (by decide +kernel) (pa_cons (pv 2) (pa_cons (pe_tup (pa_cons (pe_glob (v := .ref R.C_BadLine) (by rfl) R.E_BadLine.g rfl) (pa_cons (pe_glob (v := .ref R.C_NoObject) (by rfl) R.E_NoObject.g rfl) pa_nil))) pa_nil)))))))) (pe_xv (pv 2)) pe_non))))))), ?_⟩
  refine ⟨(by show 2 ≤ sizeLine; decide), fun p1 hp1 => ?_⟩
  have s1 := same_upd (o := .tup [.non, .non]) hp1
  refine ⟨p1, [.non, .non], rfl, sqT upd_same, rfl, .non, [.non], rfl, .non, [], rfl, rfl, ?_⟩
  refine ⟨_, rfl, x, rfl, by omega, fun i hi d H2 s2 hd a na => ?_, fun ys hy p H2 s2 np g2 => ?_⟩
  · refine ⟨(by show 3 ≤ sizeLine; decide), fun p2 hp2 => ⟨.inr ⟨p2, [R.C_BadLine, R.C_BadText, R.C_NoObject], rfl, upd_same, (by first | exact R.x0_BadText)⟩, ?_⟩⟩
    have s3 := same_upd (o := .xd [(("entry" : Str), V.int (i : Nat))]) hd
    have s4 := same_upd (o := .tup [.ref R.C_BadLine, .ref R.C_BadText, .ref R.C_NoObject]) hp2
    refine ⟨_, rfl, fun na2 => ?_⟩
    have s5 := same_upd (o := ExV (.ref R.C_BadText) (some d) a) na2
    have ha := upd_same (H := upd (upd H2 d (.xd [(("entry" : Str), V.int (i : Nat))])) p2 (.tup [.ref R.C_BadLine, .ref R.C_BadText, .ref R.C_NoObject])) (a := a) (o := ExV (.ref R.C_BadText) (some d) a)
    have hdd := (s4.trans s5) _ _ (upd_same (H := H2) (a := d) (o := .xd [(("entry" : Str), V.int (i : Nat))]))
    have s15 := ((s1.trans s2).trans s3).trans (s4.trans s5)
    generalize upd (upd (upd H2 d (.xd [(("entry" : Str), V.int (i : Nat))])) p2 (.tup [.ref R.C_BadLine, .ref R.C_BadText, .ref R.C_NoObject])) a (ExV (.ref R.C_BadText) (some d) a) = H5 at ha hdd s15
    have hxn : Exn H5 a R.C_BadText [(("entry" : Str), V.int (i : Nat))] := .inr ⟨d, ha, hdd⟩
    refine ⟨_, rfl, rfl, _, rfl, ite_noT (decide_eq_false (fun h => nomatch h)) ?_⟩
    dsimp only [tNext, tSeq, gName]
    refine ⟨_, rfl, a, _, _, _, _, _, rfl, hxn, R.E_BadText.isD, (fun _ h => h), R.k_BadText_BadText, _, rfl, iteT ?_⟩
    refine ⟨_, rfl, a, _, _, _, _, _, rfl, hxn, R.E_BadText.isD, (fun _ h => h), R.k_BadText_ValueError, ?_⟩
    refine ⟨_, rfl, _, rfl, iteT ?_⟩
    refine ⟨_, rfl, (by show 2 ≤ sizeLine; decide), fun p6 hp6 => ?_⟩
    have s6 := same_upd (o := .tup [.ref R.C_BadLine, .ref R.C_NoObject]) hp6
    refine ⟨a, _, p6, _, _, _, _, rfl, hxn.same s6, R.E_BadText.isD, upd_same, vals_ref2, kitAny_c R.k_BadText_BadLine (kitAny_c R.k_BadText_NoObject kitAny_nil), _, rfl, iteT ?_⟩
    exact ⟨_, rfl, a, _, d, _, _, rfl, s6 _ _ ha, s6 _ _ hdd, R.E_BadText.isD, R.E_BadText.nof, rfl, qI i hi _ (s15.trans s6)⟩
  · refine ⟨_, rfl, rfl, _, rfl, iteT ?_⟩
    exact ⟨_, rfl, q ys hy p H2 (s1.trans s2) g2⟩

/-! ### _law_text_changed (k39) -/
open TL
theorem al_st39 {s p : Addr} {H Hk : Hp} {b : Nat} (st : Stay s H Hk) (sr : Src Hk s b) (h : Hk p = none) (o : HO) : Stay s H (upd Hk p o) ∧ Src (upd Hk p o) s b ∧ H p = none ∧ p ≠ s := by
  have np : p ≠ s := fun e => by
    obtain ⟨o, z⟩ := src_has sr
    rw [← e, h] at z
    cases z
  have nH : H p = none := by
    cases hq : H p with
    | none => rfl
    | some u =>
      have := st p u np hq
      rw [h] at this
      cases this
  exact ⟨st.mut nH, sr.elim fun o z => ⟨o, (upd_ne np.symm).trans z.1, z.2⟩, nH, np⟩
def spChanged : Sp := fun vs H Q _ => ∃ (s : Addr) (z : Str) (n : Nat), vs = [.ref s, .str z] ∧ z.length ≤ 150 ∧ Src H s (n + 4) ∧ ∀ (z' : Str) H', Stay s H H' → Src H' s n → z'.length ≤ 3 * z.length + 2 → Q (.str z') H'
theorem ok_changed (T : Bt mg) {f f1 f2 : Addr} {fd fd1 fd2 : FuncData} (D : Df K mg "_law_text_changed" s_law_text_changed ["_law_source_here", "_law_words"] f fd) (k_law_draw : Kn P w K mg base 1 "_law_draw" s_law_draw ["_law_source_here", "_law_bound"] spDraw f1 fd1) (k_law_choiceS : Kn P w K mg base 2 "_law_choice" s_law_choice ["_law_source_here", "_law_row_here"] spChoiceS f2 fd2) :
    Kn P w K mg base 3 "_law_text_changed" s_law_text_changed ["_law_source_here", "_law_words"] spChanged f fd := by
  refine ⟨D, D.F.ok sc_law_text_changed (fun vs H Q E h => ?_) (fun cdv A outer s H vs Q E hr h => ?_)⟩
  · obtain ⟨s', z, n, rfl, _⟩ := h
    rfl
  obtain ⟨s', z, n, rfl, hz, hsrc, q⟩ := h
  refine ⟨_, (pss_cons (ps_par3 (i := 2) (j := 3) (l := 4) (by rfl) sc_law_text_changed.nd rfl rfl rfl (by decide) (by decide) (by decide) rfl rfl rfl (pa_cons (pe_call k_law_draw.G (hr.mono (by omega)) (by rfl) k_law_draw.D.g k_law_draw.D.F.kp k_law_draw.D.b .nil pass0 (pa_cons (pv 0) (pa_cons (pe_op op_add (pe_callB call_len_str (by rfl) T.len (by decide +kernel) (pa_cons (pv 1) pa_nil)) pe_int) pa_nil))) (pa_cons (pe_call k_law_draw.G (hr.mono (by omega)) (by rfl) k_law_draw.D.g k_law_draw.D.F.kp k_law_draw.D.b .nil pass0 (pa_cons (pv 0) (pa_cons pe_int pa_nil))) (pa_cons (pe_call k_law_choiceS.G (hr.mono (by omega)) (by rfl) k_law_choiceS.D.g k_law_choiceS.D.F.kp k_law_choiceS.D.b .nil pass0 (pa_cons (pv 0) (pa_cons pe_str pa_nil))) pa_nil))) (by rfl))
      (pss_cons (ps_if (pt_cmpR op_eq (pv 3) pe_int (nomark _)) (pss_one (ps_ret (pe_op op_add_str (pe_op op_add_str (pe_slice sl_str (pv 1) po_none (po_some (pv 2))) (pv 4)) (pe_slice sl_str (pv 1) (po_some (pv 2)) po_none)))) pss_nil)
      (pss_cons (ps_if (pt_cmpR op_eq (pv 3) pe_int (nomark _)) (pss_one (ps_ret (pe_op op_add_str (pe_slice sl_str (pv 1) po_none (po_some (pv 2))) (pe_slice sl_str (pv 1) (po_some (pe_op op_add (pv 2) pe_int)) po_none)))) pss_nil)
      (pss_cons (ps_if (pt_cmpR op_eq (pv 3) pe_int (nomark _)) (pss_one (ps_ret (pe_op op_add_str (pe_op op_add_str (pe_slice sl_str (pv 1) po_none (po_some (pv 2))) (pv 4)) (pe_slice sl_str (pv 1) (po_some (pe_op op_add (pv 2) pe_int)) po_none)))) pss_nil)
      (pss_cons (ps_set (i := 5) sc_law_text_changed.nd rfl (.inl rfl) (pe_ifExp (pt_cmpR op_gt (pv 3) pe_int (nomark _)) pe_str pe_str))
      (pss_cons (ps_set (i := 6) sc_law_text_changed.nd rfl (.inl rfl) (pe_bm PySem.F.plainAttrs_str PySem.F.slot_str_split PySem.F.type_str_split mt_split (pv 1) (pa_cons (pv 5) pa_nil)))
      (pss_cons (ps_set (i := 7) sc_law_text_changed.nd rfl (.inl rfl) (pe_call k_law_draw.G (hr.mono (by omega)) (by rfl) k_law_draw.D.g k_law_draw.D.F.kp k_law_draw.D.b .nil pass0 (pa_cons (pv 0) (pa_cons (pe_callB (call_lenK (K := K) rfl) (by rfl) T.len (by decide +kernel) (pa_cons (pv 6) pa_nil)) pa_nil))))
      (pss_cons (ps_if (pt_cmpR op_eq (pe_op op_mod (pv 3) pe_int) pe_int (nomark _)) (pss_one (ps_ret (pe_bm PySem.F.plainAttrs_str PySem.F.slot_str_join PySem.F.type_str_join mt_join (pv 5) (pa_cons (pe_op op_cat (pe_slice sl_list (pv 6) po_none (po_some (pv 7))) (pe_slice sl_list (pv 6) (po_some (pe_op op_add (pv 7) pe_int)) po_none)) pa_nil)))) pss_nil)
      (pss_cons (ps_if (pt_cmpR op_eq (pe_op op_mod (pv 3) pe_int) pe_int (nomark _)) (pss_one (ps_ret (pe_bm PySem.F.plainAttrs_str PySem.F.slot_str_join PySem.F.type_str_join mt_join (pv 5) (pa_cons (pe_op op_cat (pe_slice sl_list (pv 6) po_none (po_some (pe_op op_add (pv 7) pe_int))) (pe_slice sl_list (pv 6) (po_some (pv 7)) po_none)) pa_nil)))) pss_nil)
      (pss_cons (ps_set (i := 8) sc_law_text_changed.nd rfl (.inl rfl) (pe_revL (pe_slice sl_list (pv 6) (po_some (pv 7)) (po_some (pe_op op_add (pv 7) pe_int)))))
      (pss_one (ps_ret (pe_bm PySem.F.plainAttrs_str PySem.F.slot_str_join PySem.F.type_str_join mt_join (pv 5) (pa_cons (pe_op op_cat (pe_op op_cat (pe_slice sl_list (pv 6) po_none (po_some (pv 7))) (pv 8)) (pe_slice sl_list (pv 6) (po_some (pe_op op_add (pv 7) pe_int)) po_none)) pa_nil)))))))))))))), ?_⟩
  have sz : ∀ y : Str, y.length ≤ 10000 → y.length ≤ sizeLine := fun y h => Nat.le_of_lt (line_ok (by omega))
  refine ⟨_, rfl, _, rfl, z, rfl, sz z (by omega), _, _, rfl, rfl, s', _, n + 3, rfl, by omega, by omega, hsrc, fun at_ o1 a0 a1 hO1 => ?_⟩
  have sr1 : Src (upd H s' o1) s' (n + 3) := ⟨o1, upd_same, hO1⟩
  have st1 : Stay s' H (upd H s' o1) := stay_upd
  generalize upd H s' o1 = H1 at sr1 st1
  refine ⟨_, rfl, s', 8, n + 2, rfl, by decide, by decide, sr1, fun way o2 w0 w1 hO2 => ?_⟩
  have sr2 : Src (upd H1 s' o2) s' (n + 2) := ⟨o2, upd_same, hO2⟩
  have st2 : Stay s' H (upd H1 s' o2) := st1.trans stay_upd
  generalize upd H1 s' o2 = H2 at sr2 st2
  refine ⟨_, rfl, s', "0123456789 -+_.a(", n + 1, rfl, by decide +kernel, by decide +kernel, sr2, fun c o3 _ hO3 => ?_⟩
  have sr3 : Src (upd H2 s' o3) s' (n + 1) := ⟨o3, upd_same, hO3⟩
  have st3 : Stay s' H (upd H2 s' o3) := st2.trans stay_upd
  generalize upd H2 s' o3 = H3 at sr3 st3
  clear sr1 sr2 st1 st2 hO1 hO2 hO3
  have hc1 : (⟨#[c]⟩ : Str).length = 1 := rfl
  refine ⟨_, _, _, rfl, ?_⟩
  obtain ⟨k, rfl⟩ : ∃ k : Nat, at_ = (k : Int) := ⟨at_.toNat, by omega⟩
  have fin : ∀ z' : Str, z'.length ≤ 3 * z.length + 2 → Q (.str z') H3 := fun z' h => q z' H3 st3 (sr3.mono (by omega)) h
  have l1 := cutS_len z none (some (k : Int))
  have l2 := cutS_len z (some (k : Int)) none
  have l3 := cutS_len z (some ((k : Int) + 1)) none
  dsimp only [tSeq]
  refine ⟨_, rfl, rfl, _, rfl, ?_⟩
  by_cases e0 : way = 0
  · refine ite_yesT (decide_eq_true (congrArg V.int e0)) ?_
    refine ⟨_, rfl, _, rfl, _, rfl, z, rfl, sz z (by omega), _, rfl, _, _, rfl, rfl, by rw [hc1]; exact Nat.le_of_lt (line_ok (by omega)), ?_⟩
    refine ⟨_, rfl, _, rfl, _, rfl, z, rfl, sz z (by omega), _, _, rfl, rfl, by rw [Str.length_append, hc1]; exact Nat.le_of_lt (line_ok (by omega)), fin _ ?_⟩
    rw [Str.length_append, Str.length_append, hc1]
    omega
  refine ite_noT (decide_eq_false fun y => e0 (V.int.inj y)) ?_
  dsimp only [tNext, tSeq]
  refine ⟨_, rfl, rfl, _, rfl, ?_⟩
  by_cases e1 : way = 1
  · refine ite_yesT (decide_eq_true (congrArg V.int e1)) ?_
    refine ⟨_, rfl, _, rfl, _, rfl, z, rfl, sz z (by omega), ?_⟩
    refine ⟨_, rfl, _, rfl, _, _, rfl, rfl, _, rfl, z, rfl, sz z (by omega), _, _, rfl, rfl, Nat.le_of_lt (line_ok (by omega)), fin _ ?_⟩
    rw [Str.length_append]
    omega
  refine ite_noT (decide_eq_false fun y => e1 (V.int.inj y)) ?_
  dsimp only [tNext, tSeq]
  refine ⟨_, rfl, rfl, _, rfl, ?_⟩
  by_cases e2 : way = 2
  · refine ite_yesT (decide_eq_true (congrArg V.int e2)) ?_
    refine ⟨_, rfl, _, rfl, _, rfl, z, rfl, sz z (by omega), _, rfl, _, _, rfl, rfl, by rw [hc1]; exact Nat.le_of_lt (line_ok (by omega)), ?_⟩
    refine ⟨_, rfl, _, rfl, _, _, rfl, rfl, _, rfl, z, rfl, sz z (by omega), _, _, rfl, rfl, by rw [Str.length_append, hc1]; exact Nat.le_of_lt (line_ok (by omega)), fin _ ?_⟩
    rw [Str.length_append, Str.length_append, hc1]
    omega
  refine ite_noT (decide_eq_false fun y => e2 (V.int.inj y)) ?_
  clear fin l1 l2 l3
  dsimp only [tNext, tSeq]
  -- the mark
  refine asg_toT (fun v Hx => Hx = H3 ∧ ∃ m : Str, v = .str m ∧ m.length = 1 ∧ tl m ≠ [] ∧ m.cps.all (· < 256) = true) (fun v H4 hv => ?_) (fun Q hQ => ?_)
  rotate_left
  · refine ⟨_, rfl, _, _, rfl, rfl, _, rfl, ?_⟩
    refine ite2 (fun _ => hQ _ _ ⟨rfl, "\n", rfl, by decide +kernel, by decide +kernel, by decide +kernel⟩) (fun _ => hQ _ _ ⟨rfl, " ", rfl, by decide +kernel, by decide +kernel, by decide +kernel⟩)
  obtain ⟨rfl, m, rfl, m1, m2, m3⟩ := hv
  obtain ⟨h1, h2⟩ := split_lens z m m2 m3
  obtain ⟨h3, h4⟩ := split_sum z m m2 m3
  dsimp only [gName, tSeq]
  have hm0 : (m.length == 0) = false := by rw [m1]; rfl
  refine ⟨_, rfl, rfl, _, rfl, z, m, rfl, rfl, hm0, line_ok (by omega), fun p1 hp1 => ?_⟩
  generalize Txt.split z m = ws at h1 h2 h3 h4
  obtain ⟨st5, sr5, np1, nps⟩ := al_st39 st3 sr3 hp1 (.lst (ws.map V.str))
  have g5 : (upd H4 p1 (.lst (ws.map V.str))) p1 = some (.lst (ws.map V.str)) := upd_same
  generalize upd H4 p1 (.lst (ws.map V.str)) = H5 at st5 sr5 g5
  have hpos : 0 < ws.length := List.length_pos_iff.mpr h4
  dsimp only [gName, tSeq]
  refine ⟨_, rfl, _, rfl, p1, _, rfl, .inl (sqL g5), s', _, n, rfl, by rw [List.length_map]; omega, by rw [List.length_map]; omega, sr5, fun r o6 r0 r1 hO6 => ?_⟩
  rw [List.length_map] at r1
  have g6 : (upd H5 s' o6) p1 = some (.lst (ws.map V.str)) := (upd_ne nps).trans g5
  have sr6 : Src (upd H5 s' o6) s' n := ⟨o6, upd_same, hO6⟩
  have st6 : Stay s' H (upd H5 s' o6) := st5.trans stay_upd
  generalize upd H5 s' o6 = H6 at st6 sr6 g6
  clear st5 sr5 g5 hO6 st3 sr3
  obtain ⟨k2, rfl⟩ : ∃ k : Nat, r = (k : Int) := ⟨r.toNat, by omega⟩
  have hk2 : k2 < ws.length := by omega
  -- the end: a list of pieces is joined
  have fin : ∀ (us : List Str) (p : Addr) (H7 : Hp), Same H6 H7 → H7 p = some (.lst (us.map V.str)) → sumL us + us.length ≤ 3 * z.length + 2 → ∃ (a : Str) (p' : Addr) (ys : List Str), V.str m = .str a ∧ [V.ref p] = [.ref p'] ∧ (SqL K H7 p' (ys.map V.str) ∨ SqT K H7 p' (ys.map V.str)) ∧ (ys.map (·.length)).sum + ys.length * a.length ≤ 16777216 ∧ Q (.str (Txt.join a ys)) H7 := fun us p H7 s7 g7 hs => by
    refine ⟨m, p, us, rfl, rfl, .inl (sqL g7), ?_, q _ H7 (st6.trans (Stay.of s7)) (src_same s7 sr6) ?_⟩
    · have : sumL us + us.length * m.length ≤ 16777216 := by rw [m1]; omega
      exact this
    · have := join_len m us
      rw [m1] at this
      omega
  have hadd : ∀ (a b : List Str) (pa pb : Addr) (H7 : Hp) (Q' : VK), H7 pa = some (.lst (a.map V.str)) → H7 pb = some (.lst (b.map V.str)) → a.length + b.length ≤ 900 → (∀ p, H7 p = none → Q' (.ref p) (upd H7 p (.lst ((a ++ b).map V.str)))) → rCat (.ref pa) (.ref pb) H7 Q' := fun a b pa pb H7 Q' g1 g2 hl hq => by
    refine ⟨pa, pb, _, _, rfl, rfl, g1, g2, Nat.le_of_lt (small1000 (by rw [List.length_map, List.length_map]; omega)), fun p hp => ?_⟩
    have := hq p hp
    rw [List.map_append] at this
    exact this
  have hT : ∀ b : Nat, cutV (ws.map V.str) none (some (b : Int)) = (ws.take b).map V.str := fun b => by rw [cut_natT, List.map_take]
  have hF : ∀ a : Nat, cutV (ws.map V.str) (some (a : Int)) none = (ws.drop a).map V.str := fun a => by rw [cut_natF, List.map_drop]
  have e3 : ∀ j : Nat, sumL (ws.take j) + sumL (ws.drop j) = sumL ws := fun j => by rw [← sumL_app, List.take_append_drop]
  have e4 : ∀ j : Nat, sumL (ws.drop j) ≤ sumL ws := fun j => by have := e3 j; omega
  have e5 : ∀ j : Nat, sumL (ws.take j) ≤ sumL ws := fun j => by have := e3 j; omega
  have s1e : ((k2 : Int) + 1) = ((k2 + 1 : Nat) : Int) := rfl
  have s2e : ((k2 : Int) + 2) = ((k2 + 2 : Nat) : Int) := rfl
  dsimp only [gName, tSeq]
  refine ⟨_, rfl, _, _, rfl, rfl, (by show (0 : Int) < 3; decide), rfl, _, rfl, ?_⟩
  refine ite2 (fun _ => ?_) (fun _ => ?_)
  · refine ⟨_, rfl, rfl, _, rfl, _, rfl, _, rfl, p1, _, rfl, sqL g6, fun p7 hp7 => ?_⟩
    rw [hT]
    have u7 := same_upd (o := .lst ((ws.take k2).map V.str)) hp7
    refine ⟨_, rfl, _, rfl, _, _, rfl, rfl, _, rfl, p1, _, rfl, sqL (u7 _ _ g6), fun p8 hp8 => ?_⟩
    rw [s1e, hF]
    have u8 := same_upd (o := .lst ((ws.drop (k2 + 1)).map V.str)) hp8
    refine hadd _ _ _ _ _ _ (u8 _ _ upd_same) upd_same (by rw [List.length_take, List.length_drop]; omega) fun p9 hp9 => ?_
    have u9 := same_upd (o := .lst ((ws.take k2 ++ ws.drop (k2 + 1)).map V.str)) hp9
    refine fin _ p9 _ ((u7.trans u8).trans u9) upd_same ?_
    rw [sumL_app, List.length_append, List.length_take, List.length_drop]
    have a1 := e3 k2
    have a2 : sumL (ws.drop (k2 + 1)) ≤ sumL (ws.drop k2) := by
      rw [List.drop_eq_getElem_cons hk2]
      unfold sumL
      rw [List.map_cons, List.sum_cons]
      omega
    omega
  dsimp only [tNext, tSeq]
  refine ⟨_, rfl, _, _, rfl, rfl, (by show (0 : Int) < 3; decide), rfl, _, rfl, ?_⟩
  refine ite2 (fun _ => ?_) (fun _ => ?_)
  · refine ⟨_, rfl, rfl, _, rfl, _, rfl, _, _, rfl, rfl, _, rfl, p1, _, rfl, sqL g6, fun p7 hp7 => ?_⟩
    rw [s1e, hT]
    have u7 := same_upd (o := .lst ((ws.take (k2 + 1)).map V.str)) hp7
    refine ⟨_, rfl, _, rfl, _, rfl, p1, _, rfl, sqL (u7 _ _ g6), fun p8 hp8 => ?_⟩
    rw [hF]
    have u8 := same_upd (o := .lst ((ws.drop k2).map V.str)) hp8
    refine hadd _ _ _ _ _ _ (u8 _ _ upd_same) upd_same (by rw [List.length_take, List.length_drop]; omega) fun p9 hp9 => ?_
    have u9 := same_upd (o := .lst ((ws.take (k2 + 1) ++ ws.drop k2).map V.str)) hp9
    refine fin _ p9 _ ((u7.trans u8).trans u9) upd_same ?_
    rw [sumL_app, List.length_append, List.length_take, List.length_drop]
    have a1 := e5 (k2 + 1)
    have a2 := e4 k2
    omega
  dsimp only [tNext, tSeq]
  refine ⟨_, rfl, _, rfl, _, rfl, _, rfl, _, _, rfl, rfl, _, rfl, p1, _, rfl, sqL g6, fun p7 hp7 => ?_⟩
  rw [s2e, cut_natM _ (by rw [List.length_map]; omega), ← List.map_drop, ← List.map_take]
  have u7 := same_upd (o := .lst (((ws.drop k2).take (k2 + 2 - k2)).map V.str)) hp7
  refine ⟨p7, _, rfl, sqL upd_same, fun p8 hp8 => ?_⟩
  rw [← List.map_reverse]
  have u8 := same_upd (o := .lst (((ws.drop k2).take (k2 + 2 - k2)).reverse.map V.str)) hp8
  have g8 : (upd (upd H6 p7 (.lst (((ws.drop k2).take (k2 + 2 - k2)).map V.str))) p8 (.lst (((ws.drop k2).take (k2 + 2 - k2)).reverse.map V.str))) p8 = some (.lst (((ws.drop k2).take (k2 + 2 - k2)).reverse.map V.str)) := upd_same
  have g6' := (u7.trans u8) _ _ g6
  have s68 := u7.trans u8
  generalize upd (upd H6 p7 (.lst (((ws.drop k2).take (k2 + 2 - k2)).map V.str))) p8 (.lst (((ws.drop k2).take (k2 + 2 - k2)).reverse.map V.str)) = H8 at g8 g6' s68
  dsimp only [gName, tSeq]
  refine ⟨_, rfl, rfl, _, rfl, _, rfl, _, rfl, p1, _, rfl, sqL g6', fun p9 hp9 => ?_⟩
  rw [hT]
  have u9 := same_upd (o := .lst ((ws.take k2).map V.str)) hp9
  refine ⟨_, rfl, ?_⟩
  refine hadd _ _ _ _ _ _ upd_same (u9 _ _ g8) (by rw [List.length_take, List.length_reverse, List.length_take]; omega) fun p10 hp10 => ?_
  have u10 := same_upd (o := .lst ((ws.take k2 ++ ((ws.drop k2).take (k2 + 2 - k2)).reverse).map V.str)) hp10
  refine ⟨_, rfl, _, rfl, _, _, rfl, rfl, _, rfl, p1, _, rfl, sqL ((u9.trans u10) _ _ g6'), fun p11 hp11 => ?_⟩
  rw [s2e, hF]
  have u11 := same_upd (o := .lst ((ws.drop (k2 + 2)).map V.str)) hp11
  refine hadd _ _ _ _ _ _ (u11 _ _ upd_same) upd_same (by rw [List.length_append, List.length_take, List.length_reverse, List.length_take, List.length_drop, List.length_drop]; omega) fun p12 hp12 => ?_
  have u12 := same_upd (o := .lst ((ws.take k2 ++ ((ws.drop k2).take (k2 + 2 - k2)).reverse ++ ws.drop (k2 + 2)).map V.str)) hp12
  refine fin _ p12 _ ((((s68.trans u9).trans u10).trans u11).trans u12) upd_same ?_
  have e6 : sumL ((ws.drop k2).take (k2 + 2 - k2)) + sumL (ws.drop (k2 + 2)) = sumL (ws.drop k2) := by
    rw [show k2 + 2 - k2 = 2 by omega, ← List.drop_drop (i := 2) (j := k2), ← sumL_app, List.take_append_drop]
  rw [sumL_app, sumL_app, sumL_rev, List.length_append, List.length_append, List.length_take, List.length_reverse, List.length_take, List.length_drop, List.length_drop]
  have a1 := e3 k2
  omega

/-! ### _law_holds (k39) -/
/-! ### entries of tables as data -/
def tabD : V → PyData
  | .non => .none
  | .int i => .int i
  | .str x => .str x
  | _ => .none
theorem tab_dp {K : PySem.W.Frag} {H : Hp} {n : Nat} : ∀ {ys : List V}, (∀ y ∈ ys, TabV n y) → DpAll K H ys (ys.map tabD)
  | [], _ => .nil
  | y :: ys, h => by
    refine .cons ?_ (tab_dp fun z hz => h z (List.mem_cons_of_mem _ hz))
    rcases h y (List.mem_cons_self ..) with rfl | rfl | ⟨i, rfl, _⟩
    · exact .non
    · exact .str _
    · exact .int _
theorem tab_sm {n : Nat} {y : V} (h : TabV n y) (hn : n ≤ 8) : Sm 0 4 8 (tabD y) := by
  rcases h with rfl | rfl | ⟨i, rfl, hi⟩
  · exact sm_of (by decide +kernel)
  · exact sm_of (by decide +kernel)
  · have h8 : ∀ j : Fin 8, smB 0 4 8 (.int ((j : Nat) : Int)) = true := by decide +kernel
    exact sm_of (h8 ⟨i, by omega⟩)

open TL
theorem depth39 : ∀ (ys : List V), depthL (ys.map tabD) = 0
  | [] => rfl
  | y :: r => by
    rw [List.map_cons, depthL, depth39 r]
    cases y <;> rfl
theorem wide39 : ∀ (ys : List V), wideL (ys.map tabD) = 0
  | [] => rfl
  | y :: r => by
    rw [List.map_cons, wideL, wide39 r]
    cases y <;> rfl
theorem ent_tab {w : Str} {k : Nat} {v : V} (h : entO w k = some v) : TabV k v := by
  unfold entO at h
  split at h
  · cases h
    exact .inr (.inl rfl)
  · split at h
    · cases h
      exact .inl rfl
    · unfold cellO at h
      split at h
      · rename_i hc
        cases h
        exact .inr (.inr ⟨_, rfl, hc.2⟩)
      · cases h
theorem read_tab {k : Nat} : ∀ (ws : List Str) (i : Nat) (ys : List V), readN k i ws = .inr ys → (∀ y ∈ ys, TabV k y) ∧ ys.length = ws.length
  | [], _, ys, h => by
    cases h
    exact ⟨(fun y h => nomatch h), rfl⟩
  | w :: ws, i, ys, h => by
    rw [readN] at h
    cases he : entO w k with
    | none =>
      rw [he] at h
      cases h
    | some v =>
      rw [he] at h
      cases hr : readN k (i + 1) ws with
      | inl j =>
        rw [hr] at h
        cases h
      | inr zs =>
        rw [hr] at h
        cases h
        obtain ⟨h1, h2⟩ := read_tab ws (i + 1) zs hr
        refine ⟨fun y hy => ?_, by rw [List.length_cons, List.length_cons, h2]⟩
        rcases List.mem_cons.mp hy with rfl | hy
        · exact ent_tab he
        · exact h1 y hy
def Tst (H : Hp) (L k : Nat) : Prop := ∃ ws : List Str, H L = some (.lst (ws.map V.str)) ∧ ws.length ≤ k ∧ ∀ w ∈ ws, w.length ≤ 400
theorem len_all {ws : List Str} (h : (ws.all fun w => decide (w.length ≤ 400)) = true) : ∀ w ∈ ws, w.length ≤ 400 := fun w hw => of_decide_eq_true (List.all_eq_true.mp h w hw)
def spHolds : Sp := fun vs H Q _ => ∃ (s : Addr) (b : Nat), vs = [.ref s] ∧ Src H s (b + 400) ∧ ∀ H', Stay s H H' → Src H' s b → Q (.bl true) H'
theorem ok_holds (T : Bt mg) (R : Er K mg) {f f1 f2 f3 f4 f5 f6 f7 f8 f9 : Addr} {fd fd1 fd2 fd3 fd4 fd5 fd6 fd7 fd8 fd9 : FuncData} (D : Df K mg "_law_holds" s_law_holds ["_law_source_here"] f fd)
    (k_law_any : Kn P w K mg base 5 "_law_any" s_law_any ["_law_source_here", "_law_most"] spAny f1 fd1) (k_law_written : Kn P w K mg base 1 "_law_written" s_law_written ["_law_shelf"] (fun vs H Q _ => ∃ (a : Addr) (ys : List V), vs = [.ref a] ∧ SqT K H a ys ∧ ys.length ≤ 100 ∧ (∀ y ∈ ys, TabV ys.length y) ∧ ∀ H', Same H H' → Q (.str (tabT ys)) H') f2 fd2)
    (k_table_text : Kn P w K mg base 2 "table_text" s_table_text ["table"] (spTabT K) f3 fd3) (k_table_in : KnX P w K mg base 3 "table_in" s_table_in ["text"] (spTabIn K R.C_BadText) f4 fd4)
    (k_law_equal : Kn P w K mg base 5 "_law_equal" s_law_equal ["_law_found", "_law_due"] (spEqual K 5) f5 fd5) (k_law_draw : Kn P w K mg base 1 "_law_draw" s_law_draw ["_law_source_here", "_law_bound"] spDraw f6 fd6)
    (k_law_text_changed : Kn P w K mg base 3 "_law_text_changed" s_law_text_changed ["_law_source_here", "_law_words"] spChanged f7 fd7) (k_law_read : Kn P w K mg base 2 "_law_read" s_law_read ["_law_words"] spRead39 f8 fd8) (k_law_told : Kn P w K mg base 4 "_law_told" s_law_told ["_law_words"] spRead39 f9 fd9) : FnOkG P w K mg base 30 f fd ["_law_source_here"] spHolds := by
  refine okG D.F sc_law_holds (fun vs H Q E h => ?_) (fun cdv A outer s H vs Q E hgd hr h => ?_)
  · obtain ⟨s', b0, rfl, _⟩ := h
    rfl
  obtain ⟨s', b0, rfl, hsrc, q⟩ := h
  refine ⟨_, (pss_cons (ps_set (i := 1) sc_law_holds.nd rfl (.inl rfl) (pe_call k_law_any.G (hr.mono (by omega)) (by rfl) k_law_any.D.g k_law_any.D.F.kp k_law_any.D.b .nil pass0 (pa_cons (pv 0) (pa_cons pe_int pa_nil))))
      (pss_cons (ps_set (i := 2) sc_law_holds.nd rfl (.inl rfl) (pe_call k_law_written.G (hr.mono (by omega)) (by rfl) k_law_written.D.g k_law_written.D.F.kp k_law_written.D.b .nil pass0 (pa_cons (pv 1) pa_nil)))
      (pss_cons (ps_set (i := 3) sc_law_holds.nd rfl (.inl rfl) (pe_lst (pa_cons (pe_call k_table_text.G (hr.mono (by omega)) (by rfl) k_table_text.D.g k_table_text.D.F.kp k_table_text.D.b .nil pass0 (pa_cons (pv 1) pa_nil)) (pa_cons (pe_callN0 k_table_text.G (hr.mono (by omega)) (by rfl) k_table_text.D.g k_table_text.D.F.kp (kb_table_text_table k_table_text.D.F) pass0 (pk_cons (pe_callTy (call_listK (K := K) rfl) (by rfl) T.list (by decide +kernel) (pa_cons (pv 1) pa_nil)) pk_nil)) (pa_cons (pe_call k_table_in.G (hr.mono (by omega)) (by rfl) k_table_in.D.g k_table_in.D.F.kp k_table_in.D.b .nil passL (pa_cons (pv 2) pa_nil)) (pa_cons (pe_callN0 k_table_in.G (hr.mono (by omega)) (by rfl) k_table_in.D.g k_table_in.D.F.kp (kb_table_in_text k_table_in.D.F) passL (pk_cons (pv 2) pk_nil)) pa_nil))))))
      (pss_cons (ps_if (pt_not (pt_val (pe_call k_law_equal.G (hr.mono (by omega)) (by rfl) k_law_equal.D.g k_law_equal.D.F.kp k_law_equal.D.b .nil pass0 (pa_cons (pv 3) (pa_cons (pe_lst (pa_cons (pv 2) (pa_cons (pv 2) (pa_cons (pv 1) (pa_cons (pv 1) pa_nil))))) pa_nil))))) (pss_one (ps_ret pe_bl)) pss_nil)
      (pss_cons (ps_set (i := 4) sc_law_holds.nd rfl (.inl rfl) (pe_lst (pa_cons pe_str (pa_cons pe_str (pa_cons pe_str (pa_cons pe_str (pa_cons pe_str (pa_cons pe_str (pa_cons pe_str (pa_cons pe_str (pa_cons pe_str (pa_cons pe_str (pa_cons pe_str (pa_cons pe_str (pa_cons pe_str (pa_cons pe_str pa_nil))))))))))))))))
      (pss_cons (ps_set (i := 4) sc_law_holds.nd rfl (.inl rfl) (pe_op op_cat (pv 4) (pe_lst (pa_cons pe_str (pa_cons pe_str (pa_cons pe_str (pa_cons pe_str pa_nil)))))))
      (pss_cons (ps_set (i := 4) sc_law_holds.nd rfl (.inl rfl) (pe_op op_cat (pv 4) (pe_lst (pa_cons pe_str (pa_cons pe_str (pa_cons pe_str (pa_cons pe_str (pa_cons pe_str (pa_cons pe_str (pa_cons pe_str (pa_cons pe_str (pa_cons pe_str pa_nil))))))))))))
      (pss_cons (ps_set (i := 4) sc_law_holds.nd rfl (.inl rfl) (pe_op op_cat (pv 4) (pe_lst (pa_cons pe_str pa_nil))))
      (pss_cons (ps_expr (pe_bm PySem.F.plainAttrs_list PySem.F.slot_list_append PySem.F.type_list_append mt_append (pv 4) (pa_cons (pe_op op_add_str (pe_op op_repS pe_str pe_int) pe_str) pa_nil)))
      (pss_cons (ps_expr (pe_bm PySem.F.plainAttrs_list PySem.F.slot_list_append PySem.F.type_list_append mt_append (pv 4) (pa_cons (pe_bm PySem.F.plainAttrs_str PySem.F.slot_str_join PySem.F.type_str_join mt_join pe_str (pa_cons (pe_op op_rep (pe_lst (pa_cons pe_str pa_nil)) pe_int) pa_nil)) pa_nil)))
      (pss_cons (ps_for PassesOwn.never rfl (pi_range1 (by rfl) T.range (pa_cons pe_int pa_nil)) (pg_name (i := 5) sc_law_holds.nd rfl (.inl rfl)) (pss_cons (ps_set (i := 6) sc_law_holds.nd rfl (.inl rfl) (pe_call k_law_text_changed.G (hr.mono (by omega)) (by rfl) k_law_text_changed.D.g k_law_text_changed.D.F.kp k_law_text_changed.D.b .nil pass0 (pa_cons (pv 0) (pa_cons (pv 2) pa_nil))))
      (pss_one (ps_expr (pe_bm PySem.F.plainAttrs_list PySem.F.slot_list_append PySem.F.type_list_append mt_append (pv 4) (pa_cons (pe_ifExp (pt_cmpR op_eq (pe_call k_law_draw.G (hr.mono (by omega)) (by rfl) k_law_draw.D.g k_law_draw.D.F.kp k_law_draw.D.b .nil pass0 (pa_cons (pv 0) (pa_cons pe_int pa_nil))) pe_int (nomark _)) (pe_call k_law_text_changed.G (hr.mono (by omega)) (by rfl) k_law_text_changed.D.g k_law_text_changed.D.F.kp k_law_text_changed.D.b .nil pass0 (pa_cons (pv 0) (pa_cons (pv 6) pa_nil))) (pv 6)) pa_nil))))))
      (pss_one (ps_ret (pe_callB (cr_allK (K := K) rfl rfl) (by rfl) T.all (by decide +kernel) (pa_cons (pe_lc (own := [("_law_test", 7)]) (by rfl) sc_law_holds.nd (pi_list (pv 4)) (blkOk_by (own := [("_law_test", 7)]) (N := ["_law_source_here", "_law_shelf", "_law_words", "_law_told_here", "_law_tests", "_law_turn", "_law_bent", "_law_test"]) (sc := defScope s_law_holds) (by decide +kernel)) (fun _ _ _ _ _ => (pg_name (i := 7) sc_law_holds.nd rfl (.inl rfl))) (fun _ _ _ _ _ => pts_nil) (fun _ _ _ _ _ => (pe_call k_law_equal.G (hr.mono (by omega)) (by rfl) k_law_equal.D.g k_law_equal.D.F.kp k_law_equal.D.b .nil pass0 (pa_cons (pe_call k_law_told.G (hr.mono (by omega)) (by rfl) k_law_told.D.g k_law_told.D.F.kp k_law_told.D.b .nil pass0 (pa_cons (pv 7) pa_nil)) (pa_cons (pe_call k_law_read.G (hr.mono (by omega)) (by rfl) k_law_read.D.g k_law_read.D.F.kp k_law_read.D.b .nil pass0 (pa_cons (pv 7) pa_nil)) pa_nil))))) pa_nil))))))))))))))), ?_⟩
  change Src H s' (b0 + 400) at hsrc
  dsimp only [gName, tSeq]
  refine ⟨_, rfl, s', 12, b0 + (400 - 44), rfl, by decide, by decide, hsrc.mono (by omega), fun p ys H1 st1 sr1 np nps gp l1 l12 tab => ?_⟩
  have h0 : ys ≠ [] := fun z => by rw [z] at l1; exact absurd l1 (by decide)
  dsimp only [gName, tSeq]
  refine ⟨_, rfl, p, ys, rfl, sqT gp, by omega, tab, fun H2 s2 => ?_⟩
  have hlT : (tabT ys).length ≤ 36 := by
    have h1 := join_len " " (ys.map entT)
    have h2 := sum_len (k := ys.length) (by omega) tab
    have e1 : (" " : Str).length = 1 := by decide +kernel
    rw [e1, List.length_map] at h1
    show (Txt.join " " (ys.map entT)).length ≤ 36
    have h3 : sumL (ys.map entT) ≤ 2 * ys.length := h2
    omega
  have rb := read_back tab h0
  generalize hw : tabT ys = wd at hlT rb
  have gp2 := s2 _ _ gp
  have st2 := st1.trans (Stay.of s2)
  have sr2 := src_same s2 sr1
  clear s2 st1 sr1 hsrc
  dsimp only [gName, tSeq]
  refine ⟨_, rfl, p, ys, rfl, .inr (sqT gp2), by omega, tab, fun H3 s3 => ?_⟩
  rw [hw]
  refine ⟨_, rfl, p, _, rfl, .inr (sqT (s3 _ _ gp2)), fun B nB => ?_⟩
  have u4 := same_upd (o := .lst ys) nB
  refine ⟨rfl, B, ys, rfl, .inl (sqL upd_same), by omega, tab, fun H5 s5 => ?_⟩
  rw [hw]
  have s25 := (s3.trans u4).trans s5
  refine ⟨_, rfl, wd, rfl, by omega, (fun i e => by rw [rb] at e; cases e), fun ys6 e6 p6 H6 s6 np6 g6 => ?_⟩
  rw [rb] at e6
  cases e6
  refine ⟨_, rfl, rfl, wd, rfl, by omega, (fun i e => by rw [rb] at e; cases e), fun ys7 e7 p7 H7 s7 np7 g7 => ?_⟩
  rw [rb] at e7
  cases e7
  refine ⟨(by show 4 ≤ sizeLine; decide), fun L8 n8 => ?_⟩
  have u8 := same_upd (o := .lst [.str wd, .str wd, .ref p6, .ref p7]) n8
  have s28 := ((s25.trans s6).trans s7).trans u8
  have g68 := (s7.trans u8) _ _ g6
  have g78 := u8 _ _ g7
  have gp8 := s28 _ _ gp2
  have g8 : (upd H7 L8 (.lst [.str wd, .str wd, .ref p6, .ref p7])) L8 = some (.lst [.str wd, .str wd, .ref p6, .ref p7]) := upd_same
  generalize upd H7 L8 (.lst [.str wd, .str wd, .ref p6, .ref p7]) = H8 at u8 s28 g68 g78 gp8 g8
  dsimp only [gName, tSeq]
  refine ⟨_, rfl, _, rfl, _, rfl, _, rfl, _, rfl, (by show 4 ≤ sizeLine; decide), fun L9 n9 => ?_⟩
  have u9 := same_upd (o := .lst [.str wd, .str wd, .ref p, .ref p]) n9
  have hd : ∀ {Hx : Hp} {a : Addr}, Hx a = some (.tup ys) → Dp K Hx (.ref a) (.tuple (ys.map tabD)) := fun h => .tup (sqT h) (tab_dp tab)
  refine ⟨.ref L8, .ref L9, .list [.str wd, .str wd, .tuple (ys.map tabD), .tuple (ys.map tabD)], rfl, .lst (sqL (u9 _ _ g8)) (.cons (.str _) (.cons (.str _) (.cons (hd (u9 _ _ g68)) (.cons (hd (u9 _ _ g78)) .nil)))), .lst (sqL upd_same) (.cons (.str _) (.cons (.str _) (.cons (hd (u9 _ _ gp8)) (.cons (hd (u9 _ _ gp8)) .nil)))), ?_, ?_, fun H10 s10 => ⟨_, rfl, iteF ?_⟩⟩
  · simp only [depthD, depthL, depth39]
    decide
  · simp only [wideD, wideL, wide39, List.length_map, List.length_cons, List.length_nil]
    omega
  have st10 := st2.trans (Stay.of ((s28.trans u9).trans s10))
  have sr10 := src_same ((s28.trans u9).trans s10) sr2
  clear gp2 gp8 g8 g68 g78 hd st2 sr2 s28 u9 s10 s25 u4 s5 s6 s7 u8 g6 g7 s3 gp
  dsimp only [tNext, tSeq]
  -- the texts by hand
  refine ⟨(by show 14 ≤ sizeLine; decide), fun L1 n1 => ?_⟩
  obtain ⟨st11, sr11, n1H, n1s⟩ := al_st39 st10 sr10 n1 (.lst [.str "", .str " ", .str "0", .str "1", .str "-", .str "?", .str "- ", .str " -", .str "-  -", .str "0 1", .str "0 2", .str "1 0 3", .str "00", .str "0 01"])
  have g11 : Tst (upd H10 L1 (.lst [.str "", .str " ", .str "0", .str "1", .str "-", .str "?", .str "- ", .str " -", .str "-  -", .str "0 1", .str "0 2", .str "1 0 3", .str "00", .str "0 01"])) L1 14 := ⟨["", " ", "0", "1", "-", "?", "- ", " -", "-  -", "0 1", "0 2", "1 0 3", "00", "0 01"], upd_same, by decide, len_all (by decide +kernel)⟩
  generalize upd H10 L1 (.lst [.str "", .str " ", .str "0", .str "1", .str "-", .str "?", .str "- ", .str " -", .str "-  -", .str "0 1", .str "0 2", .str "1 0 3", .str "00", .str "0 01"]) = H11 at st11 sr11 g11
  clear st10 sr10 n1
  dsimp only [gName, tSeq]
  have cat : ∀ (L k : Nat) (us : List Str) (Hx : Hp) (p : Addr) (Q' : VK) (j : Nat), Tst Hx L k → Stay s' H Hx → Src Hx s' (b0 + (400 - 44)) → k ≤ 60 → us.length ≤ 20 → (us.all fun w => decide (w.length ≤ 400)) = true → Hx p = none → k + us.length ≤ j → (∀ L2 H2, Stay s' H H2 → Src H2 s' (b0 + (400 - 44)) → H L2 = none → L2 ≠ s' → Tst H2 L2 j → Q' (.ref L2) H2) → rCat (.ref L) (.ref p) (upd Hx p (.lst (us.map V.str))) Q' := fun L k us Hx p Q' j ⟨ws, g, hk, hl⟩ st sr hk2 hu ha np hj hq => by
    obtain ⟨st1, sr1, _, _⟩ := al_st39 st sr np (.lst (us.map V.str))
    have g' := (same_upd (o := .lst (us.map V.str)) np) _ _ g
    refine ⟨L, p, _, _, rfl, rfl, g', upd_same, Nat.le_of_lt (small1000 (by rw [List.length_map, List.length_map]; omega)), fun p2 np2 => ?_⟩
    obtain ⟨st2, sr2, n1, n2⟩ := al_st39 st1 sr1 np2 (.lst (ws.map V.str ++ us.map V.str))
    refine hq p2 _ st2 sr2 n1 n2 ⟨ws ++ us, ?_, by rw [List.length_append]; omega, fun w hw => ?_⟩
    · rw [upd_same, List.map_append]
    · rcases List.mem_append.mp hw with h | h
      · exact hl w h
      · exact len_all ha w h
  refine ⟨_, rfl, (by show 4 ≤ sizeLine; decide), fun p2 n2 => ?_⟩
  refine cat L1 14 ["? ? ?", "-1 0", "+0", "0_0"] H11 p2 _ 18 g11 st11 sr11 (by decide) (by decide) (by decide +kernel) n2 (by decide) fun L2 H12 st12 sr12 n2H n2s g12 => ?_
  clear st11 sr11 g11 n1H n1s n2
  dsimp only [gName, tSeq]
  refine ⟨_, rfl, (by show 9 ≤ sizeLine; decide), fun p3 n3 => ?_⟩
  refine cat L2 18 ["a", "? a -", "--", "??", "0 0 0 0", "0,1", "0\n1", "10 - - - - - - - - - -", "- - 3"] H12 p3 _ 27 g12 st12 sr12 (by decide) (by decide) (by decide +kernel) n3 (by decide) fun L3 H13 st13 sr13 n3H n3s g13 => ?_
  clear st12 sr12 g12 n2H n2s n3
  dsimp only [gName, tSeq]
  refine ⟨_, rfl, (by show 1 ≤ sizeLine; decide), fun p4 n4 => ?_⟩
  refine cat L3 27 ["99999999999999999999"] H13 p4 _ 28 g13 st13 sr13 (by decide) (by decide) (by decide +kernel) n4 (by decide) fun L4 H14 st14 sr14 n4H n4s g14 => ?_
  clear st13 sr13 g13 n3H n3s n4 cat
  dsimp only [gName, tSeq]
  obtain ⟨ws14, gw14, hk14, hl14⟩ := g14
  have h9 : (⟨(List.replicate 150 ("9" : Str).cps).foldl (· ++ ·) #[]⟩ : Str).length = 150 := by decide +kernel
  refine ⟨_, rfl, .inl ⟨rfl, _, sqL gw14⟩, "9", 150, rfl, rfl, by decide, by decide, by decide +kernel, by decide +kernel, by rw [show (150 : Int).toNat = 150 from rfl, h9]; decide, _, _, rfl, rfl, by rw [show (150 : Int).toNat = 150 from rfl, h9]; decide +kernel, ?_⟩
  have push : ∀ (z : Str) (k : Nat) (Hx : Hp) (b : Nat) (ws : List Str) (Qd : Hp → Prop), Hx L4 = some (.lst (ws.map V.str)) → ws.length ≤ k → (∀ w ∈ ws, w.length ≤ 400) → Stay s' H Hx → Src Hx s' b → k ≤ 90 → z.length ≤ 400 → (∀ H2, Stay s' H H2 → Src H2 s' b → Tst H2 L4 (k + 1) → Qd H2) → rAppend (.ref L4) [.str z] Hx fun _ H2 => Qd H2 := fun z k Hx b ws Qd g hk hl st sr hk2 hz hq => by
    refine ⟨L4, _, .str z, rfl, rfl, g, small1000 (by rw [List.length_map]; omega), hq _ (st.mut n4H) ?_ ⟨ws ++ [z], ?_, by rw [List.length_append]; show _ + 1 ≤ _; omega, fun w hw => ?_⟩⟩
    · obtain ⟨o, g, hO⟩ := sr
      exact ⟨o, (upd_ne n4s.symm).trans g, hO⟩
    · rw [upd_same, List.map_append]
      rfl
    · rcases List.mem_append.mp hw with h | h
      · exact hl w h
      · rw [List.mem_singleton.mp h]
        exact hz
  refine push _ 28 H14 _ ws14 _ gw14 hk14 hl14 st14 sr14 (by decide) ?_ fun H15 st15 sr15 g15 => ?_
  · have e1 : (" -" : Str).length = 2 := by decide +kernel
    rw [Str.length_append, show (150 : Int).toNat = 150 from rfl, h9, e1]
    decide
  clear gw14 hk14 hl14 st14 sr14 h9
  obtain ⟨ws15, gw15, hk15, hl15⟩ := g15
  dsimp only [tSeq]
  refine ⟨_, rfl, .inl ⟨rfl, _, sqL gw15⟩, rfl, (by show 1 ≤ sizeLine; decide), fun l1 m1 => ?_⟩
  have u1 := same_upd (o := .lst [.str "12"]) m1
  refine ⟨l1, 13, _, rfl, rfl, upd_same, by decide, by decide, by decide, fun l2 m2 => ?_⟩
  have u2 := same_upd (o := .lst ((List.replicate (13 : Int).toNat [V.str "12"]).flatten)) m2
  have s16 := u1.trans u2
  have g2 : (upd (upd H15 l1 (.lst [.str "12"])) l2 (.lst ((List.replicate (13 : Int).toNat [V.str "12"]).flatten))) l2 = some (.lst ((List.replicate 13 ("12" : Str)).map V.str)) := upd_same
  generalize upd (upd H15 l1 (.lst [.str "12"])) l2 (.lst ((List.replicate (13 : Int).toNat [V.str "12"]).flatten)) = H16 at s16 g2
  have e12 : sumL (List.replicate 13 ("12" : Str)) = 26 := by decide +kernel
  have e1 : (" " : Str).length = 1 := by decide +kernel
  refine ⟨" ", l2, List.replicate 13 "12", rfl, rfl, .inl (sqL g2), ?_, ?_⟩
  · show sumL (List.replicate 13 ("12" : Str)) + (List.replicate 13 ("12" : Str)).length * (" " : Str).length ≤ 16777216
    rw [e12, e1]
    decide
  refine push _ 29 H16 _ ws15 _ (s16 _ _ gw15) hk15 hl15 (st15.trans (Stay.of s16)) (src_same s16 sr15) (by decide) ?_ fun H17 st17 sr17 g17 => ?_
  · have := join_len " " (List.replicate 13 ("12" : Str))
    rw [e12, e1, List.length_replicate] at this
    omega
  clear gw15 hk15 hl15 st15 sr15 u1 u2 s16 g2 e12
  dsimp only [tSeq]
  refine ⟨14, rfl, by decide, by decide, ?_⟩
  rw [show (14 : Int).toNat = 14 from rfl]
  refine for_range (lo := 0) (n := 14) (fun i σ H' => ∃ y5 y6, σ = [some (.ref s'), some (.ref p), some (.str wd), some (.ref L8), some (.ref L4), y5, y6, none] ∧ Stay s' H H' ∧ Src H' s' (b0 + 10 * (14 - i)) ∧ Tst H' L4 (30 + i)) ⟨_, _, rfl, st17, sr17.mono (by omega), g17⟩ (fun i σ H18 hi hP => ?_) (fun σ H18 hP => ?_)
  · clear st17 sr17 g17
    obtain ⟨y5, y6, rfl, st18, sr18, ws, gw, hk, hl⟩ := hP
    dsimp only [gName, tSeq]
    refine ⟨_, rfl, _, rfl, s', wd, b0 + 10 * (14 - (i + 1)) + 6, rfl, by omega, sr18.mono (by omega), fun z' H19 st19 sr19 hz' => ?_⟩
    have gw19 := st19 _ _ n4s gw
    have st19 := st18.trans st19
    dsimp only [gName, tSeq]
    refine ⟨_, rfl, .inl ⟨rfl, _, sqL gw19⟩, _, rfl, s', 3, b0 + 10 * (14 - (i + 1)) + 5, rfl, by decide, by decide, sr19.mono (by omega), fun r o r0 r1 hO => ⟨rfl, _, rfl, ?_⟩⟩
    have sr20 : Src (upd H19 s' o) s' (b0 + 10 * (14 - (i + 1)) + 5) := ⟨o, upd_same, hO⟩
    have gw20 : (upd H19 s' o) L4 = some (.lst (ws.map V.str)) := (upd_ne n4s).trans gw19
    have st20 : Stay s' H (upd H19 s' o) := st19.trans stay_upd
    generalize upd H19 s' o = H20 at sr20 gw20 st20
    have fin : ∀ (z2 : Str) (H21 : Hp), Stay s' H H21 → Src H21 s' (b0 + 10 * (14 - (i + 1))) → H21 L4 = some (.lst (ws.map V.str)) → z2.length ≤ 400 → rAppend (.ref L4) [.str z2] H21 fun _ H2 => ∃ y5 y6, [some (V.ref s'), some (V.ref p), some (V.str wd), some (V.ref L8), some (V.ref L4), some (V.int (0 + (i : Int))), some (V.str z'), none] = [some (.ref s'), some (.ref p), some (.str wd), some (.ref L8), some (.ref L4), y5, y6, none] ∧ Stay s' H H2 ∧ Src H2 s' (b0 + 10 * (14 - (i + 1))) ∧ Tst H2 L4 (30 + (i + 1)) := fun z2 H21 st21 sr21 g21 hz2 =>
      push z2 (30 + i) H21 _ ws _ g21 hk hl st21 sr21 (by omega) hz2 fun H22 st22 sr22 g22 => ⟨_, _, rfl, st22, sr22, g22⟩
    refine ite2 (fun _ => ?_) (fun _ => ?_)
    · refine ⟨_, rfl, _, rfl, s', z', b0 + 10 * (14 - (i + 1)), rfl, by omega, sr20.mono (by omega), fun z2 H21 st21 sr21 hz2 => ?_⟩
      exact fin z2 H21 (st20.trans st21) sr21 (st21 _ _ n4s gw20) (by omega)
    · exact ⟨_, rfl, fin z' H20 st20 (sr20.mono (by omega)) gw20 (by omega)⟩
  · clear st17 sr17 g17 push
    obtain ⟨y5, y6, rfl, st18, sr18, ws, gw, hk, hl⟩ := hP
    dsimp only [tSeq]
    refine ⟨_, rfl, L4, rfl, ⟨_, sqL gw⟩, fun D1 hD1 => ?_⟩
    refine lc_list (xs := ws.map V.str) (fun i H' => Same H18 H' ∧ H' D1 = some (.lst ((List.replicate i true).map V.bl))) ⟨same_upd hD1, upd_same⟩ (fun i H' _ hP => sqL (hP.1 _ _ gw)) (fun i x H19 gx hP => ?_) (fun H19 hP => ?_)
    · obtain ⟨s19, g19⟩ := hP
      rw [List.getElem?_map, Option.map_eq_some_iff] at gx
      obtain ⟨wt, gt, rfl⟩ := gx
      have hi : i < ws.length := (List.getElem?_eq_some_iff.mp gt).1
      have hwt := hl wt (List.mem_of_getElem? gt)
      have fin : ∀ H2, Same H19 H2 → ∃ acc, H2 D1 = some (.lst acc) ∧ acc.length < sizeLine ∧ Same H18 (upd H2 D1 (.lst (acc ++ [V.bl true]))) ∧ (upd H2 D1 (.lst (acc ++ [V.bl true]))) D1 = some (.lst ((List.replicate (i + 1) true).map V.bl)) := fun H2 s2 => by
        refine ⟨_, s2 _ _ g19, line_ok (by rw [List.length_map, List.length_replicate]; omega), Same.mut (s19.trans s2) hD1, ?_⟩
        rw [upd_same, List.replicate_succ', List.map_append]
        rfl
      refine ⟨rfl, ?_⟩
      cases hrd : readT wt with
      | inl j =>
        refine ⟨_, rfl, wt, rfl, by omega, (fun j2 e2 H20 s20 => ?_), (fun ys e => by rw [hrd] at e; cases e)⟩
        rw [hrd] at e2
        cases e2
        refine ⟨_, rfl, wt, rfl, by omega, (fun j2 e2 H21 s21 => ?_), (fun ys e => by rw [hrd] at e; cases e)⟩
        rw [hrd] at e2
        cases e2
        exact ⟨_, _, .int _, rfl, .int _, .int _, by simp only [depthD]; decide, by simp only [wideD]; decide, fun H22 s22 => fin _ ((s20.trans s21).trans s22)⟩
      | inr zs =>
        obtain ⟨ht, hz⟩ := read_tab (k := (Txt.split wt " ").length) _ 0 zs hrd
        have hzl : zs.length ≤ 401 := by
          have := (sp_lens wt).1
          omega
        refine ⟨_, rfl, wt, rfl, by omega, (fun j2 e2 => by rw [hrd] at e2; cases e2), (fun ys2 e2 p2 H20 s20 g20 => ?_)⟩
        rw [hrd] at e2
        cases e2
        refine ⟨_, rfl, wt, rfl, by omega, (fun j2 e2 => by rw [hrd] at e2; cases e2), (fun ys2 e2 p3 H21 s21 g21 => ?_)⟩
        rw [hrd] at e2
        cases e2
        refine ⟨.ref p2, .ref p3, .tuple (zs.map tabD), rfl, .tup (sqT (s21 _ _ g20)) (tab_dp ht), .tup (sqT g21) (tab_dp ht), ?_, ?_, fun H22 s22 => fin _ ((s20.trans s21).trans s22)⟩
        · simp only [depthD, depth39]
          decide
        · simp only [wideD, wide39, List.length_map]
          omega
    · obtain ⟨s19, g19⟩ := hP
      refine ⟨D1, _, rfl, sqL g19, ?_⟩
      rw [all_rep]
      exact q _ (st18.trans (Stay.of s19)) ((src_same s19 sr18).mono (by omega))

/-! ### law: some turns with each source -/
def lawLevel : Nat := 31
def spLaw (K : PySem.W.Frag) : Sp := fun vs H Q _ => ∃ (a : Addr) (ns : List Int), vs = [.ref a] ∧ SqL K H a (ns.map V.int) ∧ ns.length ≤ 63 ∧ ∀ H', Q (.bl true) H'
theorem lawStart {Kw : Params → PySem.W.Frag} (w : World) (H : Hp) (a : Addr) (ns : List Int) (hl : ns.length ≤ 63) (_ : L2.Only H) (hS : SqL (Kw w.params) H a (ns.map V.int)) : spLaw (Kw w.params) [.ref a] H (fun v _ => v = .bl true) (fun _ _ _ => False) := ⟨a, ns, rfl, hS, hl, fun _ => rfl⟩
theorem ok_law (T : Bt mg) {f f1 f2 : Addr} {fd fd1 fd2 : FuncData} (D : Df K mg "law" s_law ["_law_script"] f fd)
    (k_law_source : Kn P w K mg base 1 "_law_source" s_law_source ["_law_script", "_law_index"] (spSource K) f1 fd1) (k_law_holds : KnG P w K mg base 30 "_law_holds" s_law_holds ["_law_source_here"] spHolds f2 fd2) : FnOkG P w K mg base lawLevel f fd ["_law_script"] (spLaw K) := by
  refine okG D.F sc_law (fun vs H Q E h => ?_) (fun cdv A outer s H vs Q E hgd hr h => ?_)
  · obtain ⟨a, ns, rfl, _⟩ := h
    rfl
  obtain ⟨a, ns, rfl, hS, h63, q⟩ := h
  refine ⟨_, (pss_cons (ps_for PassesOwn.never rfl (pi_range1 (by rfl) T.range (pa_cons (pe_callB (call_max2 rfl) (by rfl) T.max (by decide +kernel) (pa_cons pe_int (pa_cons (pe_callB (call_min2 rfl) (by rfl) T.min (by decide +kernel) (pa_cons pe_int (pa_cons (pe_callB (call_lenK (K := K) rfl) (by rfl) T.len (by decide +kernel) (pa_cons (pv 0) pa_nil)) pa_nil))) pa_nil))) pa_nil)) (pg_name (i := 1) sc_law.nd rfl (.inl rfl)) (pss_cons (ps_set (i := 2) sc_law.nd rfl (.inr rfl) (pe_call k_law_source.G (hr.mono (by omega)) (by rfl) k_law_source.D.g k_law_source.D.F.kp k_law_source.D.b .nil pass0 (pa_cons (pv 0) (pa_cons (pv 1) pa_nil))))
      (pss_one (ps_if (pt_not (pt_val (pe_callB (cr_allK (K := K) rfl rfl) (by rfl) T.all (by decide +kernel) (pa_cons (pe_lc (own := [("_law_turn", 3)]) (by rfl) sc_law.nd (pi_range1 (by rfl) T.range (pa_cons pe_int pa_nil)) (blkOk_by (own := [("_law_turn", 3)]) (N := ["_law_script", "_law_index", "_law_source_here", "_law_turn"]) (sc := defScope s_law) (by decide +kernel)) (fun _ _ _ _ _ => (pg_name (i := 3) sc_law.nd rfl (.inl rfl))) (fun _ _ _ _ _ => pts_nil) (fun _ _ _ _ _ => (pe_callG hgd k_law_holds.G (hr.mono (by omega)) (by rfl) k_law_holds.D.g k_law_holds.D.F.kp k_law_holds.D.b (pa_cons (pv 2) pa_nil)))) pa_nil)))) (pss_one (ps_ret pe_bl)) pss_nil))))
      (pss_one (ps_ret pe_bl))), ?_⟩
  refine ⟨_, rfl, a, _, rfl, .inl hS, _, _, rfl, _, _, rfl, ?_⟩
  rw [List.length_map]
  obtain ⟨m, hm, hm2⟩ : ∃ m : Nat, (if (if (ns.length : Int) < 3 then (ns.length : Int) else 3) > 1 then (if (ns.length : Int) < 3 then (ns.length : Int) else 3) else 1) = (m : Int) ∧ m ≤ 3 := by
    refine ⟨(if (if (ns.length : Int) < 3 then (ns.length : Int) else 3) > 1 then (if (ns.length : Int) < 3 then (ns.length : Int) else 3) else 1).toNat, ?_, ?_⟩
    · split <;> (split <;> omega)
    · split <;> (split <;> omega)
  rw [hm]
  refine ⟨(m : Int), rfl, by omega, by omega, ?_⟩
  have en : ((m : Int)).toNat = m := Int.toNat_natCast m
  rw [en]
  refine for_range (lo := 0) (n := m) (fun i σ H' => ∃ (y1 y2 : Option V), σ = [some (.ref a), y1, y2, none] ∧ Same H H') ⟨_, _, rfl, Same.refl _⟩ (fun i σ H1 hi hP => ?_) (fun σ H1 hP => ?_)
  · obtain ⟨y1, y2, rfl, s1⟩ := hP
    have ez : (0 : Int) + (i : Int) = (i : Int) := Int.zero_add _
    rw [ez]
    refine ⟨_, rfl, _, rfl, a, ns, i, rfl, s1.seq hS, h63, by omega, fun p o hp hO => ?_⟩
    dsimp only [tSeq]
    refine ⟨2, rfl, by decide, by decide, fun L hL => ?_⟩
    have nLp : L ≠ p := fun e => by rw [e, upd_same] at hL; cases hL
    have nL1 : H1 L = none := by rw [upd_ne nLp] at hL; exact hL
    refine lc_range (lo := 0) (n := 2) (fun j H2 => Stay p (upd H1 p o) H2 ∧ Src H2 p (1000000 + (2 - j) * 400) ∧ H2 L = some (.lst ((List.replicate j true).map V.bl))) ⟨Stay.of (same_upd hL), ⟨o, by rw [upd_ne nLp.symm, upd_same], hO.mono (by decide)⟩, upd_same⟩ (fun j H2 hj hP => ?_) (fun H2 hP => ?_)
    · obtain ⟨st2, sr2, e2⟩ := hP
      refine ⟨rfl, _, rfl, p, 1000000 + (2 - (j + 1)) * 400, rfl, sr2.mono (by omega), fun H3 st3 sr3 => ?_⟩
      refine ⟨_, st3 _ _ nLp e2, ?_, (st2.trans st3).mut hL, sr3.elim fun o z => ⟨o, by rw [upd_ne nLp.symm]; exact z.1, z.2⟩, ?_⟩
      · rw [List.length_map, List.length_replicate]
        exact small1000 (by omega)
      · rw [upd_same, List.replicate_succ', List.map_append]
        rfl
    · obtain ⟨st2, sr2, e2⟩ := hP
      refine ⟨L, _, rfl, sqL e2, ?_⟩
      rw [all_rep]
      exact ⟨_, rfl, iteF ⟨_, _, rfl, s1.trans (same_stay hp st2)⟩⟩
  · obtain ⟨y1, y2, rfl, s1⟩ := hP
    exact q _

theorem fin (T : Bt mg)
    (R : Er K mg)
    {f8 : Addr} {fd8 : FuncData} (D_number_in : Df K mg "number_in" s_number_in ["word", "most_digits"] f8 fd8)
    {f9 : Addr} {fd9 : FuncData} (D_cell_in : Df K mg "cell_in" s_cell_in ["word", "size"] f9 fd9)
    {f10 : Addr} {fd10 : FuncData} (D_entry_text : Df K mg "entry_text" s_entry_text ["entry"] f10 fd10)
    {f11 : Addr} {fd11 : FuncData} (D_table_text : Df K mg "table_text" s_table_text ["table"] f11 fd11)
    {f12 : Addr} {fd12 : FuncData} (D_table_in : Df K mg "table_in" s_table_in ["text"] f12 fd12)
    {f14 : Addr} {fd14 : FuncData} (D_law_source : Df K mg "_law_source" s_law_source ["_law_script", "_law_index"] f14 fd14)
    {f15 : Addr} {fd15 : FuncData} (D_law_draw : Df K mg "_law_draw" s_law_draw ["_law_source_here", "_law_bound"] f15 fd15)
    {f16 : Addr} {fd16 : FuncData} (D_law_choice : Df K mg "_law_choice" s_law_choice ["_law_source_here", "_law_row_here"] f16 fd16)
    {f17 : Addr} {fd17 : FuncData} (D_law_equal : Df K mg "_law_equal" s_law_equal ["_law_found", "_law_due"] f17 fd17)
    {f18 : Addr} {fd18 : FuncData} (D_law_decimal : Df K mg "_law_decimal" s_law_decimal ["_law_word"] f18 fd18)
    {f19 : Addr} {fd19 : FuncData} (D_law_text_changed : Df K mg "_law_text_changed" s_law_text_changed ["_law_source_here", "_law_words"] f19 fd19)
    {f20 : Addr} {fd20 : FuncData} (D_law_fill : Df K mg "_law_fill" s_law_fill ["_law_width", "_law_hopes_here"] f20 fd20)
    {f21 : Addr} {fd21 : FuncData} (D_law_hopes : Df K mg "_law_hopes" s_law_hopes ["_law_source_here", "_law_width"] f21 fd21)
    {f22 : Addr} {fd22 : FuncData} (D_law_veiled : Df K mg "_law_veiled" s_law_veiled ["_law_source_here", "_law_shelf"] f22 fd22)
    {f23 : Addr} {fd23 : FuncData} (D_law_case : Df K mg "_law_case" s_law_case ["_law_source_here", "_law_most"] f23 fd23)
    {f24 : Addr} {fd24 : FuncData} (D_law_spoiled : Df K mg "_law_spoiled" s_law_spoiled ["_law_source_here", "_law_shelf"] f24 fd24)
    {f25 : Addr} {fd25 : FuncData} (D_law_any : Df K mg "_law_any" s_law_any ["_law_source_here", "_law_most"] f25 fd25)
    {f26 : Addr} {fd26 : FuncData} (D_law_written : Df K mg "_law_written" s_law_written ["_law_shelf"] f26 fd26)
    {f27 : Addr} {fd27 : FuncData} (D_law_read : Df K mg "_law_read" s_law_read ["_law_words"] f27 fd27)
    {f28 : Addr} {fd28 : FuncData} (D_law_told : Df K mg "_law_told" s_law_told ["_law_words"] f28 fd28)
    {f29 : Addr} {fd29 : FuncData} (D_law_holds : Df K mg "_law_holds" s_law_holds ["_law_source_here"] f29 fd29)
    {f30 : Addr} {fd30 : FuncData} (D_law : Df K mg "law" s_law ["_law_script"] f30 fd30)
    : FnOkG P w K mg base lawLevel f30 fd30 ["_law_script"] (spLaw K) := by
  have k_law_source := ok_source (P := P) (w := w) (base := base) (k := 0) T D_law_source
  have k_law_draw := ok_draw (P := P) (w := w) (base := base) (k := 0) T D_law_draw
  have k_law_equal := ok_equal (P := P) (w := w) (base := base) T D_law_equal 5
  have k_law_choice := ok_choice (k := 0) T D_law_choice k_law_draw
  have k_law_hopes := ok_hopes (k := 0) T D_law_hopes k_law_draw
  have k_law_fill := ok_fill (P := P) (w := w) (base := base) (k := 0) T D_law_fill
  have k_law_veiled := ok_veiled (k := 0) T D_law_veiled k_law_draw k_law_choice
  have k_law_case := ok_case T D_law_case k_law_draw k_law_hopes k_law_fill k_law_veiled
  have k_law_spoiled := ok_spoiled (k := 0) T D_law_spoiled k_law_draw k_law_choice
  have k_law_any := ok_any T D_law_any k_law_draw k_law_case k_law_spoiled
  have k_number_in := ok_numberin (P := P) (w := w) (base := base) T D_number_in
  have k_cell_in := ok_cellin T D_cell_in k_number_in
  have k_entry_text := ok_enttext (P := P) (w := w) (base := base) T D_entry_text
  have k_table_text := ok_tabtext T D_table_text k_entry_text
  have k_table_in := ok_tabin T R D_table_in k_cell_in
  have k_law_choiceS := ok_choiceS (k := 0) T D_law_choice k_law_draw
  have k_law_decimal := ok_decimal (P := P) (w := w) (base := base) T D_law_decimal
  have k_law_written := ok_written (P := P) (w := w) (base := base) T D_law_written
  have k_law_read := ok_lawread T D_law_read k_law_decimal
  have k_law_told := ok_told39 T R D_law_told k_table_in
  have k_law_text_changed := ok_changed T D_law_text_changed k_law_draw k_law_choiceS
  have kZ := ok_holds T R D_law_holds k_law_any k_law_written k_table_text k_table_in ⟨D_law_equal, k_law_equal⟩ k_law_draw k_law_text_changed k_law_read k_law_told
  exact ok_law T D_law k_law_source ⟨D_law_holds, kZ⟩
end
theorem all_mk {l : PySem.W.OpenLaw} {w : World} {K : PySem.W.Frag} {h : Heap} {mg : Str → Option Value} {fa f8 f9 f10 f11 f12 f14 f15 f16 f17 f18 f19 f20 f21 f22 f23 f24 f25 f26 f27 f28 f29 f30 : Addr} (X : K.In h) (G : h.Ns mainGlobals mg) (hfa : mg "law" = some (.ref fa))
    {od8 an8 od9 an9 od10 an10 od11 an11 od12 an12 od14 an14 od15 an15 od16 an16 od17 an17 od18 an18 od19 an19 od20 an20 od21 an21 od22 an22 od23 an23 od24 an24 od25 an25 od26 an26 od27 an27 od28 an28 od29 an29 od30 an30 : Option Addr} {sl8 sl9 sl10 sl11 sl12 sl14 sl15 sl16 sl17 sl18 sl19 sl20 sl21 sl22 sl23 sl24 sl25 sl26 sl27 sl28 sl29 sl30 : Array (Option Value)} {oc8 kV8 dc8 pm8 cd8 ct8 oc9 kV9 dc9 pm9 cd9 ct9 oc10 kV10 dc10 pm10 cd10 ct10 oc11 kV11 dc11 pm11 cd11 ct11 oc12 kV12 dc12 pm12 cd12 ct12 oc14 kV14 dc14 pm14 cd14 ct14 oc15 kV15 dc15 pm15 cd15 ct15 oc16 kV16 dc16 pm16 cd16 ct16 oc17 kV17 dc17 pm17 cd17 ct17 oc18 kV18 dc18 pm18 cd18 ct18 oc19 kV19 dc19 pm19 cd19 ct19 oc20 kV20 dc20 pm20 cd20 ct20 oc21 kV21 dc21 pm21 cd21 ct21 oc22 kV22 dc22 pm22 cd22 ct22 oc23 kV23 dc23 pm23 cd23 ct23 oc24 kV24 dc24 pm24 cd24 ct24 oc25 kV25 dc25 pm25 cd25 ct25 oc26 kV26 dc26 pm26 cd26 ct26 oc27 kV27 dc27 pm27 cd27 ct27 oc28 kV28 dc28 pm28 cd28 ct28 oc29 kV29 dc29 pm29 cd29 ct29 oc30 kV30 dc30 pm30 cd30 ct30 : Value}
    (a8 : PySem.W.nsIn K mainGlobals "number_in" = some (some (.ref f8))) (l8 : K.lookup f8 = some ⟨oc8, od8, .func (PySem.W.fnOf "number_in" "number_in" (defArgs s_number_in) (defBody s_number_in) (defScope s_number_in) .none kV8 dc8 pm8 an8 cd8 ct8), sl8⟩) (c8 : PySem.W.codeIn K cd8 "number_in" = true) (k8 : PySem.W.keepIn K (.ref f8) = true)
    (a9 : PySem.W.nsIn K mainGlobals "cell_in" = some (some (.ref f9))) (l9 : K.lookup f9 = some ⟨oc9, od9, .func (PySem.W.fnOf "cell_in" "cell_in" (defArgs s_cell_in) (defBody s_cell_in) (defScope s_cell_in) .none kV9 dc9 pm9 an9 cd9 ct9), sl9⟩) (c9 : PySem.W.codeIn K cd9 "cell_in" = true) (k9 : PySem.W.keepIn K (.ref f9) = true)
    (a10 : PySem.W.nsIn K mainGlobals "entry_text" = some (some (.ref f10))) (l10 : K.lookup f10 = some ⟨oc10, od10, .func (PySem.W.fnOf "entry_text" "entry_text" (defArgs s_entry_text) (defBody s_entry_text) (defScope s_entry_text) .none kV10 dc10 pm10 an10 cd10 ct10), sl10⟩) (c10 : PySem.W.codeIn K cd10 "entry_text" = true) (k10 : PySem.W.keepIn K (.ref f10) = true)
    (a11 : PySem.W.nsIn K mainGlobals "table_text" = some (some (.ref f11))) (l11 : K.lookup f11 = some ⟨oc11, od11, .func (PySem.W.fnOf "table_text" "table_text" (defArgs s_table_text) (defBody s_table_text) (defScope s_table_text) .none kV11 dc11 pm11 an11 cd11 ct11), sl11⟩) (c11 : PySem.W.codeIn K cd11 "table_text" = true) (k11 : PySem.W.keepIn K (.ref f11) = true)
    (a12 : PySem.W.nsIn K mainGlobals "table_in" = some (some (.ref f12))) (l12 : K.lookup f12 = some ⟨oc12, od12, .func (PySem.W.fnOf "table_in" "table_in" (defArgs s_table_in) (defBody s_table_in) (defScope s_table_in) .none kV12 dc12 pm12 an12 cd12 ct12), sl12⟩) (c12 : PySem.W.codeIn K cd12 "table_in" = true) (k12 : PySem.W.keepIn K (.ref f12) = true)
    (a14 : PySem.W.nsIn K mainGlobals "_law_source" = some (some (.ref f14))) (l14 : K.lookup f14 = some ⟨oc14, od14, .func (PySem.W.fnOf "_law_source" "_law_source" (defArgs s_law_source) (defBody s_law_source) (defScope s_law_source) .none kV14 dc14 pm14 an14 cd14 ct14), sl14⟩) (c14 : PySem.W.codeIn K cd14 "_law_source" = true) (k14 : PySem.W.keepIn K (.ref f14) = true)
    (a15 : PySem.W.nsIn K mainGlobals "_law_draw" = some (some (.ref f15))) (l15 : K.lookup f15 = some ⟨oc15, od15, .func (PySem.W.fnOf "_law_draw" "_law_draw" (defArgs s_law_draw) (defBody s_law_draw) (defScope s_law_draw) .none kV15 dc15 pm15 an15 cd15 ct15), sl15⟩) (c15 : PySem.W.codeIn K cd15 "_law_draw" = true) (k15 : PySem.W.keepIn K (.ref f15) = true)
    (a16 : PySem.W.nsIn K mainGlobals "_law_choice" = some (some (.ref f16))) (l16 : K.lookup f16 = some ⟨oc16, od16, .func (PySem.W.fnOf "_law_choice" "_law_choice" (defArgs s_law_choice) (defBody s_law_choice) (defScope s_law_choice) .none kV16 dc16 pm16 an16 cd16 ct16), sl16⟩) (c16 : PySem.W.codeIn K cd16 "_law_choice" = true) (k16 : PySem.W.keepIn K (.ref f16) = true)
    (a17 : PySem.W.nsIn K mainGlobals "_law_equal" = some (some (.ref f17))) (l17 : K.lookup f17 = some ⟨oc17, od17, .func (PySem.W.fnOf "_law_equal" "_law_equal" (defArgs s_law_equal) (defBody s_law_equal) (defScope s_law_equal) .none kV17 dc17 pm17 an17 cd17 ct17), sl17⟩) (c17 : PySem.W.codeIn K cd17 "_law_equal" = true) (k17 : PySem.W.keepIn K (.ref f17) = true)
    (a18 : PySem.W.nsIn K mainGlobals "_law_decimal" = some (some (.ref f18))) (l18 : K.lookup f18 = some ⟨oc18, od18, .func (PySem.W.fnOf "_law_decimal" "_law_decimal" (defArgs s_law_decimal) (defBody s_law_decimal) (defScope s_law_decimal) .none kV18 dc18 pm18 an18 cd18 ct18), sl18⟩) (c18 : PySem.W.codeIn K cd18 "_law_decimal" = true) (k18 : PySem.W.keepIn K (.ref f18) = true)
    (a19 : PySem.W.nsIn K mainGlobals "_law_text_changed" = some (some (.ref f19))) (l19 : K.lookup f19 = some ⟨oc19, od19, .func (PySem.W.fnOf "_law_text_changed" "_law_text_changed" (defArgs s_law_text_changed) (defBody s_law_text_changed) (defScope s_law_text_changed) .none kV19 dc19 pm19 an19 cd19 ct19), sl19⟩) (c19 : PySem.W.codeIn K cd19 "_law_text_changed" = true) (k19 : PySem.W.keepIn K (.ref f19) = true)
    (a20 : PySem.W.nsIn K mainGlobals "_law_fill" = some (some (.ref f20))) (l20 : K.lookup f20 = some ⟨oc20, od20, .func (PySem.W.fnOf "_law_fill" "_law_fill" (defArgs s_law_fill) (defBody s_law_fill) (defScope s_law_fill) .none kV20 dc20 pm20 an20 cd20 ct20), sl20⟩) (c20 : PySem.W.codeIn K cd20 "_law_fill" = true) (k20 : PySem.W.keepIn K (.ref f20) = true)
    (a21 : PySem.W.nsIn K mainGlobals "_law_hopes" = some (some (.ref f21))) (l21 : K.lookup f21 = some ⟨oc21, od21, .func (PySem.W.fnOf "_law_hopes" "_law_hopes" (defArgs s_law_hopes) (defBody s_law_hopes) (defScope s_law_hopes) .none kV21 dc21 pm21 an21 cd21 ct21), sl21⟩) (c21 : PySem.W.codeIn K cd21 "_law_hopes" = true) (k21 : PySem.W.keepIn K (.ref f21) = true)
    (a22 : PySem.W.nsIn K mainGlobals "_law_veiled" = some (some (.ref f22))) (l22 : K.lookup f22 = some ⟨oc22, od22, .func (PySem.W.fnOf "_law_veiled" "_law_veiled" (defArgs s_law_veiled) (defBody s_law_veiled) (defScope s_law_veiled) .none kV22 dc22 pm22 an22 cd22 ct22), sl22⟩) (c22 : PySem.W.codeIn K cd22 "_law_veiled" = true) (k22 : PySem.W.keepIn K (.ref f22) = true)
    (a23 : PySem.W.nsIn K mainGlobals "_law_case" = some (some (.ref f23))) (l23 : K.lookup f23 = some ⟨oc23, od23, .func (PySem.W.fnOf "_law_case" "_law_case" (defArgs s_law_case) (defBody s_law_case) (defScope s_law_case) .none kV23 dc23 pm23 an23 cd23 ct23), sl23⟩) (c23 : PySem.W.codeIn K cd23 "_law_case" = true) (k23 : PySem.W.keepIn K (.ref f23) = true)
    (a24 : PySem.W.nsIn K mainGlobals "_law_spoiled" = some (some (.ref f24))) (l24 : K.lookup f24 = some ⟨oc24, od24, .func (PySem.W.fnOf "_law_spoiled" "_law_spoiled" (defArgs s_law_spoiled) (defBody s_law_spoiled) (defScope s_law_spoiled) .none kV24 dc24 pm24 an24 cd24 ct24), sl24⟩) (c24 : PySem.W.codeIn K cd24 "_law_spoiled" = true) (k24 : PySem.W.keepIn K (.ref f24) = true)
    (a25 : PySem.W.nsIn K mainGlobals "_law_any" = some (some (.ref f25))) (l25 : K.lookup f25 = some ⟨oc25, od25, .func (PySem.W.fnOf "_law_any" "_law_any" (defArgs s_law_any) (defBody s_law_any) (defScope s_law_any) .none kV25 dc25 pm25 an25 cd25 ct25), sl25⟩) (c25 : PySem.W.codeIn K cd25 "_law_any" = true) (k25 : PySem.W.keepIn K (.ref f25) = true)
    (a26 : PySem.W.nsIn K mainGlobals "_law_written" = some (some (.ref f26))) (l26 : K.lookup f26 = some ⟨oc26, od26, .func (PySem.W.fnOf "_law_written" "_law_written" (defArgs s_law_written) (defBody s_law_written) (defScope s_law_written) .none kV26 dc26 pm26 an26 cd26 ct26), sl26⟩) (c26 : PySem.W.codeIn K cd26 "_law_written" = true) (k26 : PySem.W.keepIn K (.ref f26) = true)
    (a27 : PySem.W.nsIn K mainGlobals "_law_read" = some (some (.ref f27))) (l27 : K.lookup f27 = some ⟨oc27, od27, .func (PySem.W.fnOf "_law_read" "_law_read" (defArgs s_law_read) (defBody s_law_read) (defScope s_law_read) .none kV27 dc27 pm27 an27 cd27 ct27), sl27⟩) (c27 : PySem.W.codeIn K cd27 "_law_read" = true) (k27 : PySem.W.keepIn K (.ref f27) = true)
    (a28 : PySem.W.nsIn K mainGlobals "_law_told" = some (some (.ref f28))) (l28 : K.lookup f28 = some ⟨oc28, od28, .func (PySem.W.fnOf "_law_told" "_law_told" (defArgs s_law_told) (defBody s_law_told) (defScope s_law_told) .none kV28 dc28 pm28 an28 cd28 ct28), sl28⟩) (c28 : PySem.W.codeIn K cd28 "_law_told" = true) (k28 : PySem.W.keepIn K (.ref f28) = true)
    (a29 : PySem.W.nsIn K mainGlobals "_law_holds" = some (some (.ref f29))) (l29 : K.lookup f29 = some ⟨oc29, od29, .func (PySem.W.fnOf "_law_holds" "_law_holds" (defArgs s_law_holds) (defBody s_law_holds) (defScope s_law_holds) .none kV29 dc29 pm29 an29 cd29 ct29), sl29⟩) (c29 : PySem.W.codeIn K cd29 "_law_holds" = true) (k29 : PySem.W.keepIn K (.ref f29) = true)
    (a30 : PySem.W.nsIn K mainGlobals "law" = some (some (.ref f30))) (l30 : K.lookup f30 = some ⟨oc30, od30, .func (PySem.W.fnOf "law" "law" (defArgs s_law) (defBody s_law) (defScope s_law) .none kV30 dc30 pm30 an30 cd30 ct30), sl30⟩) (c30 : PySem.W.codeIn K cd30 "law" = true) (k30 : PySem.W.keepIn K (.ref f30) = true)
    (z_LookupError : PySem.W.nsIn K mainGlobals "LookupError" = some none) (z_ValueError : PySem.W.nsIn K mainGlobals "ValueError" = some none) (z_abs : PySem.W.nsIn K mainGlobals "abs" = some none) (z_all : PySem.W.nsIn K mainGlobals "all" = some none) (z_bool : PySem.W.nsIn K mainGlobals "bool" = some none) (z_enumerate : PySem.W.nsIn K mainGlobals "enumerate" = some none) (z_int : PySem.W.nsIn K mainGlobals "int" = some none) (z_isinstance : PySem.W.nsIn K mainGlobals "isinstance" = some none) (z_len : PySem.W.nsIn K mainGlobals "len" = some none) (z_list : PySem.W.nsIn K mainGlobals "list" = some none) (z_max : PySem.W.nsIn K mainGlobals "max" = some none) (z_min : PySem.W.nsIn K mainGlobals "min" = some none) (z_range : PySem.W.nsIn K mainGlobals "range" = some none) (z_str : PySem.W.nsIn K mainGlobals "str" = some none) (z_tuple : PySem.W.nsIn K mainGlobals "tuple" = some none) (z_zip : PySem.W.nsIn K mainGlobals "zip" = some none)
    {C_BadText f_BadText N_BadText C_BadLine f_BadLine N_BadLine C_NoObject f_NoObject N_NoObject : Addr}
    {nm_BadText qn_BadText : Str} {bs_BadText sub_BadText : List Value} {sn_BadText : List Str} {ab_BadText : Bool} {col_BadText : Option Bool} {dd_BadText : Option Addr} {m0_BadText m1_BadText m2_BadText m3_BadText m5_BadText : Option Value}
    {ioc_BadText idc_BadText ipm_BadText icd_BadText ict_BadText ikV_BadText : Value} {iod_BadText ian_BadText : Option Addr} {isl_BadText : Array (Option Value)}
    (aC_BadText : PySem.W.nsIn K mainGlobals "BadText" = some (some (.ref C_BadText))) (xL_BadText : K.lookup C_BadText = some (excClassObj nm_BadText qn_BadText C_BadText N_BadText bs_BadText (tlV "ValueError") true sn_BadText sub_BadText ab_BadText col_BadText dd_BadText m0_BadText m1_BadText m2_BadText m3_BadText m5_BadText "ValueError.__new__"))
    (sa_BadText : PySem.W.findIn K (.ref C_BadText) "__setattr__" = some (some (.builtin "object.__setattr__"))) (ga_BadText : PySem.W.findIn K (.ref C_BadText) "__getattribute__" = some (some (.builtin "BaseException.__getattribute__"))) (gg_BadText : PySem.W.findIn K (.ref C_BadText) "__getattr__" = some none) (nf_BadText : PySem.W.findIn K (.ref C_BadText) "entry" = some none)
    (eC_BadText : PySem.W.subIn K (.ref C_BadText) (.type "BaseException") = some true) (tC_BadText : PySem.W.typeIn K (.ref C_BadText) = some (.type "type")) (kC_BadText : PySem.W.keepIn K (.ref C_BadText) = true) (hd_BadText : PySem.W.hasDictIn K C_BadText = true) (ha_BadText : PySem.W.findIn K (.ref C_BadText) "__class__" = some (some (.builtin "object.__class__"))) (hm_BadText : PySem.W.mroIn K C_BadText (.type "object") = some true)
    (iC_BadText : PySem.W.findIn K (.ref C_BadText) "__init__" = some (some (.ref f_BadText))) (tI_BadText : PySem.W.typeIn K (.ref f_BadText) = some (.type "function")) (il_BadText : K.lookup f_BadText = some ⟨ioc_BadText, iod_BadText, .func (PySem.W.fnOf "__init__" "BadText.__init__" (defArgs s_BadText_init) (defBody s_BadText_init) (defScope s_BadText_init) .none ikV_BadText idc_BadText ipm_BadText ian_BadText icd_BadText ict_BadText), isl_BadText⟩) (ic_BadText : PySem.W.codeIn K icd_BadText "BadText.__init__" = true) (ik_BadText : PySem.W.keepIn K (.ref f_BadText) = true)
    {nm_BadLine qn_BadLine : Str} {bs_BadLine sub_BadLine : List Value} {sn_BadLine : List Str} {ab_BadLine : Bool} {col_BadLine : Option Bool} {dd_BadLine : Option Addr} {m0_BadLine m1_BadLine m2_BadLine m3_BadLine m5_BadLine : Option Value}
    {ioc_BadLine idc_BadLine ipm_BadLine icd_BadLine ict_BadLine ikV_BadLine : Value} {iod_BadLine ian_BadLine : Option Addr} {isl_BadLine : Array (Option Value)}
    (aC_BadLine : PySem.W.nsIn K mainGlobals "BadLine" = some (some (.ref C_BadLine))) (xL_BadLine : K.lookup C_BadLine = some (excClassObj nm_BadLine qn_BadLine C_BadLine N_BadLine bs_BadLine (tlV "ValueError") true sn_BadLine sub_BadLine ab_BadLine col_BadLine dd_BadLine m0_BadLine m1_BadLine m2_BadLine m3_BadLine m5_BadLine "ValueError.__new__"))
    (sa_BadLine : PySem.W.findIn K (.ref C_BadLine) "__setattr__" = some (some (.builtin "object.__setattr__"))) (ga_BadLine : PySem.W.findIn K (.ref C_BadLine) "__getattribute__" = some (some (.builtin "BaseException.__getattribute__"))) (gg_BadLine : PySem.W.findIn K (.ref C_BadLine) "__getattr__" = some none) (nf_BadLine : PySem.W.findIn K (.ref C_BadLine) "line" = some none)
    (eC_BadLine : PySem.W.subIn K (.ref C_BadLine) (.type "BaseException") = some true) (tC_BadLine : PySem.W.typeIn K (.ref C_BadLine) = some (.type "type")) (kC_BadLine : PySem.W.keepIn K (.ref C_BadLine) = true) (hd_BadLine : PySem.W.hasDictIn K C_BadLine = true) (ha_BadLine : PySem.W.findIn K (.ref C_BadLine) "__class__" = some (some (.builtin "object.__class__"))) (hm_BadLine : PySem.W.mroIn K C_BadLine (.type "object") = some true)
    (iC_BadLine : PySem.W.findIn K (.ref C_BadLine) "__init__" = some (some (.ref f_BadLine))) (tI_BadLine : PySem.W.typeIn K (.ref f_BadLine) = some (.type "function")) (il_BadLine : K.lookup f_BadLine = some ⟨ioc_BadLine, iod_BadLine, .func (PySem.W.fnOf "__init__" "BadLine.__init__" (defArgs s_BadLine_init) (defBody s_BadLine_init) (defScope s_BadLine_init) .none ikV_BadLine idc_BadLine ipm_BadLine ian_BadLine icd_BadLine ict_BadLine), isl_BadLine⟩) (ic_BadLine : PySem.W.codeIn K icd_BadLine "BadLine.__init__" = true) (ik_BadLine : PySem.W.keepIn K (.ref f_BadLine) = true)
    {nm_NoObject qn_NoObject : Str} {bs_NoObject sub_NoObject : List Value} {sn_NoObject : List Str} {ab_NoObject : Bool} {col_NoObject : Option Bool} {dd_NoObject : Option Addr} {m0_NoObject m1_NoObject m2_NoObject m3_NoObject m5_NoObject : Option Value}
    {ioc_NoObject idc_NoObject ipm_NoObject icd_NoObject ict_NoObject ikV_NoObject : Value} {iod_NoObject ian_NoObject : Option Addr} {isl_NoObject : Array (Option Value)}
    (aC_NoObject : PySem.W.nsIn K mainGlobals "NoObject" = some (some (.ref C_NoObject))) (xL_NoObject : K.lookup C_NoObject = some (excClassObj nm_NoObject qn_NoObject C_NoObject N_NoObject bs_NoObject (tlV "LookupError") true sn_NoObject sub_NoObject ab_NoObject col_NoObject dd_NoObject m0_NoObject m1_NoObject m2_NoObject m3_NoObject m5_NoObject "LookupError.__new__"))
    (sa_NoObject : PySem.W.findIn K (.ref C_NoObject) "__setattr__" = some (some (.builtin "object.__setattr__"))) (ga_NoObject : PySem.W.findIn K (.ref C_NoObject) "__getattribute__" = some (some (.builtin "BaseException.__getattribute__"))) (gg_NoObject : PySem.W.findIn K (.ref C_NoObject) "__getattr__" = some none) (nf_NoObject : PySem.W.findIn K (.ref C_NoObject) "cell" = some none)
    (eC_NoObject : PySem.W.subIn K (.ref C_NoObject) (.type "BaseException") = some true) (tC_NoObject : PySem.W.typeIn K (.ref C_NoObject) = some (.type "type")) (kC_NoObject : PySem.W.keepIn K (.ref C_NoObject) = true) (hd_NoObject : PySem.W.hasDictIn K C_NoObject = true) (ha_NoObject : PySem.W.findIn K (.ref C_NoObject) "__class__" = some (some (.builtin "object.__class__"))) (hm_NoObject : PySem.W.mroIn K C_NoObject (.type "object") = some true)
    (iC_NoObject : PySem.W.findIn K (.ref C_NoObject) "__init__" = some (some (.ref f_NoObject))) (tI_NoObject : PySem.W.typeIn K (.ref f_NoObject) = some (.type "function")) (il_NoObject : K.lookup f_NoObject = some ⟨ioc_NoObject, iod_NoObject, .func (PySem.W.fnOf "__init__" "NoObject.__init__" (defArgs s_NoObject_init) (defBody s_NoObject_init) (defScope s_NoObject_init) .none ikV_NoObject idc_NoObject ipm_NoObject ian_NoObject icd_NoObject ict_NoObject), isl_NoObject⟩) (ic_NoObject : PySem.W.codeIn K icd_NoObject "NoObject.__init__" = true) (ik_NoObject : PySem.W.keepIn K (.ref f_NoObject) = true)
    (ghn : PySem.W.specialIn K (.builtin "object.__class__") "__get__" = some (some (.builtin "getset_descriptor.__get__"))) (ght : PySem.W.takesIn K (.builtin "object.__class__") = some true)
    (sb_BadText_BadText : PySem.W.subIn K (.ref C_BadText) (.ref C_BadText) = some true)
    (sb_BadText_ValueError : PySem.W.subIn K (.ref C_BadText) (.type "ValueError") = some true)
    (sb_BadText_BadLine : PySem.W.subIn K (.ref C_BadText) (.ref C_BadLine) = some false)
    (sb_BadText_NoObject : PySem.W.subIn K (.ref C_BadText) (.ref C_NoObject) = some false)
    {tk_DIGITS : Tok} (u_DIGITS : PySem.W.nsIn K mainGlobals "DIGITS" = some (some (Value.str "0123456789" tk_DIGITS))) {tk_EMPTY : Tok} (u_EMPTY : PySem.W.nsIn K mainGlobals "EMPTY" = some (some (Value.str "-" tk_EMPTY))) {tk_UNKNOWN : Tok} (u_UNKNOWN : PySem.W.nsIn K mainGlobals "UNKNOWN" = some (some (Value.str "?" tk_UNKNOWN))) :
    ∃ fd : FuncData, (∀ (s : Shared) (v : Value), BindsTo s fd ⟨[v], []⟩ [("_law_script", v)]) ∧ ∀ base : Heap, K.In base → base.Ns mainGlobals mg → FnOkG l.prog w K mg base lawLevel fa fd ["_law_script"] (spLaw K) := by
  have e := hfa.symm.trans (PySem.W.mg_of X G a30)
  cases e
  have D8 : Df K mg "number_in" s_number_in ["word", "most_digits"] _ _ := ⟨fun_mk (st := s_number_in) l8 c8 k8, (fun_mk (st := s_number_in) l8 c8 k8).binds (ps := ["word", "most_digits"]) fun _ _ _ _ _ _ us hl => match us, hl with | [_, _], _ => rfl, PySem.W.mg_of X G a8⟩
  have D9 : Df K mg "cell_in" s_cell_in ["word", "size"] _ _ := ⟨fun_mk (st := s_cell_in) l9 c9 k9, (fun_mk (st := s_cell_in) l9 c9 k9).binds (ps := ["word", "size"]) fun _ _ _ _ _ _ us hl => match us, hl with | [_, _], _ => rfl, PySem.W.mg_of X G a9⟩
  have D10 : Df K mg "entry_text" s_entry_text ["entry"] _ _ := ⟨fun_mk (st := s_entry_text) l10 c10 k10, (fun_mk (st := s_entry_text) l10 c10 k10).binds (ps := ["entry"]) fun _ _ _ _ _ _ us hl => match us, hl with | [_], _ => rfl, PySem.W.mg_of X G a10⟩
  have D11 : Df K mg "table_text" s_table_text ["table"] _ _ := ⟨fun_mk (st := s_table_text) l11 c11 k11, (fun_mk (st := s_table_text) l11 c11 k11).binds (ps := ["table"]) fun _ _ _ _ _ _ us hl => match us, hl with | [_], _ => rfl, PySem.W.mg_of X G a11⟩
  have D12 : Df K mg "table_in" s_table_in ["text"] _ _ := ⟨fun_mk (st := s_table_in) l12 c12 k12, (fun_mk (st := s_table_in) l12 c12 k12).binds (ps := ["text"]) fun _ _ _ _ _ _ us hl => match us, hl with | [_], _ => rfl, PySem.W.mg_of X G a12⟩
  have D14 : Df K mg "_law_source" s_law_source ["_law_script", "_law_index"] _ _ := ⟨fun_mk (st := s_law_source) l14 c14 k14, (fun_mk (st := s_law_source) l14 c14 k14).binds (ps := ["_law_script", "_law_index"]) fun _ _ _ _ _ _ us hl => match us, hl with | [_, _], _ => rfl, PySem.W.mg_of X G a14⟩
  have D15 : Df K mg "_law_draw" s_law_draw ["_law_source_here", "_law_bound"] _ _ := ⟨fun_mk (st := s_law_draw) l15 c15 k15, (fun_mk (st := s_law_draw) l15 c15 k15).binds (ps := ["_law_source_here", "_law_bound"]) fun _ _ _ _ _ _ us hl => match us, hl with | [_, _], _ => rfl, PySem.W.mg_of X G a15⟩
  have D16 : Df K mg "_law_choice" s_law_choice ["_law_source_here", "_law_row_here"] _ _ := ⟨fun_mk (st := s_law_choice) l16 c16 k16, (fun_mk (st := s_law_choice) l16 c16 k16).binds (ps := ["_law_source_here", "_law_row_here"]) fun _ _ _ _ _ _ us hl => match us, hl with | [_, _], _ => rfl, PySem.W.mg_of X G a16⟩
  have D17 : Df K mg "_law_equal" s_law_equal ["_law_found", "_law_due"] _ _ := ⟨fun_mk (st := s_law_equal) l17 c17 k17, (fun_mk (st := s_law_equal) l17 c17 k17).binds (ps := ["_law_found", "_law_due"]) fun _ _ _ _ _ _ us hl => match us, hl with | [_, _], _ => rfl, PySem.W.mg_of X G a17⟩
  have D18 : Df K mg "_law_decimal" s_law_decimal ["_law_word"] _ _ := ⟨fun_mk (st := s_law_decimal) l18 c18 k18, (fun_mk (st := s_law_decimal) l18 c18 k18).binds (ps := ["_law_word"]) fun _ _ _ _ _ _ us hl => match us, hl with | [_], _ => rfl, PySem.W.mg_of X G a18⟩
  have D19 : Df K mg "_law_text_changed" s_law_text_changed ["_law_source_here", "_law_words"] _ _ := ⟨fun_mk (st := s_law_text_changed) l19 c19 k19, (fun_mk (st := s_law_text_changed) l19 c19 k19).binds (ps := ["_law_source_here", "_law_words"]) fun _ _ _ _ _ _ us hl => match us, hl with | [_, _], _ => rfl, PySem.W.mg_of X G a19⟩
  have D20 : Df K mg "_law_fill" s_law_fill ["_law_width", "_law_hopes_here"] _ _ := ⟨fun_mk (st := s_law_fill) l20 c20 k20, (fun_mk (st := s_law_fill) l20 c20 k20).binds (ps := ["_law_width", "_law_hopes_here"]) fun _ _ _ _ _ _ us hl => match us, hl with | [_, _], _ => rfl, PySem.W.mg_of X G a20⟩
  have D21 : Df K mg "_law_hopes" s_law_hopes ["_law_source_here", "_law_width"] _ _ := ⟨fun_mk (st := s_law_hopes) l21 c21 k21, (fun_mk (st := s_law_hopes) l21 c21 k21).binds (ps := ["_law_source_here", "_law_width"]) fun _ _ _ _ _ _ us hl => match us, hl with | [_, _], _ => rfl, PySem.W.mg_of X G a21⟩
  have D22 : Df K mg "_law_veiled" s_law_veiled ["_law_source_here", "_law_shelf"] _ _ := ⟨fun_mk (st := s_law_veiled) l22 c22 k22, (fun_mk (st := s_law_veiled) l22 c22 k22).binds (ps := ["_law_source_here", "_law_shelf"]) fun _ _ _ _ _ _ us hl => match us, hl with | [_, _], _ => rfl, PySem.W.mg_of X G a22⟩
  have D23 : Df K mg "_law_case" s_law_case ["_law_source_here", "_law_most"] _ _ := ⟨fun_mk (st := s_law_case) l23 c23 k23, (fun_mk (st := s_law_case) l23 c23 k23).binds (ps := ["_law_source_here", "_law_most"]) fun _ _ _ _ _ _ us hl => match us, hl with | [_, _], _ => rfl, PySem.W.mg_of X G a23⟩
  have D24 : Df K mg "_law_spoiled" s_law_spoiled ["_law_source_here", "_law_shelf"] _ _ := ⟨fun_mk (st := s_law_spoiled) l24 c24 k24, (fun_mk (st := s_law_spoiled) l24 c24 k24).binds (ps := ["_law_source_here", "_law_shelf"]) fun _ _ _ _ _ _ us hl => match us, hl with | [_, _], _ => rfl, PySem.W.mg_of X G a24⟩
  have D25 : Df K mg "_law_any" s_law_any ["_law_source_here", "_law_most"] _ _ := ⟨fun_mk (st := s_law_any) l25 c25 k25, (fun_mk (st := s_law_any) l25 c25 k25).binds (ps := ["_law_source_here", "_law_most"]) fun _ _ _ _ _ _ us hl => match us, hl with | [_, _], _ => rfl, PySem.W.mg_of X G a25⟩
  have D26 : Df K mg "_law_written" s_law_written ["_law_shelf"] _ _ := ⟨fun_mk (st := s_law_written) l26 c26 k26, (fun_mk (st := s_law_written) l26 c26 k26).binds (ps := ["_law_shelf"]) fun _ _ _ _ _ _ us hl => match us, hl with | [_], _ => rfl, PySem.W.mg_of X G a26⟩
  have D27 : Df K mg "_law_read" s_law_read ["_law_words"] _ _ := ⟨fun_mk (st := s_law_read) l27 c27 k27, (fun_mk (st := s_law_read) l27 c27 k27).binds (ps := ["_law_words"]) fun _ _ _ _ _ _ us hl => match us, hl with | [_], _ => rfl, PySem.W.mg_of X G a27⟩
  have D28 : Df K mg "_law_told" s_law_told ["_law_words"] _ _ := ⟨fun_mk (st := s_law_told) l28 c28 k28, (fun_mk (st := s_law_told) l28 c28 k28).binds (ps := ["_law_words"]) fun _ _ _ _ _ _ us hl => match us, hl with | [_], _ => rfl, PySem.W.mg_of X G a28⟩
  have D29 : Df K mg "_law_holds" s_law_holds ["_law_source_here"] _ _ := ⟨fun_mk (st := s_law_holds) l29 c29 k29, (fun_mk (st := s_law_holds) l29 c29 k29).binds (ps := ["_law_source_here"]) fun _ _ _ _ _ _ us hl => match us, hl with | [_], _ => rfl, PySem.W.mg_of X G a29⟩
  have D30 : Df K mg "law" s_law ["_law_script"] _ _ := ⟨fun_mk (st := s_law) l30 c30 k30, (fun_mk (st := s_law) l30 c30 k30).binds (ps := ["_law_script"]) fun _ _ _ _ _ _ us hl => match us, hl with | [_], _ => rfl, PySem.W.mg_of X G a30⟩
  have T : Bt mg := ⟨PySem.W.mg_none_of X G z_LookupError, PySem.W.mg_none_of X G z_ValueError, PySem.W.mg_none_of X G z_abs, PySem.W.mg_none_of X G z_all, PySem.W.mg_none_of X G z_bool, PySem.W.mg_none_of X G z_enumerate, PySem.W.mg_none_of X G z_int, PySem.W.mg_none_of X G z_isinstance, PySem.W.mg_none_of X G z_len, PySem.W.mg_none_of X G z_list, PySem.W.mg_none_of X G z_max, PySem.W.mg_none_of X G z_min, PySem.W.mg_none_of X G z_range, PySem.W.mg_none_of X G z_str, PySem.W.mg_none_of X G z_tuple, PySem.W.mg_none_of X G z_zip, ⟨_, PySem.W.mg_of X G u_DIGITS⟩, ⟨_, PySem.W.mg_of X G u_EMPTY⟩, ⟨_, PySem.W.mg_of X G u_UNKNOWN⟩⟩
  let R : Er K mg := {
    C_BadText := C_BadText
    f_BadText := f_BadText
    fd_BadText := _
    E_BadText := ⟨PySem.W.mg_of X G aC_BadText, ⟨⟨_, _, _, _, _, _, _, _, _, _, _, _, _, _, xL_BadText⟩, sa_BadText, eC_BadText, tC_BadText, kC_BadText⟩, nf_BadText, ga_BadText, gg_BadText, hd_BadText, ha_BadText, hm_BadText, ghn, ght⟩
    I_BadText := ⟨iC_BadText, tI_BadText, fun_mk (st := s_BadText_init) il_BadText ic_BadText ik_BadText, (fun_mk (st := s_BadText_init) il_BadText ic_BadText ik_BadText).binds (ps := ["self", "entry"]) fun _ _ _ _ _ _ us hl => match us, hl with | [_, _], _ => rfl⟩
    C_BadLine := C_BadLine
    f_BadLine := f_BadLine
    fd_BadLine := _
    E_BadLine := ⟨PySem.W.mg_of X G aC_BadLine, ⟨⟨_, _, _, _, _, _, _, _, _, _, _, _, _, _, xL_BadLine⟩, sa_BadLine, eC_BadLine, tC_BadLine, kC_BadLine⟩, nf_BadLine, ga_BadLine, gg_BadLine, hd_BadLine, ha_BadLine, hm_BadLine, ghn, ght⟩
    I_BadLine := ⟨iC_BadLine, tI_BadLine, fun_mk (st := s_BadLine_init) il_BadLine ic_BadLine ik_BadLine, (fun_mk (st := s_BadLine_init) il_BadLine ic_BadLine ik_BadLine).binds (ps := ["self", "line"]) fun _ _ _ _ _ _ us hl => match us, hl with | [_, _], _ => rfl⟩
    C_NoObject := C_NoObject
    f_NoObject := f_NoObject
    fd_NoObject := _
    E_NoObject := ⟨PySem.W.mg_of X G aC_NoObject, ⟨⟨_, _, _, _, _, _, _, _, _, _, _, _, _, _, xL_NoObject⟩, sa_NoObject, eC_NoObject, tC_NoObject, kC_NoObject⟩, nf_NoObject, ga_NoObject, gg_NoObject, hd_NoObject, ha_NoObject, hm_NoObject, ghn, ght⟩
    I_NoObject := ⟨iC_NoObject, tI_NoObject, fun_mk (st := s_NoObject_init) il_NoObject ic_NoObject ik_NoObject, (fun_mk (st := s_NoObject_init) il_NoObject ic_NoObject ik_NoObject).binds (ps := ["self", "cell"]) fun _ _ _ _ _ _ us hl => match us, hl with | [_, _], _ => rfl⟩
    k_BadText_BadText := kit_own hd_BadText tC_BadText sb_BadText_BadText sb_BadText_BadText
    k_BadText_ValueError := kit_bt (by decide +kernel) sb_BadText_ValueError
    k_BadText_BadLine := kit_own hd_BadLine tC_BadLine sb_BadText_BadLine sb_BadText_BadText
    k_BadText_NoObject := kit_own hd_NoObject tC_NoObject sb_BadText_NoObject sb_BadText_BadText
    x0_BadText := (exmAny_c (exm_own eC_BadLine hd_BadLine tC_BadLine sb_BadText_BadLine) (exmAny_c (exm_own eC_BadText hd_BadText tC_BadText sb_BadText_BadText) (exmAny_c (exm_own eC_NoObject hd_NoObject tC_NoObject sb_BadText_NoObject) exmAny_nil)))
  }
  exact ⟨PySem.W.fnOf "law" "law" (defArgs s_law) (defBody s_law) (defScope s_law) .none kV30 dc30 pm30 an30 cd30 ct30, fun s v => .of_eq rfl, fun base _ _ => fin T R D8 D9 D10 D11 D12 D14 D15 D16 D17 D18 D19 D20 D21 D22 D23 D24 D25 D26 D27 D28 D29 D30⟩

end NS
open PySem PySem.W PyProof.Rows
set_option maxRecDepth 100000 in
set_option maxHeartbeats 0 in
theorem PySem.Challenge.cw_nearslot_k39_texts_of_tables_holds : PySem.Challenge.rw_nearslot_k39_texts_of_tables.Holds := by
  w_on; o_law; k_head; (case hw => w_witness2)
  k_fill
  refine NS.walkG (l := PySem.Challenge.rw_nearslot_k39_texts_of_tables) (n := 63) (k := NS.lawLevel) (x := "_law_script") (sp := fun w => NS.spLaw _) rfl (by decide) rfl ⟨rfl, by decide, by decide⟩ (fun w h Y => PySem.W.kIn_of Y) ?F NS.lawStart
  case F =>
    intro w mg fa h KX G hmg
    refine' NS.all_mk KX G hmg ?a8 ?l8 ?c8 ?k8 ?a9 ?l9 ?c9 ?k9 ?a10 ?l10 ?c10 ?k10 ?a11 ?l11 ?c11 ?k11 ?a12 ?l12 ?c12 ?k12 ?a14 ?l14 ?c14 ?k14 ?a15 ?l15 ?c15 ?k15 ?a16 ?l16 ?c16 ?k16 ?a17 ?l17 ?c17 ?k17 ?a18 ?l18 ?c18 ?k18 ?a19 ?l19 ?c19 ?k19 ?a20 ?l20 ?c20 ?k20 ?a21 ?l21 ?c21 ?k21 ?a22 ?l22 ?c22 ?k22 ?a23 ?l23 ?c23 ?k23 ?a24 ?l24 ?c24 ?k24 ?a25 ?l25 ?c25 ?k25 ?a26 ?l26 ?c26 ?k26 ?a27 ?l27 ?c27 ?k27 ?a28 ?l28 ?c28 ?k28 ?a29 ?l29 ?c29 ?k29 ?a30 ?l30 ?c30 ?k30 ?z_LookupError ?z_ValueError ?z_abs ?z_all ?z_bool ?z_enumerate ?z_int ?z_isinstance ?z_len ?z_list ?z_max ?z_min ?z_range ?z_str ?z_tuple ?z_zip ?aC_BadText ?xL_BadText ?sa_BadText ?ga_BadText ?gg_BadText ?nf_BadText ?eC_BadText ?tC_BadText ?kC_BadText ?hd_BadText ?ha_BadText ?hm_BadText ?iC_BadText ?tI_BadText ?il_BadText ?ic_BadText ?ik_BadText ?aC_BadLine ?xL_BadLine ?sa_BadLine ?ga_BadLine ?gg_BadLine ?nf_BadLine ?eC_BadLine ?tC_BadLine ?kC_BadLine ?hd_BadLine ?ha_BadLine ?hm_BadLine ?iC_BadLine ?tI_BadLine ?il_BadLine ?ic_BadLine ?ik_BadLine ?aC_NoObject ?xL_NoObject ?sa_NoObject ?ga_NoObject ?gg_NoObject ?nf_NoObject ?eC_NoObject ?tC_NoObject ?kC_NoObject ?hd_NoObject ?ha_NoObject ?hm_NoObject ?iC_NoObject ?tI_NoObject ?il_NoObject ?ic_NoObject ?ik_NoObject ?ghn ?ght ?sb_BadText_BadText ?sb_BadText_ValueError ?sb_BadText_BadLine ?sb_BadText_NoObject ?u_DIGITS ?u_EMPTY ?u_UNKNOWN
    (case a8 => k_is); (case l8 => k_is); (case c8 => k_is); (case k8 => k_is)
    (case a9 => k_is); (case l9 => k_is); (case c9 => k_is); (case k9 => k_is)
    (case a10 => k_is); (case l10 => k_is); (case c10 => k_is); (case k10 => k_is)
    (case a11 => k_is); (case l11 => k_is); (case c11 => k_is); (case k11 => k_is)
    (case a12 => k_is); (case l12 => k_is); (case c12 => k_is); (case k12 => k_is)
    (case a14 => k_is); (case l14 => k_is); (case c14 => k_is); (case k14 => k_is)
    (case a15 => k_is); (case l15 => k_is); (case c15 => k_is); (case k15 => k_is)
    (case a16 => k_is); (case l16 => k_is); (case c16 => k_is); (case k16 => k_is)
    (case a17 => k_is); (case l17 => k_is); (case c17 => k_is); (case k17 => k_is)
    (case a18 => k_is); (case l18 => k_is); (case c18 => k_is); (case k18 => k_is)
    (case a19 => k_is); (case l19 => k_is); (case c19 => k_is); (case k19 => k_is)
    (case a20 => k_is); (case l20 => k_is); (case c20 => k_is); (case k20 => k_is)
    (case a21 => k_is); (case l21 => k_is); (case c21 => k_is); (case k21 => k_is)
    (case a22 => k_is); (case l22 => k_is); (case c22 => k_is); (case k22 => k_is)
    (case a23 => k_is); (case l23 => k_is); (case c23 => k_is); (case k23 => k_is)
    (case a24 => k_is); (case l24 => k_is); (case c24 => k_is); (case k24 => k_is)
    (case a25 => k_is); (case l25 => k_is); (case c25 => k_is); (case k25 => k_is)
    (case a26 => k_is); (case l26 => k_is); (case c26 => k_is); (case k26 => k_is)
    (case a27 => k_is); (case l27 => k_is); (case c27 => k_is); (case k27 => k_is)
    (case a28 => k_is); (case l28 => k_is); (case c28 => k_is); (case k28 => k_is)
    (case a29 => k_is); (case l29 => k_is); (case c29 => k_is); (case k29 => k_is)
    (case a30 => k_is); (case l30 => k_is); (case c30 => k_is); (case k30 => k_is)
    (case aC_BadText => k_is); (case xL_BadText => k_is); (case sa_BadText => k_is); (case ga_BadText => k_is); (case gg_BadText => k_is); (case nf_BadText => k_is); (case eC_BadText => k_is); (case tC_BadText => k_is); (case kC_BadText => k_is); (case hd_BadText => k_is); (case ha_BadText => k_is); (case hm_BadText => k_is); (case iC_BadText => k_is); (case tI_BadText => k_is); (case il_BadText => k_is); (case ic_BadText => k_is); (case ik_BadText => k_is)
    (case aC_BadLine => k_is); (case xL_BadLine => k_is); (case sa_BadLine => k_is); (case ga_BadLine => k_is); (case gg_BadLine => k_is); (case nf_BadLine => k_is); (case eC_BadLine => k_is); (case tC_BadLine => k_is); (case kC_BadLine => k_is); (case hd_BadLine => k_is); (case ha_BadLine => k_is); (case hm_BadLine => k_is); (case iC_BadLine => k_is); (case tI_BadLine => k_is); (case il_BadLine => k_is); (case ic_BadLine => k_is); (case ik_BadLine => k_is)
    (case aC_NoObject => k_is); (case xL_NoObject => k_is); (case sa_NoObject => k_is); (case ga_NoObject => k_is); (case gg_NoObject => k_is); (case nf_NoObject => k_is); (case eC_NoObject => k_is); (case tC_NoObject => k_is); (case kC_NoObject => k_is); (case hd_NoObject => k_is); (case ha_NoObject => k_is); (case hm_NoObject => k_is); (case iC_NoObject => k_is); (case tI_NoObject => k_is); (case il_NoObject => k_is); (case ic_NoObject => k_is); (case ik_NoObject => k_is)
    (case ghn => k_is); (case ght => k_is)
    (case sb_BadText_BadText => first | rfl | k_is)
    (case sb_BadText_ValueError => first | rfl | k_is)
    (case sb_BadText_BadLine => first | rfl | k_is)
    (case sb_BadText_NoObject => first | rfl | k_is)
    (case z_LookupError => k_is)
    (case z_ValueError => k_is)
    (case z_abs => k_is)
    (case z_all => k_is)
    (case z_bool => k_is)
    (case z_enumerate => k_is)
    (case z_int => k_is)
    (case z_isinstance => k_is)
    (case z_len => k_is)
    (case z_list => k_is)
    (case z_max => k_is)
    (case z_min => k_is)
    (case z_range => k_is)
    (case z_str => k_is)
    (case z_tuple => k_is)
    (case z_zip => k_is)
    (case u_DIGITS => k_is)
    (case u_EMPTY => k_is)
    (case u_UNKNOWN => k_is)

