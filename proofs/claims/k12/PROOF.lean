import PyProof.Rows.All
import Wide.All
import OpenK.AllK
import Wide.FinOn
import HandS.Wide
import HandS.Base
import HandS.Call
import HandS.List
import HandS.Comp
import HandS.Ends
import HandS.Dict
import HandS.Iter
import HandS.Text
import HandS.Words
import HandS.Codes
import HandS.Defaults
import HandS.IsInst
import HandS.MakeKwOnly
import HandS.DictComp
import HandS.DictEq
import HandS.More
import HandS.Conv
import HandS.FStr
import HandS.Style
import KE.KDictZip
import KE.KFmtOwn
import HandS.Walk
import HandS.Lambda
import HandS.Deep
import HandS.WordsDict
import KE.GoesMore
import PyProof.EnumMake
import KE.SortData
import HandS.Zip
import HandS.WideBits
import HandS.TupLe
import KE.DataMinMax
import HandS.SetKeys
import HandS.Strs
import HandS.SetFor
import PyProof.Rows.SetFrom
import PyProof.DictUpdate
import PyProof.DictDisplay
import HandS.SetBool
import PyProof.ReprRoads
import KE.GoesZip
import HandS.Star
import HandS.Exc
import HandS.ExcOwn
import HandS.TryMany
import HandS.ExcCtx
import HandS.ExcField
import HandS.HotCalls
import HandS.ClsMeth
import HandS.ExcInit
import KE.KExcInit
import PyProof.ExcFactsAll.LookupError
import PyProof.ExcFactsAll.IndexError
import HandS.WordsExc
import PyProof.StrLawsRepr
import HandS.SortKw
import HandS.ListItems
import HandS.TupSets
import HandS.Flow
import HandS.EndTab
import HandS.NestedK
import HandS.TupAny
import PySem.Challenge.RW_raisekeys_k12_tiles_of_orders
set_option Elab.async false
set_option linter.all false
set_option maxRecDepth 100000
set_option maxHeartbeats 4000000
namespace RK
open PySem PySem.Spec PyProof.Rows L2
theorem same_new {H : Hp} {p : Addr} (h : H p = none) (o : HO) : Same H (upd H p o) := fun b u q => by rw [upd_ne (ne_of_none q h)]; exact q
def Keep (b : Addr) (H H' : Hp) : Prop := ∀ a o, a ≠ b → H a = some o → H' a = some o
theorem Keep.refl (b : Addr) (H : Hp) : Keep b H H := fun _ _ _ h => h
theorem Keep.trans {b : Addr} {H H1 H2 : Hp} (a : Keep b H H1) (c : Keep b H1 H2) : Keep b H H2 := fun x o n h => c x o n (a x o n h)
theorem Keep.of {b : Addr} {H H1 : Hp} (a : Same H H1) : Keep b H H1 := fun x o _ h => a x o h
theorem Keep.upd {b : Addr} {H H1 : Hp} {o : HO} (a : Keep b H H1) : Keep b H (upd H1 b o) := fun x u n h => by rw [upd_ne n]; exact a x u n h
theorem Keep.tup {b t : Addr} {H H1 : Hp} {xs ys : List V} (k : Keep b H H1) (hb : H b = some (.lst ys)) (h : H t = some (.tup xs)) : H1 t = some (.tup xs) := k t _ (ne_of h hb (by intro z; cases z)) h
theorem Keep.dK {b t : Addr} {H H1 : Hp} {xs : List (Key × V)} {ys : List V} (k : Keep b H H1) (hb : H b = some (.lst ys)) (h : H t = some (.dK xs)) : H1 t = some (.dK xs) := k t _ (ne_of h hb (by intro z; cases z)) h
theorem Keep.free {b l : Addr} {H H1 : Hp} (k : Keep b H H1) (n : l ≠ b) (h : H1 l = none) : H l = none := by
  cases q : H l with
  | none => rfl
  | some o =>
    rw [k l o n q] at h
    cases h
structure BagC (H : Hp) (b s : Addr) (ns : List Int) (i : Nat) (big salt : Int) : Prop where
  hb : H b = some (.lst [.ref s, .int i, .int big, .int salt])
  hs : H s = some (.lst (ns.map V.int))
  ne : s ≠ b
  hi : i ≤ ns.length
  hn : ns.length ≤ 63
  h0 : 0 ≤ big
  h1 : 0 ≤ salt
  h2 : salt < 2147483647
def Bag (b s : Addr) (H : Hp) : Prop := ∃ ns i big salt, BagC H b s ns i big salt
theorem Bag.hb {b s : Addr} {H : Hp} (B : Bag b s H) : ∃ ys, H b = some (.lst ys) := by
  obtain ⟨ns, i, big, salt, B⟩ := B
  exact ⟨_, B.hb⟩
theorem Bag.hs {b s : Addr} {H : Hp} (B : Bag b s H) : ∃ ys, H s = some (.lst ys) := by
  obtain ⟨ns, i, big, salt, B⟩ := B
  exact ⟨_, B.hs⟩
theorem Bag.ne {b s : Addr} {H : Hp} (B : Bag b s H) : s ≠ b := by
  obtain ⟨ns, i, big, salt, B⟩ := B
  exact B.ne
theorem Bag.same {b s : Addr} {H H1 : Hp} (B : Bag b s H) (e : Same H H1) : Bag b s H1 := by
  obtain ⟨ns, i, big, salt, B⟩ := B
  exact ⟨ns, i, big, salt, e _ _ B.hb, e _ _ B.hs, B.ne, B.hi, B.hn, B.h0, B.h1, B.h2⟩
theorem Bag.new {b s p : Addr} {H : Hp} {o : HO} (B : Bag b s H) (h : H p = none) : Bag b s (upd H p o) := B.same (same_new h o)
theorem Bag.upd {b s p : Addr} {H : Hp} {o : HO} (B : Bag b s H) (h1 : p ≠ b) (h2 : p ≠ s) : Bag b s (upd H p o) := by
  obtain ⟨ns, i, big, salt, B⟩ := B
  exact ⟨ns, i, big, salt, by rw [upd_ne h1.symm]; exact B.hb, by rw [upd_ne h2.symm]; exact B.hs, B.ne, B.hi, B.hn, B.h0, B.h1, B.h2⟩
theorem Keep.of_tup {b s t : Addr} {H H1 : Hp} {xs : List V} (k : Keep b H H1) (B : Bag b s H) (h : H t = some (.tup xs)) : H1 t = some (.tup xs) := by
  obtain ⟨ys, hb⟩ := B.hb
  exact k.tup hb h
theorem sz {n : Nat} (h : n ≤ 1000) : n ≤ sizeLine := Nat.le_of_lt (small1000 h)
def spBag (K : PySem.W.Frag) : Sp := fun vs H Q _ => ∃ (a : Addr) (ns : List Int), vs = [.ref a] ∧ SqL K H a (ns.map V.int) ∧ ns.length ≤ 63 ∧ ∀ H' b s, Same H H' → H b = none → H s = none → Bag b s H' → Q (.ref b) H'
theorem cdivw {n : Int} (h1 : 1 ≤ n) (h2 : n ≤ 10000000000000000000000000000000000000000) : CDivW 0 n := by
  refine ⟨by omega, ?_⟩
  have h3 : n.natAbs < 2 ^ 200 := by
    have e : (2 : Nat) ^ 200 = 1606938044258990275541962092341162602522202993782792835301376 := by decide +kernel
    rw [e]
    omega
  have := (Nat.log2_lt (by omega)).mpr h3
  omega
def NoT (H H' : Hp) : Prop := ∀ a ps, H' a = some (.tbl ps) → ∃ qs, H a = some (.tbl qs)
def Ntb : HO → Prop
  | .tbl _ => False
  | _ => True
theorem noT_upd {H : Hp} {p : Addr} {o : HO} (n : Ntb o) : NoT H (upd H p o) := fun a ps h => by
  by_cases e : a = p
  · rw [e, upd_same] at h
    cases h
    exact n.elim
  · rw [upd_ne e] at h
    exact ⟨_, h⟩
structure KeepT (b : Addr) (H H' : Hp) : Prop where
  f : Keep b H H'
  n : NoT H H'
theorem KeepT.refl (b : Addr) (H : Hp) : KeepT b H H := ⟨Keep.refl b H, fun _ _ z => ⟨_, z⟩⟩
theorem KeepT.upd {b : Addr} {H H1 : Hp} {xs : List V} (k : KeepT b H H1) : KeepT b H (upd H1 b (.lst xs)) := ⟨k.f.upd, fun a ps h => let ⟨qs, q⟩ := noT_upd (o := .lst xs) True.intro a ps h; k.n a qs q⟩
def spPull : Sp := fun vs H Q _ => ∃ (b s : Addr) (n : Int), vs = [.ref b, .int n] ∧ Bag b s H ∧ 1 ≤ n ∧ n ≤ 10000000000000000000000000000000000000000 ∧ ∀ r H', 0 ≤ r → r < n → KeepT b H H' → Bag b s H' → Q (.int r) H'
theorem cut63 (ns : List Int) (h : ns.length ≤ 63) : cutV (ns.map V.int) none (some 63) = ns.map V.int := by
  unfold cutV
  rw [HT.sIx_none, show HT.sIx (ns.map V.int).length (ns.map V.int).length (some 63) = min 63 (ns.map V.int).length from HT.sIx_nat _ _ 63]
  rw [List.drop_zero, List.length_map]
  exact List.take_of_length_le (by rw [List.length_map]; omega)
theorem at0 {α : Type} {x : α} {xs : List α} : atI (x :: xs) 0 = some x := atI_nat (j := 0) rfl
theorem at1 {α : Type} {x y : α} {xs : List α} : atI (x :: y :: xs) 1 = some y := atI_nat (j := 1) rfl
theorem at2 {α : Type} {x y z : α} {xs : List α} : atI (x :: y :: z :: xs) 2 = some z := atI_nat (j := 2) rfl
theorem at3 {α : Type} {x y z w : α} {xs : List α} : atI (x :: y :: z :: w :: xs) 3 = some w := atI_nat (j := 3) rfl
section
variable {X : Cx} {CX : CXT} {k : Nat} {f : Addr} {fd : FuncData} {ps ks : List Str} {sp : Sp} {E : XK} {x : Str} {p pos : Pos} {kws : List Keyword} {tk : TA} {g : List Value → List Value → List Value} {gV : List V → List V → List V}
theorem pe_callK0 (F : FnOk X.prog X.w X.K X.mg X.base CX k f fd ps sp) (hr : Room k X.A) (hg : Gl X x) (hm : X.mg x = some (.ref f)) (hk : PySem.W.keepIn X.K (.ref f) = true) (hb : KBinds X.K fd ps ks g gV) (hx : Passes CX X E) (hkw : PK X kws tk)
    (hall : (backToKw pos (keywordEach kws X.env)).all (·.1.isSome) = true := by rfl) (hks : (backToKw pos (keywordEach kws X.env)).filterMap (·.1) = ks := by rfl) (hdb : (x == ("__debug__" : Str)) = false := by decide)
    (hpl : ((backTo pos (starEach [] X.env)).any (·.1) || (backToKw pos (keywordEach kws X.env)).any (·.1.isNone)) = false := by rfl) :
    PE X (.Call (.Name x p) [] kws pos) (tCallK sp gV E tNil tk) := by
  refine ⟨fun pins s σ H Q I h => ?_⟩
  refine wpAny_Call_Name_kw (ld_glob I hg hm ?_ hdb)
  refine PySem.W.callWith_KW0 (h₀ := X.base) I.ok.mod.kin hk hall ?_ hpl
  refine thn (hkw.run pos pins s σ H _ I h) fun ws s2 ⟨zs, H2, I2, rz, q2⟩ => ⟨I2.kIn, ?_⟩
  rw [hks]
  exact run_fnk F hr hb hx I2 .nil rz q2
end
def rLenQ (K : PySem.W.Frag) : List V → Hp → VK → Prop := fun xs H Q => ∃ p ys, xs = [.ref p] ∧ (SqL K H p ys ∨ SqT K H p ys) ∧ Q (.int ys.length) H
theorem call_lenQ {X : Cx} : CallR X (.builtin "len") (rLenQ X.K) := call_len_seq
def rListQ (K : PySem.W.Frag) : List V → Hp → VK → Prop := fun xs H Q => ∃ p ys, xs = [.ref p] ∧ (SqL K H p ys ∨ SqT K H p ys) ∧ ∀ l, H l = none → Q (.ref l) (upd H l (.lst ys))
theorem call_listQ {X : Cx} : CallR X (.type "list") (rListQ X.K) := call_list_of
section
variable {K : PySem.W.Frag} {H H' : Hp}
theorem same_tup {a : Addr} {xs : List V} (e : Same H H') (h : SqT K H a xs) : SqT K H' a xs := by
  rcases h with (h | ⟨o, h⟩) | h
  · exact .inl (.inl (e _ _ h))
  · exact .inl (.inr ⟨o, e _ _ h⟩)
  · exact .inr h
mutual
theorem dp_same (e : Same H H') : ∀ {v : V} {d : PyData}, Dp K H v d → Dp K H' v d
  | _, _, .non => .non
  | _, _, .bl b => .bl b
  | _, _, .int i => .int i
  | _, _, .str x => .str x
  | _, _, .lst h a => .lst (e.seq h) (dpAll_same e a)
  | _, _, .tup h a => .tup (same_tup e h) (dpAll_same e a)
theorem dpAll_same (e : Same H H') : ∀ {vs : List V} {ds : List PyData}, DpAll K H vs ds → DpAll K H' vs ds
  | _, _, .nil => .nil
  | _, _, .cons h a => .cons (dp_same e h) (dpAll_same e a)
end
end
structure R where
  l : Int
  t : Int
  r : Int
  b : Int
def R.vs (p : R) : List V := [.int p.l, .int p.t, .int p.r, .int p.b]
def R.ds (p : R) : List PyData := [.int p.l, .int p.t, .int p.r, .int p.b]
def R.good (p : R) : Prop := -1000000000 ≤ p.l ∧ p.l ≤ 1000000000 ∧ -1000000000 ≤ p.t ∧ p.t ≤ 1000000000 ∧ -1000000000 ≤ p.r ∧ p.r ≤ 1000000000 ∧ -1000000000 ≤ p.b ∧ p.b ≤ 1000000000 ∧ p.l < p.r ∧ p.t < p.b
def R.has (p : R) (x y : Int) : Prop := p.l ≤ x ∧ x < p.r ∧ p.t ≤ y ∧ y < p.b
theorem R.dp {K : PySem.W.Frag} {H : Hp} (p : R) : DpAll K H p.vs p.ds := .cons (.int _) (.cons (.int _) (.cons (.int _) (.cons (.int _) .nil)))
end RK
namespace RK
open PySem PySem.Spec PyProof.Rows L2
section
variable {X : Cx}
inductive NotSub (K : PySem.W.Frag) (C : Addr) (H : Hp) : V → Prop
  | ins {a dx : Addr} {fs : List (Str × V)} : H a = some (.ins C dx fs) → NotSub K C H (.ref a)
  | dK {a : Addr} {kvs : List (Key × V)} : H a = some (.dK kvs) → PySem.W.subIn K (.type "dict") (.ref C) = some false → NotSub K C H (.ref a)
  | lst {a : Addr} {xs : List V} : H a = some (.lst xs) → PySem.W.subIn K (.type "list") (.ref C) = some false → NotSub K C H (.ref a)
end
theorem kit_me (K : PySem.W.Frag) (C : Addr) : PySem.W.kitOne K (.ref C) (.ref C) = some true := by
  unfold PySem.W.kitOne
  rw [if_pos (by simp)]
theorem kit_sub {K : PySem.W.Frag} {C : Addr} {n : String} (h1 : PySem.W.isClsIn K C = true) (h2 : PySem.W.typeIn K (.ref C) = some (.type "type")) (h3 : PySem.W.subIn K (.type n) (.ref C) = some false) : PySem.W.kitOne K (.type n) (.ref C) = some false := by
  unfold PySem.W.kitOne
  rw [if_neg (by simp)]
  show (if ((PySem.W.clsIn K C).isSome && PySem.W.typeIn K (.ref C) == some (.type "type")) = true then PySem.W.subIn K (.type n) (.ref C) else none) = some false
  have h1' : (PySem.W.clsIn K C).isSome = true := h1
  rw [h1', h2, if_pos (by simp)]
  exact h3
end RK
namespace RK
open PySem PySem.Spec PyProof.Rows L2
section
open PySem.W
variable {prog : Program} {w : World} {K : PySem.W.Frag} {A : Around} {E : Value → Shared → Prop} {s : Shared} {x C f : Addr} {ox : Obj} {od : Option Obj}
open Builtin in
end
section
variable {X : Cx}
end
section
variable {X : Cx} {CX : CXT} {k : Nat} {f C : Addr} {fd : FuncData} {ps ks : List Str} {sp : Sp} {E : XK} {m : Str} {pos apos : Pos} {o : Expr} {kws : List Keyword} {ta : TE} {tk : TA} {g : List Value → List Value → List Value} {gV : List V → List V → List V}
end
end RK
namespace RK
open PySem PySem.Spec PyProof.Rows L2
theorem str_len (z : Str) : z.length = z.cps.toList.length := by
  show z.cps.size = _
  simp
theorem app_codes (a b : Str) : (a ++ b).cps.toList = a.cps.toList ++ b.cps.toList := by
  show (a.cps ++ b.cps).toList = _
  simp
theorem cut_codes (z : Str) (lo hi : Option Int) : (cutS z lo hi).cps.toList = (z.cps.toList.drop (HT.sIx z.length 0 lo)).take (HT.sIx z.length z.length hi - HT.sIx z.length 0 lo) := by
  unfold cutS
  simp
def Low (c : Nat) : Prop := 97 ≤ c ∧ c ≤ 122
def NameOk (z : Str) : Prop := 1 ≤ z.length ∧ z.length ≤ 6 ∧ ∀ c ∈ z.cps.toList, Low c
abbrev abc : Str := "abcdefghijklmnopqrstuvwxyz"
theorem abc_codes : abc.cps.toList = List.range' 97 26 := by decide +kernel
theorem abc_len : abc.length = 26 := by rw [str_len, abc_codes]; rfl
theorem abc_mem {c : Nat} : c ∈ abc.cps.toList ↔ Low c := by
  rw [abc_codes, List.mem_range'_1]
  unfold Low
  omega
theorem one_len (c : Nat) : (⟨#[c]⟩ : Str).length = 1 := rfl
theorem mul_codes (c : Nat) : ∀ n : Nat, 1 ≤ n → ∃ k, (Txt.mul ⟨#[c]⟩ (n : Int)).cps.toList = List.replicate k c ∧ k = n := by
  intro n hn
  refine ⟨n, ?_, rfl⟩
  unfold Txt.mul
  rw [if_neg (by omega)]
  by_cases h1 : n = 1
  · subst h1
    rfl
  · have e1 : (((n : Int) == 1) || (⟨#[c]⟩ : Str).length == 0) = false := by
      have : ((n : Int) == 1) = false := by simp; omega
      rw [this]
      rfl
    rw [e1, if_neg (by decide)]
    show ((List.replicate (n : Int).toNat #[c]).foldl (· ++ ·) #[]).toList = _
    rw [Int.toNat_natCast]
    have key : ∀ (m : Nat) (acc : Array Nat), ((List.replicate m #[c]).foldl (· ++ ·) acc).toList = acc.toList ++ List.replicate m c := by
      intro m
      induction m with
      | zero => intro acc; simp
      | succ m ih =>
        intro acc
        rw [List.replicate_succ, List.foldl_cons, ih]
        simp [List.replicate_succ]
    rw [key]
    rfl
section
variable {X : Cx}
theorem op_mul_str : OpR X (binaryOp .Mult) (fun x y H Q => ∃ (c : Nat) (n : Int), x = .str ⟨#[c]⟩ ∧ y = .int n ∧ 1 ≤ n ∧ n ≤ 1000 ∧ Q (.str (Txt.mul ⟨#[c]⟩ n)) H) := by
  intro pins s σ H x y u v Q I rx ry h
  obtain ⟨c, n, rfl, rfl, h1, h2, q⟩ := h
  obtain ⟨t, rfl⟩ := rx
  obtain ⟨k, rfl⟩ := ry
  refine PySem.SB.mul (x := ⟨#[c]⟩) ⟨?_, ?_, ?_⟩ (fun t' k' => ⟨.str _, H, I.tok _, ⟨_, rfl⟩, q⟩)
  · rw [decide_eq_false (by omega), decide_eq_false (by omega)]
    rfl
  · intro _ _
    have : (1 : Int) ≤ (2 ^ 63 - 1) / n := by
      rw [Int.le_ediv_iff_mul_le (by omega)]
      omega
    show ¬ ((1 : Int) > _)
    omega
  · intro _ _
    show Builtin.Str.tooLong (1 * n.toNat) = false
    rw [Nat.one_mul]
    have hn : n.toNat ≤ 1000 := by omega
    unfold Builtin.Str.tooLong
    exact decide_eq_false (by
      have : (1000 : Nat) ≤ sizeLine := by decide
      omega)
end
def leS (a b : Str) : Prop := ¬ b.cps.toList < a.cps.toList
theorem leS_trans {a b c : Str} (h1 : leS a b) (h2 : leS b c) : leS a c := List.not_lt.mpr (List.le_trans (List.not_lt.mp h1) (List.not_lt.mp h2))
theorem rising_of : ∀ (r : List Str) (p : Str), risingS p r = true → (p :: r).Pairwise leS
  | [], p, _ => List.pairwise_singleton _ _
  | x :: r, p, h => by
    have h : (!ltCps x.cps.toList p.cps.toList && risingS x r) = true := h
    rw [Bool.and_eq_true] at h
    have ih := rising_of r x h.2
    have h1 : leS p x := by
      have h0 := h.1
      rw [ltCps_eq] at h0
      simpa [leS] using h0
    refine List.pairwise_cons.mpr ⟨fun y hy => ?_, ih⟩
    rcases List.mem_cons.mp hy with rfl | hy
    · exact h1
    · exact leS_trans h1 ((List.pairwise_cons.mp ih).1 y hy)
theorem sorted_of {l : List Str} (h : sortedS l = true) : l.Pairwise leS := by
  cases l with
  | nil => exact List.Pairwise.nil
  | cons x r => exact rising_of r x h
end RK
namespace RK
open PySem PySem.Spec PyProof.Rows L2
abbrev W3 := Str × Addr × R
def kvOf (w : W3) : Key × V := (Sum.inr w.1, .ref w.2.1)
def putW (ws : List W3) (w : W3) : List W3 := if (ws.any fun v => decide (v.1 = w.1)) = true then ws.map (fun v => if v.1 = w.1 then w else v) else ws ++ [w]
def Names (ws : List W3) : List Str := ws.map (·.1)
theorem inr_inj {a b : Str} : ((Sum.inr a : Key) = Sum.inr b) ↔ a = b := ⟨fun h => Sum.inr.inj h, fun h => by rw [h]⟩
theorem put_len (ws : List W3) (w : W3) : ws.length ≤ (putW ws w).length ∧ (putW ws w).length ≤ ws.length + 1 ∧ 1 ≤ (putW ws w).length := by
  unfold putW
  by_cases e : (ws.any fun v => decide (v.1 = w.1)) = true
  · rw [if_pos e, List.length_map]
    obtain ⟨v, hv, _⟩ := List.any_eq_true.mp e
    have := List.length_pos_of_mem hv
    omega
  · rw [if_neg e, List.length_append]
    show ws.length ≤ ws.length + 1 ∧ ws.length + 1 ≤ ws.length + 1 ∧ 1 ≤ ws.length + 1
    omega
structure Wins (H : Hp) (ws : List W3) : Prop where
  nd : (Names ws).Nodup
  nm : ∀ w ∈ ws, NameOk w.1
  at_ : ∀ w ∈ ws, H w.2.1 = some (.tup w.2.2.vs)
  gd : ∀ w ∈ ws, w.2.2.good
theorem Wins.same {H H' : Hp} {ws : List W3} (W : Wins H ws) (e : Same H H') : Wins H' ws := ⟨W.nd, W.nm, fun w hw => e _ _ (W.at_ w hw), W.gd⟩
theorem Wins.keep {b s : Addr} {H H' : Hp} {ws : List W3} (W : Wins H ws) (k : Keep b H H') (B : Bag b s H) : Wins H' ws := ⟨W.nd, W.nm, fun w hw => k.of_tup B (W.at_ w hw), W.gd⟩
theorem Wins.perm {H : Hp} {ws us : List W3} (W : Wins H ws) (p : us.Perm ws) : Wins H us := ⟨(List.Perm.map (fun x : W3 => x.1) p).nodup_iff.mpr W.nd, fun w hw => W.nm w (p.mem_iff.mp hw), fun w hw => W.at_ w (p.mem_iff.mp hw), fun w hw => W.gd w (p.mem_iff.mp hw)⟩
theorem Wins.sub {H : Hp} {ws us : List W3} (W : Wins H ws) (n : (Names us).Nodup) (h : ∀ w ∈ us, w ∈ ws) : Wins H us := ⟨n, fun w hw => W.nm w (h w hw), fun w hw => W.at_ w (h w hw), fun w hw => W.gd w (h w hw)⟩
def fldW (d : Addr) : List (Str × V) := [("windows", .ref d)]
structure DeskAt (C : Addr) (H : Hp) (p : Addr) (ws : List W3) : Prop where
  ex : ∃ dx d, H p = some (.ins C dx (fldW d)) ∧ H d = some (.dK (ws.map kvOf))
  win : Wins H ws
  so : (Names ws).Pairwise leS
theorem DeskAt.same {C : Addr} {H H' : Hp} {p : Addr} {ws : List W3} (D : DeskAt C H p ws) (e : Same H H') : DeskAt C H' p ws := by
  obtain ⟨⟨dx, d, h1, h2⟩, h3, h4⟩ := D
  exact ⟨⟨dx, d, e _ _ h1, e _ _ h2⟩, h3.same e, h4⟩
theorem DeskAt.keep {C b s : Addr} {H H' : Hp} {p : Addr} {ws : List W3} (D : DeskAt C H p ws) (k : Keep b H H') (B : Bag b s H) : DeskAt C H' p ws := by
  obtain ⟨⟨dx, d, h1, h2⟩, h3, h4⟩ := D
  obtain ⟨ys, hb⟩ := B.hb
  exact ⟨⟨dx, d, k _ _ (ne_of h1 hb (by intro z; cases z)) h1, k.dK hb h2⟩, h3.keep k B, h4⟩
end RK
namespace DL
open PySem PySem.Spec PyProof.Rows L2 RK
inductive D where
  | non | bl (b : Bool) | int (i : Int) | str (x : Str)
  | lst (xs : List D) | tup (xs : List D) | ktp (xs : List D)
  | dic (kvs : List (Key × D)) | dct (kvs : List (List Key × D))
  | obj (C : Addr) (fs : List (Str × D))
  | bag
instance : Inhabited D := ⟨.non⟩
abbrev Wd := Option (Addr × Addr × List (Addr × Str))
def Wd.own : Wd → Addr → Prop
  | none, _ => False
  | some (b, s, T), a => a = b ∨ a = s ∨ ∃ p ∈ T, p.1 = a
def Wd.ok : Wd → Hp → Prop
  | none, _ => True
  | some (b, s, T), H => Bag b s H ∧ LamX.Tabs T H ∧ (T ≠ [] → ∀ a ps, H a = some (.tbl ps) → ∃ p ∈ T, p.1 = a)
def Plo : HO → Prop
  | .ext _ => False
  | .tbl _ => False
  | _ => True
theorem Plo.ntb : ∀ {o : HO}, Plo o → Ntb o := fun {o} h => by cases o <;> first | exact True.intro | exact h
theorem Wd.al : ∀ {W : Wd} {H : Hp} {a : Addr}, W.ok H → W.own a → ∃ o, H a = some o
  | some (b, s, T), H, a, h, .inl e => by
    obtain ⟨ys, hb⟩ := Bag.hb h.1
    exact ⟨_, e ▸ hb⟩
  | some (b, s, T), H, a, h, .inr (.inl e) => by
    obtain ⟨ys, hb⟩ := Bag.hs h.1
    exact ⟨_, e ▸ hb⟩
  | some (b, s, T), H, a, h, .inr (.inr ⟨p, hp, e⟩) => by
    obtain ⟨ps, h1, _⟩ := h.2.1 p hp
    exact ⟨_, e ▸ h1⟩
theorem Wd.st0 : ∀ {W : Wd} {H H' : Hp}, W.ok H → (∀ a o, H a = some o → (W.own a ∨ ¬ Plo o) → H' a = some o) → NoT H H' → W.ok H'
  | none, _, _, _, _, _ => trivial
  | some (b, s, T), H, H', h, k, n => by
    obtain ⟨⟨ns, i, big, salt, B⟩, tb, nt⟩ := h
    refine ⟨⟨ns, i, big, salt, k _ _ B.hb (.inl (.inl rfl)), k _ _ B.hs (.inl (.inr (.inl rfl))), B.ne, B.hi, B.hn, B.h0, B.h1, B.h2⟩, fun p hp => ?_, fun ne a ps h => let ⟨qs, q⟩ := n a ps h; nt ne a qs q⟩
    obtain ⟨ps, h1, h2, h3⟩ := tb p hp
    refine ⟨ps, k _ _ h1 (.inl (.inr (.inr ⟨p, hp, rfl⟩))), h2, fun pos cv hc => ?_⟩
    obtain ⟨c, e, hcd⟩ := h3 pos cv hc
    exact ⟨c, e, k _ _ hcd (.inr id)⟩
theorem Wd.st {W : Wd} {H H' : Hp} (h : W.ok H) (k : ∀ a o, H a = some o → (W.own a ∨ ¬ Plo o) → H' a = some o) (n : NoT H H') : W.ok H' := Wd.st0 h k n
mutual
inductive Dd (K : PySem.W.Frag) (N : Addr → Prop) (W : Wd) (H : Hp) : V → D → Prop
  | non : Dd K N W H .non .non
  | bl (b : Bool) : Dd K N W H (.bl b) (.bl b)
  | int (i : Int) : Dd K N W H (.int i) (.int i)
  | str (x : Str) : Dd K N W H (.str x) (.str x)
  | lst {a : Addr} {vs : List V} {ds : List D} : H a = some (.lst vs) → ¬ N a → DdAll K N W H vs ds → Dd K N W H (.ref a) (.lst ds)
  | tup {a : Addr} {vs : List V} {ds : List D} : H a = some (.tup vs) → ¬ N a → DdAll K N W H vs ds → Dd K N W H (.ref a) (.tup ds)
  | dic {a : Addr} {kvs : List (Key × V)} {kds : List (Key × D)} : Rd H a (.dK kvs) → ¬ N a → kvs.map (·.1) = kds.map (·.1) → DdAll K N W H (kvs.map (·.2)) (kds.map (·.2)) → Dd K N W H (.ref a) (.dic kds)
  | dct {a : Addr} {kvs : List (List Key × V)} {kds : List (List Key × D)} : Rd H a (.dT kvs) → ¬ N a → kvs.map (·.1) = kds.map (·.1) → DdAll K N W H (kvs.map (·.2)) (kds.map (·.2)) → Dd K N W H (.ref a) (.dct kds)
  | obj {a C dx : Addr} {fs : List (Str × V)} {fds : List (Str × D)} : H a = some (.ins C dx fs) → ¬ N a → fs.map (·.1) = fds.map (·.1) → DdAll K N W H (fs.map (·.2)) (fds.map (·.2)) → Dd K N W H (.ref a) (.obj C fds)
  | ktp {a : Addr} {o : Obj} {its : Array Value} {n : Nat} {vs : List V} {ds : List D} : K.lookup a = some o → o.cls = .type "tuple" → o.data = .seq its n → its.size ≤ sizeLine → Vals vs its.toList → DdAll K N W H vs ds → Dd K N W H (.ref a) (.ktp ds)
  | bag {b s : Addr} {T : List (Addr × Str)} : W = some (b, s, T) → Dd K N W H (.ref b) .bag
inductive DdAll (K : PySem.W.Frag) (N : Addr → Prop) (W : Wd) (H : Hp) : List V → List D → Prop
  | nil : DdAll K N W H [] []
  | cons {v : V} {d : D} {vs : List V} {ds : List D} : Dd K N W H v d → DdAll K N W H vs ds → DdAll K N W H (v :: vs) (d :: ds)
end
section
variable {K : PySem.W.Frag} {N N' : Addr → Prop} {W : Wd} {H H' : Hp}
theorem rd_keep {a : Addr} {o : HO} (k : ∀ o, H a = some o → H' a = some o) (h : Rd H a o) : Rd H' a o := by
  rcases h with h | ⟨u, h⟩
  · exact .inl (k _ h)
  · exact .inr ⟨u, k _ h⟩
mutual
theorem Dd.pres (k : ∀ a o, ¬ N a → H a = some o → ¬ N' a ∧ H' a = some o) : ∀ {v : V} {d : D}, Dd K N W H v d → Dd K N' W H' v d
  | _, _, .non => .non
  | _, _, .bl b => .bl b
  | _, _, .int i => .int i
  | _, _, .str x => .str x
  | _, _, .lst h q a => .lst (k _ _ q h).2 (k _ _ q h).1 (DdAll.pres k a)
  | _, _, .tup h q a => .tup (k _ _ q h).2 (k _ _ q h).1 (DdAll.pres k a)
  | _, _, .ktp h1 h2 h3 h4 h5 a => .ktp h1 h2 h3 h4 h5 (DdAll.pres k a)
  | _, _, .dic h q e a => .dic (rd_keep (fun o g => (k _ o q g).2) h) (by rcases h with h | ⟨u, h⟩ <;> exact (k _ _ q h).1) e (DdAll.pres k a)
  | _, _, .dct h q e a => .dct (rd_keep (fun o g => (k _ o q g).2) h) (by rcases h with h | ⟨u, h⟩ <;> exact (k _ _ q h).1) e (DdAll.pres k a)
  | _, _, .obj h q e a => .obj (k _ _ q h).2 (k _ _ q h).1 e (DdAll.pres k a)
  | _, _, .bag e => .bag e
theorem DdAll.pres (k : ∀ a o, ¬ N a → H a = some o → ¬ N' a ∧ H' a = some o) : ∀ {vs : List V} {ds : List D}, DdAll K N W H vs ds → DdAll K N' W H' vs ds
  | _, _, .nil => .nil
  | _, _, .cons h a => .cons (Dd.pres k h) (DdAll.pres k a)
end
theorem Dd.keep (k : ∀ a o, ¬ N a → H a = some o → H' a = some o) (n : ∀ a, N' a → N a) {v : V} {d : D} (h : Dd K N W H v d) : Dd K N' W H' v d := h.pres fun a o q g => ⟨fun z => q (n a z), k a o q g⟩
theorem DdAll.keep (k : ∀ a o, ¬ N a → H a = some o → H' a = some o) (n : ∀ a, N' a → N a) {v : List V} {d : List D} (h : DdAll K N W H v d) : DdAll K N' W H' v d := h.pres fun a o q g => ⟨fun z => q (n a z), k a o q g⟩
theorem DdAll.len : ∀ {vs : List V} {ds : List D}, DdAll K N W H vs ds → vs.length = ds.length
  | _, _, .nil => rfl
  | _, _, .cons _ a => congrArg Nat.succ (DdAll.len a)
theorem DdAll.get : ∀ {vs : List V} {ds : List D} {i : Nat} {d : D}, DdAll K N W H vs ds → ds[i]? = some d → ∃ v, vs[i]? = some v ∧ Dd K N W H v d
  | _, _, _, _, .nil, h => by simp at h
  | _, _, 0, _, .cons (v := v) q _, h => by
    have e := Option.some.inj h
    exact ⟨v, rfl, e ▸ q⟩
  | _, _, i + 1, _, .cons _ a, h => DdAll.get (i := i) a h
theorem DdAll.app : ∀ {vs us : List V} {ds es : List D}, DdAll K N W H vs ds → DdAll K N W H us es → DdAll K N W H (vs ++ us) (ds ++ es)
  | _, _, _, _, .nil, b => b
  | _, _, _, _, .cons h a, b => .cons h (DdAll.app a b)
theorem DdAll.drop : ∀ {vs : List V} {ds : List D} (n : Nat), DdAll K N W H vs ds → DdAll K N W H (vs.drop n) (ds.drop n)
  | _, _, 0, a => a
  | _, _, _ + 1, .nil => .nil
  | _, _, n + 1, .cons _ a => DdAll.drop n a
theorem DdAll.take : ∀ {vs : List V} {ds : List D} (n : Nat), DdAll K N W H vs ds → DdAll K N W H (vs.take n) (ds.take n)
  | _, _, 0, _ => .nil
  | _, _, _ + 1, .nil => .nil
  | _, _, n + 1, .cons h a => .cons h (DdAll.take n a)
theorem DdAll.set : ∀ {vs : List V} {ds : List D} (i : Nat) {v : V} {d : D}, DdAll K N W H vs ds → Dd K N W H v d → DdAll K N W H (vs.set i v) (ds.set i d)
  | _, _, _, _, _, .nil, _ => .nil
  | _, _, 0, _, _, .cons _ a, q => .cons q a
  | _, _, i + 1, _, _, .cons h a, q => .cons h (DdAll.set i a q)
end
inductive En where
  | no | fz (d : D) | ow (ds : List D) | od (kvs : List (Key × D)) | ot (kvs : List (List Key × D))
def En.isOw : En → Bool
  | .ow _ => true | .od _ => true | .ot _ => true | _ => false
abbrev De := List En
def KeepW (W : Wd) (H H' : Hp) : Prop := ∀ a o, ¬ W.own a → H a = some o → H' a = some o
theorem KeepW.refl (W : Wd) (H : Hp) : KeepW W H H := fun _ _ _ h => h
theorem KeepW.trans {W : Wd} {H H1 H2 : Hp} (a : KeepW W H H1) (b : KeepW W H1 H2) : KeepW W H H2 := fun x o n h => b x o n (a x o n h)
theorem KeepW.new {W : Wd} {H : Hp} {p : Addr} {o : HO} (h : H p = none) : KeepW W H (upd H p o) := fun b u _ q => by rw [upd_ne (ne_of_none q h)]; exact q
theorem ok_new {W : Wd} {H : Hp} {p : Addr} {o : HO} (k : W.ok H) (h : H p = none) (n : Ntb o := by exact True.intro) : W.ok (upd H p o) := Wd.st k (fun b u q _ => by rw [upd_ne (ne_of_none q h)]; exact q) (noT_upd n)
inductive Fr where
  | b (x : Bool) | ch (j : Nat)
instance : Coe Bool Fr := ⟨Fr.b⟩
def Ch (j : Nat) (H H' : Hp) (v : V) (x : D) : Prop := ∀ xs ys, x = .tup xs → xs[j]? = some (.lst ys) → ∃ t vs c us, v = .ref t ∧ H' t = some (.tup vs) ∧ vs[j]? = some (.ref c) ∧ H c = none ∧ H' c = some (.lst us)
structure Fx where
  K : PySem.W.Frag
  W : Wd
  N0 : Addr → Prop
  H0 : Hp
  fr : Fr
def Fx.N (F : Fx) (L : List Addr) : Addr → Prop := fun a => F.N0 a ∨ a ∈ L
def EnOk (F : Fx) (L : List Addr) (H : Hp) : En → Option V → Prop
  | .no, _ => True
  | .fz d, some v => Dd F.K (F.N L) F.W H v d
  | .ow ds, some (.ref a) => a ∈ L ∧ ∃ vs, H a = some (.lst vs) ∧ DdAll F.K (F.N L) F.W H vs ds
  | .od kds, some (.ref a) => a ∈ L ∧ ∃ kvs, H a = some (.dK kvs) ∧ kvs.map (·.1) = kds.map (·.1) ∧ DdAll F.K (F.N L) F.W H (kvs.map (·.2)) (kds.map (·.2))
  | .ot kds, some (.ref a) => a ∈ L ∧ ∃ kvs, H a = some (.dT kvs) ∧ kvs.map (·.1) = kds.map (·.1) ∧ DdAll F.K (F.N L) F.W H (kvs.map (·.2)) (kds.map (·.2))
  | _, _ => False
structure Abs (F : Fx) (env : De) (σ : L2.St) (L : List Addr) (H : Hp) : Prop where
  ok : F.W.ok H
  al : ∀ a, F.N0 a → ∃ o, F.H0 a = some o
  wn : ∀ a, F.W.own a → F.N0 a
  kp : KeepW F.W F.H0 H
  fr : ∀ a ∈ L, F.H0 a = none ∧ ∃ o, H a = some o ∧ Plo o
  ls : env.length = σ.length
  sep : ∀ (i j : Nat) (a : Addr) (ei ej : En), env[i]? = some ei → env[j]? = some ej → ei.isOw = true → ej.isOw = true → σ[i]? = some (some (.ref a)) → σ[j]? = some (some (.ref a)) → i = j
  en : ∀ (i : Nat) (e : En) (x : Option V), env[i]? = some e → σ[i]? = some x → EnOk F L H e x
section
variable {F : Fx} {env : De} {σ : L2.St} {L : List Addr} {H H' : Hp}
theorem Abs.alN (A : Abs F env σ L H) {a : Addr} (h : F.N L a) : ∃ o, H a = some o := by
  rcases h with h | h
  · obtain ⟨o, e⟩ := A.al a h
    by_cases w : F.W.own a
    · exact Wd.al A.ok w
    · exact ⟨o, A.kp a o w e⟩
  · obtain ⟨_, o, e, _⟩ := A.fr a h
    exact ⟨o, e⟩
theorem Abs.new (A : Abs F env σ L H) {p : Addr} (h : H p = none) : ¬ F.N L p := fun z => by
  obtain ⟨o, e⟩ := A.alN z
  rw [h] at e
  cases e
theorem Abs.out (A : Abs F env σ L H) {a : Addr} (h : a ∈ L) : ¬ F.N0 a := fun z => by
  obtain ⟨o, e⟩ := A.al a z
  rw [(A.fr a h).1] at e
  cases e
theorem nw_of (A : Abs F env σ L H) {a : Addr} (h : ¬ F.N L a) : ¬ F.W.own a := fun z => h (.inl (A.wn a z))
theorem KeepW.n (A : Abs F env σ L H) (k : KeepW F.W H H') : ∀ a o, ¬ F.N L a → H a = some o → H' a = some o := fun a o n h => k a o (nw_of A n) h
theorem Abs.kd (A : Abs F env σ L H) (k : KeepW F.W H H') {v : V} {d : D} (h : Dd F.K (F.N L) F.W H v d) : Dd F.K (F.N L) F.W H' v d := h.keep (k.n A) fun _ z => z
theorem Abs.kda (A : Abs F env σ L H) (k : KeepW F.W H H') {v : List V} {d : List D} (h : DdAll F.K (F.N L) F.W H v d) : DdAll F.K (F.N L) F.W H' v d := h.keep (k.n A) fun _ z => z
theorem EnOk.keep {L' : List Addr} (A : Abs F env σ L H) (k : ∀ a o, ¬ F.N L a → H a = some o → H' a = some o) (n : ∀ a, F.N L' a → F.N L a) : ∀ {e : En} {x : Option V}, (∀ a, x = some (.ref a) → e.isOw = true → a ∈ L → a ∈ L' ∧ ∀ o, H a = some o → H' a = some o) → EnOk F L H e x → EnOk F L' H' e x
  | .no, _, _, _ => trivial
  | .fz d, some v, _, h => Dd.keep k n h
  | .ow ds, some (.ref a), g, ⟨h1, vs, h2, h3⟩ => let ⟨g1, g2⟩ := g a rfl rfl h1; ⟨g1, vs, g2 _ h2, DdAll.keep k n h3⟩
  | .od ds, some (.ref a), g, ⟨h1, vs, h2, h4, h3⟩ => let ⟨g1, g2⟩ := g a rfl rfl h1; ⟨g1, vs, g2 _ h2, h4, DdAll.keep k n h3⟩
  | .ot ds, some (.ref a), g, ⟨h1, vs, h2, h4, h3⟩ => let ⟨g1, g2⟩ := g a rfl rfl h1; ⟨g1, vs, g2 _ h2, h4, DdAll.keep k n h3⟩
theorem Abs.step (A : Abs F env σ L H) (k : KeepW F.W H H') (o : F.W.ok H') : Abs F env σ L H' := by
  have w : ∀ a ∈ L, ¬ F.W.own a := fun a h z => A.out h (A.wn a z)
  refine ⟨o, A.al, A.wn, A.kp.trans k, fun a h => ?_, A.ls, A.sep, fun i e x h1 h2 => ?_⟩
  · obtain ⟨h1, u, h2, pl⟩ := A.fr a h
    exact ⟨h1, u, k a u (w a h) h2, pl⟩
  · exact EnOk.keep A (k.n A) (fun _ z => z) (fun a _ _ h => ⟨h, fun o q => k a o (w a h) q⟩) (A.en i e x h1 h2)
end
abbrev TDE := De → (D → Prop) → Prop
abbrev TDT := De → (Bool → Prop) → Prop
abbrev TDA := De → (List D → Prop) → Prop
def lC (F : Fx) (d : TDE) : TE := fun σ H Q => ∃ env L P, Abs F env σ L H ∧ d env P ∧ ∀ x v H', P x → KeepW F.W H H' → F.W.ok H' → Dd F.K (F.N L) F.W H' v x → Q v H'
def NewV (F : Fx) (L : List Addr) (H : Hp) (a : Addr) : D → Prop
  | .lst ds => ∃ vs, H a = some (.lst vs) ∧ DdAll F.K (F.N (a :: L)) F.W H vs ds
  | .tup ds => ∃ vs, H a = some (.tup vs) ∧ DdAll F.K (F.N (a :: L)) F.W H vs ds
  | .dic kds => ∃ kvs, H a = some (.dK kvs) ∧ kvs.map (·.1) = kds.map (·.1) ∧ DdAll F.K (F.N (a :: L)) F.W H (kvs.map (·.2)) (kds.map (·.2))
  | .dct kds => ∃ kvs, H a = some (.dT kvs) ∧ kvs.map (·.1) = kds.map (·.1) ∧ DdAll F.K (F.N (a :: L)) F.W H (kvs.map (·.2)) (kds.map (·.2))
  | _ => False
theorem nl_sub {F : Fx} {L : List Addr} {a : Addr} : ∀ x, F.N L x → F.N (a :: L) x := fun x h => h.imp id (List.mem_cons_of_mem _)
theorem NewV.dd {F : Fx} {L : List Addr} {H : Hp} {a : Addr} (n : ¬ F.N L a) : ∀ {x : D}, NewV F L H a x → Dd F.K (F.N L) F.W H (.ref a) x
  | .lst ds, ⟨vs, h, g⟩ => .lst h n (g.keep (fun _ _ _ z => z) nl_sub)
  | .tup ds, ⟨vs, h, g⟩ => .tup h n (g.keep (fun _ _ _ z => z) nl_sub)
  | .dic ds, ⟨vs, h, e, g⟩ => .dic (.inl h) n e (g.keep (fun _ _ _ z => z) nl_sub)
  | .dct ds, ⟨vs, h, e, g⟩ => .dct (.inl h) n e (g.keep (fun _ _ _ z => z) nl_sub)
def lN (F : Fx) (d : TDE) : TE := fun σ H Q => ∃ env L P, Abs F env σ L H ∧ d env P ∧ ∀ x a H', P x → KeepW F.W H H' → F.W.ok H' → H a = none → NewV F L H' a x → Q (.ref a) H'
def Bw (F : Fx) (L : List Addr) (H : Hp) (v : V) (x : D) : Prop := Dd F.K (F.N L) F.W H v x ∨ ∃ e, e.isOw = true ∧ EnOk F L H e (some v) ∧ x = (match e with | .ow ds => .lst ds | .od ds => .dic ds | .ot ds => .dct ds | _ => .non)
def lB (F : Fx) (d : TDE) : TE := fun σ H Q => ∃ env L P, Abs F env σ L H ∧ d env P ∧ ∀ x v H', P x → KeepW F.W H H' → F.W.ok H' → Bw F L H' v x → Q v H'
def lT (F : Fx) (d : TDT) : TT := fun σ H Q => ∃ env L P, Abs F env σ L H ∧ d env P ∧ ∀ x H', P x → KeepW F.W H H' → F.W.ok H' → Q x H'
def lA (F : Fx) (d : TDA) : TA := fun σ H Q => ∃ env L P, Abs F env σ L H ∧ d env P ∧ ∀ xs vs H', P xs → KeepW F.W H H' → F.W.ok H' → DdAll F.K (F.N L) F.W H' vs xs → Q vs H'
section
variable {X : Cx} {F : Fx} {e a b : Expr} {d da db : TDE}
theorem PE.mono {t t' : TE} (h : PE X e t) (m : ∀ σ H Q, t' σ H Q → t σ H Q) : PE X e t' := ⟨fun pins s σ H Q I q => h.run pins s σ H Q I (m σ H Q q)⟩
theorem PT.mono {t t' : TT} (h : PT X e t) (m : ∀ σ H Q, t' σ H Q → t σ H Q) : PT X e t' := ⟨fun pins s σ H Q I q => h.run pins s σ H Q I (m σ H Q q)⟩
theorem PW.mono {t t' : TT} (h : PW X e t) (m : ∀ σ H Q, t' σ H Q → t σ H Q) : PW X e t' := ⟨fun wh pins s σ H Q I q => h.run wh pins s σ H Q I (m σ H Q q)⟩
theorem PA.mono {es : List Expr} {t t' : TA} (h : PA X es t) (m : ∀ σ H Q, t' σ H Q → t σ H Q) : PA X es t' := ⟨fun pos pins s σ H Q I q => h.run pos pins s σ H Q I (m σ H Q q)⟩
theorem PK.mono {es : List Keyword} {t t' : TA} (h : PK X es t) (m : ∀ σ H Q, t' σ H Q → t σ H Q) : PK X es t' := ⟨fun pos pins s σ H Q I q => h.run pos pins s σ H Q I (m σ H Q q)⟩
theorem PS.mono {st : Stmt} {t t' : TS} (h : PS X st t) (m : ∀ E σ H, t' E σ H → t E σ H) : PS X st t' := ⟨fun pins s σ H E I q => h.run pins s σ H E I (m E σ H q)⟩
theorem PSs.mono {st : List Stmt} {t t' : TS} (h : PSs X st t) (m : ∀ E σ H, t' E σ H → t E σ H) : PSs X st t' := ⟨fun pins s σ H E I q => h.run pins s σ H E I (m E σ H q)⟩
theorem n_c (h : PE X e (lN F d)) : PE X e (lC F d) := PE.mono h fun σ H Q ⟨env, L, P, A, p, q⟩ => ⟨env, L, P, A, p, fun x a H' px k o n dd => q x _ H' px k o (dd.dd (A.new n))⟩
theorem c_b (h : PE X e (lC F d)) : PE X e (lB F d) := PE.mono h fun σ H Q ⟨env, L, P, A, p, q⟩ => ⟨env, L, P, A, p, fun x v H' px k o dd => q x v H' px k o (.inl dd)⟩
def D.leaf : D → Bool
  | .non => true | .bl _ => true | .int _ => true | .str _ => true | _ => false
def dC (x : D) : TDE := fun _ P => P x
theorem c_lift {x : D} {v : V} (h : PE X e (tC v)) (r : ∀ K N W H, Dd K N W H v x) : PE X e (lC F (dC x)) := PE.mono h fun σ H Q ⟨env, L, P, A, p, q⟩ => q x v H p (.refl _ _) A.ok (r _ _ _ _)
theorem dd_int {i : Int} {j} {pos : Pos} : PE X (.Constant (.int i) j pos) (lC F (dC (.int i))) := c_lift pe_int fun _ _ _ _ => .int i
theorem dd_str {i : Str} {j} {pos : Pos} : PE X (.Constant (.str i) j pos) (lC F (dC (.str i))) := c_lift pe_str fun _ _ _ _ => .str i
theorem dd_bl {i : Bool} {j} {pos : Pos} : PE X (.Constant (.bool i) j pos) (lC F (dC (.bl i))) := c_lift pe_bl fun _ _ _ _ => .bl i
theorem dd_non {j} {pos : Pos} : PE X (.Constant .none j pos) (lC F (dC .non)) := c_lift pe_non fun _ _ _ _ => .non
def dV (i : Nat) : TDE := fun env P => match env[i]? with | some (.fz d) => P d | _ => False
def dB (i : Nat) : TDE := fun env P => match env[i]? with | some (.fz d) => P d | some (.ow ds) => P (.lst ds) | some (.od ds) => P (.dic ds) | some (.ot ds) => P (.dct ds) | _ => False
theorem abs_at {env : De} {σ : L2.St} {L : List Addr} {H : Hp} (A : Abs F env σ L H) {i : Nat} {e : En} (h : env[i]? = some e) (n : e ≠ .no) : ∃ v, σ[i]? = some (some v) ∧ EnOk F L H e (some v) := by
  have hi : i < σ.length := by rw [← A.ls]; exact (List.getElem?_eq_some_iff.mp h).1
  have h2 := A.en i e σ[i] h (List.getElem?_eq_getElem hi)
  cases q : σ[i] with
  | none =>
    rw [q] at h2
    cases e with
    | no => exact absurd rfl n
    | _ => exact h2.elim
  | some v =>
    rw [q] at h2
    exact ⟨v, by rw [List.getElem?_eq_getElem hi, q], h2⟩
theorem dd_v {i : Nat} (h : PE X e (tVar i)) : PE X e (lC F (dV i)) := PE.mono h fun σ H Q ⟨env, L, P, A, p, q⟩ => by
  unfold dV at p
  cases z : env[i]? with
  | none => rw [z] at p; exact p.elim
  | some en =>
    rw [z] at p
    cases en with
    | fz d =>
      obtain ⟨v, h1, h2⟩ := abs_at A z (by intro w; cases w)
      exact ⟨v, h1, q d v H p (.refl _ _) A.ok h2⟩
    | _ => exact p.elim
theorem dd_b {i : Nat} (h : PE X e (tVar i)) : PE X e (lB F (dB i)) := PE.mono h fun σ H Q ⟨env, L, P, A, p, q⟩ => by
  unfold dB at p
  cases z : env[i]? with
  | none => rw [z] at p; exact p.elim
  | some en =>
    rw [z] at p
    cases en with
    | no => exact p.elim
    | fz d =>
      obtain ⟨v, h1, h2⟩ := abs_at A z (by intro w; cases w)
      exact ⟨v, h1, q d v H p (.refl _ _) A.ok (.inl h2)⟩
    | _ =>
      obtain ⟨v, h1, h2⟩ := abs_at A z (by intro w; cases w)
      exact ⟨v, h1, q _ v H p (.refl _ _) A.ok (.inr ⟨_, rfl, h2, rfl⟩)⟩
end
end DL
namespace DL
open PySem PySem.Spec PyProof.Rows L2 RK
def ob {α : Type} (o : Option α) (P : α → Prop) : Prop := match o with | some z => P z | none => False
theorem ob_some {α : Type} {z : α} {P : α → Prop} : ob (some z) P = P z := rfl
theorem ob_elim {α : Type} {o : Option α} {P : α → Prop} (h : ob o P) : ∃ z, o = some z ∧ P z := by
  cases o with
  | none => exact h.elim
  | some z => exact ⟨z, rfl, h⟩
mutual
def toPy : D → Option PyData
  | .non => some .none
  | .bl b => some (.bool b)
  | .int i => some (.int i)
  | .str x => some (.str x)
  | .lst xs => (toPyA xs).map .list
  | .tup xs => (toPyA xs).map .tuple
  | _ => none
def toPyA : List D → Option (List PyData)
  | [] => some []
  | d :: ds => (toPy d).bind fun p => (toPyA ds).map fun ps => p :: ps
end
section
variable {K : PySem.W.Frag} {N : Addr → Prop} {W : Wd} {H H' : Hp}
mutual
theorem Dd.py : ∀ {v : V} {d : D} {p : PyData}, Dd K N W H v d → toPy d = some p → Dp K H v p
  | _, _, _, .non, e => by cases Option.some.inj e; exact .non
  | _, _, _, .bl b, e => by cases Option.some.inj e; exact .bl b
  | _, _, _, .int i, e => by cases Option.some.inj e; exact .int i
  | _, _, _, .str x, e => by cases Option.some.inj e; exact .str x
  | _, _, _, .lst h _ a, e => by
    obtain ⟨ps, h1, h2⟩ := Option.map_eq_some_iff.mp e
    subst h2
    exact .lst (SqL.of h) (DdAll.py a h1)
  | _, _, _, .tup h _ a, e => by
    obtain ⟨ps, h1, h2⟩ := Option.map_eq_some_iff.mp e
    subst h2
    exact .tup (SqT.of h) (DdAll.py a h1)
  | _, _, _, .ktp .., e => by cases e
  | _, _, _, .dic .., e => by cases e
  | _, _, _, .dct .., e => by cases e
  | _, _, _, .obj .., e => by cases e
  | _, _, _, .bag .., e => by cases e
theorem DdAll.py : ∀ {vs : List V} {ds : List D} {ps : List PyData}, DdAll K N W H vs ds → toPyA ds = some ps → DpAll K H vs ps
  | _, _, _, .nil, e => by cases Option.some.inj e; exact .nil
  | _, _, _, .cons h a, e => by
    obtain ⟨p, h1, h2⟩ := Option.bind_eq_some_iff.mp e
    obtain ⟨ps, h3, h4⟩ := Option.map_eq_some_iff.mp h2
    subst h4
    exact .cons (Dd.py h h1) (DdAll.py a h3)
end
theorem dd_intE {v : V} {i : Int} (h : Dd K N W H v (.int i)) : v = .int i := by cases h; rfl
theorem dd_strE {v : V} {i : Str} (h : Dd K N W H v (.str i)) : v = .str i := by cases h; rfl
theorem dd_blE {v : V} {i : Bool} (h : Dd K N W H v (.bl i)) : v = .bl i := by cases h; rfl
theorem dd_nonE {v : V} (h : Dd K N W H v .non) : v = .non := by cases h; rfl
theorem dd_lstE {v : V} {ds : List D} (h : Dd K N W H v (.lst ds)) : ∃ a vs, v = .ref a ∧ H a = some (.lst vs) ∧ ¬ N a ∧ DdAll K N W H vs ds := by cases h with | lst h1 h2 h3 => exact ⟨_, _, rfl, h1, h2, h3⟩
theorem dd_tupE {v : V} {ds : List D} (h : Dd K N W H v (.tup ds)) : ∃ a vs, v = .ref a ∧ H a = some (.tup vs) ∧ ¬ N a ∧ DdAll K N W H vs ds := by cases h with | tup h1 h2 h3 => exact ⟨_, _, rfl, h1, h2, h3⟩
end
section
variable {F : Fx} {env : De} {σ : L2.St} {L : List Addr} {H H' : Hp}
theorem bw_leaf {v : V} {x : D} (h : Bw F L H v x) (l : x.leaf = true) : Dd F.K (F.N L) F.W H v x := by
  rcases h with h | ⟨e, h1, h2, rfl⟩
  · exact h
  · cases e with
    | no => cases h1
    | fz _ => cases h1
    | ow _ => cases l
    | od _ => cases l
    | ot _ => cases l
theorem bw_int {v : V} {i : Int} (h : Bw F L H v (.int i)) : v = .int i := dd_intE (bw_leaf h rfl)
theorem bw_str {v : V} {i : Str} (h : Bw F L H v (.str i)) : v = .str i := dd_strE (bw_leaf h rfl)
theorem bw_bl {v : V} {i : Bool} (h : Bw F L H v (.bl i)) : v = .bl i := dd_blE (bw_leaf h rfl)
theorem bw_non {v : V} (h : Bw F L H v .non) : v = .non := dd_nonE (bw_leaf h rfl)
theorem bw_lst {v : V} {ds : List D} (h : Bw F L H v (.lst ds)) : ∃ a vs, v = .ref a ∧ H a = some (.lst vs) ∧ DdAll F.K (F.N L) F.W H vs ds := by
  rcases h with h | ⟨e, h1, h2, h3⟩
  · obtain ⟨a, vs, h1, h2, _, h3⟩ := dd_lstE h
    exact ⟨a, vs, h1, h2, h3⟩
  · cases e with
    | ow es =>
      cases h3
      cases v with
      | ref a => exact ⟨a, h2.2.choose, rfl, h2.2.choose_spec⟩
      | _ => exact h2.elim
    | no => cases h1
    | fz _ => cases h1
    | od _ => cases h3
    | ot _ => cases h3
theorem bw_tup {v : V} {ds : List D} (h : Bw F L H v (.tup ds)) : ∃ a vs, v = .ref a ∧ H a = some (.tup vs) ∧ DdAll F.K (F.N L) F.W H vs ds := by
  rcases h with h | ⟨e, h1, h2, h3⟩
  · obtain ⟨a, vs, h1, h2, _, h3⟩ := dd_tupE h
    exact ⟨a, vs, h1, h2, h3⟩
  · cases e with
    | no => cases h1
    | fz _ => cases h1
    | ow _ => cases h3
    | od _ => cases h3
    | ot _ => cases h3
theorem bw_dic {v : V} {ds : List (Key × D)} (h : Bw F L H v (.dic ds)) : ∃ a kvs, v = .ref a ∧ Rd H a (.dK kvs) ∧ kvs.map (·.1) = ds.map (·.1) ∧ DdAll F.K (F.N L) F.W H (kvs.map (·.2)) (ds.map (·.2)) := by
  rcases h with h | ⟨e, h1, h2, h3⟩
  · cases h with | dic g1 g2 g3 g4 => exact ⟨_, _, rfl, g1, g3, g4⟩
  · cases e with
    | od es =>
      cases h3
      cases v with
      | ref a =>
        obtain ⟨_, kvs, g1, g2, g3⟩ := h2
        exact ⟨a, kvs, rfl, .inl g1, g2, g3⟩
      | _ => exact h2.elim
    | no => cases h1
    | fz _ => cases h1
    | ow _ => cases h3
    | ot _ => cases h3
theorem bw_dct {v : V} {ds : List (List Key × D)} (h : Bw F L H v (.dct ds)) : ∃ a kvs, v = .ref a ∧ Rd H a (.dT kvs) ∧ kvs.map (·.1) = ds.map (·.1) ∧ DdAll F.K (F.N L) F.W H (kvs.map (·.2)) (ds.map (·.2)) := by
  rcases h with h | ⟨e, h1, h2, h3⟩
  · cases h with | dct g1 g2 g3 g4 => exact ⟨_, _, rfl, g1, g3, g4⟩
  · cases e with
    | ot es =>
      cases h3
      cases v with
      | ref a =>
        obtain ⟨_, kvs, g1, g2, g3⟩ := h2
        exact ⟨a, kvs, rfl, .inl g1, g2, g3⟩
      | _ => exact h2.elim
    | no => cases h1
    | fz _ => cases h1
    | ow _ => cases h3
    | od _ => cases h3
theorem bw_py {v : V} {d : D} {p : PyData} (h : Bw F L H v d) (e : toPy d = some p) : Dp F.K H v p := by
  rcases h with h | ⟨en, h1, h2, h3⟩
  · exact h.py e
  · cases en with
    | ow es =>
      have hh : Bw F L H v (.lst es) := .inr ⟨.ow es, rfl, h2, rfl⟩
      obtain ⟨a, vs, rfl, g2, g3⟩ := bw_lst hh
      subst h3
      obtain ⟨ps, h1, h2⟩ := Option.map_eq_some_iff.mp e
      subst h2
      exact .lst (SqL.of g2) (g3.py h1)
    | no => cases h1
    | fz _ => cases h1
    | od _ => subst h3; cases e
    | ot _ => subst h3; cases e
theorem Bw.step (A : Abs F env σ L H) (k : KeepW F.W H H') {v : V} {x : D} (h : Bw F L H v x) : Bw F L H' v x := by
  rcases h with h | ⟨e, h1, h2, h3⟩
  · exact .inl (A.kd k h)
  · have w : ∀ a ∈ L, ¬ F.W.own a := fun a h z => A.out h (A.wn a z)
    exact .inr ⟨e, h1, EnOk.keep A (k.n A) (fun _ z => z) (fun a _ _ h => ⟨h, fun o q => k a o (w a h) q⟩) h2, h3⟩
theorem new_pres (A : Abs F env σ L H) {p : Addr} {o : HO} (hp : H p = none) {vs : List V} {ds : List D} (h : DdAll F.K (F.N L) F.W H vs ds) : DdAll F.K (F.N (p :: L)) F.W (upd H p o) vs ds := h.pres fun a u n g => by
  have ne : a ≠ p := ne_of_none g hp
  refine ⟨fun z => ?_, by rw [upd_ne ne]; exact g⟩
  rcases z with z | z
  · exact n (.inl z)
  · rcases List.mem_cons.mp z with z | z
    · exact ne z
    · exact n (.inr z)
theorem new_lstN (A : Abs F env σ L H) {p : Addr} (hp : H p = none) {vs : List V} {ds : List D} (h : DdAll F.K (F.N L) F.W H vs ds) : NewV F L (upd H p (.lst vs)) p (.lst ds) := ⟨vs, upd_same, new_pres A hp h⟩
theorem new_tupN (A : Abs F env σ L H) {p : Addr} (hp : H p = none) {vs : List V} {ds : List D} (h : DdAll F.K (F.N L) F.W H vs ds) : NewV F L (upd H p (.tup vs)) p (.tup ds) := ⟨vs, upd_same, new_pres A hp h⟩
theorem new_lst (A : Abs F env σ L H) {p : Addr} (hp : H p = none) {vs : List V} {ds : List D} (h : DdAll F.K (F.N L) F.W H vs ds) : Dd F.K (F.N L) F.W (upd H p (.lst vs)) (.ref p) (.lst ds) := .lst upd_same (A.new hp) (A.kda (KeepW.new hp) h)
theorem new_tup (A : Abs F env σ L H) {p : Addr} (hp : H p = none) {vs : List V} {ds : List D} (h : DdAll F.K (F.N L) F.W H vs ds) : Dd F.K (F.N L) F.W (upd H p (.tup vs)) (.ref p) (.tup ds) := .tup upd_same (A.new hp) (A.kda (KeepW.new hp) h)
end
abbrev B2 := D → D → Option D
def Op2 (F : Fx) (r : R2) (f : B2) : Prop := ∀ {env : De} {σ : L2.St} {L : List Addr} {H : Hp} {x y : V} {dx dy z : D}, Abs F env σ L H → Bw F L H x dx → Bw F L H y dy → f dx dy = some z →
  ∀ Q : VK, (∀ v H', KeepW F.W H H' → F.W.ok H' → Dd F.K (F.N L) F.W H' v z → Q v H') → r x y H Q
def Op2N (F : Fx) (r : R2) (f : B2) : Prop := ∀ {env : De} {σ : L2.St} {L : List Addr} {H : Hp} {x y : V} {dx dy z : D}, Abs F env σ L H → Bw F L H x dx → Bw F L H y dy → f dx dy = some z →
  ∀ Q : VK, (∀ a H', KeepW F.W H H' → F.W.ok H' → H a = none → NewV F L H' a z → Q (.ref a) H') → r x y H Q
def dO2 (f : B2) (da db : TDE) : TDE := fun env P => da env fun x => db env fun y => ob (f x y) P
section
variable {X : Cx} {F : Fx} {e a b c : Expr} {d da db dc : TDE} {pos : Pos} {f g : B2} {r r' : R2}
theorem lop2 (h : Op2 F r f) : ∀ σ H Q, lC F (dO2 f da db) σ H Q → tOp r (lB F da) (lB F db) σ H Q := fun σ H Q ⟨env, L, P, A, p, q⟩ =>
  ⟨env, L, _, A, p, fun x v H1 px k1 o1 b1 => ⟨env, L, _, A.step k1 o1, px, fun y u H2 py k2 o2 b2 => by
    obtain ⟨z, e, pz⟩ := ob_elim py
    exact h ((A.step k1 o1).step k2 o2) (b1.step (A.step k1 o1) k2) b2 e Q fun w H3 k3 o3 d3 => q z w H3 pz ((k1.trans k2).trans k3) o3 d3⟩⟩
theorem dd_op {op : Operator} (h : Op2 F r f) (ho : OpR X (binaryOp op) r) (ha : PE X a (lB F da)) (hb : PE X b (lB F db)) : PE X (.BinOp a op b pos) (lC F (dO2 f da db)) := PE.mono (pe_op ho ha hb) (lop2 h)
theorem dd_cmp {op : CmpOp} (h : Op2 F r f) (ho : OpR X (compareOp op) r) (ha : PE X a (lB F da)) (hb : PE X b (lB F db)) (hm : behindInMarks op b = false) : PE X (.Compare a [op] [b] pos) (lC F (dO2 f da db)) := PE.mono (pe_cmpR ho ha hb hm) (lop2 h)
def dT (d : TDE) : TDT := fun env P => d env fun x => match x with | .bl b => P b | _ => False
theorem l_test : ∀ σ H Q, lT F (dT d) σ H Q → tTest (lC F d) σ H Q := fun σ H Q ⟨env, L, P, A, p, q⟩ =>
  ⟨env, L, _, A, p, fun x v H1 px k1 o1 d1 => by
    cases x with
    | bl b => cases d1; exact ⟨b, rfl, q b H1 px k1 o1⟩
    | _ => exact px.elim⟩
theorem dt_val (h : PE X e (lC F d)) (he : ∀ whole, isTrue e X.env whole = (do let v ← whole; standAt e.pos; holding [v] (truthy v)) := by intro _; rfl) : PT X e (lT F (dT d)) := PT.mono (pt_val h he) fun σ H Q q => l_test σ H Q q
theorem dt_cmp {op : CmpOp} (h : Op2 F r f) (ho : OpR X (compareOp op) r) (ha : PE X a (lB F da)) (hb : PE X b (lB F db)) (hm : behindInMarks op b = false) : PT X (.Compare a [op] [b] pos) (lT F (dT (dO2 f da db))) :=
  PT.mono (pt_cmpR ho ha hb hm) fun σ H Q ⟨env, L, P, A, p, q⟩ => lop2 h σ H _ ⟨env, L, _, A, p, fun x v H1 px k1 o1 d1 => by
    cases x with
    | bl b => cases d1; exact ⟨b, rfl, q b H1 px k1 o1⟩
    | _ => exact px.elim⟩
def dAndT (t u : TDT) : TDT := fun env P => t env fun x => if x = true then u env P else P false
def dOrT (t u : TDT) : TDT := fun env P => t env fun x => if x = true then P true else u env P
def dNotT (t : TDT) : TDT := fun env P => t env fun x => P (!x)
variable {tA tB : TDT} {rest : List Expr}
theorem wt_and1 (ha : PT X a (lT F tA)) : PW X (.BoolOp .And [a] pos) (lT F tA) := pw_and1 ha
theorem wt_or1 (ha : PT X a (lT F tA)) : PW X (.BoolOp .Or [a] pos) (lT F tA) := pw_or1 ha
theorem wt_and (ha : PT X a (lT F tA)) (hb : PW X (.BoolOp .And (b :: rest) pos) (lT F tB)) : PW X (.BoolOp .And (a :: b :: rest) pos) (lT F (dAndT tA tB)) :=
  PW.mono (pw_and ha hb) fun σ H Q ⟨env, L, P, A, p, q⟩ => ⟨env, L, _, A, p, fun x H1 px k1 o1 => by
    cases x with
    | true => exact iteT ⟨env, L, _, A.step k1 o1, px, fun y H2 py k2 o2 => q y H2 py (k1.trans k2) o2⟩
    | false => exact iteF (q false H1 px k1 o1)⟩
theorem wt_or (ha : PT X a (lT F tA)) (hb : PW X (.BoolOp .Or (b :: rest) pos) (lT F tB)) : PW X (.BoolOp .Or (a :: b :: rest) pos) (lT F (dOrT tA tB)) :=
  PW.mono (pw_or ha hb) fun σ H Q ⟨env, L, P, A, p, q⟩ => ⟨env, L, _, A, p, fun x H1 px k1 o1 => by
    cases x with
    | false => exact iteF ⟨env, L, _, A.step k1 o1, px, fun y H2 py k2 o2 => q y H2 py (k1.trans k2) o2⟩
    | true => exact iteT (q true H1 px k1 o1)⟩
theorem dt_not (ha : PT X a (lT F tA)) : PT X (.UnaryOp .Not a pos) (lT F (dNotT tA)) :=
  PT.mono (pt_not ha) fun σ H Q ⟨env, L, P, A, p, q⟩ => ⟨env, L, _, A, p, fun x H1 px k1 o1 => q (!x) H1 px k1 o1⟩
def dIf (t : TDT) (da db : TDE) : TDE := fun env P => t env fun x => if x = true then da env P else db env P
theorem dd_if (hc : PT X c (lT F tA)) (ha : PE X a (lC F da)) (hb : PE X b (lC F db)) : PE X (.IfExp c a b pos) (lC F (dIf tA da db)) :=
  PE.mono (pe_ifExp hc ha hb) fun σ H Q ⟨env, L, P, A, p, q⟩ => ⟨env, L, _, A, p, fun x H1 px k1 o1 => by
    cases x with
    | false => exact iteF ⟨env, L, _, A.step k1 o1, px, fun y v H2 py k2 o2 d2 => q y v H2 py (k1.trans k2) o2 d2⟩
    | true => exact iteT ⟨env, L, _, A.step k1 o1, px, fun y v H2 py k2 o2 d2 => q y v H2 py (k1.trans k2) o2 d2⟩⟩
def dAndV (da db : TDE) : TDE := fun env P => da env fun x => match x with | .bl b => if b = true then db env P else P (.bl false) | _ => False
def dOrV (da db : TDE) : TDE := fun env P => da env fun x => match x with | .bl b => if b = true then P (.bl true) else db env P | _ => False
def dNotV (da : TDE) : TDE := fun env P => da env fun x => match x with | .bl b => P (.bl (!b)) | _ => False
theorem dd_one {op} (ha : PE X a (lC F da)) : PE X (.BoolOp op [a] pos) (lC F da) := pe_one ha
theorem dd_and (ha : PE X a (lC F da)) (hb : PE X (.BoolOp .And (b :: rest) pos) (lC F db)) : PE X (.BoolOp .And (a :: b :: rest) pos) (lC F (dAndV da db)) :=
  PE.mono (pe_and ha hb) fun σ H Q ⟨env, L, P, A, p, q⟩ => ⟨env, L, _, A, p, fun x v H1 px k1 o1 d1 => by
    cases x with
    | bl b =>
      cases d1
      refine ⟨b, rfl, ?_⟩
      cases b with
      | true => exact iteT ⟨env, L, _, A.step k1 o1, px, fun y v H2 py k2 o2 d2 => q y v H2 py (k1.trans k2) o2 d2⟩
      | false => exact iteF (q _ _ H1 px k1 o1 (.bl false))
    | _ => exact px.elim⟩
end
end DL
namespace DL
open PySem PySem.Spec PyProof.Rows L2 RK
theorem guard_elim {α : Type} {c : Prop} [Decidable c] {x z : α} (h : (if c then some x else none) = some z) : c ∧ x = z := by
  by_cases hc : c
  · rw [if_pos hc] at h
    exact ⟨hc, Option.some.inj h⟩
  · rw [if_neg hc] at h
    cases h
section
variable {X : Cx} {F : Fx} {e a b c : Expr} {d da db dc : TDE} {pos : Pos}
theorem Op2.or {r r' : R2} {f g : B2} (h : Op2 F r f) (h' : Op2 F r' g) : Op2 F (fun x y H Q => r x y H Q ∨ r' x y H Q) (fun x y => (f x y).or (g x y)) := fun A bx byy e Q q => by
  rename_i dx dy z
  replace e : (f dx dy).or (g dx dy) = some z := e
  cases hf : f dx dy with
  | some z' =>
    rw [hf] at e
    exact .inl (h A bx byy (hf.trans e) Q q)
  | none =>
    rw [hf] at e
    exact .inr (h' A bx byy e Q q)
def iI (C : Int → Int → Bool) (g : Int → Int → D) : B2
  | .int i, .int j => if C i j = true then some (g i j) else none
  | _, _ => none
theorem iI_ok {C : Int → Int → Bool} {C' : Int → Int → Prop} {g : Int → Int → D} {gV : Int → Int → V} (hC : ∀ i j, C i j = true → C' i j) (hg : ∀ i j K N W H, Dd K N W H (gV i j) (g i j)) : Op2 F (rI C' gV) (iI C g) := fun A bx byy e Q q => by
  rename_i dx dy z
  cases dx <;> try cases e
  cases dy <;> try cases e
  rename_i i j
  have hx := bw_int bx
  have hy := bw_int byy
  subst hx hy
  obtain ⟨hc, rfl⟩ := guard_elim e
  exact ⟨i, j, rfl, rfl, hC i j hc, q _ _ (.refl _ _) A.ok (hg i j _ _ _ _)⟩
def iI0 (g : Int → Int → D) : B2
  | .int i, .int j => some (g i j)
  | _, _ => none
theorem iI0_ok {g : Int → Int → D} {gV : Int → Int → V} (hg : ∀ i j K N W H, Dd K N W H (gV i j) (g i j)) : Op2 F (rI0 gV) (iI0 g) := fun A bx byy e Q q => by
  rename_i dx dy z
  cases dx <;> try cases e
  cases dy <;> try cases e
  rename_i i j
  have hx := bw_int bx
  have hy := bw_int byy
  subst hx hy
  exact ⟨i, j, rfl, rfl, q _ _ (.refl _ _) A.ok (hg i j _ _ _ _)⟩
def bCat : B2
  | .lst xs, .lst ys => if xs.length + ys.length ≤ sizeLine then some (.lst (xs ++ ys)) else none
  | _, _ => none
theorem cat_okN : Op2N F rCat bCat := fun A bx byy e Q q => by
  rename_i dx dy z
  cases dx <;> try cases e
  cases dy <;> try cases e
  rename_i xs ys
  obtain ⟨l, vs, rfl, h1, h2⟩ := bw_lst bx
  obtain ⟨m, us, rfl, h3, h4⟩ := bw_lst byy
  obtain ⟨hc, rfl⟩ := guard_elim e
  exact ⟨l, m, vs, us, rfl, rfl, h1, h3, by rw [h2.len, h4.len]; exact hc, fun p hp => q p _ (.new hp) (ok_new A.ok hp) hp (new_lstN A hp (h2.app h4))⟩
theorem op2n_c {r : R2} {f : B2} (h : Op2N F r f) : Op2 F r f := fun A bx byy e Q q => h A bx byy e Q fun a H' k o n d => q _ _ k o (d.dd (A.new n))
def bCatS : B2
  | .str x, .str y => if x.length + y.length ≤ sizeLine then some (.str (x ++ y)) else none
  | _, _ => none
theorem catS_ok : Op2 F (fun x y H Q => ∃ i j, x = .str i ∧ y = .str j ∧ i.length + j.length ≤ sizeLine ∧ Q (.str (i ++ j)) H) bCatS := fun A bx byy e Q q => by
  rename_i dx dy z
  cases dx <;> try cases e
  cases dy <;> try cases e
  rename_i xs ys
  have hx := bw_str bx
  have hy := bw_str byy
  subst hx hy
  obtain ⟨hc, rfl⟩ := guard_elim e
  exact ⟨xs, ys, rfl, rfl, hc, q _ _ (.refl _ _) A.ok (.str _)⟩
def bRep : B2
  | .lst xs, .int k => if -(2 ^ 63) ≤ k ∧ k < 2 ^ 63 ∧ xs.length * k.toNat ≤ sizeLine then some (.lst (List.replicate k.toNat xs).flatten) else none
  | _, _ => none
theorem DdAll.rep {K : PySem.W.Frag} {N : Addr → Prop} {W : Wd} {H : Hp} {vs : List V} {ds : List D} (h : DdAll K N W H vs ds) : ∀ n : Nat, DdAll K N W H (List.replicate n vs).flatten (List.replicate n ds).flatten
  | 0 => .nil
  | n + 1 => by
    rw [List.replicate_succ, List.replicate_succ, List.flatten_cons, List.flatten_cons]
    exact h.app (DdAll.rep h n)
def bAdd : B2 := fun x y => (iI0 (fun i j => .int (i + j)) x y).or ((bCatS x y).or (bCat x y))
theorem dd_add (ha : PE X a (lB F da)) (hb : PE X b (lB F db)) : PE X (.BinOp a .Add b pos) (lC F (dO2 bAdd da db)) :=
  dd_op (Op2.or (iI0_ok fun i j _ _ _ _ => .int _) (Op2.or catS_ok (op2n_c cat_okN))) (op_add.or (op_add_str.or op_cat)) ha hb
def bSub : B2 := iI0 fun i j => .int (i - j)
theorem dd_sub (ha : PE X a (lB F da)) (hb : PE X b (lB F db)) : PE X (.BinOp a .Sub b pos) (lC F (dO2 bSub da db)) := dd_op (iI0_ok fun i j _ _ _ _ => .int _) op_sub ha hb
def bMod : B2 := iI (fun _ j => decide (0 < j)) fun i j => .int (i % j)
theorem dd_mod (ha : PE X a (lB F da)) (hb : PE X b (lB F db)) : PE X (.BinOp a .Mod b pos) (lC F (dO2 bMod da db)) := dd_op (iI_ok (fun i j h => of_decide_eq_true h) fun i j _ _ _ _ => .int _) op_mod ha hb
def bMulI : B2 := iI (fun i j => decide ((-(2 ^ 64) < i ∧ i < 2 ^ 64) ∨ (-(2 ^ 64) < j ∧ j < 2 ^ 64))) fun i j => .int (i * j)
theorem rep_okN : Op2N F rRep bRep := fun A bx byy e Q q => by
  rename_i dx dy z
  cases dx <;> try cases e
  cases dy <;> try cases e
  rename_i xs k
  obtain ⟨l, vs, rfl, h1, h2⟩ := bw_lst bx
  have hy := bw_int byy
  subst hy
  obtain ⟨hc, rfl⟩ := guard_elim e
  exact ⟨l, k, vs, rfl, rfl, h1, hc.1, hc.2.1, by rw [h2.len]; exact hc.2.2, fun p hp => q p _ (.new hp) (ok_new A.ok hp) hp (new_lstN A hp (h2.rep _))⟩
def bRepS : B2
  | .str x, .int n => match x.cps.toList with | [c] => if 1 ≤ n ∧ n ≤ 1000 then some (.str (PySem.Txt.mul ⟨#[c]⟩ n)) else none | _ => none
  | _, _ => none
theorem repS_ok : Op2 F (fun x y H Q => ∃ (c : Nat) (n : Int), x = .str ⟨#[c]⟩ ∧ y = .int n ∧ 1 ≤ n ∧ n ≤ 1000 ∧ Q (.str (PySem.Txt.mul ⟨#[c]⟩ n)) H) bRepS := fun A bx byy e Q q => by
  rename_i dx dy z
  cases dx <;> try cases e
  cases dy <;> try cases e
  rename_i x n
  have hx := bw_str bx
  have hy := bw_int byy
  subst hx hy
  obtain ⟨⟨l⟩⟩ := x
  match l, e with
  | [c], e =>
    obtain ⟨hc, rfl⟩ := guard_elim e
    exact ⟨c, n, rfl, rfl, hc.1, hc.2, q _ _ (.refl _ _) A.ok (.str _)⟩
  | [], e => cases e
  | _ :: _ :: _, e => cases e
def bMul : B2 := fun x y => (bMulI x y).or ((bRep x y).or (bRepS x y))
theorem dd_mul (ha : PE X a (lB F da)) (hb : PE X b (lB F db)) : PE X (.BinOp a .Mult b pos) (lC F (dO2 bMul da db)) :=
  dd_op (Op2.or (iI_ok (C' := CMul) (fun i j h => by have h' := of_decide_eq_true h; exact h') fun i j _ _ _ _ => .int _) (Op2.or (op2n_c rep_okN) repS_ok)) (op_mul.or (op_rep.or op_mul_str)) ha hb
def bLtS : B2
  | .str x, .str y => some (.bl (decide (x.cps.toList < y.cps.toList)))
  | _, _ => none
theorem ltS_ok : Op2 F (fun x y H Q => ∃ i j, x = .str i ∧ y = .str j ∧ Q (.bl (decide (i.cps.toList < j.cps.toList))) H) bLtS := fun A bx byy e Q q => by
  rename_i dx dy z
  cases dx <;> try cases e
  cases dy <;> try cases e
  have hx := bw_str bx
  have hy := bw_str byy
  subst hx hy
  exact ⟨_, _, rfl, rfl, q _ _ (.refl _ _) A.ok (.bl _)⟩
def bLt : B2 := fun x y => (iI0 (fun i j => .bl (decide (i < j))) x y).or (bLtS x y)
theorem dd_lt (ha : PE X a (lB F da)) (hb : PE X b (lB F db)) : PE X (.Compare a [.Lt] [b] pos) (lC F (dO2 bLt da db)) := dd_cmp (Op2.or (iI0_ok fun i j _ _ _ _ => .bl _) ltS_ok) (op_lt.or op_lt_str) ha hb (nomark _)
def bLe : B2 := iI0 fun i j => .bl (decide (i ≤ j))
def eqS (neg : Bool) : B2
  | .int i, .int j => some (.bl (neg ^^ decide (i = j)))
  | .str i, .str j => some (.bl (neg ^^ decide (i = j)))
  | .bl i, .bl j => some (.bl (neg ^^ decide (i = j)))
  | _, _ => none
def eqP (neg : Bool) : B2 := fun x y => match toPy x, toPy y with
  | some p, some q => if SeqAt.shaped p = true ∧ SeqAt.shaped q = true then some (.bl (neg ^^ PyData.eqv p q)) else none
  | _, _ => none
def bEqN (neg : Bool) : B2 := fun x y => (eqS neg x y).or (eqP neg x y)
theorem eqS_ok : Op2 F rEq (eqS false) := fun A bx byy e Q q => by
  rename_i dx dy z
  cases dx <;> try cases e
  all_goals cases dy <;> try cases e
  · have hx := bw_bl bx
    have hy := bw_bl byy
    subst hx hy
    exact ⟨rfl, by simpa using q (.bl _) _ (.refl _ _) A.ok (.bl _)⟩
  · have hx := bw_int bx
    have hy := bw_int byy
    subst hx hy
    exact ⟨rfl, by simpa using q (.bl _) _ (.refl _ _) A.ok (.bl _)⟩
  · have hx := bw_str bx
    have hy := bw_str byy
    subst hx hy
    exact ⟨rfl, by simpa using q (.bl _) _ (.refl _ _) A.ok (.bl _)⟩
theorem neS_ok : Op2 F rNe (eqS true) := fun A bx byy e Q q => by
  rename_i dx dy z
  cases dx <;> try cases e
  all_goals cases dy <;> try cases e
  · have hx := bw_bl bx
    have hy := bw_bl byy
    subst hx hy
    exact ⟨rfl, by simpa using q (.bl _) _ (.refl _ _) A.ok (.bl _)⟩
  · have hx := bw_int bx
    have hy := bw_int byy
    subst hx hy
    exact ⟨rfl, by simpa using q (.bl _) _ (.refl _ _) A.ok (.bl _)⟩
  · have hx := bw_str bx
    have hy := bw_str byy
    subst hx hy
    exact ⟨rfl, by simpa using q (.bl _) _ (.refl _ _) A.ok (.bl _)⟩
theorem eqP_elim {neg : Bool} {dx dy z : D} (e : eqP neg dx dy = some z) : ∃ p q, toPy dx = some p ∧ toPy dy = some q ∧ SeqAt.shaped p = true ∧ SeqAt.shaped q = true ∧ z = .bl (neg ^^ PyData.eqv p q) := by
  unfold eqP at e
  cases h1 : toPy dx with
  | none => rw [h1] at e; cases e
  | some p =>
    cases h2 : toPy dy with
    | none => rw [h1, h2] at e; cases e
    | some q =>
      rw [h1, h2] at e
      by_cases hc : SeqAt.shaped p = true ∧ SeqAt.shaped q = true
      · simp only [if_pos hc] at e
        cases e
        exact ⟨p, q, rfl, rfl, hc.1, hc.2, rfl⟩
      · simp only [if_neg hc] at e
        cases e
theorem eqP_ok : Op2 F (rEqD F.K) (eqP false) := fun A bx byy e Q q => by
  obtain ⟨p1, p2, h1, h2, s1, s2, rfl⟩ := eqP_elim e
  exact ⟨p1, p2, bw_py bx h1, bw_py byy h2, s1, s2, q _ _ (.refl _ _) A.ok (by rw [Bool.false_xor]; exact .bl _)⟩
theorem neP_ok : Op2 F (rNeD F.K) (eqP true) := fun A bx byy e Q q => by
  obtain ⟨p1, p2, h1, h2, s1, s2, rfl⟩ := eqP_elim e
  exact ⟨p1, p2, bw_py bx h1, bw_py byy h2, s1, s2, q _ _ (.refl _ _) A.ok (by rw [Bool.true_xor]; exact .bl _)⟩
variable {k : Nat}
theorem eqR (hr : Room k X.A) (hK : F.K = X.K) : OpR X (compareOp .Eq) (fun x y H Q => rEq x y H Q ∨ rEqD F.K x y H Q) := by
  rw [hK]
  exact op_eq.or (op_eqD hr.units)
theorem neR (hr : Room k X.A) (hK : F.K = X.K) : OpR X (compareOp .NotEq) (fun x y H Q => rNe x y H Q ∨ rNeD F.K x y H Q) := by
  rw [hK]
  exact op_ne.or (op_neD hr.units)
theorem dd_eq (hr : Room k X.A) (ha : PE X a (lB F da)) (hb : PE X b (lB F db)) (hK : F.K = X.K := by rfl) : PE X (.Compare a [.Eq] [b] pos) (lC F (dO2 (bEqN false) da db)) := dd_cmp (Op2.or eqS_ok eqP_ok) (eqR hr hK) ha hb (nomark _)
theorem dt_eq (hr : Room k X.A) (ha : PE X a (lB F da)) (hb : PE X b (lB F db)) (hK : F.K = X.K := by rfl) : PT X (.Compare a [.Eq] [b] pos) (lT F (dT (dO2 (bEqN false) da db))) := dt_cmp (Op2.or eqS_ok eqP_ok) (eqR hr hK) ha hb (nomark _)
theorem dt_ne (hr : Room k X.A) (ha : PE X a (lB F da)) (hb : PE X b (lB F db)) (hK : F.K = X.K := by rfl) : PT X (.Compare a [.NotEq] [b] pos) (lT F (dT (dO2 (bEqN true) da db))) := dt_cmp (Op2.or neS_ok neP_ok) (neR hr hK) ha hb (nomark _)
def D.isN : D → Bool
  | .non => true | _ => false
def bIsN (neg : Bool) : B2
  | x, .non => some (.bl (neg ^^ x.isN))
  | _, _ => none
theorem isN_iff {L : List Addr} {H : Hp} {v : V} {x : D} (h : Bw F L H v x) : decide (v = .non) = x.isN := by
  cases x with
  | non => rw [bw_non h]; rfl
  | bl _ => rw [bw_bl h]; rfl
  | int _ => rw [bw_int h]; rfl
  | str _ => rw [bw_str h]; rfl
  | lst _ => obtain ⟨a, vs, rfl, _⟩ := bw_lst h; rfl
  | tup _ => obtain ⟨a, vs, rfl, _⟩ := bw_tup h; rfl
  | dic _ => obtain ⟨a, vs, rfl, _⟩ := bw_dic h; rfl
  | dct _ => obtain ⟨a, vs, rfl, _⟩ := bw_dct h; rfl
  | ktp _ =>
    rcases h with h | ⟨e, h1, h2, h3⟩
    · cases h; rfl
    · cases e <;> cases h3
  | obj _ _ =>
    rcases h with h | ⟨e, h1, h2, h3⟩
    · cases h; rfl
    · cases e <;> cases h3
  | bag =>
    rcases h with h | ⟨e, h1, h2, h3⟩
    · cases h; rfl
    · cases e <;> cases h3
theorem isN_ok : Op2 F (fun x y H Q => y = .non ∧ Q (.bl (decide (x = .non))) H) (bIsN false) := fun A bx byy e Q q => by
  rename_i dx dy z
  cases dy <;> try cases e
  exact ⟨bw_non byy, by rw [isN_iff bx]; simpa using q (.bl _) _ (.refl _ _) A.ok (.bl _)⟩
theorem notN_ok : Op2 F (fun x y H Q => y = .non ∧ Q (.bl (!decide (x = .non))) H) (bIsN true) := fun A bx byy e Q q => by
  rename_i dx dy z
  cases dy <;> try cases e
  exact ⟨bw_non byy, by rw [isN_iff bx]; simpa using q (.bl _) _ (.refl _ _) A.ok (.bl _)⟩
theorem dt_is (ha : PE X a (lB F da)) (hb : PE X b (lB F db)) : PT X (.Compare a [.Is] [b] pos) (lT F (dT (dO2 (bIsN false) da db))) := dt_cmp isN_ok op_isN ha hb (nomark _)
theorem dt_isnot (ha : PE X a (lB F da)) (hb : PE X b (lB F db)) : PT X (.Compare a [.IsNot] [b] pos) (lT F (dT (dO2 (bIsN true) da db))) := dt_cmp notN_ok op_notN ha hb (nomark _)
end
end DL
namespace DL
open PySem PySem.Spec PyProof.Rows L2 RK
def valD {κ : Type} [DecidableEq κ] (kds : List (κ × D)) (k : κ) : Option D := (kds.find? fun kv => decide (kv.1 = k)).map (·.2)
def putD {κ : Type} [DecidableEq κ] (kds : List (κ × D)) (k : κ) (v : D) : List (κ × D) :=
  if (kds.any fun kv => decide (kv.1 = k)) = true then kds.map (fun kv => if kv.1 = k then (kv.1, v) else kv) else kds ++ [(k, v)]
section
variable {K : PySem.W.Frag} {N : Addr → Prop} {W : Wd} {H H' : Hp} {κ : Type} [DecidableEq κ]
theorem val_rel {k : κ} : ∀ {kvs : List (κ × V)} {kds : List (κ × D)}, kvs.map (·.1) = kds.map (·.1) → DdAll K N W H (kvs.map (·.2)) (kds.map (·.2)) →
    (valV kvs k = none ∧ valD kds k = none) ∨ ∃ v d, valV kvs k = some v ∧ valD kds k = some d ∧ Dd K N W H v d
  | [], [], _, _ => .inl ⟨rfl, rfl⟩
  | [], _ :: _, e, _ => by cases e
  | _ :: _, [], e, _ => by cases e
  | (k1, v) :: kvs, (k2, d) :: kds, e, .cons h a => by
    have e1 : k1 = k2 := (List.cons.inj e).1
    have e2 := (List.cons.inj e).2
    subst e1
    by_cases hk : k1 = k
    · exact .inr ⟨v, d, by simp [valV, List.find?_cons, hk], by simp [valD, List.find?_cons, hk], h⟩
    · rcases val_rel (k := k) e2 a with ⟨h1, h2⟩ | ⟨v', d', h1, h2, h3⟩
      · left
        constructor
        · simpa [valV, List.find?_cons, hk] using h1
        · simpa [valD, List.find?_cons, hk] using h2
      · refine .inr ⟨v', d', ?_, ?_, h3⟩
        · simpa [valV, List.find?_cons, hk] using h1
        · simpa [valD, List.find?_cons, hk] using h2
theorem any_rel {k : κ} : ∀ {kvs : List (κ × V)} {kds : List (κ × D)}, kvs.map (·.1) = kds.map (·.1) → (kvs.any fun kv => decide (kv.1 = k)) = kds.any fun kv => decide (kv.1 = k)
  | [], [], _ => rfl
  | [], _ :: _, e => by cases e
  | _ :: _, [], e => by cases e
  | (k1, v) :: kvs, (k2, d) :: kds, e => by
    have e1 : k1 = k2 := (List.cons.inj e).1
    have ih := any_rel (k := k) (List.cons.inj e).2
    subst e1
    simp [List.any_cons, ih]
theorem put_rel {k : κ} {v : V} {d : D} {kvs : List (κ × V)} {kds : List (κ × D)} (e : kvs.map (·.1) = kds.map (·.1)) (a : DdAll K N W H (kvs.map (·.2)) (kds.map (·.2))) (h : Dd K N W H v d) :
    (putK kvs k v).map (·.1) = (putD kds k d).map (·.1) ∧ DdAll K N W H ((putK kvs k v).map (·.2)) ((putD kds k d).map (·.2)) := by
  unfold putK putD
  rw [any_rel e]
  split
  · have key : ∀ {kvs : List (κ × V)} {kds : List (κ × D)}, kvs.map (·.1) = kds.map (·.1) → DdAll K N W H (kvs.map (·.2)) (kds.map (·.2)) →
        (kvs.map (fun kv => if kv.1 = k then (kv.1, v) else kv)).map (·.1) = (kds.map (fun kv => if kv.1 = k then (kv.1, d) else kv)).map (·.1) ∧
        DdAll K N W H ((kvs.map (fun kv => if kv.1 = k then (kv.1, v) else kv)).map (·.2)) ((kds.map (fun kv => if kv.1 = k then (kv.1, d) else kv)).map (·.2)) := by
      intro kvs
      induction kvs with
      | nil =>
        intro kds e a
        cases kds with
        | nil => exact ⟨rfl, .nil⟩
        | cons _ _ => cases e
      | cons p kvs ih =>
        intro kds e a
        cases kds with
        | nil => cases e
        | cons p' kds =>
          obtain ⟨k1, v1⟩ := p
          obtain ⟨k2, d1⟩ := p'
          cases a with
          | cons h1 a =>
            have e1 : k1 = k2 := (List.cons.inj e).1
            subst e1
            obtain ⟨i1, i2⟩ := ih (List.cons.inj e).2 a
            by_cases hk : k1 = k
            · simp only [List.map_cons, if_pos hk]
              exact ⟨by rw [i1], .cons h i2⟩
            · simp only [List.map_cons, if_neg hk]
              exact ⟨by rw [i1], .cons h1 i2⟩
    exact key e a
  · rw [List.map_append, List.map_append, List.map_append, List.map_append, e]
    exact ⟨rfl, a.app (.cons h .nil)⟩
end
def keyD : D → Option Key
  | .int i => some (.inl i)
  | .str x => some (.inr x)
  | _ => none
def keysD : List D → Option (List Key)
  | [] => some []
  | d :: ds => (keyD d).bind fun k => (keysD ds).map fun ks => k :: ks
theorem keyD_v {F : Fx} {L : List Addr} {H : Hp} {v : V} {d : D} {k : Key} (b : Bw F L H v d) (e : keyD d = some k) : v = kV k := by
  cases d <;> cases e
  · exact bw_int b
  · exact bw_str b
theorem keysD_v {K : PySem.W.Frag} {N : Addr → Prop} {W : Wd} {H : Hp} : ∀ {vs : List V} {ds : List D} {ks : List Key}, DdAll K N W H vs ds → keysD ds = some ks → vs = ks.map kV
  | _, _, _, .nil, e => by cases e; rfl
  | _, _, _, .cons (v := v) (d := d) h a, e => by
    obtain ⟨k, h1, h2⟩ := Option.bind_eq_some_iff.mp e
    obtain ⟨ks, h3, h4⟩ := Option.map_eq_some_iff.mp h2
    subst h4
    rw [keysD_v a h3]
    cases d <;> cases h1
    · rw [dd_intE h]; rfl
    · rw [dd_strE h]; rfl
def getD : D → D → Option (Option D)
  | .dic kds, y => (keyD y).map fun k => valD kds k
  | .dct kds, .tup ys => (keysD ys).map fun k => valD kds k
  | _, _ => none
theorem getD_ok {F : Fx} {L : List Addr} {H : Hp} {x y : V} {dx dy : D} {r : Option D} (bx : Bw F L H x dx) (bb : Bw F L H y dy) (e : getD dx dy = some r) :
    ∃ a o, x = .ref a ∧ DGet H a y o ∧ ((o = none ∧ r = none) ∨ ∃ v d, o = some v ∧ r = some d ∧ Dd F.K (F.N L) F.W H v d) := by
  cases dx with
  | dic kds =>
    obtain ⟨a, kvs, rfl, h1, h2, h3⟩ := bw_dic bx
    obtain ⟨k, e1, e2⟩ := Option.map_eq_some_iff.mp e
    have hy := keyD_v bb e1
    subst hy e2
    exact ⟨a, valV kvs k, rfl, .inl ⟨kvs, k, h1, rfl, rfl⟩, val_rel h2 h3⟩
  | dct kds =>
    cases dy with
    | tup ys =>
      obtain ⟨a, kvs, rfl, h1, h2, h3⟩ := bw_dct bx
      obtain ⟨b, vs, rfl, g1, g2⟩ := bw_tup bb
      obtain ⟨k, e1, e2⟩ := Option.map_eq_some_iff.mp e
      have hy := keysD_v g2 e1
      subst hy e2
      exact ⟨a, valV kvs k, rfl, .inr ⟨kvs, k, b, h1, rfl, g1, rfl⟩, val_rel h2 h3⟩
    | _ => cases e
  | _ => cases e
def eqF : D → D → Bool
  | .non, .non => true
  | .bl a, .bl b => a == b
  | .bl a, .int b => (if a then 1 else 0) == b
  | .int a, .bl b => a == (if b then 1 else 0)
  | .int a, .int b => a == b
  | .str a, .str b => a == b
  | _, _ => false
def itemsD : D → Option (List D)
  | .lst xs => some xs
  | .tup xs => some xs
  | .ktp xs => some xs
  | _ => none
def inFlat (neg : Bool) : B2 := fun x y => (itemsD y).bind fun ys => if x.leaf = true ∧ ys.all D.leaf = true then some (.bl (neg ^^ ys.any fun y => eqF y x)) else none
def inDeep (neg : Bool) : B2 := fun x y => match toPy x, toPy y with
  | some p, some (.list ps) => if SeqAt.shaped p = true ∧ SeqAt.shaped (.list ps) = true then some (.bl (neg ^^ ps.any fun z => PyData.eqv z p)) else none
  | _, _ => none
def inDict (neg : Bool) : B2 := fun x y => (getD y x).map fun r => .bl (neg ^^ r.isSome)
def inSign (neg : Bool) : B2
  | .str x, .str z => match x.cps.toList with | [c] => some (.bl (neg ^^ decide (c ∈ z.cps.toList))) | _ => none
  | _, _ => none
def bIn (neg : Bool) : B2 := fun x y => (inFlat neg x y).or ((inDict neg x y).or ((inSign neg x y).or (inDeep neg x y)))
theorem leaf_flat {K : PySem.W.Frag} {N : Addr → Prop} {W : Wd} {H : Hp} {v : V} {d : D} (h : Dd K N W H v d) (l : d.leaf = true) : flatV v = true := by cases h <;> first | rfl | cases l
theorem leaf_eq {K : PySem.W.Frag} {N : Addr → Prop} {W : Wd} {H : Hp} {v u : V} {d e : D} (h : Dd K N W H v d) (l : d.leaf = true) (h' : Dd K N W H u e) (l' : e.leaf = true) : eqV v u = eqF d e := by
  cases h <;> cases h' <;> first | rfl | cases l | cases l'
theorem all_leaf {K : PySem.W.Frag} {N : Addr → Prop} {W : Wd} {H : Hp} {v : V} {d : D} (h : Dd K N W H v d) (l : d.leaf = true) : ∀ {vs : List V} {ds : List D}, DdAll K N W H vs ds → ds.all D.leaf = true → vs.all flatV = true ∧ inV v vs = ds.any fun y => eqF y d
  | _, _, .nil, _ => ⟨rfl, rfl⟩
  | _, _, .cons g a, q => by
    rw [List.all_cons, Bool.and_eq_true] at q
    obtain ⟨i1, i2⟩ := all_leaf h l a q.2
    refine ⟨by rw [List.all_cons, leaf_flat g q.1, i1]; rfl, ?_⟩
    unfold inV at i2 ⊢
    rw [List.any_cons, List.any_cons, i2, leaf_eq g q.1 h l]
section
variable {X : Cx} {F : Fx} {e a b c : Expr} {d da db dc : TDE} {pos : Pos}
theorem bw_items {L : List Addr} {H : Hp} {v : V} {y : D} {ys : List D} (h : Bw F L H v y) (e : itemsD y = some ys) : ∃ a vs, v = .ref a ∧ (SqL F.K H a vs ∨ SqT F.K H a vs) ∧ DdAll F.K (F.N L) F.W H vs ys := by
  cases y <;> cases e
  · obtain ⟨a, vs, rfl, h1, h2⟩ := bw_lst h
    exact ⟨a, vs, rfl, .inl (SqL.of h1), h2⟩
  · obtain ⟨a, vs, rfl, h1, h2⟩ := bw_tup h
    exact ⟨a, vs, rfl, .inr (SqT.of h1), h2⟩
  · rcases h with h | ⟨e, h1, h2, h3⟩
    · cases h with | ktp h1 h2 h3 h4 h5 h6 => exact ⟨_, _, rfl, .inr (.inr ⟨_, _, _, h1, h2, h3, h4, h5⟩), h6⟩
    · cases e <;> cases h3
theorem inFlat_ok (neg : Bool) : Op2 F (rIn F.K neg) (inFlat neg) := fun A bx byy e Q q => by
  obtain ⟨ys, h1, h2⟩ := Option.bind_eq_some_iff.mp e
  obtain ⟨⟨l1, l2⟩, rfl⟩ := guard_elim h2
  obtain ⟨p, vs, rfl, g1, g2⟩ := bw_items byy h1
  have dx := bw_leaf bx l1
  obtain ⟨i1, i2⟩ := all_leaf dx l1 g2 l2
  refine ⟨p, vs, rfl, g1, leaf_flat dx l1, i1, ?_⟩
  rw [i2]
  cases neg
  · rw [Bool.false_xor] at q
    exact q _ _ (.refl _ _) A.ok (.bl _)
  · rw [Bool.true_xor] at q
    exact q _ _ (.refl _ _) A.ok (.bl _)
theorem inDeep_elim {neg : Bool} {dx dy z : D} (e : inDeep neg dx dy = some z) : ∃ p ps, toPy dx = some p ∧ toPy dy = some (.list ps) ∧ SeqAt.shaped p = true ∧ SeqAt.shaped (.list ps) = true ∧ z = .bl (neg ^^ ps.any fun z => PyData.eqv z p) := by
  unfold inDeep at e
  cases h1 : toPy dx with
  | none => rw [h1] at e; cases e
  | some p =>
    cases h2 : toPy dy with
    | none => rw [h1, h2] at e; cases e
    | some q =>
      rw [h1, h2] at e
      cases q with
      | list ps =>
        obtain ⟨hc, rfl⟩ := guard_elim e
        exact ⟨p, ps, rfl, rfl, hc.1, hc.2, rfl⟩
      | _ => cases e
theorem inDeep_ok : Op2 F (rInD F.K) (inDeep false) := fun A bx byy e Q q => by
  obtain ⟨p1, p2, h1, h2, s1, s2, rfl⟩ := inDeep_elim e
  exact ⟨p1, p2, bw_py bx h1, bw_py byy h2, s1, s2, q _ _ (.refl _ _) A.ok (by rw [Bool.false_xor]; exact .bl _)⟩
theorem notInDeep_ok : Op2 F (rNotInD F.K) (inDeep true) := fun A bx byy e Q q => by
  obtain ⟨p1, p2, h1, h2, s1, s2, rfl⟩ := inDeep_elim e
  exact ⟨p1, p2, bw_py bx h1, bw_py byy h2, s1, s2, q _ _ (.refl _ _) A.ok (by rw [Bool.true_xor]; exact .bl _)⟩
def rDIn (neg : Bool) : R2 := fun x y H Q => ∃ a o, y = .ref a ∧ DGet H a x o ∧ Q (.bl (neg ^^ o.isSome)) H
theorem op_dIn (hu : X.A.units + 1 < cLine) : OpR X (compareOp .In) (rDIn false) := fun pins s σ H x y v u Q I rx ry h => by
  obtain ⟨a, o, rfl, g, q⟩ := h
  cases ry
  exact d_in hu I g rx fun s' I' => ⟨.bl _, H, I', rfl, by simpa using q⟩
theorem op_dNotIn (hu : X.A.units + 1 < cLine) : OpR X (compareOp .NotIn) (rDIn true) := fun pins s σ H x y v u Q I rx ry h => by
  obtain ⟨a, o, rfl, g, q⟩ := h
  cases ry
  exact d_notIn hu I g rx fun s' I' => ⟨.bl _, H, I', rfl, by simpa using q⟩
theorem inDict_ok (neg : Bool) : Op2 F (rDIn neg) (inDict neg) := fun A bx byy e Q q => by
  obtain ⟨r, h1, rfl⟩ := Option.map_eq_some_iff.mp e
  obtain ⟨a, o, rfl, g, h⟩ := getD_ok byy bx h1
  refine ⟨a, o, rfl, g, ?_⟩
  have : o.isSome = r.isSome := by
    rcases h with ⟨rfl, rfl⟩ | ⟨v, d, rfl, rfl, _⟩ <;> rfl
  rw [this]
  exact q _ _ (.refl _ _) A.ok (.bl _)
theorem inSign_ok (neg : Bool) : Op2 F (fun x y H Q => ∃ (c : Nat) (z : Str), x = .str ⟨#[c]⟩ ∧ y = .str z ∧ Q (.bl (neg ^^ decide (c ∈ z.cps.toList))) H) (inSign neg) := fun A bx byy e Q q => by
  rename_i dx dy z
  cases dx <;> try cases e
  cases dy <;> try cases e
  rename_i x y
  have hx := bw_str bx
  have hy := bw_str byy
  subst hx hy
  obtain ⟨⟨l⟩⟩ := x
  match l, e with
  | [c], e =>
    cases e
    exact ⟨c, y, rfl, rfl, q _ _ (.refl _ _) A.ok (.bl _)⟩
  | [], e => cases e
  | _ :: _ :: _, e => cases e
theorem op_inSg : OpR X (compareOp .In) (fun x y H Q => ∃ (c : Nat) (z : Str), x = .str ⟨#[c]⟩ ∧ y = .str z ∧ Q (.bl (false ^^ decide (c ∈ z.cps.toList))) H) := fun pins s σ H x y v u Q I rx ry ⟨c, z, e1, e2, q⟩ => op_in_sign pins s σ H x y v u Q I rx ry ⟨c, z, e1, e2, by rw [Bool.false_xor] at q; exact q⟩
theorem op_notInSg : OpR X (compareOp .NotIn) (fun x y H Q => ∃ (c : Nat) (z : Str), x = .str ⟨#[c]⟩ ∧ y = .str z ∧ Q (.bl (true ^^ decide (c ∈ z.cps.toList))) H) := fun pins s σ H x y v u Q I rx ry ⟨c, z, e1, e2, q⟩ => op_notIn_sign pins s σ H x y v u Q I rx ry ⟨c, z, e1, e2, by rw [Bool.true_xor] at q; exact q⟩
variable {k : Nat}
theorem u65' (hr : Room k X.A) : X.A.units + 65 < cLine := by have := hr.un; omega
theorem inR (hr : Room k X.A) (hK : F.K = X.K) : OpR X (compareOp .In) (fun x y H Q => rIn F.K false x y H Q ∨ (rDIn false x y H Q ∨ ((∃ (c : Nat) (z : Str), x = .str ⟨#[c]⟩ ∧ y = .str z ∧ Q (.bl (false ^^ decide (c ∈ z.cps.toList))) H) ∨ rInD F.K x y H Q))) := by
  rw [hK]
  exact op_in_seq.or ((op_dIn (hu_of hr)).or (op_inSg.or (op_inD (u65' hr))))
theorem notInR (hr : Room k X.A) (hK : F.K = X.K) : OpR X (compareOp .NotIn) (fun x y H Q => rIn F.K true x y H Q ∨ (rDIn true x y H Q ∨ ((∃ (c : Nat) (z : Str), x = .str ⟨#[c]⟩ ∧ y = .str z ∧ Q (.bl (true ^^ decide (c ∈ z.cps.toList))) H) ∨ rNotInD F.K x y H Q))) := by
  rw [hK]
  exact op_notIn_seq.or ((op_dNotIn (hu_of hr)).or (op_notInSg.or (op_notInD (u65' hr))))
theorem dd_in (hr : Room k X.A) (ha : PE X a (lB F da)) (hb : PE X b (lB F db)) (hm : behindInMarks .In b = false := by rfl) (hK : F.K = X.K := by rfl) : PE X (.Compare a [.In] [b] pos) (lC F (dO2 (bIn false) da db)) :=
  dd_cmp (Op2.or (inFlat_ok false) (Op2.or (inDict_ok false) (Op2.or (inSign_ok false) inDeep_ok))) (inR hr hK) ha hb hm
theorem dt_notin (hr : Room k X.A) (ha : PE X a (lB F da)) (hb : PE X b (lB F db)) (hm : behindInMarks .NotIn b = false := by rfl) (hK : F.K = X.K := by rfl) : PT X (.Compare a [.NotIn] [b] pos) (lT F (dT (dO2 (bIn true) da db))) :=
  dt_cmp (Op2.or (inFlat_ok true) (Op2.or (inDict_ok true) (Op2.or (inSign_ok true) notInDeep_ok))) (notInR hr hK) ha hb hm
def dChain (f g : B2) (da db dc : TDE) : TDE := fun env P => da env fun x => db env fun y => ob (f x y) fun z => match z with | .bl true => dc env fun w => ob (g y w) P | .bl false => P (.bl false) | _ => False
end
section
variable {X : Cx} {F : Fx} {e a b c : Expr} {es : List Expr} {d da db dc : TDE} {ds : TDA} {pos : Pos}
def aNil : TDA := fun _ P => P []
def aCons (d : TDE) (ds : TDA) : TDA := fun env P => d env fun x => ds env fun xs => P (x :: xs)
theorem l_nil : ∀ σ H Q, lA F aNil σ H Q → tNil σ H Q := fun σ H Q ⟨env, L, P, A, p, q⟩ => q [] [] H p (.refl _ _) A.ok .nil
theorem l_cons : ∀ σ H Q, lA F (aCons d ds) σ H Q → tCons (lC F d) (lA F ds) σ H Q := fun σ H Q ⟨env, L, P, A, p, q⟩ =>
  ⟨env, L, _, A, p, fun x v H1 px k1 o1 d1 => ⟨env, L, _, A.step k1 o1, px, fun xs vs H2 pxs k2 o2 d2 => q (x :: xs) (v :: vs) H2 pxs (k1.trans k2) o2 (.cons ((A.step k1 o1).kd k2 d1) d2)⟩⟩
theorem da_nil : PA X [] (lA F aNil) := PA.mono pa_nil l_nil
theorem da_cons (ha : PE X e (lC F d)) (hr : PA X es (lA F ds)) (hs : starEach (e :: es) X.env = (false, eval e X.env) :: starEach es X.env := by rfl) : PA X (e :: es) (lA F (aCons d ds)) := PA.mono (pa_cons ha hr hs) l_cons
theorem dk_nil : PK X [] (lA F aNil) := PK.mono pk_nil l_nil
theorem dk_cons {nm : Option Str} {kpos : Pos} {kws : List Keyword} (ha : PE X e (lC F d)) (hr : PK X kws (lA F ds)) : PK X (⟨nm, e, kpos⟩ :: kws) (lA F (aCons d ds)) := PK.mono (pk_cons ha hr) l_cons
def dTup (ds : TDA) : TDE := fun env P => ds env fun xs => xs.length ≤ sizeLine ∧ P (.tup xs)
def dLst (ds : TDA) : TDE := fun env P => ds env fun xs => xs.length ≤ sizeLine ∧ P (.lst xs)
theorem free_of {W : Wd} {H H1 : Hp} (k : KeepW W H H1) (o : W.ok H1) {a : Addr} (h : H1 a = none) : H a = none := by
  cases zz : H a with
  | none => rfl
  | some u =>
    by_cases ow : W.own a
    · obtain ⟨u2, e2⟩ := Wd.al o ow
      rw [h] at e2
      cases e2
    · rw [k a u ow zz] at h
      cases h
theorem dn_tup {x1} (h : PA X es (lA F ds)) : PE X (.Tuple es x1 pos) (lN F (dTup ds)) := PE.mono (pe_tup h) fun σ H Q ⟨env, L, P, A, p, q⟩ =>
  ⟨env, L, _, A, p, fun xs vs H1 pxs k1 o1 d1 => ⟨by rw [d1.len]; exact pxs.1, fun t ht => q _ t _ pxs.2 (k1.trans (.new ht)) (ok_new o1 ht) (free_of k1 o1 ht) (new_tupN (A.step k1 o1) ht d1)⟩⟩
theorem dn_lst (h : PA X es (lA F ds)) : PE X (.List es pos) (lN F (dLst ds)) := PE.mono (pe_lst h) fun σ H Q ⟨env, L, P, A, p, q⟩ =>
  ⟨env, L, _, A, p, fun xs vs H1 pxs k1 o1 d1 => ⟨by rw [d1.len]; exact pxs.1, fun t ht => q _ t _ pxs.2 (k1.trans (.new ht)) (ok_new o1 ht) (free_of k1 o1 ht) (new_lstN (A.step k1 o1) ht d1)⟩⟩
end
end DL
namespace DL
open PySem PySem.Spec PyProof.Rows L2 RK
theorem DdAll.at {K : PySem.W.Frag} {N : Addr → Prop} {W : Wd} {H : Hp} {vs : List V} {ds : List D} {i : Int} {d : D} (a : DdAll K N W H vs ds) (h : atI ds i = some d) : ∃ v, atI vs i = some v ∧ Dd K N W H v d := by
  unfold atI at h ⊢
  rw [a.len]
  obtain ⟨j, h1, h2⟩ := Option.bind_eq_some_iff.mp h
  obtain ⟨v, h3, h4⟩ := a.get h2
  exact ⟨v, by rw [h1]; exact h3, h4⟩
def ixSeq : B2
  | .lst xs, .int i => atI xs i
  | .tup xs, .int i => atI xs i
  | .ktp xs, .int i => atI xs i
  | _, _ => none
def ixStr : B2
  | .str z, .int i => if z.length ≤ sizeLine then (atI z.cps.toList i).map fun c => .str ⟨#[c]⟩ else none
  | _, _ => none
def ixDic : B2 := fun x y => (getD x y).bind fun r => r
def bIx : B2 := fun x y => (ixSeq x y).or ((ixStr x y).or (ixDic x y))
section
variable {X : Cx} {F : Fx} {e a b c : Expr} {d da db dc : TDE} {pos : Pos}
theorem ixSeq_ok : Op2 F (fun x y H Q => rIxL F.K x y H Q ∨ rIxT F.K x y H Q) ixSeq := fun A bx byy e Q q => by
  rename_i dx dy z
  cases dx <;> try cases e
  all_goals cases dy <;> try cases e
  · obtain ⟨p, vs, rfl, h1, h2⟩ := bw_lst bx
    have hy := bw_int byy
    subst hy
    obtain ⟨v, h3, h4⟩ := h2.at e
    exact .inl ⟨p, vs, _, v, rfl, rfl, SqL.of h1, h3, q _ _ (.refl _ _) A.ok h4⟩
  · obtain ⟨p, vs, rfl, h1, h2⟩ := bw_tup bx
    have hy := bw_int byy
    subst hy
    obtain ⟨v, h3, h4⟩ := h2.at e
    exact .inr ⟨p, vs, _, v, rfl, rfl, SqT.of h1, h3, q _ _ (.refl _ _) A.ok h4⟩
  · obtain ⟨p, vs, rfl, h1, h2⟩ := bw_items bx rfl
    have hy := bw_int byy
    subst hy
    obtain ⟨v, h3, h4⟩ := h2.at e
    rcases h1 with h1 | h1
    · exact .inl ⟨p, vs, _, v, rfl, rfl, h1, h3, q _ _ (.refl _ _) A.ok h4⟩
    · exact .inr ⟨p, vs, _, v, rfl, rfl, h1, h3, q _ _ (.refl _ _) A.ok h4⟩
theorem ixStr_ok : Op2 F rIxS ixStr := fun A bx byy e Q q => by
  rename_i dx dy z
  cases dx <;> try cases e
  cases dy <;> try cases e
  rename_i x i
  have hx := bw_str bx
  have hy := bw_int byy
  subst hx hy
  replace e : (if x.length ≤ sizeLine then (atI x.cps.toList i).map fun c => D.str ⟨#[c]⟩ else none) = some z := e
  by_cases hl : x.length ≤ sizeLine
  · rw [if_pos hl] at e
    obtain ⟨c, h1, rfl⟩ := Option.map_eq_some_iff.mp e
    exact ⟨x, i, c, rfl, rfl, hl, h1, q _ _ (.refl _ _) A.ok (.str _)⟩
  · rw [if_neg hl] at e
    cases e
def rDG : R2 := fun x y H Q => ∃ a v, x = .ref a ∧ DGet H a y (some v) ∧ Q v H
theorem ix_dict (hu : X.A.units + 1 < cLine) : IxR X rDG := fun value slice pins s σ H x y v u Q I rx ry h hs => by
  obtain ⟨a, w, e1, g, q⟩ := h
  subst e1
  cases rx
  have tI := dict_typeIs I g
  have got : wpAny (model X.prog X.w) X.A (getItem (.ref a) u) (EP X pins σ Q) X.xe s := d_getItem hu I g ry fun w' s3 I3 rw' => ⟨w, H, I3, rw', q⟩
  unfold PyProof.Rows.subscriptTail
  refine wpAny_bind ?_
  rw [getitemInPython_of_ne tI.not_modules]
  refine wpAny_bind (wpAny_specialOf tI PySem.F.slot_dict_getitem.lookup ?_)
  have behind : wpAny (model X.prog X.w) X.A (subscripted slice false (.ref a) u) (fun z s3 => wpAny (model X.prog X.w) X.A (letTemporaryGo value (.ref a) z >>= fun _ => pure z) (EP X pins σ Q) X.xe s3) X.xe s := by
    rw [hs]
    exact wpAny_operating (wpAny_mono got (fun z s3 h3 => wpAny_bind (wpAny_letTemporaryGo (wpAny_pure h3))) fun _ _ k => k)
  first
    | exact wpAny_pure (wpAny_bind behind)
    | exact wpAny_bind (wpAny_pure (wpAny_bind behind))
    | exact wpAny_bind behind
theorem ixDic_ok : Op2 F rDG ixDic := fun A bx byy e Q q => by
  obtain ⟨r, h1, h2⟩ := Option.bind_eq_some_iff.mp e
  subst h2
  obtain ⟨a, o, rfl, g, h⟩ := getD_ok bx byy h1
  rcases h with ⟨_, h⟩ | ⟨v, d, rfl, h, hd⟩
  · cases h
  · cases h
    exact ⟨a, v, rfl, g, q _ _ (.refl _ _) A.ok hd⟩
variable {k : Nat}
theorem ixR (hr : Room k X.A) (hK : F.K = X.K) : IxR X (fun x y H Q => (rIxL F.K x y H Q ∨ rIxT F.K x y H Q) ∨ (rIxS x y H Q ∨ rDG x y H Q)) := by
  rw [hK]
  exact (ix_list.or ix_tup).or (ix_str.or (ix_dict (hu_of hr)))
theorem dd_ix (hr : Room k X.A) (ha : PE X a (lB F da)) (hb : PE X b (lB F db)) (hs : PlainIx b := by intro _ _; rfl) (hK : F.K = X.K := by rfl) : PE X (.Subscript a b pos) (lC F (dO2 bIx da db)) :=
  PE.mono (pe_ix (ixR hr hK) ha hb hs) (lop2 (Op2.or ixSeq_ok (Op2.or ixStr_ok ixDic_ok)))
def cutD (xs : List D) (lo hi : Option Int) : List D := (xs.drop (HT.sIx xs.length 0 lo)).take (HT.sIx xs.length xs.length hi - HT.sIx xs.length 0 lo)
theorem DdAll.cut {K : PySem.W.Frag} {N : Addr → Prop} {W : Wd} {H : Hp} {vs : List V} {ds : List D} (a : DdAll K N W H vs ds) (lo hi : Option Int) : DdAll K N W H (cutV vs lo hi) (cutD ds lo hi) := by
  unfold cutV cutD
  rw [a.len]
  exact (a.drop _).take _
abbrev TDO := De → (Option Int → Prop) → Prop
def oNone : TDO := fun _ P => P none
def oSome (d : TDE) : TDO := fun env P => d env fun x => match x with | .int i => P (some i) | _ => False
def lO (F : Fx) (d : TDO) : TO := fun σ H Q => ∃ env L P, Abs F env σ L H ∧ d env P ∧ ∀ x H', P x → KeepW F.W H H' → F.W.ok H' → Q x H'
theorem PO.mono {e : Option Expr} {t t' : TO} (h : PO X e t) (m : ∀ σ H Q, t' σ H Q → t σ H Q) : PO X e t' := ⟨fun pins s σ H Q I q => h.run pins s σ H Q I (m σ H Q q)⟩
theorem do_none : PO X none (lO F oNone) := PO.mono po_none fun σ H Q ⟨env, L, P, A, p, q⟩ => q none H p (.refl _ _) A.ok
theorem do_some (h : PE X e (lC F d)) : PO X (some e) (lO F (oSome d)) := PO.mono (po_some h) fun σ H Q ⟨env, L, P, A, p, q⟩ => ⟨env, L, _, A, p, fun x v H1 px k1 o1 d1 => by
  cases x with
  | int i => cases d1; exact ⟨i, rfl, q _ H1 px k1 o1⟩
  | _ => exact px.elim⟩
def cutA (x : D) (lo hi : Option Int) : Option D := match x with
  | .lst xs => some (.lst (cutD xs lo hi))
  | .tup xs => if HT.sIx xs.length 0 lo = 0 ∧ HT.sIx xs.length xs.length hi = xs.length then none else some (.tup (cutD xs lo hi))
  | .str z => if z.length ≤ sizeLine then some (.str (cutS z lo hi)) else none
  | _ => none
def dCut (f : D → Option Int → Option Int → Option D) (de : TDE) (dl dh : TDO) : TDE := fun env P => de env fun x => dl env fun l => dh env fun h => ob (f x l h) P
theorem slR (hK : F.K = X.K) : SlR X (fun x lo hi H Q => rSlL F.K x lo hi H Q ∨ (rSlT F.K x lo hi H Q ∨ rSlS x lo hi H Q)) := by
  rw [hK]
  exact sl_list.or (sl_tup.or sl_str)
variable {lo hi : Option Expr} {dl dh : TDO} {p2 : Pos}
theorem dd_cut (he : PE X e (lB F d)) (hl : PO X lo (lO F dl)) (hu : PO X hi (lO F dh)) (hK : F.K = X.K := by rfl) : PE X (.Subscript e (.Slice lo hi none p2) pos) (lC F (dCut cutA d dl dh)) :=
  PE.mono (pe_slice (slR hK) he hl hu) fun σ H Q ⟨env, L, P, A, p, q⟩ => ⟨env, L, _, A, p, fun x v H1 px k1 o1 b1 => ⟨env, L, _, A.step k1 o1, px, fun l H2 pl k2 o2 => ⟨env, L, _, (A.step k1 o1).step k2 o2, pl, fun h H3 ph k3 o3 => by
    obtain ⟨z, e, pz⟩ := ob_elim ph
    have A3 := ((A.step k1 o1).step k2 o2).step k3 o3
    have b3 := (b1.step (A.step k1 o1) k2).step ((A.step k1 o1).step k2 o2) k3
    have kk := (k1.trans k2).trans k3
    cases x with
    | lst xs =>
      cases e
      obtain ⟨a, vs, rfl, h1, h2⟩ := bw_lst b3
      exact .inl ⟨a, vs, rfl, SqL.of h1, fun t ht => q _ _ _ pz (kk.trans (.new ht)) (ok_new o3 ht) (new_lst A3 ht (h2.cut l h))⟩
    | tup xs =>
      obtain ⟨a, vs, rfl, h1, h2⟩ := bw_tup b3
      replace e : (if HT.sIx xs.length 0 l = 0 ∧ HT.sIx xs.length xs.length h = xs.length then none else some (D.tup (cutD xs l h))) = some z := e
      by_cases hc : HT.sIx xs.length 0 l = 0 ∧ HT.sIx xs.length xs.length h = xs.length
      · rw [if_pos hc] at e
        cases e
      · rw [if_neg hc] at e
        cases e
        exact .inr (.inl ⟨a, vs, rfl, SqT.of h1, by rw [h2.len]; exact hc, fun t ht => q _ _ _ pz (kk.trans (.new ht)) (ok_new o3 ht) (new_tup A3 ht (h2.cut l h))⟩)
    | str s =>
      have hs := bw_str b3
      subst hs
      obtain ⟨hc, rfl⟩ := guard_elim e
      exact .inr (.inr ⟨s, rfl, hc, q _ _ _ pz kk o3 (.str _)⟩)
    | _ => cases e⟩⟩⟩
def dRev (d : TDE) : TDE := fun env P => d env fun x => match x with | .lst xs => P (.lst xs.reverse) | _ => False
theorem lchain {r r' : R2} {f g : B2} (h : Op2 F r f) (h' : Op2 F r' g) : ∀ σ H Q, lC F (dChain f g da db dc) σ H Q → tChain r r' (lB F da) (lB F db) (lB F dc) σ H Q := fun σ H Q ⟨env, L, P, A, p, q⟩ =>
  ⟨env, L, _, A, p, fun x v H1 px k1 o1 b1 => ⟨env, L, _, A.step k1 o1, px, fun y u H2 py k2 o2 b2 => by
    obtain ⟨z, e, pz⟩ := ob_elim py
    have A2 := (A.step k1 o1).step k2 o2
    refine h A2 (b1.step (A.step k1 o1) k2) b2 e _ fun w H3 k3 o3 d3 => ?_
    cases z with
    | bl z =>
      have hw := dd_blE d3
      subst hw
      refine ⟨z, rfl, ?_⟩
      cases z with
      | false => exact iteF (q _ _ H3 pz ((k1.trans k2).trans k3) o3 d3)
      | true => exact iteT ⟨env, L, _, A2.step k3 o3, pz, fun t tv H4 pt k4 o4 b4 => by
          obtain ⟨z2, e2, pz2⟩ := ob_elim pt
          exact h' ((A2.step k3 o3).step k4 o4) ((b2.step A2 k3).step (A2.step k3 o3) k4) b4 e2 Q fun w2 H5 k5 o5 d5 => q _ _ H5 pz2 ((((k1.trans k2).trans k3).trans k4).trans k5) o5 d5⟩
    | _ => exact pz.elim⟩⟩
theorem dd_lele (ha : PE X a (lB F da)) (hb : PE X b (lB F db)) (hc : PE X c (lB F dc)) (hm : lastMarks [.LtE, .LtE] [b, c] = false := by with_unfolding_all rfl) : PE X (.Compare a [.LtE, .LtE] [b, c] pos) (lC F (dChain bLe bLe da db dc)) :=
  PE.mono (pe_chain op_le op_le ha hb hc hm) (lchain (iI0_ok fun i j _ _ _ _ => .bl _) (iI0_ok fun i j _ _ _ _ => .bl _))
theorem dd_lelt (ha : PE X a (lB F da)) (hb : PE X b (lB F db)) (hc : PE X c (lB F dc)) (hm : lastMarks [.LtE, .Lt] [b, c] = false := by with_unfolding_all rfl) : PE X (.Compare a [.LtE, .Lt] [b, c] pos) (lC F (dChain bLe (iI0 fun i j => .bl (decide (i < j))) da db dc)) :=
  PE.mono (pe_chain op_le op_lt ha hb hc hm) (lchain (iI0_ok fun i j _ _ _ _ => .bl _) (iI0_ok fun i j _ _ _ _ => .bl _))
theorem l_testE {t : TE} (h : ∀ σ H Q, lC F d σ H Q → t σ H Q) : ∀ σ H Q, lT F (dT d) σ H Q → tTest t σ H Q := fun σ H Q ⟨env, L, P, A, p, q⟩ => h σ H _ ⟨env, L, _, A, p, fun x v H1 px k1 o1 d1 => by
  cases x with
  | bl b => cases d1; exact ⟨b, rfl, q b H1 px k1 o1⟩
  | _ => exact px.elim⟩
theorem dt_lele (ha : PE X a (lB F da)) (hb : PE X b (lB F db)) (hc : PE X c (lB F dc)) (hm : lastMarks [.LtE, .LtE] [b, c] = false := by with_unfolding_all rfl) : PT X (.Compare a [.LtE, .LtE] [b, c] pos) (lT F (dT (dChain bLe bLe da db dc))) :=
  PT.mono (pt_chain op_le op_le ha hb hc hm) (l_testE (lchain (iI0_ok fun i j _ _ _ _ => .bl _) (iI0_ok fun i j _ _ _ _ => .bl _)))
theorem dt_lelt (ha : PE X a (lB F da)) (hb : PE X b (lB F db)) (hc : PE X c (lB F dc)) (hm : lastMarks [.LtE, .Lt] [b, c] = false := by with_unfolding_all rfl) : PT X (.Compare a [.LtE, .Lt] [b, c] pos) (lT F (dT (dChain bLe (iI0 fun i j => .bl (decide (i < j))) da db dc))) :=
  PT.mono (pt_chain op_le op_lt ha hb hc hm) (l_testE (lchain (iI0_ok fun i j _ _ _ _ => .bl _) (iI0_ok fun i j _ _ _ _ => .bl _)))
def dNeg (d : TDE) : TDE := fun env P => d env fun x => match x with | .int i => P (.int (-i)) | _ => False
theorem dd_neg (ha : PE X a (lC F d)) : PE X (.UnaryOp .USub a pos) (lC F (dNeg d)) := PE.mono (pe_un un_neg ha) fun σ H Q ⟨env, L, P, A, p, q⟩ => ⟨env, L, _, A, p, fun x v H1 px k1 o1 d1 => by
  cases x with
  | int i => cases d1; exact ⟨i, rfl, q _ _ H1 px k1 o1 (.int _)⟩
  | _ => exact px.elim⟩
def truD : D → Option Bool
  | .non => some false
  | .bl b => some b
  | .int i => some (i != 0)
  | .str y => if y.length ≤ sizeLine then some ((y.length : Int) != 0) else none
  | .lst xs => some (!xs.isEmpty)
  | .tup xs => some (!xs.isEmpty)
  | _ => none
def dTru (d : TDE) : TDT := fun env P => d env fun x => ob (truD x) P
theorem empty_len {K : PySem.W.Frag} {N : Addr → Prop} {W : Wd} {H : Hp} {vs : List V} {ds : List D} (a : DdAll K N W H vs ds) : (!ds.isEmpty) = !vs.isEmpty := by cases a <;> rfl
theorem dt_tru (ha : PE X a (lB F d)) (he : ∀ whole, isTrue a X.env whole = (do let v ← whole; standAt a.pos; holding [v] (truthy v)) := by intro _; rfl) (hK : F.K = X.K := by rfl) : PT X a (lT F (dTru d)) := PT.mono (pt_truth ha he) fun σ H Q ⟨env, L, P, A, p, q⟩ => ⟨env, L, _, A, p, fun x v H1 px k1 o1 b1 => by
  obtain ⟨z, e, pz⟩ := ob_elim px
  refine ⟨z, ?_, q _ H1 pz k1 o1⟩
  rw [← hK]
  cases x with
  | non => rw [bw_non b1]; cases e; rfl
  | bl _ => rw [bw_bl b1]; cases e; rfl
  | int _ => rw [bw_int b1]; cases e; rfl
  | str _ =>
    rw [bw_str b1]
    obtain ⟨hc, rfl⟩ := guard_elim e
    exact ⟨hc, rfl⟩
  | lst _ =>
    obtain ⟨a, vs, rfl, h1, h2⟩ := bw_lst b1
    cases e
    exact .inl ⟨vs, SqL.of h1, empty_len h2⟩
  | tup _ =>
    obtain ⟨a, vs, rfl, h1, h2⟩ := bw_tup b1
    cases e
    exact .inr (.inl ⟨vs, SqT.of h1, empty_len h2⟩)
  | _ => cases e⟩
end
end DL
namespace DL
open PySem PySem.Spec PyProof.Rows L2 RK
abbrev BwA (F : Fx) (L : List Addr) (H : Hp) : List V → List D → Prop := Paired (Bw F L H)
def lAb (F : Fx) (d : TDA) : TA := fun σ H Q => ∃ env L P, Abs F env σ L H ∧ d env P ∧ ∀ xs vs H', P xs → KeepW F.W H H' → F.W.ok H' → BwA F L H' vs xs → Q vs H'
section
variable {X : Cx} {F : Fx} {e a b c : Expr} {es : List Expr} {d da db dc : TDE} {ds : TDA} {pos : Pos}
theorem db_nil : PA X [] (lAb F aNil) := PA.mono pa_nil fun σ H Q ⟨env, L, P, A, p, q⟩ => q [] [] H p (.refl _ _) A.ok .nil
theorem db_cons (ha : PE X e (lB F d)) (hr : PA X es (lAb F ds)) (hs : starEach (e :: es) X.env = (false, eval e X.env) :: starEach es X.env := by rfl) : PA X (e :: es) (lAb F (aCons d ds)) := PA.mono (pa_cons ha hr hs) fun σ H Q ⟨env, L, P, A, p, q⟩ =>
  ⟨env, L, _, A, p, fun x v H1 px k1 o1 d1 => ⟨env, L, _, A.step k1 o1, px, fun xs vs H2 pxs k2 o2 d2 => q (x :: xs) (v :: vs) H2 pxs (k1.trans k2) o2 (.cons (d1.step (A.step k1 o1) k2) d2)⟩⟩
def Ca (F : Fx) (r : List V → Hp → VK → Prop) (f : List D → Option D) : Prop := ∀ {env : De} {σ : L2.St} {L : List Addr} {H : Hp} {vs : List V} {ds : List D} {z : D}, Abs F env σ L H → BwA F L H vs ds → f ds = some z →
  ∀ Q : VK, (∀ v H', KeepW F.W H H' → F.W.ok H' → Dd F.K (F.N L) F.W H' v z → Q v H') → r vs H Q
def CaN (F : Fx) (r : List V → Hp → VK → Prop) (f : List D → Option D) : Prop := ∀ {env : De} {σ : L2.St} {L : List Addr} {H : Hp} {vs : List V} {ds : List D} {z : D}, Abs F env σ L H → BwA F L H vs ds → f ds = some z →
  ∀ Q : VK, (∀ a H', KeepW F.W H H' → F.W.ok H' → H a = none → NewV F L H' a z → Q (.ref a) H') → r vs H Q
def dCa (f : List D → Option D) (ds : TDA) : TDE := fun env P => ds env fun xs => ob (f xs) P
theorem lca {r : List V → Hp → VK → Prop} {f : List D → Option D} (h : Ca F r f) : ∀ σ H Q, lC F (dCa f ds) σ H Q → tCB r (lAb F ds) σ H Q := fun σ H Q ⟨env, L, P, A, p, q⟩ =>
  ⟨env, L, _, A, p, fun xs vs H1 px k1 o1 d1 => by
    obtain ⟨z, e, pz⟩ := ob_elim px
    exact h (A.step k1 o1) d1 e Q fun v H2 k2 o2 d2 => q z v H2 pz (k1.trans k2) o2 d2⟩
theorem lcaN {r : List V → Hp → VK → Prop} {f : List D → Option D} (h : CaN F r f) : ∀ σ H Q, lN F (dCa f ds) σ H Q → tCB r (lAb F ds) σ H Q := fun σ H Q ⟨env, L, P, A, p, q⟩ =>
  ⟨env, L, _, A, p, fun xs vs H1 px k1 o1 d1 => by
    obtain ⟨z, e, pz⟩ := ob_elim px
    exact h (A.step k1 o1) d1 e Q fun v H2 k2 o2 n2 d2 => q z v H2 pz (k1.trans k2) o2 (free_of k1 o1 n2) d2⟩
theorem CallR.or {f : Value} {r r' : List V → Hp → VK → Prop} (h : CallR X f r) (h' : CallR X f r') : CallR X f (fun xs H Q => r xs H Q ∨ r' xs H Q) := fun pins s σ H xs us Q I rx q => by
  rcases q with q | q
  · exact h pins s σ H xs us Q I rx q
  · exact h' pins s σ H xs us Q I rx q
def lenD : List D → Option D
  | [.lst xs] => some (.int xs.length)
  | [.tup xs] => some (.int xs.length)
  | [.ktp xs] => some (.int xs.length)
  | [.str z] => if z.length ≤ sizeLine then some (.int z.length) else none
  | [.dic kds] => some (.int kds.length)
  | _ => none
theorem call_lenR : CallR X (.builtin "len") (fun xs H Q => ∃ a kvs, xs = [V.ref a] ∧ Rd H a (.dK kvs) ∧ Q (.int kvs.length) H) := fun pins s σ H xs us Q I r h => by
  obtain ⟨a, kvs, rfl, ha, q⟩ := h
  obtain ⟨u, rfl, ru⟩ := vals1 r
  cases ru
  exact d_len I ha fun t s' I' => ⟨.int kvs.length, H, I', ⟨t, rfl⟩, q⟩
theorem len_ok : Ca F (fun xs H Q => (∃ x n, xs = [x] ∧ LenV F.K x H n ∧ Q (.int n) H) ∨ (∃ a kvs, xs = [V.ref a] ∧ Rd H a (.dK kvs) ∧ Q (.int kvs.length) H)) lenD := fun A b e Q q => by
  rename_i dl z
  match dl, b, e with
  | [.lst xs], .cons h .nil, e =>
    obtain ⟨a, vs, rfl, h1, h2⟩ := bw_lst h
    cases e
    exact .inl ⟨_, _, rfl, .inl ⟨vs, SqL.of h1, rfl⟩, by rw [h2.len]; exact q _ _ (.refl _ _) A.ok (.int _)⟩
  | [.tup xs], .cons h .nil, e =>
    obtain ⟨a, vs, rfl, h1, h2⟩ := bw_tup h
    cases e
    exact .inl ⟨_, _, rfl, .inr ⟨vs, SqT.of h1, rfl⟩, by rw [h2.len]; exact q _ _ (.refl _ _) A.ok (.int _)⟩
  | [.ktp xs], .cons h .nil, e =>
    obtain ⟨a, vs, rfl, h1, h2⟩ := bw_items h rfl
    cases e
    exact .inl ⟨_, vs.length, rfl, h1.imp (fun h => ⟨vs, h, rfl⟩) (fun h => ⟨vs, h, rfl⟩), by rw [h2.len]; exact q _ _ (.refl _ _) A.ok (.int _)⟩
  | [.str x], .cons h .nil, e =>
    have hx := bw_str h
    subst hx
    obtain ⟨hc, rfl⟩ := guard_elim e
    exact .inl ⟨_, _, rfl, ⟨hc, rfl⟩, q _ _ (.refl _ _) A.ok (.int _)⟩
  | [.dic kds], .cons h .nil, e =>
    obtain ⟨a, kvs, rfl, h1, h2, h3⟩ := bw_dic h
    cases e
    have : kvs.length = kds.length := by simpa using congrArg List.length h2
    exact .inr ⟨_, _, rfl, h1, by rw [this]; exact q _ _ (.refl _ _) A.ok (.int _)⟩
theorem lenR (hK : F.K = X.K) : CallR X (.builtin "len") (fun xs H Q => (∃ x n, xs = [x] ∧ LenV F.K x H n ∧ Q (.int n) H) ∨ (∃ a kvs, xs = [V.ref a] ∧ Rd H a (.dK kvs) ∧ Q (.int kvs.length) H)) := by
  rw [hK]
  exact CallR.or call_len call_lenR
variable {p : Pos}
theorem dd_len (hg : Gl X "len") (hm : X.mg "len" = none) (ha : PE X e (lB F d)) (he : starEach [e] X.env = (false, eval e X.env) :: starEach [] X.env := by rfl) (hpl : (backTo pos (starEach [] X.env)).any (·.1) = false := by rfl) (hK : F.K = X.K := by rfl) :
    PE X (.Call (.Name "len" p) [e] [] pos) (lC F (dCa lenD (aCons d aNil))) := PE.mono (pe_callB (lenR hK) hg hm (by decide +kernel) (db_cons ha db_nil he) (by decide) (by decide) he hpl) (lca len_ok)
def blsD : List D → Option (List Bool)
  | [] => some []
  | .bl b :: ds => (blsD ds).map fun bs => b :: bs
  | _ => none
def intsD : List D → Option (List Int)
  | [] => some []
  | .int i :: ds => (intsD ds).map fun is => i :: is
  | _ => none
def strsD : List D → Option (List Str)
  | [] => some []
  | .str i :: ds => (strsD ds).map fun is => i :: is
  | _ => none
theorem bls_v {K : PySem.W.Frag} {N : Addr → Prop} {W : Wd} {H : Hp} : ∀ {vs : List V} {ds : List D} {bs : List Bool}, DdAll K N W H vs ds → blsD ds = some bs → vs = bs.map V.bl
  | _, _, _, .nil, e => by cases e; rfl
  | _, _, _, .cons (d := d) h a, e => by
    cases d <;> try cases e
    obtain ⟨bs, h1, rfl⟩ := Option.map_eq_some_iff.mp e
    rw [bls_v a h1, dd_blE h]
    rfl
theorem ints_v {K : PySem.W.Frag} {N : Addr → Prop} {W : Wd} {H : Hp} : ∀ {vs : List V} {ds : List D} {bs : List Int}, DdAll K N W H vs ds → intsD ds = some bs → vs = bs.map V.int
  | _, _, _, .nil, e => by cases e; rfl
  | _, _, _, .cons (d := d) h a, e => by
    cases d <;> try cases e
    obtain ⟨bs, h1, rfl⟩ := Option.map_eq_some_iff.mp e
    rw [ints_v a h1, dd_intE h]
    rfl
theorem strs_v {K : PySem.W.Frag} {N : Addr → Prop} {W : Wd} {H : Hp} : ∀ {vs : List V} {ds : List D} {bs : List Str}, DdAll K N W H vs ds → strsD ds = some bs → vs = bs.map V.str
  | _, _, _, .nil, e => by cases e; rfl
  | _, _, _, .cons (d := d) h a, e => by
    cases d <;> try cases e
    obtain ⟨bs, h1, rfl⟩ := Option.map_eq_some_iff.mp e
    rw [strs_v a h1, dd_strE h]
    rfl
theorem dd_strs {K : PySem.W.Frag} {N : Addr → Prop} {W : Wd} {H : Hp} : ∀ zs : List Str, DdAll K N W H (zs.map V.str) (zs.map D.str)
  | [] => .nil
  | z :: zs => .cons (.str z) (dd_strs zs)
theorem dd_ints {K : PySem.W.Frag} {N : Addr → Prop} {W : Wd} {H : Hp} : ∀ zs : List Int, DdAll K N W H (zs.map V.int) (zs.map D.int)
  | [] => .nil
  | z :: zs => .cons (.int z) (dd_ints zs)
theorem blsD_map : ∀ zs : List Bool, blsD (zs.map D.bl) = some zs
  | [] => rfl
  | z :: zs => by show (blsD (zs.map D.bl)).map _ = _; rw [blsD_map zs]; rfl
def allD : List D → Option D
  | [.lst ds] => (blsD ds).map fun bs => .bl (bs.all id)
  | _ => none
def sumD : List D → Option D
  | [.lst ds] => (intsD ds).map fun bs => .int bs.sum
  | _ => none
theorem all_ok : Ca F (rAll F.K) allD := fun A b e Q q => by
  rename_i dl z
  match dl, b, e with
  | [.lst xs], .cons h .nil, e =>
    obtain ⟨a, vs, rfl, h1, h2⟩ := bw_lst h
    obtain ⟨bs, h3, rfl⟩ := Option.map_eq_some_iff.mp e
    exact ⟨a, bs, rfl, SqL.of (by rw [h1, bls_v h2 h3]), q _ _ (.refl _ _) A.ok (.bl _)⟩
theorem sum_ok : Ca F (rSum F.K) sumD := fun A b e Q q => by
  rename_i dl z
  match dl, b, e with
  | [.lst xs], .cons h .nil, e =>
    obtain ⟨a, vs, rfl, h1, h2⟩ := bw_lst h
    obtain ⟨bs, h3, rfl⟩ := Option.map_eq_some_iff.mp e
    exact ⟨a, bs, rfl, SqL.of (by rw [h1, ints_v h2 h3]), q _ _ (.refl _ _) A.ok (.int _)⟩
theorem allR (hc : X.calm = true) (hK : F.K = X.K) : CallR X (.builtin "all") (rAll F.K) := by rw [hK]; exact cr_all hc
theorem sumR (hc : X.calm = true) (hK : F.K = X.K) : CallR X (.builtin "sum") (rSum F.K) := by rw [hK]; exact cr_sum hc
theorem dd_all (hg : Gl X "all") (hm : X.mg "all" = none) (ha : PE X e (lB F d)) (hc : X.calm = true := by rfl) (he : starEach [e] X.env = (false, eval e X.env) :: starEach [] X.env := by rfl) (hpl : (backTo pos (starEach [] X.env)).any (·.1) = false := by rfl) (hK : F.K = X.K := by rfl) :
    PE X (.Call (.Name "all" p) [e] [] pos) (lC F (dCa allD (aCons d aNil))) := PE.mono (pe_callB (allR hc hK) hg hm (by decide +kernel) (db_cons ha db_nil he) (by decide) (by decide) he hpl) (lca all_ok)
theorem dd_sum (hg : Gl X "sum") (hm : X.mg "sum" = none) (ha : PE X e (lB F d)) (hc : X.calm = true := by rfl) (he : starEach [e] X.env = (false, eval e X.env) :: starEach [] X.env := by rfl) (hpl : (backTo pos (starEach [] X.env)).any (·.1) = false := by rfl) (hK : F.K = X.K := by rfl) :
    PE X (.Call (.Name "sum" p) [e] [] pos) (lC F (dCa sumD (aCons d aNil))) := PE.mono (pe_callB (sumR hc hK) hg hm (by decide +kernel) (db_cons ha db_nil he) (by decide) (by decide) he hpl) (lca sum_ok)
def keyV : Key → D
  | .inl i => .int i
  | .inr x => .str x
theorem dd_key {K : PySem.W.Frag} {N : Addr → Prop} {W : Wd} {H : Hp} : ∀ k : Key, Dd K N W H (kV k) (keyV k)
  | .inl i => .int i
  | .inr x => .str x
theorem dd_keys {K : PySem.W.Frag} {N : Addr → Prop} {W : Wd} {H : Hp} : ∀ {kvs : List (Key × V)} {kds : List (Key × D)}, kvs.map (·.1) = kds.map (·.1) → DdAll K N W H (kvs.map fun kv => kV kv.1) (kds.map fun kd => keyV kd.1)
  | [], [], _ => .nil
  | [], _ :: _, e => by cases e
  | _ :: _, [], e => by cases e
  | (k1, v) :: kvs, (k2, d) :: kds, e => by
    have e1 : k1 = k2 := (List.cons.inj e).1
    subst e1
    exact .cons (dd_key k1) (dd_keys (List.cons.inj e).2)
def listD : List D → Option D
  | [.lst xs] => some (.lst xs)
  | [.tup xs] => some (.lst xs)
  | [.ktp xs] => some (.lst xs)
  | [.dic kds] => some (.lst (kds.map fun kd => keyV kd.1))
  | _ => none
theorem list_okN : CaN F (fun xs H Q => (∃ p ys, xs = [.ref p] ∧ (SqL F.K H p ys ∨ SqT F.K H p ys) ∧ ∀ l, H l = none → Q (.ref l) (upd H l (.lst ys))) ∨ (∃ (a : Addr) (kvs : List (Key × V)), xs = [.ref a] ∧ Rd H a (.dK kvs) ∧ ∀ p, H p = none → Q (.ref p) (upd H p (.lst (kvs.map fun kv => kV kv.1))))) listD := fun A b e Q q => by
  rename_i dl z
  match dl, b, e with
  | [.lst xs], .cons h .nil, e =>
    obtain ⟨a, vs, rfl, h1, h2⟩ := bw_lst h
    cases e
    exact .inl ⟨_, _, rfl, .inl (SqL.of h1), fun t ht => q _ _ (.new ht) (ok_new A.ok ht) ht (new_lstN A ht h2)⟩
  | [.tup xs], .cons h .nil, e =>
    obtain ⟨a, vs, rfl, h1, h2⟩ := bw_tup h
    cases e
    exact .inl ⟨_, _, rfl, .inr (SqT.of h1), fun t ht => q _ _ (.new ht) (ok_new A.ok ht) ht (new_lstN A ht h2)⟩
  | [.ktp xs], .cons h .nil, e =>
    obtain ⟨a, vs, rfl, h1, h2⟩ := bw_items h rfl
    cases e
    exact .inl ⟨_, vs, rfl, h1, fun t ht => q _ _ (.new ht) (ok_new A.ok ht) ht (new_lstN A ht h2)⟩
  | [.dic kds], .cons h .nil, e =>
    obtain ⟨a, kvs, rfl, h1, h2, h3⟩ := bw_dic h
    cases e
    exact .inr ⟨_, _, rfl, h1, fun t ht => q _ _ (.new ht) (ok_new A.ok ht) ht (new_lstN A ht (dd_keys h2))⟩
theorem listR (hc : X.calm = true) (hK : F.K = X.K) : CallR X (.type "list") (fun xs H Q => (∃ p ys, xs = [.ref p] ∧ (SqL F.K H p ys ∨ SqT F.K H p ys) ∧ ∀ l, H l = none → Q (.ref l) (upd H l (.lst ys))) ∨ (∃ (a : Addr) (kvs : List (Key × V)), xs = [.ref a] ∧ Rd H a (.dK kvs) ∧ ∀ p, H p = none → Q (.ref p) (upd H p (.lst (kvs.map fun kv => kV kv.1))))) := by
  rw [hK]
  exact CallR.or call_list_of (call_listD hc)
theorem dn_list (hg : Gl X "list") (hm : X.mg "list" = none) (ha : PE X e (lB F d)) (hc : X.calm = true := by rfl) (he : starEach [e] X.env = (false, eval e X.env) :: starEach [] X.env := by rfl) (hpl : (backTo pos (starEach [] X.env)).any (·.1) = false := by rfl) (hK : F.K = X.K := by rfl) :
    PE X (.Call (.Name "list" p) [e] [] pos) (lN F (dCa listD (aCons d aNil))) := PE.mono (pe_callTy (listR hc hK) hg hm (by decide +kernel) (db_cons ha db_nil he) (by decide) (by decide) he hpl) (lcaN list_okN)
def tupleD : List D → Option D
  | [.lst xs] => some (.tup xs)
  | _ => none
theorem tuple_okN : CaN F (fun xs H Q => ∃ p ys, xs = [.ref p] ∧ ((SqL F.K H p ys ∧ ∀ l, H l = none → Q (.ref l) (upd H l (.tup ys))) ∨ (SqT F.K H p ys ∧ Q (.ref p) H))) tupleD := fun A b e Q q => by
  rename_i dl z
  match dl, b, e with
  | [.lst xs], .cons h .nil, e =>
    obtain ⟨a, vs, rfl, h1, h2⟩ := bw_lst h
    cases e
    exact ⟨_, _, rfl, .inl ⟨SqL.of h1, fun t ht => q _ _ (.new ht) (ok_new A.ok ht) ht (new_tupN A ht h2)⟩⟩
theorem tupleR (hK : F.K = X.K) : CallR X (.type "tuple") (fun xs H Q => ∃ p ys, xs = [.ref p] ∧ ((SqL F.K H p ys ∧ ∀ l, H l = none → Q (.ref l) (upd H l (.tup ys))) ∨ (SqT F.K H p ys ∧ Q (.ref p) H))) := by
  rw [hK]
  exact call_tuple_of
theorem dn_tuple (hg : Gl X "tuple") (hm : X.mg "tuple" = none) (ha : PE X e (lB F d)) (he : starEach [e] X.env = (false, eval e X.env) :: starEach [] X.env := by rfl) (hpl : (backTo pos (starEach [] X.env)).any (·.1) = false := by rfl) (hK : F.K = X.K := by rfl) :
    PE X (.Call (.Name "tuple" p) [e] [] pos) (lN F (dCa tupleD (aCons d aNil))) := PE.mono (pe_callTy (tupleR hK) hg hm (by decide +kernel) (db_cons ha db_nil he) (by decide) (by decide) he hpl) (lcaN tuple_okN)
end
end DL
namespace DL
open PySem PySem.Spec PyProof.Rows L2 RK
def tyD : D → Option String
  | .non => some "NoneType" | .bl _ => some "bool" | .int _ => some "int" | .str _ => some "str" | .lst _ => some "list" | .tup _ => some "tuple" | .ktp _ => some "tuple" | .dic _ => some "dict" | _ => none
def isD (T : String) (x : D) : Option Bool := (tyD x).bind fun t => kitB t T
def isAnyD (x : D) : List String → Option Bool
  | [] => some false
  | T :: Ts => (isD T x).bind fun b => if b = true then some true else isAnyD x Ts
section
variable {X : Cx} {F : Fx} {e a b c : Expr} {es : List Expr} {d da db dc : TDE} {ds : TDA} {pos p : Pos}
theorem ty_bw {L : List Addr} {H : Hp} {v : V} {x : D} {t : String} (h : Bw F L H v x) (e : tyD x = some t) : TyX F.K H v (.type t) := by
  cases x with
  | non => rw [bw_non h]; cases e; exact .base .non
  | bl _ => rw [bw_bl h]; cases e; exact .base (.bl _)
  | int _ => rw [bw_int h]; cases e; exact .base (.int _)
  | str _ => rw [bw_str h]; cases e; exact .base (.str _)
  | lst _ => obtain ⟨a, vs, rfl, h1, _⟩ := bw_lst h; cases e; exact .base (.lst h1)
  | tup _ => obtain ⟨a, vs, rfl, h1, _⟩ := bw_tup h; cases e; exact .base (.tup h1)
  | ktp _ =>
    cases e
    rcases h with h | ⟨e, h1, h2, h3⟩
    · cases h with | ktp h1 h2 h3 h4 h5 h6 => exact .kTuple h1 h2
    · cases e <;> cases h3
  | dic _ =>
    obtain ⟨a, vs, rfl, h1, _⟩ := bw_dic h
    cases e
    rcases h1 with h1 | ⟨o, h1⟩
    · exact .base (.dK h1)
    · exact .fDict h1
  | _ => cases e
def dIs (T : String) (d : TDE) : TDE := fun env P => d env fun x => ob (isD T x) fun b => P (.bl b)
def dIsA (Ts : List String) (d : TDE) : TDE := fun env P => d env fun x => ob (isAnyD x Ts) fun b => P (.bl b)
theorem isiR (hK : F.K = X.K) : CallR X (.builtin "isinstance") (rIsi F.K) := by rw [hK]; exact call_isi
theorem isiTR (hK : F.K = X.K) : CallR X (.builtin "isinstance") (rIsiT F.K) := by rw [hK]; exact call_isiT
theorem dd_isi {T : String} (hg : Gl X "isinstance") (hm : X.mg "isinstance" = none) (ha : PE X a (lB F d)) (hb : PE X b (tC (.ty T))) (he : starEach [a, b] X.env = (false, eval a X.env) :: starEach [b] X.env := by rfl) (he2 : starEach [b] X.env = (false, eval b X.env) :: starEach [] X.env := by rfl) (hpl : (backTo pos (starEach [b] X.env)).any (·.1) = false := by rfl) (hK : F.K = X.K := by rfl) :
    PE X (.Call (.Name "isinstance" p) [a, b] [] pos) (lC F (dIs T d)) := PE.mono (pe_callB (isiR hK) hg hm (by decide +kernel) (pa_cons ha (pa_cons hb pa_nil he2) he) (by decide) (by decide) he hpl) fun σ H Q ⟨env, L, P, A, pp, q⟩ =>
  ⟨env, L, _, A, pp, fun x v H1 px k1 o1 b1 => by
    obtain ⟨z, e, pz⟩ := ob_elim px
    obtain ⟨t, h1, h2⟩ := Option.bind_eq_some_iff.mp e
    exact ⟨v, .ty T, _, _, z, rfl, .ty T, ty_bw b1 h1, kit_ty h2, q _ _ H1 pz k1 o1 (.bl _)⟩⟩
theorem isAny_kit {K : PySem.W.Frag} {x : D} {t : String} (ht : tyD x = some t) : ∀ {Ts : List String} {z : Bool}, isAnyD x Ts = some z → PySem.W.kitAny K (.type t) (Ts.map Value.type) = some z
  | [], z, e => by cases e; exact kitAny_nil
  | T :: Ts, z, e => by
    obtain ⟨b, h1, h2⟩ := Option.bind_eq_some_iff.mp e
    obtain ⟨t', h3, h4⟩ := Option.bind_eq_some_iff.mp h1
    rw [ht] at h3
    cases h3
    cases b with
    | true => cases h2; exact kitAny_cons (kit_ty h4) (fun e => by cases e) (fun _ => rfl)
    | false =>
      rw [if_neg Bool.false_ne_true] at h2
      exact kitAny_cons (kit_ty h4) (fun _ => isAny_kit ht h2) (fun e => by cases e)
theorem dd_isiT {T1 T2 : String} {b1 b2 : Expr} {tp : Pos} {x1} (hg : Gl X "isinstance") (hm : X.mg "isinstance" = none) (ha : PE X a (lB F d)) (h1 : PE X b1 (tC (.ty T1))) (h2 : PE X b2 (tC (.ty T2)))
    (s1 : starEach [b1, b2] X.env = (false, eval b1 X.env) :: starEach [b2] X.env := by rfl) (s2 : starEach [b2] X.env = (false, eval b2 X.env) :: starEach [] X.env := by rfl)
    (he : starEach [a, .Tuple [b1, b2] x1 tp] X.env = (false, eval a X.env) :: starEach [.Tuple [b1, b2] x1 tp] X.env := by rfl) (he2 : starEach [.Tuple [b1, b2] x1 tp] X.env = (false, eval (.Tuple [b1, b2] x1 tp) X.env) :: starEach [] X.env := by rfl)
    (hpl : (backTo pos (starEach [.Tuple [b1, b2] x1 tp] X.env)).any (·.1) = false := by rfl) (hK : F.K = X.K := by rfl) :
    PE X (.Call (.Name "isinstance" p) [a, .Tuple [b1, b2] x1 tp] [] pos) (lC F (dIsA [T1, T2] d)) := PE.mono (pe_callB (isiTR hK) hg hm (by decide +kernel) (pa_cons ha (pa_cons (pe_tup (pa_cons h1 (pa_cons h2 pa_nil s2) s1)) pa_nil he2) he) (by decide) (by decide) he hpl) fun σ H Q ⟨env, L, P, A, pp, q⟩ =>
  ⟨env, L, _, A, pp, fun x v H1 px k1 o1 bb => ⟨(by show 2 ≤ sizeLine; decide), fun t ht => by
    obtain ⟨z, e, pz⟩ := ob_elim px
    have A1 := A.step k1 o1
    have b2 : Bw F L (upd H1 t (.tup [.ty T1, .ty T2])) v x := bb.step A1 (.new ht)
    obtain ⟨tt, htt⟩ : ∃ tt, tyD x = some tt := by
      cases hx : tyD x with
      | some tt => exact ⟨tt, rfl⟩
      | none =>
        unfold isAnyD isD at e
        rw [hx] at e
        cases e
    exact ⟨v, t, _, _, _, z, rfl, upd_same, .cons (.ty T1) (.cons (.ty T2) .nil), ty_bw b2 htt, isAny_kit htt e, q _ _ _ pz (k1.trans (.new ht)) (ok_new o1 ht) (.bl _)⟩⟩⟩
def SortS (xs ys : List Str) : Prop := ys.Perm xs ∧ sortedS ys = true
def SortI (xs ys : List Int) : Prop := ys.Perm xs ∧ ys.Pairwise (· ≤ ·)
def txtKeys : List (Key × D) → Option (List Str)
  | [] => some []
  | (.inr x, _) :: r => (txtKeys r).map fun xs => x :: xs
  | _ => none
theorem txtKeys_v : ∀ {kds : List (Key × D)} {xs : List Str}, txtKeys kds = some xs → kds.map (·.1) = xs.map Sum.inr
  | [], _, e => by cases e; rfl
  | (.inr x, d) :: r, _, e => by
    obtain ⟨ys, h1, rfl⟩ := Option.map_eq_some_iff.mp e
    simp [txtKeys_v h1]
  | (.inl x, d) :: r, _, e => by cases e
def dSort (d : TDE) : TDE := fun env P => d env fun x => match x with
  | .lst xs => (∃ zs, strsD xs = some zs ∧ zs.length < 64 ∧ ∀ ys, SortS zs ys → P (.lst (ys.map D.str))) ∨ (∃ zs, intsD xs = some zs ∧ zs.length < 64 ∧ ∀ ys, SortI zs ys → P (.lst (ys.map D.int)))
  | .dic kds => ∃ zs, txtKeys kds = some zs ∧ zs.length < 64 ∧ ∀ ys, SortS zs ys → P (.lst (ys.map D.str))
  | _ => False
theorem sortR (hc : X.calm = true) (hK : F.K = X.K) : CallR X (.builtin "sorted") (fun vs H Q => rSortedS F.K vs H Q ∨ (rSorted F.K vs H Q ∨ (∃ (a : Addr) (kvs : List (Key × V)) (ks : List Str), vs = [.ref a] ∧ Rd H a (.dK kvs) ∧ kvs.map (·.1) = ks.map Sum.inr ∧ ks.length < 64 ∧
    ∀ ys p, ys.Perm ks → sortedS ys = true → H p = none → Q (.ref p) (upd H p (.lst (ys.map V.str)))))) := by
  rw [hK]
  exact CallR.or cr_sortedS (CallR.or cr_sorted (call_sortedD hc))
theorem dn_sort (hg : Gl X "sorted") (hm : X.mg "sorted" = none) (ha : PE X e (lB F d)) (hc : X.calm = true := by rfl) (he : starEach [e] X.env = (false, eval e X.env) :: starEach [] X.env := by rfl) (hpl : (backTo pos (starEach [] X.env)).any (·.1) = false := by rfl) (hK : F.K = X.K := by rfl) :
    PE X (.Call (.Name "sorted" p) [e] [] pos) (lN F (dSort d)) := PE.mono (pe_callB (sortR hc hK) hg hm (by decide +kernel) (pa_cons ha pa_nil he) (by decide) (by decide) he hpl) fun σ H Q ⟨env, L, P, A, pp, q⟩ =>
  ⟨env, L, _, A, pp, fun x v H1 px k1 o1 b1 => by
    have A1 := A.step k1 o1
    cases x with
    | lst xs =>
      obtain ⟨a, vs, rfl, h1, h2⟩ := bw_lst b1
      rcases px with ⟨zs, hz, h64, px⟩ | ⟨zs, hz, h64, px⟩
      · exact .inl ⟨a, zs, rfl, SqL.of (by rw [h1, strs_v h2 hz]), h64, fun ys t py so ht => q _ _ _ (px ys ⟨py, so⟩) (k1.trans (.new ht)) (ok_new o1 ht) (free_of k1 o1 ht) (new_lstN A1 ht (dd_strs ys))⟩
      · exact .inr (.inl ⟨a, zs, rfl, SqL.of (by rw [h1, ints_v h2 hz]), h64, fun ys t py so ht => q _ _ _ (px ys ⟨py, so⟩) (k1.trans (.new ht)) (ok_new o1 ht) (free_of k1 o1 ht) (new_lstN A1 ht (dd_ints ys))⟩)
    | dic kds =>
      obtain ⟨a, kvs, rfl, h1, h2, h3⟩ := bw_dic b1
      obtain ⟨zs, hz, h64, px⟩ := px
      exact .inr (.inr ⟨a, kvs, zs, rfl, h1, by rw [h2]; exact txtKeys_v hz, h64, fun ys t py so ht => q _ _ _ (px ys ⟨py, so⟩) (k1.trans (.new ht)) (ok_new o1 ht) (free_of k1 o1 ht) (new_lstN A1 ht (dd_strs ys))⟩)
    | _ => exact px.elim⟩
def indexOf (xs : List D) (y : D) : Option Nat := xs.findIdx? fun z => eqF z y
def dIndex (dx dy : TDE) : TDE := fun env P => dx env fun x => match x with
  | .lst xs => dy env fun y => xs.all D.leaf = true ∧ y.leaf = true ∧ ob (indexOf xs y) fun j => P (.int (j : Nat))
  | _ => False
end
end DL
namespace DL
open PySem PySem.Spec PyProof.Rows L2 RK
abbrev DSp := List D → (D → Prop) → Prop
structure Nw (K : PySem.W.Frag) (W : Wd) (N0 : Addr → Prop) (H : Hp) (fr : Fr) (H' : Hp) (v : V) (x : D) : Prop where
  n : fr = .b true → ∃ a, v = .ref a ∧ H a = none ∧ NewV ⟨K, W, N0, H, .b true⟩ [] H' a x
  c : ∀ j, fr = .ch j → Ch j H H' v x
def lSp (K : PySem.W.Frag) (fr : Fr) (sp : DSp) : Sp := fun vs H Q _ => ∃ (W : Wd) (N0 : Addr → Prop) (ds : List D) (P : D → Prop), (∀ a, N0 a → ∃ o, H a = some o) ∧ (∀ a, W.own a → N0 a) ∧ W.ok H ∧ DdAll K N0 W H vs ds ∧ sp ds P ∧
  ∀ x v H', P x → KeepW W H H' → W.ok H' → Dd K N0 W H' v x → Nw K W N0 H fr H' v x → Q v H'
section
variable {X : Cx} {F : Fx} {e a b c : Expr} {es : List Expr} {d da db dc : TDE} {ds dk : TDA} {pos p : Pos}
def dCall (sp : DSp) (ds : TDA) : TDE := fun env P => ds env fun xs => sp xs P
theorem lcall {fr : Fr} {sp : DSp} {E : XK} {K : PySem.W.Frag} (hK : F.K = K) : ∀ σ H Q, lC F (dCall sp ds) σ H Q → tCall (lSp K fr sp) [] E (lA F ds) σ H Q := fun σ H Q ⟨env, L, P, A, pp, q⟩ => by
  subst hK
  exact ⟨env, L, _, A, pp, fun xs vs H1 px k1 o1 d1 => ⟨F.W, F.N L, xs, P, fun a h => (A.step k1 o1).alN h, fun a h => .inl (A.wn a h), o1, by rw [List.append_nil]; exact d1, px, fun x v H2 p2 k2 o2 d2 _ => q x v H2 p2 (k1.trans k2) o2 d2⟩⟩
theorem new_of {K : PySem.W.Frag} {W : Wd} {N0 : Addr → Prop} {H H' : Hp} {fr : Fr} {L : List Addr} {a : Addr} {x : D} {F : Fx} (e1 : F.K = K) (e2 : F.W = W) (e3 : F.N L = N0) (h : NewV ⟨K, W, N0, H, .b true⟩ [] H' a x) : NewV F L H' a x := by
  subst e1 e2
  have key : ∀ {vs : List V} {ds : List D}, DdAll F.K (Fx.N ⟨F.K, F.W, N0, H, .b true⟩ [a]) F.W H' vs ds → DdAll F.K (F.N (a :: L)) F.W H' vs ds := fun h => h.keep (fun _ _ _ z => z) fun y hy => by
    rcases hy with hy | hy
    · left
      show N0 y
      rw [← e3]
      exact .inl hy
    · rcases List.mem_cons.mp hy with hy | hy
      · exact .inr (by rw [hy]; exact List.mem_cons_self)
      · left
        show N0 y
        rw [← e3]
        exact .inr hy
  cases x with
  | lst ds => obtain ⟨vs, h1, h2⟩ := h; exact ⟨vs, h1, key h2⟩
  | tup ds => obtain ⟨vs, h1, h2⟩ := h; exact ⟨vs, h1, key h2⟩
  | dic ds => obtain ⟨vs, h1, h3, h2⟩ := h; exact ⟨vs, h1, h3, key h2⟩
  | dct ds => obtain ⟨vs, h1, h3, h2⟩ := h; exact ⟨vs, h1, h3, key h2⟩
  | _ => exact h
theorem lcallN {sp : DSp} {E : XK} {K : PySem.W.Frag} (hK : F.K = K) : ∀ σ H Q, lN F (dCall sp ds) σ H Q → tCall (lSp K (.b true) sp) [] E (lA F ds) σ H Q := fun σ H Q ⟨env, L, P, A, pp, q⟩ => by
  subst hK
  refine ⟨env, L, _, A, pp, fun xs vs H1 px k1 o1 d1 => ⟨F.W, F.N L, xs, P, fun a h => (A.step k1 o1).alN h, fun a h => .inl (A.wn a h), o1, by rw [List.append_nil]; exact d1, px, fun x v H2 p2 k2 o2 d2 nn => ?_⟩⟩
  obtain ⟨a, rfl, h1, h2⟩ := nn.n rfl
  exact q x a H2 p2 (k1.trans k2) o2 (free_of k1 o1 h1) (new_of (fr := .b true) rfl rfl rfl h2)
variable {CX : CXT} {k : Nat} {f : Addr} {fd : FuncData} {ps ks : List Str} {sp : DSp} {E : XK} {x : Str} {fr : Fr} {K : PySem.W.Frag}
theorem dd_call (G : FnOk X.prog X.w X.K X.mg X.base CX k f fd ps (lSp K fr sp)) (hr : Room k X.A) (hg : Gl X x) (hm : X.mg x = some (.ref f)) (hk : PySem.W.keepIn X.K (.ref f) = true) (hb : Binds X.K fd ps []) (hx : Passes CX X E) (ha : PA X (e :: es) (lA F ds)) (hK : F.K = K := by rfl)
    (he : starEach (e :: es) X.env = (false, eval e X.env) :: starEach es X.env := by rfl) (hpl : (backTo pos (starEach es X.env)).any (·.1) = false := by rfl) (hdb : (x == ("__debug__" : Str)) = false := by decide) :
    PE X (.Call (.Name x p) (e :: es) [] pos) (lC F (dCall sp ds)) := PE.mono (pe_call G hr hg hm hk hb .nil hx ha hdb he hpl) (lcall hK)
theorem dn_call (G : FnOk X.prog X.w X.K X.mg X.base CX k f fd ps (lSp K (.b true) sp)) (hr : Room k X.A) (hg : Gl X x) (hm : X.mg x = some (.ref f)) (hk : PySem.W.keepIn X.K (.ref f) = true) (hb : Binds X.K fd ps []) (hx : Passes CX X E) (ha : PA X (e :: es) (lA F ds)) (hK : F.K = K := by rfl)
    (he : starEach (e :: es) X.env = (false, eval e X.env) :: starEach es X.env := by rfl) (hpl : (backTo pos (starEach es X.env)).any (·.1) = false := by rfl) (hdb : (x == ("__debug__" : Str)) = false := by decide) :
    PE X (.Call (.Name x p) (e :: es) [] pos) (lN F (dCall sp ds)) := PE.mono (pe_call G hr hg hm hk hb .nil hx ha hdb he hpl) (lcallN hK)
end
structure DEnds where
  nx : De → Prop
  rt : D → Prop
  bk : De → Prop := fun _ => False
  ct : De → Prop := fun _ => False
abbrev TDS := DEnds → De → Prop
def Pres (F : Fx) (L : List Addr) (H : Hp) (L' : List Addr) (H' : Hp) : Prop := ∀ a o, ¬ F.N L a → H a = some o → ¬ F.N L' a ∧ H' a = some o
theorem Pres.refl (F : Fx) (L : List Addr) (H : Hp) : Pres F L H L H := fun _ _ n h => ⟨n, h⟩
theorem Pres.trans {F : Fx} {L L1 L2 : List Addr} {H H1 H2 : Hp} (a : Pres F L H L1 H1) (b : Pres F L1 H1 L2 H2) : Pres F L H L2 H2 := fun x o n h => b x o (a x o n h).1 (a x o n h).2
theorem KeepW.pres {F : Fx} {env : De} {σ : L2.St} {L : List Addr} {H H' : Hp} (A : Abs F env σ L H) (k : KeepW F.W H H') : Pres F L H L H' := fun x o n h => ⟨n, k x o (nw_of A n) h⟩
structure RetOk (F : Fx) (H' : Hp) (v : V) (x : D) : Prop where
  kp : KeepW F.W F.H0 H'
  ok : F.W.ok H'
  dd : Dd F.K F.N0 F.W H' v x
  nw : F.fr = .b true → ∃ a, v = .ref a ∧ F.H0 a = none ∧ NewV F [] H' a x
  cj : ∀ j, F.fr = .ch j → Ch j F.H0 H' v x
def lS (F : Fx) (d : TDS) : TS := fun E σ H => ∃ env L P, Abs F env σ L H ∧ d P env ∧ (∀ env' σ' L' H', P.nx env' → Abs F env' σ' L' H' → Pres F L H L' H' → E.nx σ' H') ∧ (∀ x v H', P.rt x → RetOk F H' v x → E.rt v H') ∧
  (∀ env' σ' L' H', P.bk env' → Abs F env' σ' L' H' → Pres F L H L' H' → E.bk σ' H') ∧ (∀ env' σ' L' H', P.ct env' → Abs F env' σ' L' H' → Pres F L H L' H' → E.ct σ' H')
section
variable {X : Cx} {F : Fx} {e a b c : Expr} {es : List Expr} {d da db dc : TDE} {ds : TDA} {pos p : Pos} {st : Stmt} {rest sa sb : List Stmt} {s1 s2 : TDS} {tA : TDT}
def sNil : TDS := fun P env => P.nx env
def sSeq (s1 s2 : TDS) : TDS := fun P env => s1 { P with nx := s2 P } env
theorem ss_nil : PSs X [] (lS F sNil) := PSs.mono pss_nil fun E σ H ⟨env, L, P, A, pp, hn, _⟩ => hn env σ L H pp A (.refl _ _ _)
theorem ss_cons (h1 : PS X st (lS F s1)) (h2 : PSs X rest (lS F s2)) : PSs X (st :: rest) (lS F (sSeq s1 s2)) := PSs.mono (pss_cons h1 h2) fun E σ H ⟨env, L, P, A, pp, hn, hr, hb, hc⟩ =>
  ⟨env, L, _, A, pp, fun env' σ' L' H' pn A' pr => ⟨env', L', P, A', pn, fun env2 σ2 L2 H2 p2 A2 pr2 => hn env2 σ2 L2 H2 p2 A2 (pr.trans pr2), hr, fun env2 σ2 L2 H2 p2 A2 pr2 => hb env2 σ2 L2 H2 p2 A2 (pr.trans pr2), fun env2 σ2 L2 H2 p2 A2 pr2 => hc env2 σ2 L2 H2 p2 A2 (pr.trans pr2)⟩, hr, hb, hc⟩
theorem ss_one (h1 : PS X st (lS F s1)) : PSs X [st] (lS F s1) := pss_one h1
def sNever : TDS := fun _ _ => False
theorem ds_never : PS X st (lS F sNever) := PS.mono ps_never fun E σ H ⟨env, L, P, A, pp, _⟩ => pp
def sBrk : TDS := fun P env => P.bk env
def sCont : TDS := fun P env => P.ct env
theorem ds_cont : PS X (.Continue pos) (lS F sCont) := PS.mono ps_continue fun E σ H ⟨env, L, P, A, pp, _, _, _, hc⟩ => hc env σ L H pp A (.refl _ _ _)
def sIf (t : TDT) (s1 s2 : TDS) : TDS := fun P env => t env fun x => if x = true then s1 P env else s2 P env
theorem ds_if (hc : PT X c (lT F tA)) (ha : PSs X sa (lS F s1)) (hb : PSs X sb (lS F s2)) : PS X (.If c sa sb pos) (lS F (sIf tA s1 s2)) := PS.mono (ps_if hc ha hb) fun E σ H ⟨env, L, P, A, pp, hn, hr, hb, hc⟩ =>
  ⟨env, L, _, A, pp, fun x H1 px k1 o1 => by
    have pr : Pres F L H L H1 := k1.pres A
    cases x with
    | true => exact iteT ⟨env, L, P, A.step k1 o1, px, fun env2 σ2 L2 H2 p2 A2 pr2 => hn env2 σ2 L2 H2 p2 A2 (pr.trans pr2), hr, fun env2 σ2 L2 H2 p2 A2 pr2 => hb env2 σ2 L2 H2 p2 A2 (pr.trans pr2), fun env2 σ2 L2 H2 p2 A2 pr2 => hc env2 σ2 L2 H2 p2 A2 (pr.trans pr2)⟩
    | false => exact iteF ⟨env, L, P, A.step k1 o1, px, fun env2 σ2 L2 H2 p2 A2 pr2 => hn env2 σ2 L2 H2 p2 A2 (pr.trans pr2), hr, fun env2 σ2 L2 H2 p2 A2 pr2 => hb env2 σ2 L2 H2 p2 A2 (pr.trans pr2), fun env2 σ2 L2 H2 p2 A2 pr2 => hc env2 σ2 L2 H2 p2 A2 (pr.trans pr2)⟩⟩
theorem n0_sub {L : List Addr} : ∀ x, F.N0 x → F.N L x := fun x h => .inl h
theorem ret_of {env : De} {σ : L2.St} {L : List Addr} {H H' : Hp} {v : V} {x : D} (A : Abs F env σ L H) (k : KeepW F.W H H') (o : F.W.ok H') (h : Dd F.K (F.N L) F.W H' v x) (nf : F.fr = .b false) : RetOk F H' v x :=
  ⟨A.kp.trans k, o, h.keep (fun _ _ _ z => z) n0_sub, fun z => (by rw [nf] at z; cases z), fun j z => by rw [nf] at z; cases z⟩
def sRet (d : TDE) : TDS := fun P env => d env P.rt
theorem ds_ret (nf : F.fr = .b false) (he : PE X e (lC F d)) : PS X (.Return (some e) pos) (lS F (sRet d)) := PS.mono (ps_ret he) fun E σ H ⟨env, L, P, A, pp, hn, hr, _⟩ =>
  ⟨env, L, _, A, pp, fun x v H' px k o dd => hr x v H' px (ret_of A k o dd nf)⟩
theorem n0_new {L : List Addr} {a : Addr} : ∀ x, F.N [a] x → F.N (a :: L) x := fun x h => by
  rcases h with h | h
  · exact .inl h
  · rcases List.mem_cons.mp h with h | h
    · exact .inr (by rw [h]; exact List.mem_cons_self)
    · cases h
theorem NewV.small {L : List Addr} {H : Hp} {a : Addr} : ∀ {x : D}, NewV F L H a x → NewV F [] H a x
  | .lst ds, ⟨vs, h, g⟩ => ⟨vs, h, g.keep (fun _ _ _ z => z) n0_new⟩
  | .tup ds, ⟨vs, h, g⟩ => ⟨vs, h, g.keep (fun _ _ _ z => z) n0_new⟩
  | .dic ds, ⟨vs, h, e, g⟩ => ⟨vs, h, e, g.keep (fun _ _ _ z => z) n0_new⟩
  | .dct ds, ⟨vs, h, e, g⟩ => ⟨vs, h, e, g.keep (fun _ _ _ z => z) n0_new⟩
theorem ds_retN (he : PE X e (lN F d)) (nf : ∀ j, F.fr ≠ .ch j := by intro j h; cases h) : PS X (.Return (some e) pos) (lS F (sRet d)) := PS.mono (ps_ret he) fun E σ H ⟨env, L, P, A, pp, hn, hr, _⟩ =>
  ⟨env, L, _, A, pp, fun x a H' px k o n nv => hr x _ H' px ⟨A.kp.trans k, o, (nv.dd (A.new n)).keep (fun _ _ _ z => z) n0_sub, fun _ => ⟨a, rfl, free_of A.kp A.ok n, nv.small⟩, fun j z => (nf j z).elim⟩⟩
def owD : En → Option D
  | .ow ds => some (.lst ds)
  | .od ds => some (.dic ds)
  | .ot ds => some (.dct ds)
  | _ => none
def sRetO (i : Nat) : TDS := fun P env => ob (env[i]?.bind owD) P.rt
theorem ow_new {env : De} {σ : L2.St} {L : List Addr} {H : Hp} (A : Abs F env σ L H) {a : Addr} {e : En} {x : D} (h : EnOk F L H e (some (.ref a))) (hx : owD e = some x) : a ∈ L ∧ NewV F [] H a x := by
  have sub : ∀ y, F.N [a] y → a ∈ L → F.N L y := fun y hy ha => by
    rcases hy with hy | hy
    · exact .inl hy
    · rcases List.mem_cons.mp hy with hy | hy
      · rw [hy]; exact .inr ha
      · cases hy
  cases e with
  | ow ds =>
    cases hx
    obtain ⟨h1, vs, h2, h3⟩ := h
    exact ⟨h1, vs, h2, h3.keep (fun _ _ _ z => z) fun y hy => sub y hy h1⟩
  | od ds =>
    cases hx
    obtain ⟨h1, vs, h2, h4, h3⟩ := h
    exact ⟨h1, vs, h2, h4, h3.keep (fun _ _ _ z => z) fun y hy => sub y hy h1⟩
  | ot ds =>
    cases hx
    obtain ⟨h1, vs, h2, h4, h3⟩ := h
    exact ⟨h1, vs, h2, h4, h3.keep (fun _ _ _ z => z) fun y hy => sub y hy h1⟩
  | _ => cases hx
theorem owD_ref {L : List Addr} {H : Hp} {e : En} {v : V} {x : D} (h : EnOk F L H e (some v)) (hx : owD e = some x) : ∃ a, v = .ref a := by
  cases e <;> try cases hx
  all_goals (cases v <;> first | exact h.elim | exact ⟨_, rfl⟩)
theorem ds_retO {i : Nat} (he : PE X e (tVar i)) : PS X (.Return (some e) pos) (lS F (sRetO i)) := PS.mono (ps_ret he) fun E σ H ⟨env, L, P, A, pp, hn, hr, _⟩ => by
  obtain ⟨x, hx, px⟩ := ob_elim pp
  obtain ⟨en, h1, h2⟩ := Option.bind_eq_some_iff.mp hx
  obtain ⟨v, h3, h4⟩ := abs_at A h1 (by rintro rfl; cases h2)
  obtain ⟨a, rfl⟩ := owD_ref h4 h2
  obtain ⟨h5, h6⟩ := ow_new A h4 h2
  have nw : ¬ F.N [] a := fun z => by
    rcases z with z | z
    · exact A.out h5 z
    · cases z
  exact ⟨_, h3, hr x _ H px ⟨A.kp, A.ok, (h6.dd nw).keep (fun _ _ _ z => z) n0_sub, fun _ => ⟨a, rfl, (A.fr a h5).1, h6⟩, fun j _ xs ys ex => by subst ex; cases en <;> cases h2⟩⟩
def sRetE : TDS := fun P _ => P.rt .non
end
end DL
namespace DL
open PySem PySem.Spec PyProof.Rows L2 RK
section
variable {F : Fx} {env : De} {σ : L2.St} {L : List Addr} {H H' : Hp}
theorem Abs.setF (A : Abs F env σ L H) {v : V} {x : D} (h : Dd F.K (F.N L) F.W H v x) (i : Nat) : Abs F (env.set i (.fz x)) (σ.set i (some v)) L H := by
  refine ⟨A.ok, A.al, A.wn, A.kp, A.fr, by rw [List.length_set, List.length_set, A.ls], fun j l a ej el h1 h2 o1 o2 s1 s2 => ?_, fun j e y h1 h2 => ?_⟩
  · by_cases hj : i = j
    · subst hj
      by_cases hi : i < env.length
      · rw [List.getElem?_set_self hi] at h1
        cases h1
        cases o1
      · rw [List.getElem?_eq_none (by rw [List.length_set]; omega)] at h1
        cases h1
    · by_cases hl : i = l
      · subst hl
        by_cases hi : i < env.length
        · rw [List.getElem?_set_self hi] at h2
          cases h2
          cases o2
        · rw [List.getElem?_eq_none (by rw [List.length_set]; omega)] at h2
          cases h2
      · rw [List.getElem?_set_ne hj] at h1 s1
        rw [List.getElem?_set_ne hl] at h2 s2
        exact A.sep j l a ej el h1 h2 o1 o2 s1 s2
  · by_cases hj : i = j
    · subst hj
      by_cases hi : i < env.length
      · rw [List.getElem?_set_self hi] at h1
        rw [List.getElem?_set_self (by rw [← A.ls]; exact hi)] at h2
        cases h1
        cases h2
        exact h
      · rw [List.getElem?_eq_none (by rw [List.length_set]; omega)] at h1
        cases h1
    · rw [List.getElem?_set_ne hj] at h1 h2
      exact A.en j e y h1 h2
theorem Abs.grow (A : Abs F env σ L H) {L' : List Addr} (k : KeepW F.W H H') (o : F.W.ok H') (pr : Pres F L H L' H') (sub : ∀ a ∈ L, a ∈ L') (new : ∀ a ∈ L', a ∈ L ∨ (H a = none ∧ ∃ o, H' a = some o ∧ Plo o)) : Abs F env σ L' H' := by
  have w : ∀ a ∈ L, ¬ F.W.own a := fun a h z => A.out h (A.wn a z)
  refine ⟨o, A.al, A.wn, A.kp.trans k, fun a h => ?_, A.ls, A.sep, fun i e x h1 h2 => ?_⟩
  · rcases new a h with h | ⟨h1, h2⟩
    · obtain ⟨h1, u, h2, pl⟩ := A.fr a h
      exact ⟨h1, u, k a u (w a h) h2, pl⟩
    · exact ⟨free_of A.kp A.ok h1, h2⟩
  · have q := A.en i e x h1 h2
    cases e with
    | no => exact trivial
    | fz d => cases x with
      | none => exact q.elim
      | some v => exact Dd.pres pr q
    | ow ds => cases x with
      | none => exact q.elim
      | some v => cases v with
        | ref a =>
          obtain ⟨q1, vs, q2, q3⟩ := q
          exact ⟨sub a q1, vs, k a _ (w a q1) q2, q3.pres pr⟩
        | _ => exact q.elim
    | od ds => cases x with
      | none => exact q.elim
      | some v => cases v with
        | ref a =>
          obtain ⟨q1, vs, q2, q4, q3⟩ := q
          exact ⟨sub a q1, vs, k a _ (w a q1) q2, q4, q3.pres pr⟩
        | _ => exact q.elim
    | ot ds => cases x with
      | none => exact q.elim
      | some v => cases v with
        | ref a =>
          obtain ⟨q1, vs, q2, q4, q3⟩ := q
          exact ⟨sub a q1, vs, k a _ (w a q1) q2, q4, q3.pres pr⟩
        | _ => exact q.elim
theorem pres_cons (A : Abs F env σ L H) (k : KeepW F.W H H') {a : Addr} (n : H a = none) : Pres F L H (a :: L) H' := fun x o q h => ⟨fun z => by
  rcases z with z | z
  · exact q (.inl z)
  · rcases List.mem_cons.mp z with z | z
    · rw [z, n] at h
      cases h
    · exact q (.inr z), k x o (nw_of A q) h⟩
theorem new_there {F : Fx} {L : List Addr} {H : Hp} {a : Addr} : ∀ {x : D}, NewV F L H a x → ∃ o, H a = some o ∧ Plo o
  | .lst ds, ⟨vs, h, _⟩ => ⟨_, h, True.intro⟩
  | .tup ds, ⟨vs, h, _⟩ => ⟨_, h, True.intro⟩
  | .dic ds, ⟨vs, h, _⟩ => ⟨_, h, True.intro⟩
  | .dct ds, ⟨vs, h, _⟩ => ⟨_, h, True.intro⟩
def enOf : D → Option En
  | .lst xs => some (.ow xs)
  | .dic xs => some (.od xs)
  | .dct xs => some (.ot xs)
  | _ => none
theorem en_new {a : Addr} : ∀ {x : D} {e : En}, NewV F L H a x → enOf x = some e → EnOk F (a :: L) H e (some (.ref a)) ∧ e.isOw = true
  | .lst xs, _, ⟨vs, h, g⟩, q => by cases q; exact ⟨⟨List.mem_cons_self, vs, h, g⟩, rfl⟩
  | .dic xs, _, ⟨vs, h, e, g⟩, q => by cases q; exact ⟨⟨List.mem_cons_self, vs, h, e, g⟩, rfl⟩
  | .dct xs, _, ⟨vs, h, e, g⟩, q => by cases q; exact ⟨⟨List.mem_cons_self, vs, h, e, g⟩, rfl⟩
theorem Abs.setO (A : Abs F env σ L H) (k : KeepW F.W H H') (o : F.W.ok H') {a : Addr} {x : D} {e : En} (n : H a = none) (h : NewV F L H' a x) (he : enOf x = some e) (i : Nat) : Abs F (env.set i e) (σ.set i (some (.ref a))) (a :: L) H' := by
  have pr := pres_cons A k n
  have B : Abs F env σ (a :: L) H' := A.grow k o pr (fun b hb => List.mem_cons_of_mem _ hb) fun b hb => by
    rcases List.mem_cons.mp hb with hb | hb
    · exact .inr ⟨hb ▸ n, hb ▸ new_there h⟩
    · exact .inl hb
  obtain ⟨en, ow⟩ := en_new h he
  have no : ∀ (j : Nat) (ej : En), env[j]? = some ej → ej.isOw = true → σ[j]? = some (some (.ref a)) → False := fun j ej h1 h2 h3 => by
    have q := A.en j ej _ h1 h3
    have al : a ∈ L := by
      cases ej with
      | ow _ => exact q.1
      | od _ => exact q.1
      | ot _ => exact q.1
      | no => cases h2
      | fz _ => cases h2
    obtain ⟨_, u, hu, _⟩ := A.fr a al
    rw [n] at hu
    cases hu
  refine ⟨B.ok, B.al, B.wn, B.kp, B.fr, by rw [List.length_set, List.length_set, A.ls], fun j l b ej el h1 h2 o1 o2 s1 s2 => ?_, fun j e' y h1 h2 => ?_⟩
  · by_cases hi : i < env.length
    · have hi2 : i < σ.length := by rw [← A.ls]; exact hi
      by_cases hj : i = j
      · by_cases hl : i = l
        · omega
        · subst hj
          rw [List.getElem?_set_self hi2] at s1
          cases s1
          rw [List.getElem?_set_ne hl] at h2 s2
          exact (no l el h2 o2 s2).elim
      · rw [List.getElem?_set_ne hj] at h1 s1
        by_cases hl : i = l
        · subst hl
          rw [List.getElem?_set_self hi2] at s2
          cases s2
          exact (no j ej h1 o1 s1).elim
        · rw [List.getElem?_set_ne hl] at h2 s2
          exact A.sep j l b ej el h1 h2 o1 o2 s1 s2
    · have e1 : env.set i e = env := List.set_eq_of_length_le (by omega)
      have e2 : σ.set i (some (V.ref a)) = σ := List.set_eq_of_length_le (by rw [← A.ls]; omega)
      rw [e1] at h1 h2
      rw [e2] at s1 s2
      exact A.sep j l b ej el h1 h2 o1 o2 s1 s2
  · by_cases hj : i = j
    · subst hj
      by_cases hi : i < env.length
      · rw [List.getElem?_set_self hi] at h1
        rw [List.getElem?_set_self (by rw [← A.ls]; exact hi)] at h2
        cases h1
        cases h2
        exact en
      · rw [List.getElem?_eq_none (by rw [List.length_set]; omega)] at h1
        cases h1
    · rw [List.getElem?_set_ne hj] at h1 h2
      exact B.en j e' y h1 h2
theorem Abs.write (A : Abs F env σ L H) {i : Nat} {a : Addr} {e e' : En} {o' : HO} (hi : env[i]? = some e) (ow : e.isOw = true) (hs : σ[i]? = some (some (.ref a))) (ha : a ∈ L) (ow' : e'.isOw = true)
    (new : EnOk F L (upd H a o') e' (some (.ref a))) (po : Plo o' := by exact True.intro) : Abs F (env.set i e') σ L (upd H a o') ∧ Pres F L H L (upd H a o') := by
  have na : ¬ F.N0 a := A.out ha
  have nw : ¬ F.W.own a := fun z => na (A.wn a z)
  have pr : Pres F L H L (upd H a o') := fun x u q h => ⟨q, by
    have ne : x ≠ a := fun z => q (.inr (by rw [z]; exact ha))
    rw [upd_ne ne]
    exact h⟩
  have hil : i < env.length := (List.getElem?_eq_some_iff.mp hi).1
  refine ⟨⟨?_, A.al, A.wn, fun x u q h => ?_, fun b hb => ?_, by rw [List.length_set, A.ls], fun j l b ej el h1 h2 o1 o2 s1 s2 => ?_, fun j e2 y h1 h2 => ?_⟩, pr⟩
  · exact Wd.st A.ok (n := noT_upd po.ntb) fun b u h q => by
      have ne : b ≠ a := fun z => by
        rcases q with q | q
        · exact nw (by rw [← z]; exact q)
        · obtain ⟨_, o, e, pl⟩ := A.fr a ha
          rw [z, e] at h
          exact q (Option.some.inj h ▸ pl)
      rw [upd_ne ne]
      exact h
  · have hx := A.kp x u q h
    have ne : x ≠ a := fun z => by
      rw [z, (A.fr a ha).1] at h
      cases h
    rw [upd_ne ne]
    exact hx
  · refine ⟨(A.fr b hb).1, ?_⟩
    by_cases e : b = a
    · subst e
      exact ⟨_, upd_same, po⟩
    · rw [upd_ne e]
      exact (A.fr b hb).2
  · have f1 : ∀ (j : Nat) (ej : En), (env.set i e')[j]? = some ej → ej.isOw = true → ∃ e0 : En, env[j]? = some e0 ∧ e0.isOw = true := fun j ej h o => by
      by_cases hj : i = j
      · subst hj
        exact ⟨e, hi, ow⟩
      · rw [List.getElem?_set_ne hj] at h
        exact ⟨ej, h, o⟩
    obtain ⟨e1, g1, g2⟩ := f1 j ej h1 o1
    obtain ⟨e3, g3, g4⟩ := f1 l el h2 o2
    exact A.sep j l b e1 e3 g1 g3 g2 g4 s1 s2
  · by_cases hj : i = j
    · subst hj
      rw [List.getElem?_set_self hil] at h1
      cases h1
      rw [hs] at h2
      cases h2
      exact new
    · rw [List.getElem?_set_ne hj] at h1
      refine EnOk.keep A (fun x u q h => (pr x u q h).2) (fun _ z => z) (fun b hb ob hbL => ⟨hbL, fun u hu => ?_⟩) (A.en j e2 y h1 h2)
      have : b ≠ a := fun z => hj (A.sep i j a e e2 hi h1 ow ob hs (by rw [h2, hb, z]))
      rw [upd_ne this]
      exact hu
end
end DL
namespace DL
open PySem PySem.Spec PyProof.Rows L2 RK
section
variable {F : Fx} {env : De} {σ : L2.St} {L : List Addr} {H H' : Hp}
def Lone (env : De) (σ : L2.St) (a : Addr) : Prop := ∀ (j : Nat) (ej : En), env[j]? = some ej → ej.isOw = true → σ[j]? = some (some (.ref a)) → False
theorem Abs.lone (A : Abs F env σ L H) {a : Addr} (n : H a = none) : Lone env σ a := fun j ej h1 h2 h3 => by
  have q := A.en j ej _ h1 h3
  have al : a ∈ L := by
    cases ej with
    | ow _ => exact q.1
    | od _ => exact q.1
    | ot _ => exact q.1
    | no => cases h2
    | fz _ => cases h2
  obtain ⟨_, u, hu, _⟩ := A.fr a al
  rw [n] at hu
  cases hu
theorem Abs.setW (A : Abs F env σ L H) {a : Addr} {e : En} (no : Lone env σ a) (en : EnOk F L H e (some (.ref a))) (i : Nat) : Abs F (env.set i e) (σ.set i (some (.ref a))) L H := by
  refine ⟨A.ok, A.al, A.wn, A.kp, A.fr, by rw [List.length_set, List.length_set, A.ls], fun j l b ej el h1 h2 o1 o2 s1 s2 => ?_, fun j e' y h1 h2 => ?_⟩
  · by_cases hi : i < env.length
    · have hi2 : i < σ.length := by rw [← A.ls]; exact hi
      by_cases hj : i = j
      · by_cases hl : i = l
        · omega
        · subst hj
          rw [List.getElem?_set_self hi2] at s1
          cases s1
          rw [List.getElem?_set_ne hl] at h2 s2
          exact (no l el h2 o2 s2).elim
      · rw [List.getElem?_set_ne hj] at h1 s1
        by_cases hl : i = l
        · subst hl
          rw [List.getElem?_set_self hi2] at s2
          cases s2
          exact (no j ej h1 o1 s1).elim
        · rw [List.getElem?_set_ne hl] at h2 s2
          exact A.sep j l b ej el h1 h2 o1 o2 s1 s2
    · have e1 : env.set i e = env := List.set_eq_of_length_le (by omega)
      have e2 : σ.set i (some (V.ref a)) = σ := List.set_eq_of_length_le (by rw [← A.ls]; omega)
      rw [e1] at h1 h2
      rw [e2] at s1 s2
      exact A.sep j l b ej el h1 h2 o1 o2 s1 s2
  · by_cases hj : i = j
    · subst hj
      by_cases hi : i < env.length
      · rw [List.getElem?_set_self hi] at h1
        rw [List.getElem?_set_self (by rw [← A.ls]; exact hi)] at h2
        cases h1
        cases h2
        exact en
      · rw [List.getElem?_eq_none (by rw [List.length_set]; omega)] at h1
        cases h1
    · rw [List.getElem?_set_ne hj] at h1 h2
      exact A.en j e' y h1 h2
theorem Lone.setF {a : Addr} (h : Lone env σ a) (i : Nat) (x : D) (v : V) (l : env.length = σ.length) : Lone (env.set i (.fz x)) (σ.set i (some v)) a := fun j ej h1 h2 h3 => by
  by_cases hj : i = j
  · subst hj
    by_cases hi : i < env.length
    · rw [List.getElem?_set_self hi] at h1
      cases h1
      cases h2
    · rw [List.getElem?_eq_none (by rw [List.length_set]; omega)] at h1
      cases h1
  · rw [List.getElem?_set_ne hj] at h1 h3
    exact h j ej h1 h2 h3
theorem Lone.setW {a b : Addr} (h : Lone env σ a) (i : Nat) (e : En) (n : b ≠ a) (l : env.length = σ.length) : Lone (env.set i e) (σ.set i (some (.ref b))) a := fun j ej h1 h2 h3 => by
  by_cases hj : i = j
  · subst hj
    by_cases hi : i < env.length
    · rw [List.getElem?_set_self (by rw [← l]; exact hi)] at h3
      cases h3
      exact n rfl
    · rw [List.getElem?_eq_none (by rw [List.length_set]; omega)] at h1
      cases h1
  · rw [List.getElem?_set_ne hj] at h1 h3
    exact h j ej h1 h2 h3
theorem Abs.hold (A : Abs F env σ L H) (k : KeepW F.W H H') (o : F.W.ok H') {a : Addr} {x : D} (n : H a = none) (h : NewV F L H' a x) : Abs F env σ (a :: L) H' :=
  A.grow k o (pres_cons A k n) (fun b hb => List.mem_cons_of_mem _ hb) fun b hb => by
    rcases List.mem_cons.mp hb with hb | hb
    · exact .inr ⟨hb ▸ n, hb ▸ new_there h⟩
    · exact .inl hb
theorem NewV.step {a : Addr} (A : Abs F env σ (a :: L) H) (k : KeepW F.W H H') : ∀ {x : D}, NewV F L H a x → NewV F L H' a x := fun {x} h => by
  have w : ¬ F.W.own a := fun z => A.out List.mem_cons_self (A.wn a z)
  cases x with
  | lst ds => obtain ⟨vs, h1, h2⟩ := h; exact ⟨vs, k a _ w h1, A.kda k h2⟩
  | tup ds => obtain ⟨vs, h1, h2⟩ := h; exact ⟨vs, k a _ w h1, A.kda k h2⟩
  | dic ds => obtain ⟨vs, h1, h3, h2⟩ := h; exact ⟨vs, k a _ w h1, h3, A.kda k h2⟩
  | dct ds => obtain ⟨vs, h1, h3, h2⟩ := h; exact ⟨vs, k a _ w h1, h3, A.kda k h2⟩
  | _ => exact h
end
def sSet (i : Nat) (d : TDE) : TDS := fun P env => d env fun x => P.nx (env.set i (.fz x))
def sSetO (i : Nat) (d : TDE) : TDS := fun P env => d env fun x => ob (enOf x) fun e => P.nx (env.set i e)
def sDrop (d : TDE) : TDS := fun P env => d env fun _ => P.nx env
section
variable {X : Cx} {F : Fx} {e a b c : Expr} {es : List Expr} {d da db dc : TDE} {ds : TDA} {pos p : Pos} {i j l : Nat}
theorem l_setF {t : TE} (h : ∀ σ H Q, lC F d σ H Q → t σ H Q) : ∀ E σ H, lS F (sSet i d) E σ H → tAsg t (gName i) E σ H := fun E σ H ⟨env, L, P, A, pp, hn, _⟩ =>
  h σ H _ ⟨env, L, _, A, pp, fun x v H1 px k o dd => hn _ _ L H1 px ((A.step k o).setF dd i) (k.pres A)⟩
theorem l_setO {t : TE} (h : ∀ σ H Q, lN F d σ H Q → t σ H Q) : ∀ E σ H, lS F (sSetO i d) E σ H → tAsg t (gName i) E σ H := fun E σ H ⟨env, L, P, A, pp, hn, _⟩ =>
  h σ H _ ⟨env, L, _, A, pp, fun x v H1 px k o n dd => by
    obtain ⟨en, he, pn⟩ := ob_elim px
    exact hn _ _ _ H1 pn (A.setO k o n dd he i) (pres_cons A k n)⟩
theorem ds_set {x : Str} {pos' : Pos} (hN : X.N.Nodup) (hi : X.N[i]? = some x) (hx : Loc X.env.scope x) (he : PE X e (lC F d)) (hs : swapsWith e (some (.Name x pos')) pos.line X.env = pure false := by rfl) (hf : X.fn x = true ∨ X.env.scope.names.lookup x = some .local := by first | exact .inl rfl | exact .inr rfl | assumption) :
    PS X (.Assign [.Name x pos'] e pos) (lS F (sSet i d)) := PS.mono (ps_set hN hi hx he hs hf) (l_setF fun _ _ _ h => h)
theorem ds_setO {x : Str} {pos' : Pos} (hN : X.N.Nodup) (hi : X.N[i]? = some x) (hx : Loc X.env.scope x) (he : PE X e (lN F d)) (hs : swapsWith e (some (.Name x pos')) pos.line X.env = pure false := by rfl) (hf : X.fn x = true ∨ X.env.scope.names.lookup x = some .local := by first | exact .inl rfl | exact .inr rfl | assumption) :
    PS X (.Assign [.Name x pos'] e pos) (lS F (sSetO i d)) := PS.mono (ps_set hN hi hx he hs hf) (l_setO fun _ _ _ h => h)
theorem ds_expr (he : PE X e (lC F d)) (hs : swapsWith e none pos.line X.env = pure false := by rfl) : PS X (.Expr e pos) (lS F (sDrop d)) := PS.mono (ps_expr he hs) fun E σ H ⟨env, L, P, A, pp, hn, _⟩ =>
  ⟨env, L, _, A, pp, fun x v H1 px k o dd => hn env σ L H1 px (A.step k o) (k.pres A)⟩
abbrev TDG := D → De → (De → Prop) → Prop
abbrev TDGs := List D → De → (De → Prop) → Prop
def lG (F : Fx) (S : List Nat) (g : TDG) : TG := fun v σ H Q => ∃ env L x P, Abs F env σ L H ∧ Dd F.K (F.N L) F.W H v x ∧ g x env P ∧ ∀ env' σ', P env' → Abs F env' σ' L H → (∀ vs : List Nat, (∀ i ∈ S, i ∈ vs) → wipe σ' vs = wipe σ vs) → (∀ a, Lone env σ a → Lone env' σ' a) → Q σ' H
def lGs (F : Fx) (S : List Nat) (g : TDGs) : TGs := fun vs σ H Q => ∃ env L xs P, Abs F env σ L H ∧ DdAll F.K (F.N L) F.W H vs xs ∧ g xs env P ∧ ∀ env' σ', P env' → Abs F env' σ' L H → (∀ us : List Nat, (∀ i ∈ S, i ∈ us) → wipe σ' us = wipe σ us) → (∀ a, Lone env σ a → Lone env' σ' a) → Q σ' H
theorem wipe_set {σ : L2.St} {i : Nat} {v : Option V} : ∀ {vs : List Nat}, i ∈ vs → wipe (σ.set i v) vs = wipe σ vs
  | [], h => by cases h
  | w :: vs, h => by
    unfold wipe
    by_cases hw : i ∈ vs
    · rw [wipe_set hw]
    · have e : i = w := by
        rcases List.mem_cons.mp h with h | h
        · exact h
        · exact (hw h).elim
      subst e
      have comm : ∀ us : List Nat, i ∉ us → wipe (σ.set i v) us = (wipe σ us).set i v := by
        intro us
        induction us with
        | nil => intro _; rfl
        | cons u us ih =>
          intro hu
          unfold wipe
          rw [ih (fun z => hu (List.mem_cons_of_mem _ z)), List.set_comm]
          exact fun z => hu (by rw [z]; exact List.mem_cons_self)
      rw [comm vs hw, List.set_set]
theorem PG.mono {tg : Expr} {t t' : TG} (h : PG X tg t) (m : ∀ v σ H Q, t' v σ H Q → t v σ H Q) : PG X tg t' := ⟨fun pins s σ H v u Q I r q => h.run pins s σ H v u Q I r (m v σ H Q q)⟩
theorem PGs.mono {tg : List Expr} {t t' : TGs} (h : PGs X tg t) (m : ∀ v σ H Q, t' v σ H Q → t v σ H Q) : PGs X tg t' := ⟨fun pins s σ H v u Q I r q => h.run pins s σ H v u Q I r (m v σ H Q q)⟩
def gNm (i : Nat) : TDG := fun x env P => P (env.set i (.fz x))
theorem dg_name {x : Str} (hN : X.N.Nodup) (hi : X.N[i]? = some x) (hx : Loc X.env.scope x) (hf : X.fn x = true ∨ X.env.scope.names.lookup x = some .local := by first | exact .inl rfl | exact .inr rfl | assumption) : PG X (.Name x pos) (lG F [i] (gNm i)) :=
  PG.mono (pg_name hN hi hx hf) fun v σ H Q ⟨env, L, x, P, A, dd, g, q⟩ => q _ _ g (A.setF dd i) (fun vs h => wipe_set (h i List.mem_cons_self)) fun a h => h.setF i _ _ A.ls
def gsNil : TDGs := fun xs env P => xs = [] ∧ P env
def gsCons (g : TDG) (gs : TDGs) : TDGs := fun xs env P => match xs with | x :: r => g x env fun env' => gs r env' P | [] => False
theorem dgs_nil : PGs X [] (lGs F [] gsNil) := PGs.mono pgs_nil fun vs σ H Q ⟨env, L, xs, P, A, dd, g, q⟩ => by
  obtain ⟨rfl, g⟩ := g
  cases dd
  exact ⟨rfl, q env σ g A (fun _ _ => rfl) fun _ h => h⟩
theorem l_gcons {S S' : List Nat} {g : TDG} {gs : TDGs} : ∀ vs σ H Q, lGs F (S ++ S') (gsCons g gs) vs σ H Q → gCons (lG F S g) (lGs F S' gs) vs σ H Q := fun vs σ H Q ⟨env, L, xs, P, A, dd, gg, q⟩ => by
    cases dd with
    | nil => exact gg.elim
    | cons h t =>
      refine ⟨_, _, rfl, env, L, _, _, A, h, gg, fun env1 σ1 p1 A1 w1 n1 => ⟨env1, L, _, _, A1, t, p1, fun env2 σ2 p2 A2 w2 n2 => q env2 σ2 p2 A2 (fun us hu => ?_) fun a h => n2 a (n1 a h)⟩⟩
      rw [w2 us (fun i hi => hu i (List.mem_append_right _ hi)), w1 us (fun i hi => hu i (List.mem_append_left _ hi))]
def gTp (n : Nat) (gs : TDGs) : TDG := fun x env P => match x with | .tup xs => xs.length = n ∧ gs xs env P | _ => False
theorem l_gtup {S : List Nat} {n : Nat} {gs : TDGs} {K : PySem.W.Frag} (hK : F.K = K) : ∀ v σ H Q, lG F S (gTp n gs) v σ H Q → gTup K n (lGs F S gs) v σ H Q := fun v σ H Q ⟨env, L, x, P, A, dd, g, q⟩ => by
  cases x with
  | tup xs =>
    obtain ⟨a, vs, rfl, h1, _, h2⟩ := dd_tupE dd
    exact ⟨a, vs, rfl, SqT.of h1, h2.len.trans g.1, env, L, xs, P, A, h2, g.2, q⟩
  | _ => exact g.elim
def sAsg (d : TDE) (g : TDG) : TDS := fun P env => d env fun x => g x env P.nx
theorem l_asg {S : List Nat} {g : TDG} : ∀ E σ H, lS F (sAsg d g) E σ H → tAsg (lC F d) (lG F S g) E σ H := fun E σ H ⟨env, L, P, A, pp, hn, _⟩ =>
  ⟨env, L, _, A, pp, fun x v H1 px k o dd => ⟨env, L, x, _, A.step k o, dd, px, fun env' σ' p' A' _ _ => hn env' σ' L H1 p' A' (k.pres A)⟩⟩
def kn : Bool → D → Option En
  | true, x => enOf x
  | false, x => some (.fz x)
def sPar (i j : Nat) (ki kj : Bool) (da db : TDE) : TDS := fun P env => da env fun x => db env fun y => ob (kn ki x) fun ex => ob (kn kj y) fun ey => P.nx ((env.set i ex).set j ey)
theorem l_par : ∀ E σ H, lS F (sPar i j false false da db) E σ H → tPar i j (tCons (lC F da) (tCons (lC F db) tNil)) E σ H := fun E σ H ⟨env, L, P, A, pp, hn, _⟩ =>
  ⟨env, L, _, A, pp, fun x v H1 px k1 o1 d1 => ⟨env, L, _, A.step k1 o1, px, fun y u H2 py k2 o2 d2 => ⟨v, u, rfl, hn _ _ L H2 py ((((A.step k1 o1).step k2 o2).setF ((A.step k1 o1).kd k2 d1) i).setF d2 j) ((k1.trans k2).pres A)⟩⟩⟩
theorem l_parL : ∀ E σ H, lS F (sPar i j true false da db) E σ H → tPar i j (tCons (lN F da) (tCons (lC F db) tNil)) E σ H := fun E σ H ⟨env, L, P, A, pp, hn, _⟩ =>
  ⟨env, L, _, A, pp, fun x a H1 px k1 o1 n1 d1 => by
    have B := A.hold k1 o1 n1 d1
    have pr := pres_cons A k1 n1
    exact ⟨env, a :: L, _, B, px, fun y u H2 py k2 o2 d2 => by
      obtain ⟨ex, he, pn⟩ := ob_elim py
      obtain ⟨ey, he0, pn⟩ := ob_elim pn
      cases he0
      have B2 := B.step k2 o2
      have nv := d1.step B k2
      refine ⟨_, u, rfl, hn _ _ _ H2 pn ((B2.setW (A.lone n1) (en_new nv he).1 i).setF d2 j) (pr.trans (k2.pres B))⟩⟩⟩
end
end DL
namespace DL
open PySem PySem.Spec PyProof.Rows L2 RK
section
variable {X : Cx} {F : Fx} {e a b c o : Expr} {es : List Expr} {d da db dc : TDE} {ds : TDA} {pos p apos cpos : Pos} {i j l : Nat}
def owAt (env : De) (i : Nat) : Option (List D) := env[i]?.bind fun e => match e with | .ow xs => some xs | _ => none
theorem owAt_en {env : De} {i : Nat} {xs : List D} (h : owAt env i = some xs) : env[i]? = some (.ow xs) := by
  obtain ⟨e, h1, h2⟩ := Option.bind_eq_some_iff.mp h
  cases e <;> cases h2
  exact h1
theorem ow_get {env : De} {σ : L2.St} {L : List Addr} {H : Hp} (A : Abs F env σ L H) {xs : List D} (h : owAt env i = some xs) : ∃ a vs, σ[i]? = some (some (.ref a)) ∧ a ∈ L ∧ H a = some (.lst vs) ∧ DdAll F.K (F.N L) F.W H vs xs := by
  obtain ⟨v, h1, h2⟩ := abs_at A (owAt_en h) (by intro z; cases z)
  cases v with
  | ref a => obtain ⟨q1, vs, q2, q3⟩ := h2; exact ⟨a, vs, h1, q1, q2, q3⟩
  | _ => exact h2.elim
theorem ow_put {env : De} {σ : L2.St} {L : List Addr} {H : Hp} (A : Abs F env σ L H) {xs ys : List D} (h : owAt env i = some xs) {a : Addr} (hs : σ[i]? = some (some (.ref a))) (ha : a ∈ L) {us : List V} (hu : DdAll F.K (F.N L) F.W H us ys) :
    Abs F (env.set i (.ow ys)) σ L (upd H a (.lst us)) ∧ Pres F L H L (upd H a (.lst us)) := by
  refine A.write (owAt_en h) rfl hs ha rfl ⟨ha, us, upd_same, hu.keep (fun x u q h => ?_) fun _ z => z⟩
  have ne : x ≠ a := fun z => q (.inr (by rw [z]; exact ha))
  rw [upd_ne ne]
  exact h
def sApp (i : Nat) (d : TDE) : TDS := fun P env => ob (owAt env i) fun xs => d env fun x => xs.length < sizeLine ∧ P.nx (env.set i (.ow (xs ++ [x])))
theorem l_app {K : PySem.W.Frag} : ∀ E σ H, lS F (sApp i d) E σ H → tDrop (tBM K "list" rAppend (tVar i) (tCons (lC F d) tNil)) E σ H := fun E σ H ⟨env, L, P, A, pp, hn, _⟩ => by
  obtain ⟨xs, h, pp⟩ := ob_elim pp
  obtain ⟨a, vs, hs, ha, hv, hd⟩ := ow_get A h
  refine ⟨_, hs, .inl ⟨rfl, vs, SqL.of hv⟩, env, L, _, A, pp, fun x v H1 px k1 o1 d1 => ?_⟩
  have A1 := A.step k1 o1
  obtain ⟨a2, vs2, hs2, ha2, hv2, hd2⟩ := ow_get A1 h
  rw [hs] at hs2
  cases hs2
  obtain ⟨B, pr⟩ := ow_put A1 h hs ha2 (hd2.app (.cons d1 .nil))
  exact ⟨a, vs2, v, rfl, rfl, hv2, by rw [hd2.len]; exact px.1, hn _ _ _ _ px.2 B ((k1.pres A).trans pr)⟩
theorem ds_app (ho : PE X o (tVar i)) (he : PE X e (lC F d)) (hbase : attributeBase o "append" X.env (eval o X.env) = eval o X.env := by rfl)
    (hfew : ((backTo cpos (starEach [e] X.env)).all (fun x => !x.1) && (backToKw cpos (keywordEach [] X.env)).all (fun x => x.1.isSome) && decide (([e] : List Expr).length + ([] : List Keyword).length + (if ([] : List Keyword).isEmpty then 0 else 1) < 30)) = true := by rfl)
    (hline : (apos.endLine == cpos.line) = true := by rfl) (hs : starEach [e] X.env = (false, eval e X.env) :: starEach [] X.env := by rfl) (hplain : (backTo cpos (starEach [] X.env)).any (·.1) = false := by rfl)
    (hsw : swapsWith (.Call (.Attribute o "append" apos) [e] [] cpos) none pos.line X.env = pure false := by rfl) :
    PS X (.Expr (.Call (.Attribute o "append" apos) [e] [] cpos) pos) (lS F (sApp i d)) := PS.mono (ps_expr (pe_bm PySem.F.plainAttrs_list PySem.F.slot_list_append PySem.F.type_list_append mt_append ho (pa_cons he pa_nil hs) hbase hfew hline hs hplain) hsw) l_app
def sIns (i : Nat) (da db : TDE) : TDS := fun P env => ob (owAt env i) fun xs => da env fun y => db env fun x => match y with
  | .int n => xs.length < sizeLine ∧ 0 ≤ n ∧ n < 2 ^ 63 ∧ P.nx (env.set i (.ow (xs.take n.toNat ++ [x] ++ xs.drop n.toNat)))
  | _ => False
theorem ds_ins (ho : PE X o (tVar i)) (ha : PE X a (lC F da)) (hb : PE X b (lC F db)) (hbase : attributeBase o "insert" X.env (eval o X.env) = eval o X.env := by rfl)
    (hfew : ((backTo cpos (starEach [a, b] X.env)).all (fun x => !x.1) && (backToKw cpos (keywordEach [] X.env)).all (fun x => x.1.isSome) && decide (([a, b] : List Expr).length + ([] : List Keyword).length + (if ([] : List Keyword).isEmpty then 0 else 1) < 30)) = true := by rfl)
    (hline : (apos.endLine == cpos.line) = true := by rfl) (hs : starEach [a, b] X.env = (false, eval a X.env) :: starEach [b] X.env := by rfl) (hs2 : starEach [b] X.env = (false, eval b X.env) :: starEach [] X.env := by rfl) (hplain : (backTo cpos (starEach [b] X.env)).any (·.1) = false := by rfl)
    (hsw : swapsWith (.Call (.Attribute o "insert" apos) [a, b] [] cpos) none pos.line X.env = pure false := by rfl) :
    PS X (.Expr (.Call (.Attribute o "insert" apos) [a, b] [] cpos) pos) (lS F (sIns i da db)) := PS.mono (ps_expr (pe_bm PySem.F.plainAttrs_list PySem.F.slot_list_insert PySem.F.type_list_insert mt_insert ho (pa_cons ha (pa_cons hb pa_nil hs2) hs) hbase hfew hline hs hplain) hsw) fun E σ H ⟨env, L, P, A, pp, hn, _⟩ => by
  obtain ⟨xs, h, pp⟩ := ob_elim pp
  obtain ⟨t, vs, hs, ha, hv, hd⟩ := ow_get A h
  refine ⟨_, hs, .inl ⟨rfl, vs, SqL.of hv⟩, env, L, _, A, pp, fun y w H1 px k1 o1 d1 => ⟨env, L, _, A.step k1 o1, px, fun x v H2 px k2 o2 d2 => ?_⟩⟩
  cases y with
  | int n =>
    cases d1
    have A2 := (A.step k1 o1).step k2 o2
    obtain ⟨a2, vs2, hs2, ha2, hv2, hd2⟩ := ow_get A2 h
    rw [hs] at hs2
    cases hs2
    obtain ⟨B, pr⟩ := ow_put A2 h hs ha2 (((hd2.take n.toNat).app (.cons d2 .nil)).app (hd2.drop n.toNat))
    exact ⟨t, vs2, n, v, rfl, rfl, hv2, by rw [hd2.len]; exact px.1, px.2.1, px.2.2.1, hn _ _ _ _ px.2.2.2 B (((k1.trans k2).pres A).trans pr)⟩
  | _ => exact px.elim
def sExt (i : Nat) (d : TDE) : TDS := fun P env => ob (owAt env i) fun xs => d env fun x => match x with | .lst ys => xs.length + ys.length ≤ sizeLine ∧ P.nx (env.set i (.ow (xs ++ ys))) | _ => False
theorem ds_ext (ho : PE X o (tVar i)) (he : PE X e (lB F d)) (hbase : attributeBase o "extend" X.env (eval o X.env) = eval o X.env := by rfl)
    (hfew : ((backTo cpos (starEach [e] X.env)).all (fun x => !x.1) && (backToKw cpos (keywordEach [] X.env)).all (fun x => x.1.isSome) && decide (([e] : List Expr).length + ([] : List Keyword).length + (if ([] : List Keyword).isEmpty then 0 else 1) < 30)) = true := by rfl)
    (hline : (apos.endLine == cpos.line) = true := by rfl) (hs : starEach [e] X.env = (false, eval e X.env) :: starEach [] X.env := by rfl) (hplain : (backTo cpos (starEach [] X.env)).any (·.1) = false := by rfl)
    (hsw : swapsWith (.Call (.Attribute o "extend" apos) [e] [] cpos) none pos.line X.env = pure false := by rfl) :
    PS X (.Expr (.Call (.Attribute o "extend" apos) [e] [] cpos) pos) (lS F (sExt i d)) := PS.mono (ps_expr (pe_bm PySem.F.plainAttrs_list PySem.F.slot_list_extend PySem.F.type_list_extend mt_extend ho (pa_cons he pa_nil hs) hbase hfew hline hs hplain) hsw) fun E σ H ⟨env, L, P, A, pp, hn, _⟩ => by
  obtain ⟨xs, h, pp⟩ := ob_elim pp
  obtain ⟨t, vs, hs, ha, hv, hd⟩ := ow_get A h
  refine ⟨_, hs, .inl ⟨rfl, vs, SqL.of hv⟩, env, L, _, A, pp, fun x v H1 px k1 o1 b1 => ?_⟩
  cases x with
  | lst ys =>
    have A1 := A.step k1 o1
    obtain ⟨a2, vs2, hs2, ha2, hv2, hd2⟩ := ow_get A1 h
    rw [hs] at hs2
    cases hs2
    obtain ⟨q, us, rfl, g1, g2⟩ := bw_lst b1
    obtain ⟨B, pr⟩ := ow_put A1 h hs ha2 (hd2.app g2)
    exact ⟨t, q, vs2, us, rfl, rfl, hv2, g1, by rw [hd2.len, g2.len]; exact px.1, hn _ _ _ _ px.2 B ((k1.pres A).trans pr)⟩
  | _ => exact px.elim
def sClr (i : Nat) : TDS := fun P env => ob (owAt env i) fun _ => P.nx (env.set i (.ow []))
theorem ds_clr (ho : PE X o (tVar i)) (hbase : attributeBase o "clear" X.env (eval o X.env) = eval o X.env := by rfl) (hline : (apos.endLine == cpos.line) = true := by rfl)
    (hsw : swapsWith (.Call (.Attribute o "clear" apos) [] [] cpos) none pos.line X.env = pure false := by rfl) :
    PS X (.Expr (.Call (.Attribute o "clear" apos) [] [] cpos) pos) (lS F (sClr i)) := PS.mono (ps_expr (pe_bm0 PySem.F.plainAttrs_list PySem.F.slot_list_clear PySem.F.type_list_clear mt_clear ho hbase hline) hsw) fun E σ H ⟨env, L, P, A, pp, hn, _⟩ => by
  obtain ⟨xs, h, pp⟩ := ob_elim pp
  obtain ⟨t, vs, hs, ha, hv, hd⟩ := ow_get A h
  obtain ⟨B, pr⟩ := ow_put A h hs ha DdAll.nil
  exact ⟨_, hs, .inl ⟨rfl, vs, SqL.of hv⟩, t, vs, rfl, rfl, hv, hn _ _ _ _ pp B pr⟩
def sRev (i : Nat) : TDS := fun P env => ob (owAt env i) fun xs => P.nx (env.set i (.ow xs.reverse))
def sPut (i : Nat) (de dk : TDE) : TDS := fun P env => de env fun x => ob (owAt env i) fun xs => dk env fun k => match k with | .int n => ob (ixN xs.length n) fun m => P.nx (env.set i (.ow (xs.set m x))) | _ => False
theorem l_put : ∀ E σ H, lS F (sPut i da db) E σ H → tAsg (lC F da) (gSub (tVar i) (lC F db) rSetL) E σ H := fun E σ H ⟨env, L, P, A, pp, hn, _⟩ =>
  ⟨env, L, _, A, pp, fun x v H1 px k1 o1 d1 => by
    obtain ⟨xs, h, pp⟩ := ob_elim px
    have A1 := A.step k1 o1
    obtain ⟨t, vs, hs, ha, hv, hd⟩ := ow_get A1 h
    refine ⟨_, hs, env, L, _, A1, pp, fun y w H2 py k2 o2 d2 => ?_⟩
    cases y with
    | int n =>
      cases d2
      obtain ⟨m, hm, pn⟩ := ob_elim py
      have A2 := A1.step k2 o2
      obtain ⟨a2, vs2, hs2, ha2, hv2, hd2⟩ := ow_get A2 h
      rw [hs] at hs2
      cases hs2
      obtain ⟨B, pr⟩ := ow_put A2 h hs ha2 (hd2.set m (A1.kd k2 d1))
      exact ⟨t, vs2, n, m, rfl, rfl, hv2, by rw [hd2.len]; exact hm, hn _ _ _ _ pn B (((k1.trans k2).pres A).trans pr)⟩
    | _ => exact py.elim⟩
theorem kd_len {κ : Type} {kvs : List (κ × V)} {kds : List (κ × D)} (h : kvs.map (·.1) = kds.map (·.1)) : kvs.length = kds.length := by simpa using congrArg List.length h
def frz (e : En) : Option En := (owD e).map En.fz
def sFrz (i : Nat) (s : TDS) : TDS := fun P env => ob (env[i]?.bind frz) fun e => s P (env.set i e)
end
end DL
namespace DL
open PySem PySem.Spec PyProof.Rows L2 RK
structure Stn (H H' : Hp) : Prop where
  f : ∀ a o, H a = some o → H' a = some o
  n : NoT H H'
theorem Stn.refl (H : Hp) : Stn H H := ⟨fun _ _ z => z, fun _ _ z => ⟨_, z⟩⟩
theorem Stn.new {H : Hp} {p : Addr} {o : HO} (h : H p = none) (n : Ntb o) : Stn H (upd H p o) := ⟨fun a u q => by rw [upd_ne (ne_of_none q h)]; exact q, noT_upd n⟩
instance {H H' : Hp} : CoeFun (Stn H H') fun _ => ∀ a o, H a = some o → H' a = some o := ⟨Stn.f⟩
def ItOk (F : Fx) (Rel : (Addr → Prop) → Hp → Prop) (J : It) (xs : List D) : Prop := ∀ N' H', Rel N' H' → (∀ a, N' a → ∃ o, H' a = some o) → ∀ i : Nat, (xs.length = i → J.stop i H') ∧
  ∀ x, xs[i]? = some x → J.go i H' ∧ ∀ v H2, J.yld i H' v H2 → Stn H' H2 ∧ Dd F.K N' F.W H2 v x
def relP (F : Fx) (L : List Addr) (H : Hp) : (Addr → Prop) → Hp → Prop := fun N' H' => ∀ a o, ¬ F.N L a → H a = some o → ¬ N' a ∧ H' a = some o
def relK (F : Fx) (L : List Addr) (H : Hp) : (Addr → Prop) → Hp → Prop := fun N' H' => ∀ a o, ¬ F.W.own a → H a = some o → (¬ F.N L a → ¬ N' a) ∧ H' a = some o
abbrev TDI := De → (List D → Prop) → Prop
def lI (F : Fx) (d : TDI) : TI := fun σ H R => ∃ env L P, Abs F env σ L H ∧ d env P ∧ ∀ xs J H', P xs → KeepW F.W H H' → F.W.ok H' → ItOk F (relP F L H') J xs → R J H'
def lIb (F : Fx) (d : TDI) : TI := fun σ H R => ∃ env L P, Abs F env σ L H ∧ d env P ∧ ∀ xs J H', P xs → KeepW F.W H H' → F.W.ok H' → ItOk F (relK F L H') J xs → R J H'
section
variable {X : Cx} {F : Fx} {e a b c tg iter : Expr} {es : List Expr} {d da db dc : TDE} {ds : TDA} {pos p : Pos} {i j l : Nat}
theorem it_list {Rel : (Addr → Prop) → Hp → Prop} {t : Addr} {vs : List V} {xs : List D} (h : ∀ N' H', Rel N' H' → H' t = some (.lst vs) ∧ DdAll F.K N' F.W H' vs xs) : ItOk F Rel (Itl F.K t) xs := fun N' H' r _ i => by
  obtain ⟨h1, h2⟩ := h N' H' r
  refine ⟨fun hi => ⟨vs, SqL.of h1, by rw [h2.len]; exact Nat.le_of_eq hi⟩, fun x hx => ?_⟩
  obtain ⟨v, hv, dv⟩ := h2.get hx
  refine ⟨⟨vs, v, SqL.of h1, hv⟩, fun w H2 hy => ?_⟩
  obtain ⟨rfl, hy⟩ := hy
  have := hy vs (SqL.of h1)
  rw [hv] at this
  cases this
  exact ⟨.refl _, dv⟩
theorem it_tup {Rel : (Addr → Prop) → Hp → Prop} {t : Addr} {vs : List V} {xs : List D} (h : ∀ N' H', Rel N' H' → SqT F.K H' t vs ∧ DdAll F.K N' F.W H' vs xs) : ItOk F Rel (Itt F.K t) xs := fun N' H' r _ i => by
  obtain ⟨h1, h2⟩ := h N' H' r
  refine ⟨fun hi => ⟨vs, h1, by rw [h2.len]; exact Nat.le_of_eq hi⟩, fun x hx => ?_⟩
  obtain ⟨v, hv, dv⟩ := h2.get hx
  refine ⟨⟨vs, v, h1, hv⟩, fun w H2 hy => ?_⟩
  obtain ⟨rfl, hy⟩ := hy
  have := hy vs h1
  rw [hv] at this
  cases this
  exact ⟨.refl _, dv⟩
def rngD (lo : Int) (n : Nat) : List D := (List.range n).map fun k => .int (lo + (k : Nat))
theorem it_rng {Rel : (Addr → Prop) → Hp → Prop} {lo : Int} {n : Nat} : ItOk F Rel (Itr lo n) (rngD lo n) := fun N' H' r _ i => by
  refine ⟨fun hi => (show n ≤ i by have := Nat.le_of_eq hi; simpa [rngD] using this), fun x hx => ?_⟩
  have hi : i < n := by
    have := (List.getElem?_eq_some_iff.mp hx).1
    simpa [rngD] using this
  have e : x = .int (lo + (i : Nat)) := by
    unfold rngD at hx
    rw [List.getElem?_map, List.getElem?_range hi] at hx
    exact (Option.some.inj hx).symm
  subst e
  refine ⟨hi, fun w H2 hy => ?_⟩
  obtain ⟨rfl, rfl⟩ := hy
  exact ⟨.refl _, .int _⟩
theorem PI.mono {w w' : TI} (h : PI X tg iter w) (m : ∀ σ H R, w' σ H R → w σ H R) : PI X tg iter w' := ⟨fun pins s σ H R I q => h.run pins s σ H R I (m σ H R q)⟩
theorem PI.or {w w' : TI} (h : PI X tg iter w) (h' : PI X tg iter w') : PI X tg iter (fun σ H R => w σ H R ∨ w' σ H R) := ⟨fun pins s σ H R I q => by
  rcases q with q | q
  · exact h.run pins s σ H R I q
  · exact h'.run pins s σ H R I q⟩
def lstD : D → Option (List D)
  | .lst xs => some xs
  | _ => none
def tupD : D → Option (List D)
  | .tup xs => some xs
  | .ktp xs => some xs
  | _ => none
def sgnD : D → Option (List D)
  | .str z => some (z.cps.toList.map fun c => .str ⟨#[c]⟩)
  | _ => none
def iSeq (d : TDE) : TDI := fun env P => (d env fun x => ob (lstD x) P) ∨ ((d env fun x => ob (tupD x) P) ∨ (d env fun x => ob (sgnD x) P))
theorem it_str {Rel : (Addr → Prop) → Hp → Prop} {z : Str} : ItOk F Rel (Its z) (z.cps.toList.map fun c => .str ⟨#[c]⟩) := fun N' H' r _ i => by
  refine ⟨fun hi => (show z.cps.size ≤ i by have := Nat.le_of_eq hi; simpa using this), fun x hx => ?_⟩
  rw [List.getElem?_map] at hx
  obtain ⟨c, hc, rfl⟩ := Option.map_eq_some_iff.mp hx
  have hi : i < z.cps.size := by simpa using (List.getElem?_eq_some_iff.mp hc).1
  have hc2 : z.cps[i]? = some c := by rw [← Array.getElem?_toList]; exact hc
  refine ⟨hi, fun w H2 hy => ?_⟩
  obtain ⟨rfl, c', h1, rfl⟩ := hy
  rw [hc2] at h1
  cases h1
  exact ⟨.refl _, .str _⟩
theorem lstD_e {x : D} {xs : List D} (h : lstD x = some xs) : x = .lst xs := by cases x <;> cases h; rfl
theorem seqT_keep {N N' : Addr → Prop} {H H' : Hp} {v : V} {x : D} {xs : List D} (e : tupD x = some xs) (h : Dd F.K N F.W H v x) : ∃ t vs, v = .ref t ∧ SqT F.K H t vs ∧ ∀ N' H', (∀ a o, ¬ N a → H a = some o → ¬ N' a ∧ H' a = some o) → SqT F.K H' t vs ∧ DdAll F.K N' F.W H' vs xs := by
  cases x <;> cases e
  · obtain ⟨t, vs, rfl, h1, h2, h3⟩ := dd_tupE h
    exact ⟨t, vs, rfl, SqT.of h1, fun N' H' r => ⟨SqT.of (r t _ h2 h1).2, h3.pres r⟩⟩
  · cases h with | ktp h1 h2 h3 h4 h5 h6 => exact ⟨_, _, rfl, .inr ⟨_, _, _, h1, h2, h3, h4, h5⟩, fun N' H' r => ⟨.inr ⟨_, _, _, h1, h2, h3, h4, h5⟩, h6.pres r⟩⟩
theorem di_seq (he : PE X e (lC F d)) (hK : F.K = X.K := by rfl) : PI X tg e (lI F (iSeq d)) := PI.mono (PI.or (pi_list he) (PI.or (pi_tup he) (pi_str he))) fun σ H R ⟨env, L, P, A, pp, q⟩ => by
  rw [← hK]
  rcases pp with pp | pp | pp
  · refine .inl ⟨env, L, _, A, pp, fun x v H1 px k1 o1 d1 => ?_⟩
    obtain ⟨xs, e, px⟩ := ob_elim px
    have := lstD_e e
    subst this
    obtain ⟨t, vs, rfl, h1, h2, h3⟩ := dd_lstE d1
    exact ⟨t, rfl, ⟨vs, SqL.of h1⟩, q xs _ H1 px k1 o1 (it_list fun N' H' r => ⟨(r t _ h2 h1).2, h3.pres r⟩)⟩
  · refine .inr (.inl ⟨env, L, _, A, pp, fun x v H1 px k1 o1 d1 => ?_⟩)
    obtain ⟨xs, e, px⟩ := ob_elim px
    obtain ⟨t, vs, rfl, h1, h2⟩ := seqT_keep (N' := fun _ => False) (H' := H1) e d1
    exact ⟨t, rfl, ⟨vs, h1⟩, q xs _ H1 px k1 o1 (it_tup fun N' H' r => h2 N' H' r)⟩
  · refine .inr (.inr ⟨env, L, _, A, pp, fun x v H1 px k1 o1 d1 => ?_⟩)
    obtain ⟨xs, e, px⟩ := ob_elim px
    cases x <;> cases e
    have := dd_strE d1
    subst this
    exact ⟨_, rfl, q _ _ H1 px k1 o1 it_str⟩
theorem relK_p {L : List Addr} {H : Hp} {N' : Addr → Prop} {H' : Hp} {env : De} {σ : L2.St} (A : Abs F env σ L H) (r : relK F L H N' H') : ∀ a o, ¬ F.N L a → H a = some o → ¬ N' a ∧ H' a = some o := fun a o n h => ⟨(r a o (nw_of A n) h).1 n, (r a o (nw_of A n) h).2⟩
theorem bw_lstO {env : De} {σ : L2.St} {L : List Addr} {H : Hp} (A : Abs F env σ L H) {v : V} {xs : List D} (h : Bw F L H v (.lst xs)) : ∃ t vs, v = .ref t ∧ H t = some (.lst vs) ∧ ¬ F.W.own t ∧ DdAll F.K (F.N L) F.W H vs xs := by
  rcases h with h | ⟨e, h1, h2, h3⟩
  · obtain ⟨t, vs, rfl, h1, h2, h3⟩ := dd_lstE h
    exact ⟨t, vs, rfl, h1, nw_of A h2, h3⟩
  · cases e with
    | ow es =>
      cases h3
      cases v with
      | ref a =>
        obtain ⟨g1, vs, g2, g3⟩ := h2
        exact ⟨a, vs, rfl, g2, fun z => A.out g1 (A.wn a z), g3⟩
      | _ => exact h2.elim
    | no => cases h1
    | fz _ => cases h1
    | od _ => cases h3
    | ot _ => cases h3
theorem bw_tupC {L : List Addr} {H : Hp} {v : V} {x : D} {xs : List D} (e : tupD x = some xs) (h : Bw F L H v x) : Dd F.K (F.N L) F.W H v x := by
  rcases h with h | ⟨en, h1, h2, h3⟩
  · exact h
  · cases en with
    | no => cases h1
    | fz _ => cases h1
    | ow _ => subst h3; cases e
    | od _ => subst h3; cases e
    | ot _ => subst h3; cases e
theorem db_seq (he : PE X e (lB F d)) (hK : F.K = X.K := by rfl) : PI X tg e (lIb F (iSeq d)) := PI.mono (PI.or (pi_list he) (PI.or (pi_tup he) (pi_str he))) fun σ H R ⟨env, L, P, A, pp, q⟩ => by
  rw [← hK]
  rcases pp with pp | pp | pp
  · refine .inl ⟨env, L, _, A, pp, fun x v H1 px k1 o1 d1 => ?_⟩
    obtain ⟨xs, e, px⟩ := ob_elim px
    have := lstD_e e
    subst this
    obtain ⟨t, vs, rfl, h1, h2, h3⟩ := bw_lstO (A.step k1 o1) d1
    exact ⟨t, rfl, ⟨vs, SqL.of h1⟩, q xs _ H1 px k1 o1 (it_list fun N' H' r => ⟨(r t _ h2 h1).2, h3.pres (relK_p (A.step k1 o1) r)⟩)⟩
  · refine .inr (.inl ⟨env, L, _, A, pp, fun x v H1 px k1 o1 d1 => ?_⟩)
    obtain ⟨xs, e, px⟩ := ob_elim px
    obtain ⟨t, vs, rfl, h1, h2⟩ := seqT_keep (N' := fun _ => False) (H' := H1) e (bw_tupC e d1)
    exact ⟨t, rfl, ⟨vs, h1⟩, q xs _ H1 px k1 o1 (it_tup fun N' H' r => h2 N' H' (relK_p (A.step k1 o1) r))⟩
  · refine .inr (.inr ⟨env, L, _, A, pp, fun x v H1 px k1 o1 d1 => ?_⟩)
    obtain ⟨xs, e, px⟩ := ob_elim px
    cases x <;> cases e
    have := bw_str d1
    subst this
    exact ⟨_, rfl, q _ _ H1 px k1 o1 it_str⟩
def iRng (ds : TDA) : TDI := fun env P => ds env fun xs => match xs with
  | [.int n] => -(2 ^ 62) ≤ n ∧ n < 2 ^ 62 ∧ P (rngD 0 n.toNat)
  | _ => False
def iRngB (ds : TDA) : TDI := fun env P => ds env fun xs => match xs with
  | [.int m, .int n] => (-(2 ^ 62) ≤ m ∧ m < 2 ^ 62 ∧ -(2 ^ 62) ≤ n ∧ n < 2 ^ 62) ∧ P (rngD m (n - m).toNat)
  | _ => False
theorem ints1 {K : PySem.W.Frag} {N : Addr → Prop} {W : Wd} {H : Hp} {vs : List V} {n : Int} (h : DdAll K N W H vs [.int n]) : vs = [.int n] := by
  cases h with | cons h t => cases t; rw [dd_intE h]
theorem ints2 {K : PySem.W.Frag} {N : Addr → Prop} {W : Wd} {H : Hp} {vs : List V} {m n : Int} (h : DdAll K N W H vs [.int m, .int n]) : vs = [.int m, .int n] := by
  cases h with | cons h t => cases t with | cons h2 t => cases t; rw [dd_intE h, dd_intE h2]
theorem l_rng {q : TI → Prop} : ∀ σ H R, (lI F (iRng ds) σ H R ∨ lIb F (iRng ds) σ H R) → iRng1 (lA F ds) σ H R := fun σ H R h => by
  have key : ∀ (Rel : List Addr → Hp → (Addr → Prop) → Hp → Prop), (∃ env L P, Abs F env σ L H ∧ iRng ds env P ∧ ∀ xs J H', P xs → KeepW F.W H H' → F.W.ok H' → ItOk F (Rel L H') J xs → R J H') → iRng1 (lA F ds) σ H R := fun Rel ⟨env, L, P, A, pp, q⟩ =>
    ⟨env, L, _, A, pp, fun xs vs H1 px k1 o1 d1 => by
      match xs, px, d1 with
      | [.int n], px, d1 => exact ⟨n, ints1 d1, px.1, px.2.1, q _ _ H1 px.2.2 k1 o1 it_rng⟩⟩
  rcases h with h | h
  · exact key (relP F) h
  · exact key (relK F) h
theorem l_rngB : ∀ σ H R, (lI F (iRngB ds) σ H R ∨ lIb F (iRngB ds) σ H R) → iRng2 (lA F ds) σ H R := fun σ H R h => by
  have key : ∀ (Rel : List Addr → Hp → (Addr → Prop) → Hp → Prop), (∃ env L P, Abs F env σ L H ∧ iRngB ds env P ∧ ∀ xs J H', P xs → KeepW F.W H H' → F.W.ok H' → ItOk F (Rel L H') J xs → R J H') → iRng2 (lA F ds) σ H R := fun Rel ⟨env, L, P, A, pp, q⟩ =>
    ⟨env, L, _, A, pp, fun xs vs H1 px k1 o1 d1 => by
      match xs, px, d1 with
      | [.int m, .int n], px, d1 => exact ⟨m, n, ints2 d1, px.1, q _ _ H1 px.2 k1 o1 it_rng⟩⟩
  rcases h with h | h
  · exact key (relP F) h
  · exact key (relK F) h
theorem di_rng (hg : Gl X "range") (hm : X.mg "range" = none) (ha : PA X [a] (lA F ds)) (hs : starEach [a] X.env = [(false, eval a X.env)] := by rfl) : PI X tg (.Call (.Name "range" p) [a] [] pos) (lI F (iRng ds)) := PI.mono (pi_range1 hg hm ha hs) fun σ H R h => l_rng (q := fun _ => True) σ H R (.inl h)
theorem db_rng (hg : Gl X "range") (hm : X.mg "range" = none) (ha : PA X [a] (lA F ds)) (hs : starEach [a] X.env = [(false, eval a X.env)] := by rfl) : PI X tg (.Call (.Name "range" p) [a] [] pos) (lIb F (iRng ds)) := PI.mono (pi_range1 hg hm ha hs) fun σ H R h => l_rng (q := fun _ => True) σ H R (.inr h)
theorem di_rngB (hg : Gl X "range") (hm : X.mg "range" = none) (ha : PA X [a, b] (lA F ds)) (hs : starEach [a, b] X.env = [(false, eval a X.env), (false, eval b X.env)] := by rfl) (hs2 : starEach [b] X.env = [(false, eval b X.env)] := by rfl) : PI X tg (.Call (.Name "range" p) [a, b] [] pos) (lI F (iRngB ds)) := PI.mono (pi_range2 hg hm ha hs hs2) fun σ H R h => l_rngB σ H R (.inl h)
theorem db_rngB (hg : Gl X "range") (hm : X.mg "range" = none) (ha : PA X [a, b] (lA F ds)) (hs : starEach [a, b] X.env = [(false, eval a X.env), (false, eval b X.env)] := by rfl) (hs2 : starEach [b] X.env = [(false, eval b X.env)] := by rfl) : PI X tg (.Call (.Name "range" p) [a, b] [] pos) (lIb F (iRngB ds)) := PI.mono (pi_range2 hg hm ha hs hs2) fun σ H R h => l_rngB σ H R (.inr h)
def sLoop (g : TDG) (body : TDS) (P : DEnds) : List D → De → Prop
  | [], env => P.nx env
  | x :: xs, env => g x env fun env' => body { nx := sLoop g body P xs, rt := P.rt, bk := P.nx, ct := sLoop g body P xs } env'
def sFor (it : TDI) (g : TDG) (body : TDS) : TDS := fun P env => it env fun xs => sLoop g body P xs env
theorem same_keep {W : Wd} {H H' : Hp} (h : Stn H H') : KeepW W H H' := fun a o _ q => h a o q
theorem same_ok {W : Wd} {H H' : Hp} (k : W.ok H) (h : Stn H H') : W.ok H' := Wd.st k (fun a o q _ => h a o q) h.n
theorem l_for {S : List Nat} {it : TDI} {g : TDG} {body : TDS} : ∀ E σ H, lS F (sFor it g body) E σ H → tFor (lI F it) (lG F S g) (lS F body) E σ H := fun E σ H ⟨env, L, P, A, pp, hn, hr, hb, hc⟩ =>
  ⟨env, L, _, A, pp, fun xs J H1 px k1 o1 ok => by
    have pr0 : Pres F L H L H1 := k1.pres A
    refine ⟨fun i m σ' H' => ∃ env' L', Abs F env' σ' L' H' ∧ Pres F L H1 L' H' ∧ sLoop g body P (xs.drop i) env' ∧ i ≤ xs.length ∧ m = xs.length - i, ⟨_, env, L, A.step k1 o1, .refl _ _ _, px, Nat.zero_le _, rfl⟩, ?_⟩
    rintro i m σ' H' ⟨env', L', A', pr, lp, hi, rfl⟩
    obtain ⟨st, go⟩ := ok (F.N L') H' (fun a o n h => pr a o n h) (fun a h => A'.alN h) i
    by_cases hlt : i < xs.length
    · obtain ⟨g1, g2⟩ := go xs[i] (List.getElem?_eq_getElem hlt)
      refine .inr ⟨g1, fun σ2 H2 => ∃ env2 L2, Abs F env2 σ2 L2 H2 ∧ Pres F L H1 L2 H2 ∧ sLoop g body P (xs.drop (i + 1)) env2, fun σ2 H2 ⟨env2, L2, a1, a2, a3⟩ => ⟨xs.length - (i + 1), by omega, env2, L2, a1, a2, a3, hlt, rfl⟩, fun v H2 hy => ?_⟩
      obtain ⟨sm, dd⟩ := g2 v H2 hy
      rw [List.drop_eq_getElem_cons hlt] at lp
      have A2 := A'.step (same_keep sm) (same_ok A'.ok sm)
      have pr2 : Pres F L H1 L' H2 := pr.trans fun a o n h => ⟨n, sm a o h⟩
      exact ⟨env', L', _, _, A2, dd, lp, fun env3 σ3 p3 A3 _ _ => ⟨env3, L', _, A3, p3, fun env4 σ4 L4 H4 p4 A4 pr4 => ⟨env4, L4, A4, pr2.trans pr4, p4⟩, hr, fun env4 σ4 L4 H4 p4 A4 pr4 => hn env4 σ4 L4 H4 p4 A4 ((pr0.trans pr2).trans pr4), fun env4 σ4 L4 H4 p4 A4 pr4 => ⟨env4, L4, A4, pr2.trans pr4, p4⟩⟩⟩
    · have e : xs.drop i = [] := List.drop_eq_nil_of_le (by omega)
      rw [e] at lp
      exact .inl ⟨st (by omega), hn env' σ' L' H' lp A' (pr0.trans pr)⟩⟩
theorem ds_for {S : List Nat} {it : TDI} {g : TDG} {sts : List Stmt} {body : TDS} (hp : PassesOwn (model X.prog X.w) X.A X.env X.xe) (hc : X.calm = true) (hi : PI X tg iter (lI F it)) (hg : PG X tg (lG F S g)) (hb : PSs X sts (lS F body)) (hs : ∀ x, foldedSetIterable iter X.env x = pure x := by intro _; rfl) :
    PS X (.For tg iter sts [] pos) (lS F (sFor it g body)) := PS.mono (ps_for hp hc hi hg hb hs) l_for
end
end DL
namespace DL
open PySem PySem.Spec PyProof.Rows L2 RK
def wipeE (env : De) : List Nat → De
  | [] => env
  | v :: vs => (wipeE env vs).set v .no
section
variable {F : Fx} {env : De} {σ : L2.St} {L : List Addr} {H H' : Hp}
theorem Abs.setN (A : Abs F env σ L H) (i : Nat) : Abs F (env.set i .no) (σ.set i none) L H := by
  refine ⟨A.ok, A.al, A.wn, A.kp, A.fr, by rw [List.length_set, List.length_set, A.ls], fun j l a ej el h1 h2 o1 o2 s1 s2 => ?_, fun j e y h1 h2 => ?_⟩
  · by_cases hj : i = j
    · subst hj
      by_cases hi : i < env.length
      · rw [List.getElem?_set_self hi] at h1
        cases h1
        cases o1
      · rw [List.getElem?_eq_none (by rw [List.length_set]; omega)] at h1
        cases h1
    · by_cases hl : i = l
      · subst hl
        by_cases hi : i < env.length
        · rw [List.getElem?_set_self hi] at h2
          cases h2
          cases o2
        · rw [List.getElem?_eq_none (by rw [List.length_set]; omega)] at h2
          cases h2
      · rw [List.getElem?_set_ne hj] at h1 s1
        rw [List.getElem?_set_ne hl] at h2 s2
        exact A.sep j l a ej el h1 h2 o1 o2 s1 s2
  · by_cases hj : i = j
    · subst hj
      by_cases hi : i < env.length
      · rw [List.getElem?_set_self hi] at h1
        cases h1
        trivial
      · rw [List.getElem?_eq_none (by rw [List.length_set]; omega)] at h1
        cases h1
    · rw [List.getElem?_set_ne hj] at h1 h2
      exact A.en j e y h1 h2
theorem Abs.wipe (A : Abs F env σ L H) : ∀ vs : List Nat, Abs F (wipeE env vs) (L2.wipe σ vs) L H
  | [] => A
  | v :: vs => (A.wipe vs).setN v
theorem Abs.poke (A : Abs F env σ L H) {a : Addr} {o' : HO} (ha : a ∈ L) (lo : Lone env σ a) (po : Plo o' := by exact True.intro) : Abs F env σ L (upd H a o') := by
  have na : ¬ F.N0 a := A.out ha
  have nw : ¬ F.W.own a := fun z => na (A.wn a z)
  refine ⟨?_, A.al, A.wn, fun x u q h => ?_, fun b hb => ?_, A.ls, A.sep, fun j e2 y h1 h2 => ?_⟩
  · exact Wd.st A.ok (n := noT_upd po.ntb) fun b u h q => by
      have ne : b ≠ a := fun z => by
        rcases q with q | q
        · exact nw (by rw [← z]; exact q)
        · obtain ⟨_, o, e, pl⟩ := A.fr a ha
          rw [z, e] at h
          exact q (Option.some.inj h ▸ pl)
      rw [upd_ne ne]
      exact h
  · have hx := A.kp x u q h
    have ne : x ≠ a := fun z => by
      rw [z, (A.fr a ha).1] at h
      cases h
    rw [upd_ne ne]
    exact hx
  · refine ⟨(A.fr b hb).1, ?_⟩
    by_cases e : b = a
    · subst e
      exact ⟨_, upd_same, po⟩
    · rw [upd_ne e]
      exact (A.fr b hb).2
  · refine EnOk.keep A (fun x u q h => ?_) (fun _ z => z) (fun b hb ob hbL => ⟨hbL, fun u hu => ?_⟩) (A.en j e2 y h1 h2)
    · have ne : x ≠ a := fun z => q (.inr (by rw [z]; exact ha))
      rw [upd_ne ne]
      exact h
    · have ne : b ≠ a := fun z => lo j e2 h1 ob (by rw [h2, hb, z])
      rw [upd_ne ne]
      exact hu
end
def dComp (g : TDG) (tt : TDT) (te : TDE) (P : D → Prop) (env : De) : List D → List D → Prop
  | [], acc => P (.lst acc)
  | x :: xs, acc => g x env fun env' => tt env' fun b => if b = true then te env' fun y => acc.length < sizeLine ∧ dComp g tt te P env xs (acc ++ [y]) else dComp g tt te P env xs acc
def dLc (it : TDI) (g : TDG) (tt : TDT) (te : TDE) (vs : List Nat) : TDE := fun env P => it env fun xs => dComp g tt te P (wipeE env vs) xs []
def tYesD : TDT := fun _ P => P true
section
variable {X : Cx} {F : Fx} {e a b c tg iter : Expr} {es : List Expr} {d da db dc : TDE} {ds : TDA} {pos p : Pos} {i j l : Nat}
theorem ts_nil : PTs X [] (lT F tYesD) := ⟨fun pins s σ H Q I h => pts_nil.run pins s σ H Q I (let ⟨_, _, _, A, pp, q⟩ := h; q true H pp (.refl _ _) A.ok)⟩
theorem ts_one {t : TDT} (h : PT X c (lT F t)) : PTs X [c] (lT F t) := pts_one h
theorem l_lc {S vs : List Nat} {it : TDI} {g : TDG} {tt : TDT} {te : TDE} (hS : ∀ i ∈ S, i ∈ vs) : ∀ σ H Q, lN F (dLc it g tt te vs) σ H Q → tLc (lIb F it) (lG F S g) (lT F tt) (lC F te) vs σ H Q := fun σ H Q ⟨env, L, P, A, pp, q⟩ =>
  ⟨env, L, _, A, pp, fun xs J H1 px k1 o1 ok D nD => by
    have A1 := A.step k1 o1
    have lo : Lone (wipeE env vs) (wipe σ vs) D := (A1.wipe vs).lone nD
    have B0 : Abs F (wipeE env vs) (wipe σ vs) (D :: L) (upd H1 D (.lst [])) := (A1.wipe vs).hold (x := .lst []) (.new nD) (ok_new o1 nD) nD ⟨[], upd_same, .nil⟩
    refine ⟨fun i m H' => ∃ acc us, Abs F (wipeE env vs) (wipe σ vs) (D :: L) H' ∧ (∀ a o, ¬ F.W.own a → H1 a = some o → H' a = some o) ∧ H' D = some (.lst us) ∧ DdAll F.K (F.N (D :: L)) F.W H' us acc ∧ dComp g tt te P (wipeE env vs) (xs.drop i) acc ∧ i ≤ xs.length ∧ m = xs.length - i,
      ⟨_, [], [], B0, fun a o _ h => by rw [upd_ne (ne_of_none h nD)]; exact h, upd_same, .nil, px, Nat.zero_le _, rfl⟩, ?_⟩
    rintro i m H' ⟨acc, us, B, kk, hD, hu, lp, hi, rfl⟩
    obtain ⟨st, go⟩ := ok (F.N (D :: L)) H' (fun a o n h => ⟨fun nn z => by
      rcases z with z | z
      · exact nn (.inl z)
      · rcases List.mem_cons.mp z with z | z
        · rw [z, nD] at h
          cases h
        · exact nn (.inr z), kk a o n h⟩) (fun a h => B.alN h) i
    by_cases hlt : i < xs.length
    · obtain ⟨g1, g2⟩ := go xs[i] (List.getElem?_eq_getElem hlt)
      rw [List.drop_eq_getElem_cons hlt] at lp
      refine .inr ⟨g1, fun H2 => ∃ acc us, Abs F (wipeE env vs) (wipe σ vs) (D :: L) H2 ∧ (∀ a o, ¬ F.W.own a → H1 a = some o → H2 a = some o) ∧ H2 D = some (.lst us) ∧ DdAll F.K (F.N (D :: L)) F.W H2 us acc ∧ dComp g tt te P (wipeE env vs) (xs.drop (i + 1)) acc,
        fun H2 ⟨acc, us, a1, a2, a3, a4, a5⟩ => ⟨xs.length - (i + 1), by omega, acc, us, a1, a2, a3, a4, a5, hlt, rfl⟩, fun v H2 hy => ?_⟩
      obtain ⟨sm, dd⟩ := g2 v H2 hy
      have B2 := B.step (same_keep sm) (same_ok B.ok sm)
      refine ⟨_, _, _, _, B2, dd, lp, fun env3 σ3 p3 B3 w3 _ => ⟨?_, env3, _, _, B3, p3, fun bb H3 p4 k4 o4 => ?_⟩⟩
      · rw [w3 vs hS]
        have : ∀ ws : List Nat, wipe (wipe σ ws) ws = wipe σ ws := by
          intro ws
          apply List.ext_getElem?
          intro n
          by_cases hn : n < (wipe σ ws).length
          · cases hx : (wipe (wipe σ ws) ws)[n]? with
            | none =>
              rw [List.getElem?_eq_none_iff, wipe_length] at hx
              omega
            | some y =>
              cases hz : (wipe σ ws)[n]? with
              | none =>
                rw [List.getElem?_eq_none_iff] at hz
                omega
              | some z =>
                cases y with
                | some y =>
                  rw [(wipe_some hx).1] at hz
                  rw [Option.some.inj hz]
                | none =>
                  cases z with
                  | none => rfl
                  | some z =>
                    exfalso
                    have nm := (wipe_some hz).2
                    have keep : ∀ (τ : L2.St) (us : List Nat), n ∉ us → (wipe τ us)[n]? = τ[n]? := by
                      intro τ us
                      induction us with
                      | nil => intro _; rfl
                      | cons u us ih =>
                        intro hu
                        unfold wipe
                        rw [List.getElem?_set_ne (fun z => hu (by rw [z]; exact List.mem_cons_self)), ih (fun z => hu (List.mem_cons_of_mem _ z))]
                    rw [keep _ ws nm, hz] at hx
                    cases hx
          · rw [List.getElem?_eq_none (by rw [wipe_length]; omega), List.getElem?_eq_none (by omega)]
        exact this vs
      · have B4 := B3.step k4 o4
        have W4 : Abs F (wipeE env vs) (wipe σ vs) (D :: L) H3 := B2.step k4 o4
        have nD0 : ¬ F.W.own D := fun z => B.out List.mem_cons_self (B.wn D z)
        cases bb with
        | true =>
          refine iteT ⟨env3, _, _, B4, p4, fun y v' H5 p5 k5 o5 d5 => ?_⟩
          have hD5 : H5 D = some (.lst us) := k5 D _ nD0 (k4 D _ nD0 (sm D _ hD))
          have hu5 : DdAll F.K (F.N (D :: L)) F.W H5 us acc := W4.kda k5 (B2.kda k4 (B.kda (same_keep sm) hu))
          have W5 := W4.step k5 o5
          refine ⟨us, hD5, by rw [hu5.len]; exact p5.1, acc ++ [y], us ++ [v'], W5.poke List.mem_cons_self lo, fun a o n h => ?_, upd_same, (hu5.app (.cons d5 .nil)).keep (fun x u q h => ?_) (fun _ z => z), p5.2⟩
          · rw [upd_ne (ne_of_none h nD)]
            exact k5 a o n (k4 a o n (sm a o (kk a o n h)))
          · have ne : x ≠ D := fun z => q (.inr (by rw [z]; exact List.mem_cons_self))
            rw [upd_ne ne]
            exact h
        | false => exact iteF ⟨acc, us, W4, fun a o n h => k4 a o n (sm a o (kk a o n h)), k4 D _ nD0 (sm D _ hD), B2.kda k4 (B.kda (same_keep sm) hu), p4⟩
    · have e : xs.drop i = [] := List.drop_eq_nil_of_le (by omega)
      rw [e] at lp
      refine .inl ⟨st (by omega), q _ D H' lp (k1.trans fun a o n h => kk a o n h) B.ok (free_of k1 o1 nD) ⟨us, hD, hu⟩⟩⟩
def dDcomp (g : TDG) (tt : TDT) (tk tv : TDE) (P : D → Prop) (env : De) : List D → List (Key × D) → Prop
  | [], acc => P (.dic acc)
  | x :: xs, acc => g x env fun env' => tt env' fun b => if b = true then tk env' fun k => tv env' fun y => ob (keyD k) fun k => acc.length < sizeLine ∧ dDcomp g tt tk tv P env xs (putD acc k y) else dDcomp g tt tk tv P env xs acc
def dDc (it : TDI) (g : TDG) (tt : TDT) (tk tv : TDE) (vs : List Nat) : TDE := fun env P => it env fun xs => dDcomp g tt tk tv P (wipeE env vs) xs []
theorem wipe_wipe (σ : L2.St) (ws : List Nat) : wipe (wipe σ ws) ws = wipe σ ws := by
  apply List.ext_getElem?
  intro n
  have keep : ∀ (τ : L2.St) (us : List Nat), n ∉ us → (wipe τ us)[n]? = τ[n]? := by
    intro τ us
    induction us with
    | nil => intro _; rfl
    | cons u us ih =>
      intro hu
      unfold wipe
      rw [List.getElem?_set_ne (fun z => hu (by rw [z]; exact List.mem_cons_self)), ih (fun z => hu (List.mem_cons_of_mem _ z))]
  by_cases hm : n ∈ ws
  · have no : ∀ τ : L2.St, ∀ y, (wipe τ ws)[n]? ≠ some (some y) := fun τ y h => (wipe_some h).2 hm
    by_cases hn : n < σ.length
    · have f : ∀ τ : L2.St, n < τ.length → (wipe τ ws)[n]? = some none := fun τ h => by
        cases hx : (wipe τ ws)[n]? with
        | none => rw [List.getElem?_eq_none_iff, wipe_length] at hx; omega
        | some y => cases y with
          | none => rfl
          | some y => exact (no τ y hx).elim
      rw [f _ hn, f _ (by rw [wipe_length]; exact hn)]
    · rw [List.getElem?_eq_none (by rw [wipe_length, wipe_length]; omega), List.getElem?_eq_none (by rw [wipe_length]; omega)]
  · rw [keep _ ws hm]
theorem l_dc {S vs : List Nat} {it : TDI} {g : TDG} {tt : TDT} {tk tv : TDE} (hS : ∀ i ∈ S, i ∈ vs) : ∀ σ H Q, lN F (dDc it g tt tk tv vs) σ H Q → tDc (lIb F it) (lG F S g) (lT F tt) (lC F tk) (lC F tv) vs σ H Q := fun σ H Q ⟨env, L, P, A, pp, q⟩ =>
  ⟨env, L, _, A, pp, fun xs J H1 px k1 o1 ok D nD => by
    have A1 := A.step k1 o1
    have lo : Lone (wipeE env vs) (wipe σ vs) D := (A1.wipe vs).lone nD
    have B0 : Abs F (wipeE env vs) (wipe σ vs) (D :: L) (upd H1 D (.dK [])) := (A1.wipe vs).hold (x := .dic []) (.new nD) (ok_new o1 nD) nD ⟨[], upd_same, rfl, .nil⟩
    refine ⟨fun i m H' => ∃ acc us, Abs F (wipeE env vs) (wipe σ vs) (D :: L) H' ∧ (∀ a o, ¬ F.W.own a → H1 a = some o → H' a = some o) ∧ H' D = some (.dK us) ∧ us.map (·.1) = acc.map (·.1) ∧ DdAll F.K (F.N (D :: L)) F.W H' (us.map (·.2)) (acc.map (·.2)) ∧ dDcomp g tt tk tv P (wipeE env vs) (xs.drop i) acc ∧ i ≤ xs.length ∧ m = xs.length - i,
      ⟨_, [], [], B0, fun a o _ h => by rw [upd_ne (ne_of_none h nD)]; exact h, upd_same, rfl, .nil, px, Nat.zero_le _, rfl⟩, ?_⟩
    rintro i m H' ⟨acc, us, B, kk, hD, hk, hu, lp, hi, rfl⟩
    obtain ⟨st, go⟩ := ok (F.N (D :: L)) H' (fun a o n h => ⟨fun nn z => by
      rcases z with z | z
      · exact nn (.inl z)
      · rcases List.mem_cons.mp z with z | z
        · rw [z, nD] at h
          cases h
        · exact nn (.inr z), kk a o n h⟩) (fun a h => B.alN h) i
    by_cases hlt : i < xs.length
    · obtain ⟨g1, g2⟩ := go xs[i] (List.getElem?_eq_getElem hlt)
      rw [List.drop_eq_getElem_cons hlt] at lp
      refine .inr ⟨g1, fun H2 => ∃ acc us, Abs F (wipeE env vs) (wipe σ vs) (D :: L) H2 ∧ (∀ a o, ¬ F.W.own a → H1 a = some o → H2 a = some o) ∧ H2 D = some (.dK us) ∧ us.map (·.1) = acc.map (·.1) ∧ DdAll F.K (F.N (D :: L)) F.W H2 (us.map (·.2)) (acc.map (·.2)) ∧ dDcomp g tt tk tv P (wipeE env vs) (xs.drop (i + 1)) acc,
        fun H2 ⟨acc, us, a1, a2, a3, a6, a4, a5⟩ => ⟨xs.length - (i + 1), by omega, acc, us, a1, a2, a3, a6, a4, a5, hlt, rfl⟩, fun v H2 hy => ?_⟩
      obtain ⟨sm, dd⟩ := g2 v H2 hy
      have B2 := B.step (same_keep sm) (same_ok B.ok sm)
      refine ⟨_, _, _, _, B2, dd, lp, fun env3 σ3 p3 B3 w3 _ => ⟨?_, env3, _, _, B3, p3, fun bb H3 p4 k4 o4 => ?_⟩⟩
      · rw [w3 vs hS]
        exact wipe_wipe σ vs
      · have B4 := B3.step k4 o4
        have W4 : Abs F (wipeE env vs) (wipe σ vs) (D :: L) H3 := B2.step k4 o4
        have nD0 : ¬ F.W.own D := fun z => B.out List.mem_cons_self (B.wn D z)
        cases bb with
        | true =>
          refine iteT ⟨env3, _, _, B4, p4, fun kx vk H4 p5 k5 o5 d5 => ⟨env3, _, _, B4.step k5 o5, p5, fun y v' H6 p6 k6 o6 d6 => ?_⟩⟩
          obtain ⟨k, ek, p7⟩ := ob_elim p6
          have hv := keyD_v (F := F) (L := D :: L) (.inl d5) ek
          have kt := k5.trans k6
          have hD5 : H6 D = some (.dK us) := kt D _ nD0 (k4 D _ nD0 (sm D _ hD))
          have hu5 : DdAll F.K (F.N (D :: L)) F.W H6 (us.map (·.2)) (acc.map (·.2)) := W4.kda kt (B2.kda k4 (B.kda (same_keep sm) hu))
          have W5 := W4.step kt o6
          obtain ⟨r1, r2⟩ := put_rel (k := k) hk hu5 d6
          refine ⟨us, k, hv, hD5, by rw [kd_len hk]; exact p7.1, putD acc k y, putK us k v', W5.poke List.mem_cons_self lo, fun a o n h => ?_, upd_same, r1, r2.keep (fun x u q h => ?_) (fun _ z => z), p7.2⟩
          · rw [upd_ne (ne_of_none h nD)]
            exact kt a o n (k4 a o n (sm a o (kk a o n h)))
          · have ne : x ≠ D := fun z => q (.inr (by rw [z]; exact List.mem_cons_self))
            rw [upd_ne ne]
            exact h
        | false => exact iteF ⟨acc, us, W4, fun a o n h => k4 a o n (sm a o (kk a o n h)), k4 D _ nD0 (sm D _ hD), hk, B2.kda k4 (B.kda (same_keep sm) hu), p4⟩
    · have e : xs.drop i = [] := List.drop_eq_nil_of_le (by omega)
      rw [e] at lp
      refine .inl ⟨st (by omega), q _ D H' lp (k1.trans fun a o n h => kk a o n h) B.ok (free_of k1 o1 nD) ⟨us, hD, hk, hu⟩⟩⟩
end
def startE (N : List Str) (ds : List D) : De := ds.map En.fz ++ List.replicate (N.length - ds.length) En.no
theorem abs_start {K : PySem.W.Frag} {W : Wd} {N0 : Addr → Prop} {H : Hp} {fr : Fr} {N : List Str} {vs : List V} {ds : List D} (al : ∀ a, N0 a → ∃ o, H a = some o) (wn : ∀ a, W.own a → N0 a) (ok : W.ok H) (dd : DdAll K N0 W H vs ds) :
    Abs ⟨K, W, N0, H, fr⟩ (startE N ds) (start N vs) [] H := by
  have hl := dd.len
  have noOw : ∀ (i : Nat) (e : En), (startE N ds)[i]? = some e → e.isOw = true → False := fun i e h ow => by
    have := List.mem_of_getElem? h
    unfold startE at this
    rcases List.mem_append.mp this with h | h
    · obtain ⟨d, _, rfl⟩ := List.mem_map.mp h
      cases ow
    · rw [(List.mem_replicate.mp h).2] at ow
      cases ow
  refine ⟨ok, al, wn, .refl _ _, fun a h => (by cases h), ?_, fun i j a ei ej h1 h2 o1 o2 s1 s2 => (noOw i ei h1 o1).elim, fun i e x h1 h2 => ?_⟩
  · unfold startE L2.start
    rw [List.length_append, List.length_append, List.length_map, List.length_map, List.length_replicate, List.length_replicate, hl]
  · unfold startE at h1
    unfold L2.start at h2
    by_cases hi : i < ds.length
    · rw [List.getElem?_append_left (by rw [List.length_map]; exact hi), List.getElem?_map, List.getElem?_eq_getElem hi] at h1
      rw [List.getElem?_append_left (by rw [List.length_map]; omega), List.getElem?_map, List.getElem?_eq_getElem (by omega)] at h2
      have e1 : e = .fz ds[i] := (Option.some.inj h1).symm
      have e2 : x = some (vs[i]'(by omega)) := (Option.some.inj h2).symm
      subst e1 e2
      obtain ⟨v, g1, g2⟩ := dd.get (List.getElem?_eq_getElem hi)
      rw [List.getElem?_eq_getElem (by omega)] at g1
      have e3 := Option.some.inj g1
      rw [e3]
      exact g2.keep (fun _ _ _ z => z) fun y hy => by
        rcases hy with hy | hy
        · exact hy
        · cases hy
    · rw [List.getElem?_append_right (by rw [List.length_map]; omega)] at h1
      rw [(List.mem_replicate.mp (List.mem_of_getElem? h1)).2]
      trivial
def fin (fr : Fr) (P : D → Prop) : DEnds := { nx := fun _ => fr = .b false ∧ P .non, rt := P }
theorem fn_d {K : PySem.W.Frag} {W : Wd} {N0 : Addr → Prop} {H : Hp} {fr : Fr} {N : List Str} {vs : List V} {ds : List D} {P : D → Prop} {Q : VK} {d : TDS} (al : ∀ a, N0 a → ∃ o, H a = some o) (wn : ∀ a, W.own a → N0 a) (ok : W.ok H) (dd : DdAll K N0 W H vs ds)
    (q : ∀ x v H', P x → KeepW W H H' → W.ok H' → Dd K N0 W H' v x → Nw K W N0 H fr H' v x → Q v H') (h : d (fin fr P) (startE N ds)) :
    lS ⟨K, W, N0, H, fr⟩ d { nx := fun _ H' => Q .non H', rt := Q } (start N vs) H := by
  have nv : ∀ {H' : Hp} {a : Addr} {x : D}, NewV ⟨K, W, N0, H, fr⟩ [] H' a x → NewV ⟨K, W, N0, H, .b true⟩ [] H' a x := fun {H' a x} h => by cases x <;> exact h
  refine ⟨_, [], _, abs_start al wn ok dd, h, fun env' σ' L' H' p A _ => ?_, fun x v H' p r => ?_, fun _ _ _ _ z => z.elim, fun _ _ _ _ z => z.elim⟩
  · exact q .non .non H' p.2 A.kp A.ok .non ⟨fun z => (by rw [p.1] at z; cases z), fun j z => by rw [p.1] at z; cases z⟩
  · exact q x v H' p r.kp r.ok r.dd ⟨fun z => (let ⟨a, h1, h2, h3⟩ := r.nw z; ⟨a, h1, h2, nv h3⟩), r.cj⟩
end DL
namespace DL
open PySem PySem.Spec PyProof.Rows L2 RK
section
variable {X : Cx} {F : Fx} {e a b c o : Expr} {es : List Expr} {d da db dc : TDE} {ds : TDA} {pos p : Pos} {i j l : Nat}
theorem l_setF_n {t : TE} (h : ∀ σ H Q, lN F d σ H Q → t σ H Q) : ∀ E σ H, lS F (sSet i d) E σ H → tAsg t (gName i) E σ H := fun E σ H ⟨env, L, P, A, pp, hn, _⟩ =>
  h σ H _ ⟨env, L, _, A, pp, fun x v H1 px k o n nv => hn _ _ L H1 px ((A.step k o).setF (nv.dd (A.new n)) i) (k.pres A)⟩
def sPar3 (i j l : Nat) (da db dc : TDE) : TDS := fun P env => da env fun x => db env fun y => dc env fun z => P.nx (((env.set i (.fz x)).set j (.fz y)).set l (.fz z))
theorem look_rel {K : PySem.W.Frag} {N : Addr → Prop} {W : Wd} {H : Hp} {f : Str} : ∀ {fs : List (Str × V)} {fds : List (Str × D)}, fs.map (·.1) = fds.map (·.1) → DdAll K N W H (fs.map (·.2)) (fds.map (·.2)) →
    (fs.lookup f = none ∧ fds.lookup f = none) ∨ ∃ v d, fs.lookup f = some v ∧ fds.lookup f = some d ∧ Dd K N W H v d
  | [], [], _, _ => .inl ⟨rfl, rfl⟩
  | [], _ :: _, e, _ => by cases e
  | _ :: _, [], e, _ => by cases e
  | (k1, v) :: fs, (k2, d) :: fds, e, .cons h a => by
    have e1 : k1 = k2 := (List.cons.inj e).1
    have e2 := (List.cons.inj e).2
    subst e1
    cases hk : f == k1 with
    | true => exact .inr ⟨v, d, by simp [List.lookup, hk], by simp [List.lookup, hk], h⟩
    | false =>
      rcases look_rel (f := f) e2 a with ⟨h1, h2⟩ | ⟨v', d', h1, h2, h3⟩
      · exact .inl ⟨by simpa [List.lookup, hk] using h1, by simpa [List.lookup, hk] using h2⟩
      · exact .inr ⟨v', d', by simpa [List.lookup, hk] using h1, by simpa [List.lookup, hk] using h2, h3⟩
theorem dd_objE {K : PySem.W.Frag} {N : Addr → Prop} {W : Wd} {H : Hp} {v : V} {C : Addr} {fds : List (Str × D)} (h : Dd K N W H v (.obj C fds)) : ∃ a dx fs, v = .ref a ∧ H a = some (.ins C dx fs) ∧ ¬ N a ∧ fs.map (·.1) = fds.map (·.1) ∧ DdAll K N W H (fs.map (·.2)) (fds.map (·.2)) := by
  cases h with | obj h1 h2 h3 h4 => exact ⟨_, _, _, rfl, h1, h2, h3, h4⟩
def dFld (C : Addr) (f : Str) (d : TDE) : TDE := fun env P => d env fun x => match x with | .obj C' fs => C' = C ∧ ob (fs.lookup f) P | _ => False
theorem l_fld {C : Addr} {f : Str} {K : PySem.W.Frag} (c : Cls K C) (n : NoAttr K C f) : ∀ σ H Q, lC F (dFld C f d) σ H Q → tFld K (lC F d) f σ H Q := fun σ H Q ⟨env, L, P, A, pp, q⟩ => ⟨env, L, _, A, pp, fun x v H1 px k1 o1 d1 => by
  cases x with
  | obj C' fs =>
    obtain ⟨rfl, px⟩ := px
    obtain ⟨y, hy, py⟩ := ob_elim px
    obtain ⟨t, dx, us, rfl, h1, _, h2, h3⟩ := dd_objE d1
    rcases look_rel (f := f) h2 h3 with ⟨_, h⟩ | ⟨w, y', g1, g2, g3⟩
    · rw [h] at hy
      cases hy
    · rw [g2] at hy
      cases hy
      exact ⟨t, _, dx, us, w, rfl, h1, c, n, g1, q _ _ H1 py k1 o1 g3⟩
  | _ => exact px.elim⟩
def dMeth (C : Addr) (m : Str) (sp : DSp) (d : TDE) (ds : TDA) : TDE := fun env P => d env fun x => match x with | .obj C' fs => C' = C ∧ fs.lookup m = none ∧ ds env fun xs => sp (.obj C' fs :: xs) P | _ => False
theorem l_meth {C : Addr} {m : Str} {fr : Fr} {sp : DSp} {E : XK} {K : PySem.W.Frag} (hK : F.K = K) : ∀ σ H Q, lC F (dMeth C m sp d ds) σ H Q → tMeth C m (lSp K fr sp) [] E (lC F d) (lA F ds) σ H Q := fun σ H Q ⟨env, L, P, A, pp, q⟩ => by
  subst hK
  exact ⟨env, L, _, A, pp, fun x v H1 px k1 o1 d1 => by
    cases x with
    | obj C' fs =>
      obtain ⟨rfl, hn, px⟩ := px
      obtain ⟨t, dx, us, rfl, h1, _, h2, h3⟩ := dd_objE d1
      have hm : us.lookup m = none := by
        rcases look_rel (f := m) h2 h3 with ⟨h, _⟩ | ⟨w, y', g1, g2, g3⟩
        · exact h
        · rw [hn] at g2
          cases g2
      exact ⟨t, dx, us, rfl, h1, hm, env, L, _, A.step k1 o1, px, fun xs vs H2 pxs k2 o2 d2 => ⟨F.W, F.N L, _, P, fun a h => ((A.step k1 o1).step k2 o2).alN h, fun a h => .inl (A.wn a h), o2, by rw [List.append_nil]; exact .cons ((A.step k1 o1).kd k2 d1) d2, pxs, fun x v H3 p3 k3 o3 d3 _ => q x v H3 p3 ((k1.trans k2).trans k3) o3 d3⟩⟩
    | _ => exact px.elim⟩
theorem l_meth0 {C : Addr} {m : Str} {fr : Fr} {sp : DSp} {E : XK} {K : PySem.W.Frag} (hK : F.K = K) : ∀ σ H Q, lC F (dMeth C m sp d aNil) σ H Q → tMeth C m (lSp K fr sp) [] E (lC F d) tNil σ H Q := fun σ H Q h => by
  obtain ⟨env, L, P, A, pp, q⟩ := l_meth (fr := fr) (E := E) hK σ H Q h
  exact ⟨env, L, P, A, pp, fun x v H' px k o dd => let ⟨t, dx, fs, h1, h2, h3, h4⟩ := q x v H' px k o dd; ⟨t, dx, fs, h1, h2, h3, l_nil σ H' _ h4⟩⟩
def lInit (K : PySem.W.Frag) (C : Addr) (f : Str) (sp : DSp) : Sp := fun vs H Q _ => ∃ (W : Wd) (N0 : Addr → Prop) (x dx : Addr) (us : List V) (ds : List D) (P : D → Prop) (H1 : Hp), vs = .ref x :: us ∧ H1 x = none ∧ H1 dx = none ∧ dx ≠ x ∧ H = upd (upd H1 dx (.own x)) x (.ins C dx []) ∧
  (∀ a, N0 a → ∃ o, H1 a = some o) ∧ (∀ a, W.own a → N0 a) ∧ W.ok H1 ∧ DdAll K N0 W H1 us ds ∧ sp ds P ∧ ∀ y H', P y → KeepW W H1 H' → W.ok H' → Dd K N0 W H' (.ref x) (.obj C [(f, y)]) → Q .non H'
def dMk (C : Addr) (f : Str) (sp : DSp) (ds : TDA) : TDE := fun env P => ds env fun xs => sp xs fun y => P (.obj C [(f, y)])
theorem l_make {C : Addr} {f : Str} {sp : DSp} {E : XK} {K : PySem.W.Frag} (hK : F.K = K) : ∀ σ H Q, lC F (dMk C f sp ds) σ H Q → tMake C (lInit K C f sp) [] E (lA F ds) σ H Q := fun σ H Q ⟨env, L, P, A, pp, q⟩ => by
  subst hK
  exact ⟨env, L, _, A, pp, fun xs vs H1 px k1 o1 d1 x dx nx nd ne => ⟨F.W, F.N L, x, dx, vs, xs, _, H1, by rw [List.append_nil], nx, nd, ne, rfl, fun a h => (A.step k1 o1).alN h, fun a h => .inl (A.wn a h), o1, d1, px, fun y H' py k2 o2 d2 => ⟨rfl, q _ _ H' py (k1.trans k2) o2 d2⟩⟩⟩
end
def mergeD (kds more : List (Key × D)) : List (Key × D) := more.foldl (fun acc kd => putD acc kd.1 kd.2) kds
theorem merge_rel {K : PySem.W.Frag} {N : Addr → Prop} {W : Wd} {H : Hp} : ∀ {more : List (Key × V)} {mored : List (Key × D)} {kvs : List (Key × V)} {kds : List (Key × D)}, more.map (·.1) = mored.map (·.1) → DdAll K N W H (more.map (·.2)) (mored.map (·.2)) → kvs.map (·.1) = kds.map (·.1) → DdAll K N W H (kvs.map (·.2)) (kds.map (·.2)) →
    (mergeK kvs more).map (·.1) = (mergeD kds mored).map (·.1) ∧ DdAll K N W H ((mergeK kvs more).map (·.2)) ((mergeD kds mored).map (·.2))
  | [], [], _, _, _, _, h1, h2 => ⟨h1, h2⟩
  | [], _ :: _, _, _, e, _, _, _ => by cases e
  | _ :: _, [], _, _, e, _, _, _ => by cases e
  | (k1, v) :: more, (k2, d) :: mored, kvs, kds, e, .cons h a, h1, h2 => by
    have e1 : k1 = k2 := (List.cons.inj e).1
    subst e1
    obtain ⟨r1, r2⟩ := put_rel (k := k1) h1 h2 h
    exact merge_rel (more := more) (mored := mored) (kvs := putK kvs k1 v) (kds := putD kds k1 d) (List.cons.inj e).2 a r1 r2
theorem mergeD_new : ∀ (more kds : List (Key × D)), ((kds ++ more).map (·.1)).Nodup → mergeD kds more = kds ++ more
  | [], kds, _ => by rw [List.append_nil]; rfl
  | (k, d) :: more, kds, h => by
    have hk : (kds.any fun kd => decide (kd.1 = k)) = false := by
      rw [Bool.eq_false_iff]
      intro hz
      obtain ⟨q, hq, e⟩ := List.any_eq_true.mp hz
      have e := of_decide_eq_true e
      rw [List.map_append, List.nodup_append] at h
      exact h.2.2 q.1 (List.mem_map.mpr ⟨q, hq, rfl⟩) k (by simp) e
    have e2 : putD kds k d = kds ++ [(k, d)] := by
      unfold putD
      rw [hk]
      rfl
    show mergeD (putD kds k d) more = _
    rw [e2, mergeD_new more (kds ++ [(k, d)]) (by rw [List.append_assoc]; exact h), List.append_assoc]
    rfl
def dDictZip (ds : TDA) : TDE := fun env P => ds env fun xs => match xs with
  | [.lst ks, .lst ys] => ob (keysD ks) fun kk => kk.length = ys.length ∧ P (.dic (mergeD [] (kk.zip ys)))
  | _ => False
section
variable {P : Program} {w : World} {K : PySem.W.Frag} {mg : Str → Option Value} {base : Heap} {CX : CXT} {k : Nat} {f : Addr} {fd : FuncData} {ps : List Str}
def sp_pull : DSp := fun ds P => ∃ n : Int, ds = [.bag, .int n] ∧ 1 ≤ n ∧ n ≤ 10000000000000000000000000000000000000000 ∧ ∀ r : Int, 0 ≤ r → r < n → P (.int r)
theorem keepW_of {b s : Addr} {T : List (Addr × Str)} {H H' : Hp} (k : RK.Keep b H H') : KeepW (some (b, s, T)) H H' := fun a o n h => k a o (fun z => n (.inl z)) h
theorem tabs_keep {b s : Addr} {T : List (Addr × Str)} {H H' : Hp} (B : Bag b s H) (t : LamX.Tabs T H) (k : RK.Keep b H H') : LamX.Tabs T H' := fun p hp => by
  obtain ⟨ys, hb⟩ := B.hb
  obtain ⟨ps, h1, h2, h3⟩ := t p hp
  refine ⟨ps, k _ _ (fun z => by rw [z, hb] at h1; cases h1) h1, h2, fun pos cv hc => ?_⟩
  obtain ⟨c, e, hcd⟩ := h3 pos cv hc
  exact ⟨c, e, k _ _ (fun z => by rw [z, hb] at hcd; cases hcd) hcd⟩
theorem bag_arg {N : Addr → Prop} {W : Wd} {H : Hp} {v : V} (h : Dd K N W H v .bag) : ∃ b s T, W = some (b, s, T) ∧ v = .ref b := by
  cases h with | bag e => exact ⟨_, _, _, e, rfl⟩
theorem pull_d (h : FnOk P w K mg base CX k f fd ps spPull) : FnOk P w K mg base CX k f fd ps (lSp K false sp_pull) := h.imp fun vs H Q E ⟨W, N0, ds, Pd, al, wn, ok, dd, ⟨n, e, h1, h2, h3⟩, q⟩ => by
  subst e
  cases dd with | cons d1 dd => cases dd with | cons d2 dd =>
    cases dd
    obtain ⟨b, s, T, rfl, rfl⟩ := bag_arg d1
    have := dd_intE d2
    subst this
    exact ⟨b, s, n, rfl, ok.1, h1, h2, fun r H' r0 r1 k B => q _ _ H' (h3 r r0 r1) (keepW_of k.f) ⟨B, tabs_keep ok.1 ok.2.1 k.f, fun ne a ps h => let ⟨qs, q⟩ := k.n a ps h; ok.2.2 ne a qs q⟩ (.int r) ⟨fun z => (by cases z), fun j z => by cases z⟩⟩
end
end DL
namespace DL
open PySem PySem.Spec PyProof.Rows L2 RK
def st (n : Nat) (ds : List D) : De := ds.map En.fz ++ List.replicate (n - ds.length) En.no
def kwP (π : List Nat) (xs : List D) : List D := π.map fun i => xs.getD i .non
def dCallK (sp : DSp) (π : List Nat) (ds : TDA) : TDE := fun env P => ds env fun xs => xs.length = π.length ∧ sp (kwP π xs) P
section
variable {X : Cx} {F : Fx} {dk : TDA} {pos p : Pos} {CX : CXT} {k : Nat} {f : Addr} {fd : FuncData} {ps ks : List Str} {sp : DSp} {E : XK} {x : Str} {fr : Fr} {K : PySem.W.Frag}
theorem dd_callKP {g : List Value → List Value → List Value} {gV : List V → List V → List V} {π : List Nat} {kws : List Keyword} (G : FnOk X.prog X.w X.K X.mg X.base CX k f fd ps (lSp K fr sp)) (hr : Room k X.A) (hg : Gl X x) (hm : X.mg x = some (.ref f)) (hk : PySem.W.keepIn X.K (.ref f) = true) (hb : KBinds X.K fd ps ks g gV) (hx : Passes CX X E) (hkw : PK X kws (lA F dk))
    (hD : ∀ {K : PySem.W.Frag} {N : Addr → Prop} {W : Wd} {H : Hp} {zs : List V} {es : List D}, DdAll K N W H zs es → es.length = π.length → DdAll K N W H (gV [] zs) (kwP π es)) (hK : F.K = K := by rfl)
    (hall : (backToKw pos (keywordEach kws X.env)).all (·.1.isSome) = true := by rfl) (hks : (backToKw pos (keywordEach kws X.env)).filterMap (·.1) = ks := by rfl) (hdb : (x == ("__debug__" : Str)) = false := by decide)
    (hpl : ((backTo pos (starEach [] X.env)).any (·.1) || (backToKw pos (keywordEach kws X.env)).any (·.1.isNone)) = false := by rfl) :
    PE X (.Call (.Name x p) [] kws pos) (lC F (dCallK sp π dk)) := PE.mono (pe_callK0 G hr hg hm hk hb hx hkw hall hks hdb hpl) fun σ H Q ⟨env, L, P, A, pp, q⟩ => by
  subst hK
  exact ⟨env, L, _, A, pp, fun xs vs H1 px k1 o1 d1 => ⟨F.W, F.N L, kwP π xs, P, fun a h => (A.step k1 o1).alN h, fun a h => .inl (A.wn a h), o1, hD d1 px.1, px.2, fun x v H2 p2 k2 o2 d2 _ => q x v H2 p2 (k1.trans k2) o2 d2⟩⟩
end
section
variable {F : Fx} {env : De} {σ : L2.St} {L : List Addr} {H H' : Hp}
theorem Abs.setAny (A : Abs F env σ L H) (i : Nat) (v : Option V) : Abs F (env.set i .no) (σ.set i v) L H := by
  refine ⟨A.ok, A.al, A.wn, A.kp, A.fr, by rw [List.length_set, List.length_set, A.ls], fun j l a ej el h1 h2 o1 o2 s1 s2 => ?_, fun j e y h1 h2 => ?_⟩
  · have f : ∀ (j : Nat) (ej : En), (env.set i .no)[j]? = some ej → ej.isOw = true → i ≠ j := fun j ej h o z => by
      subst z
      by_cases hi : i < env.length
      · rw [List.getElem?_set_self hi] at h
        cases h
        cases o
      · rw [List.getElem?_eq_none (by rw [List.length_set]; omega)] at h
        cases h
    have hj := f j ej h1 o1
    have hl := f l el h2 o2
    rw [List.getElem?_set_ne hj] at h1 s1
    rw [List.getElem?_set_ne hl] at h2 s2
    exact A.sep j l a ej el h1 h2 o1 o2 s1 s2
  · by_cases hj : i = j
    · subst hj
      by_cases hi : i < env.length
      · rw [List.getElem?_set_self hi] at h1
        cases h1
        trivial
      · rw [List.getElem?_eq_none (by rw [List.length_set]; omega)] at h1
        cases h1
    · rw [List.getElem?_set_ne hj] at h1 h2
      exact A.en j e y h1 h2
end
theorem init1 {K : PySem.W.Frag} {W : Wd} {N0 : Addr → Prop} {H1 : Hp} {x dx C : Addr} {f : Str} {us : List V} {ds : List D} {N : List Str} {Pd : D → Prop} {Q : VK} {d1 d2 : TDE} (c : Cls K C) (na : NoAttr K C f) (nx : H1 x = none) (ndx : H1 dx = none) (ne : dx ≠ x)
    (al : ∀ a, N0 a → ∃ o, H1 a = some o) (wn : ∀ a, W.own a → N0 a) (ok : W.ok H1) (dd : DdAll K N0 W H1 us ds) (hN : us.length + 1 ≤ N.length)
    (q : ∀ y H', Pd y → KeepW W H1 H' → W.ok H' → Dd K N0 W H' (.ref x) (.obj C [(f, y)]) → Q .non H') (h : d1 (.no :: startE (N.drop 1) ds) fun _ => d2 (.no :: startE (N.drop 1) ds) Pd) :
    tSeq (tDrop (lC ⟨K, W, N0, H1, false⟩ d1)) (sFld K (tVar 0) (lN ⟨K, W, N0, H1, false⟩ d2) f) { nx := fun _ H' => Q .non H', rt := Q } (L2.start N (.ref x :: us)) (upd (upd H1 dx (.own x)) x (.ins C dx [])) := by
  obtain ⟨n0, N', rfl⟩ : ∃ n0 N', N = n0 :: N' := by
    cases N with
    | nil => simp at hN
    | cons a b => exact ⟨a, b, rfl⟩
  have A0 : Abs ⟨K, W, N0, H1, false⟩ (startE (n0 :: N') (.non :: ds)) (L2.start (n0 :: N') (.non :: us)) [] H1 := abs_start al wn ok (.cons .non dd)
  have A1 := A0.setAny 0 (some (.ref x))
  have e1 : (startE (n0 :: N') (.non :: ds)).set 0 .no = .no :: startE N' ds := by
    unfold startE
    rw [List.map_cons, List.cons_append, List.set_cons_zero, List.length_cons, List.length_cons, Nat.add_sub_add_right]
  have e2 : (L2.start (n0 :: N') (.non :: us)).set 0 (some (.ref x)) = L2.start (n0 :: N') (.ref x :: us) := by
    unfold L2.start
    rw [List.map_cons, List.cons_append, List.set_cons_zero]
    rfl
  rw [e1, e2] at A1
  have nx2 : (upd H1 dx (.own x)) x = none := by rw [upd_ne ne.symm]; exact nx
  have k0 : KeepW W H1 (upd (upd H1 dx (.own x)) x (.ins C dx [])) := (KeepW.new ndx).trans (.new nx2)
  have o0 : W.ok (upd (upd H1 dx (.own x)) x (.ins C dx [])) := ok_new (ok_new ok ndx) nx2
  have A2 : Abs ⟨K, W, N0, H1, false⟩ (.no :: startE N' ds) (L2.start (n0 :: N') (.ref x :: us)) [x] (upd (upd H1 dx (.own x)) x (.ins C dx [])) := A1.grow k0 o0 (pres_cons A1 k0 nx) (fun a h => by cases h) fun a h => by
    rcases List.mem_cons.mp h with h | h
    · subst h
      exact .inr ⟨nx, _, upd_same, True.intro⟩
    · cases h
  have nox : ¬ W.own x := fun z => by
    obtain ⟨o, e⟩ := al x (wn x z)
    rw [nx] at e
    cases e
  refine ⟨_, _, _, A2, h, fun _ v H2 p2 k2 o2 _ => ?_⟩
  have A3 := A2.step k2 o2
  refine ⟨_, _, _, A3, p2, fun y a H3 p3 k3 o3 na3 nv => ?_⟩
  have hx : H3 x = some (.ins C dx []) := k3 x _ nox (k2 x _ nox upd_same)
  refine ⟨.ref x, rfl, x, C, dx, [], rfl, hx, c, na, by decide, q y _ p3 ?_ ?_ ?_⟩
  · intro b o nb hb
    have hne : b ≠ x := ne_of_none hb nx
    rw [upd_ne hne]
    exact k3 b o nb (k2 b o nb (k0 b o nb hb))
  · exact Wd.st o3 (n := noT_upd True.intro) fun b o hb nb => by
      have hne : b ≠ x := fun z => by
        rcases nb with nb | nb
        · exact nox (z ▸ nb)
        · rw [z, hx] at hb
          exact nb (Option.some.inj hb ▸ True.intro)
      rw [upd_ne hne]
      exact hb
  · have hn : ¬ N0 x := fun z => by
      obtain ⟨o, e⟩ := al x z
      rw [nx] at e
      cases e
    have A4 := A3.step k3 o3
    have dy : Dd K (Fx.N ⟨K, W, N0, H1, false⟩ [x]) W H3 (.ref a) y := nv.dd (A3.new na3)
    have dy2 : Dd K N0 W (upd H3 x (.ins C dx (putF f (.ref a) []))) (.ref a) y := dy.pres fun b o nb hb => ⟨fun z => nb (.inl z), by
      have hne : b ≠ x := fun z => nb (.inr (by rw [z]; exact List.mem_cons_self))
      rw [upd_ne hne]
      exact hb⟩
    exact .obj upd_same hn rfl (.cons dy2 .nil)
theorem pss_ex {X : Cx} {K : PySem.W.Frag} {sts : List Stmt} {d : TDS} (h : ∀ W N0 H0, PSs X sts (lS ⟨K, W, N0, H0, false⟩ d)) : PSs X sts (fun E σ H => ∃ W N0 H0, lS ⟨K, W, N0, H0, false⟩ d E σ H) := ⟨fun pins s σ H E I ⟨W, N0, H0, q⟩ => (h W N0 H0).run pins s σ H E I q⟩
def spLaw (K : PySem.W.Frag) : Sp := fun vs H Q _ => ∃ (a : Addr) (ns : List Int), vs = [.ref a] ∧ SqL K H a (ns.map V.int) ∧ ns.length ≤ 63 ∧ ∀ H', Q (.bl true) H'
theorem law_bag {K : PySem.W.Frag} {Q : VK} {d : TDS} {H H' : Hp} {a b s : Addr} {n : Nat} (e : Same H H') (nb : H b = none) (B : Bag b s H') (q : ∀ H', Q (.bl true) H') (h : d { nx := fun _ => False, rt := fun x => x = .bl true } (.no :: .fz .bag :: List.replicate n .no)) :
    ∃ W N0 H0, lS ⟨K, W, N0, H0, false⟩ d { nx := fun _ H' => Q .non H', rt := Q } (some (.ref a) :: some (.ref b) :: List.replicate n none) H' := by
  refine ⟨some (b, s, []), fun z => z = b ∨ z = s, H', _, [], _, ?_, h, fun _ _ _ _ z => z.elim, fun x v H2 hx r => ?_, fun _ _ _ _ z => z.elim, fun _ _ _ _ z => z.elim⟩
  · obtain ⟨yb, hb⟩ := B.hb
    obtain ⟨ys, hs⟩ := B.hs
    refine ⟨⟨B, (fun p hp => by cases hp), fun ne => absurd rfl ne⟩, fun z hz => ?_, fun z hz => hz.imp id fun hz => hz.resolve_right fun ⟨p, hp, _⟩ => (by cases hp), .refl _ _, fun z hz => (by cases hz), ?_, fun i j z ei ej h1 h2 o1 o2 _ _ => ?_, fun i e x h1 h2 => ?_⟩
    · rcases hz with rfl | rfl
      · exact ⟨_, hb⟩
      · exact ⟨_, hs⟩
    · simp
    · exfalso
      match i, h1 with
      | 0, h1 => cases h1; cases o1
      | 1, h1 => cases h1; cases o1
      | i + 2, h1 =>
        rw [List.getElem?_cons_succ, List.getElem?_cons_succ] at h1
        rw [(List.mem_replicate.mp (List.mem_of_getElem? h1)).2] at o1
        cases o1
    · match i, h1, h2 with
      | 0, h1, h2 => cases h1; trivial
      | 1, h1, h2 =>
        cases h1
        cases h2
        exact .bag rfl
      | i + 2, h1, h2 =>
        rw [List.getElem?_cons_succ, List.getElem?_cons_succ] at h1
        rw [(List.mem_replicate.mp (List.mem_of_getElem? h1)).2]
        trivial
  · subst hx
    have := dd_blE r.dd
    subst this
    exact q H2
end DL
namespace RK
open PySem PySem.Spec PyProof.Rows L2
open PySem.Sem (wp)
abbrev enT1 (l : Addr) : Obj := { cls := .type "tuple_iterator", data := .fields #[.ref l, .int 0 0] }
abbrev enT2 (n : Addr) : Obj := { cls := .type "enumerate", data := .fields #[.none, .bool false, .ref n, rawInt 0, .none, .none] }
end RK
namespace DL
open PySem PySem.Spec PyProof.Rows L2 RK
section
variable {X : Cx} {F : Fx} {e a b c tg iter : Expr} {es : List Expr} {d da db dc : TDE} {ds : TDA} {pos p : Pos} {i j l : Nat}
def dLend (i : Nat) (d : TDE) : TDE := fun env P => ob (env[i]?.bind frz) fun e => d (env.set i e) fun x => x.leaf = true ∧ P x
theorem abs_frz {env : De} {σ : L2.St} {L : List Addr} {H : Hp} {e : En} (A : Abs F env σ L H) (h1 : env[i]?.bind frz = some e) : ∃ L', Abs F (env.set i e) σ L' H := by
  obtain ⟨e0, h2, h3⟩ := Option.bind_eq_some_iff.mp h1
  obtain ⟨x, h4, rfl⟩ := Option.map_eq_some_iff.mp h3
  obtain ⟨v, hs, en⟩ := abs_at A h2 (by rintro rfl; cases h4)
  obtain ⟨t, rfl⟩ := owD_ref en h4
  have ow : e0.isOw = true := by cases e0 <;> first | rfl | cases h4
  obtain ⟨ht, nv⟩ := ow_new A en h4
  have sub : ∀ y, F.N (L.filter fun z => decide (z ≠ t)) y → F.N L y := fun y hy => hy.imp id fun z => (List.mem_filter.mp z).1
  have nt : ¬ F.N (L.filter fun z => decide (z ≠ t)) t := fun z => by
    rcases z with z | z
    · exact A.out ht z
    · have := (List.mem_filter.mp z).2
      simp at this
  have dd : Dd F.K (F.N (L.filter fun z => decide (z ≠ t))) F.W H (.ref t) x := by
    have key : ∀ {vs : List V} {ds : List D}, DdAll F.K (F.N L) F.W H vs ds → DdAll F.K (F.N (L.filter fun z => decide (z ≠ t))) F.W H vs ds := fun h => h.keep (fun _ _ _ z => z) sub
    cases e0 with
    | ow ds => cases h4; obtain ⟨_, vs, q1, q2⟩ := en; exact .lst q1 nt (key q2)
    | od ds => cases h4; obtain ⟨_, vs, q1, q3, q2⟩ := en; exact .dic (.inl q1) nt q3 (key q2)
    | ot ds => cases h4; obtain ⟨_, vs, q1, q3, q2⟩ := en; exact .dct (.inl q1) nt q3 (key q2)
    | _ => cases h4
  have hil : i < env.length := (List.getElem?_eq_some_iff.mp h2).1
  refine ⟨L.filter fun z => decide (z ≠ t), A.ok, A.al, A.wn, A.kp, fun y hy => A.fr y (List.mem_filter.mp hy).1, by rw [List.length_set, A.ls], fun j l b ej el g1 g2 o1 o2 s1 s2 => ?_, fun j e' y g1 g2 => ?_⟩
  · by_cases hj : i = j
    · subst hj
      rw [List.getElem?_set_self hil] at g1
      cases g1
      cases o1
    · by_cases hl : i = l
      · subst hl
        rw [List.getElem?_set_self hil] at g2
        cases g2
        cases o2
      · rw [List.getElem?_set_ne hj] at g1
        rw [List.getElem?_set_ne hl] at g2
        exact A.sep j l b ej el g1 g2 o1 o2 s1 s2
  · by_cases hj : i = j
    · subst hj
      rw [List.getElem?_set_self hil] at g1
      cases g1
      rw [hs] at g2
      cases g2
      exact dd
    · rw [List.getElem?_set_ne hj] at g1
      refine EnOk.keep A (fun x u q h => h) sub (fun b hb ob hbL => ⟨List.mem_filter.mpr ⟨hbL, decide_eq_true ?_⟩, fun u hu => hu⟩) (A.en j e' y g1 g2)
      exact fun z => hj (A.sep i j t e0 e' h2 g1 ow ob hs (by rw [g2, hb, z]))
theorem leaf_any {K : PySem.W.Frag} {N N' : Addr → Prop} {W : Wd} {H : Hp} {v : V} {x : D} (l : x.leaf = true) (h : Dd K N W H v x) : Dd K N' W H v x := by
  cases h with
  | non => exact .non
  | bl b => exact .bl b
  | int i => exact .int i
  | str x => exact .str x
  | lst _ _ _ => cases l
  | tup _ _ _ => cases l
  | dic _ _ _ _ => cases l
  | dct _ _ _ _ => cases l
  | obj _ _ _ _ => cases l
  | ktp _ _ _ _ _ _ => cases l
  | bag _ => cases l
theorem dd_lend (h : PE X e (lC F d)) : PE X e (lC F (dLend i d)) := PE.mono h fun σ H Q ⟨env, L, P, A, pp, q⟩ => by
  obtain ⟨e, h1, pp⟩ := ob_elim pp
  obtain ⟨L', B⟩ := abs_frz A h1
  exact ⟨_, L', _, B, pp, fun x v H' px k o dd => q x v H' px.2 k o (leaf_any px.1 dd)⟩
abbrev SP := Str × Str
end
end DL
namespace DL
open PySem PySem.Spec PyProof.Rows L2 RK
section
variable {X : Cx} {F : Fx} {e a b c tg iter : Expr} {es : List Expr} {d da db dc : TDE} {ds : TDA} {pos p : Pos} {i j l : Nat}
def zipD : List D → List D → List D
  | x :: xs, y :: ys => .tup [x, y] :: zipD xs ys
  | _, _ => []
theorem zip_len : ∀ (xs ys : List D), (zipD xs ys).length = min xs.length ys.length
  | [], _ => by simp [zipD]
  | _ :: _, [] => by simp [zipD]
  | x :: xs, y :: ys => by rw [zipD, List.length_cons, zip_len, List.length_cons, List.length_cons]; omega
theorem zip_get : ∀ (i : Nat) (xs ys : List D) (z : D), (zipD xs ys)[i]? = some z → ∃ x y, xs[i]? = some x ∧ ys[i]? = some y ∧ z = .tup [x, y]
  | _, [], _, _, h => by simp [zipD] at h
  | _, _ :: _, [], _, h => by simp [zipD] at h
  | 0, x :: xs, y :: ys, z, h => by
    simp [zipD] at h
    exact ⟨x, y, rfl, rfl, h.symm⟩
  | i + 1, x :: xs, y :: ys, z, h => by
    rw [zipD, List.getElem?_cons_succ] at h
    exact zip_get i xs ys z h
def twoD (f : D → Option (List D)) (da db : TDE) : TDI := fun env P => da env fun x => db env fun y => ob (f x) fun xs => ob (f y) fun ys => P (zipD xs ys)
def iZp (da db : TDE) : TDI := fun env P => twoD lstD da db env P ∨ twoD tupD da db env P
theorem zip_new {N' : Addr → Prop} {H' H2 : Hp} {T : Addr} {v w : V} {x y : D} (al : ∀ a, N' a → ∃ o, H' a = some o) (hT : H' T = none) (h2 : H2 = upd H' T (.tup [v, w])) (dv : Dd F.K N' F.W H' v x) (dw : Dd F.K N' F.W H' w y) :
    Stn H' H2 ∧ Dd F.K N' F.W H2 (.ref T) (.tup [x, y]) := by
  subst h2
  have kp : ∀ a o, H' a = some o → upd H' T (.tup [v, w]) a = some o := fun a o h => by rw [upd_ne (ne_of_none h hT)]; exact h
  refine ⟨.new hT True.intro, .tup upd_same (fun z => ?_) (.cons (dv.keep (fun a u _ h => kp a u h) fun _ z => z) (.cons (dw.keep (fun a u _ h => kp a u h) fun _ z => z) .nil))⟩
  obtain ⟨o, ho⟩ := al T z
  rw [hT] at ho
  cases ho
theorem it_zipL {Rel : (Addr → Prop) → Hp → Prop} {t u : Addr} {vs ws : List V} {xs ys : List D} (h : ∀ N' H', Rel N' H' → (H' t = some (.lst vs) ∧ DdAll F.K N' F.W H' vs xs) ∧ H' u = some (.lst ws) ∧ DdAll F.K N' F.W H' ws ys) : ItOk F Rel (Itz F.K t u) (zipD xs ys) := fun N' H' r al i => by
  obtain ⟨⟨h1, h2⟩, g1, g2⟩ := h N' H' r
  refine ⟨fun hi => ⟨vs, ws, SqL.of h1, SqL.of g1, ?_⟩, fun x hx => ?_⟩
  · rw [h2.len, g2.len]
    rw [zip_len] at hi
    omega
  · obtain ⟨x1, x2, e1, e2, rfl⟩ := zip_get i xs ys x hx
    obtain ⟨v, hv, dv⟩ := h2.get e1
    obtain ⟨w, hw, dw⟩ := g2.get e2
    refine ⟨⟨vs, ws, v, w, SqL.of h1, SqL.of g1, hv, hw⟩, fun w' H2 hy => ?_⟩
    obtain ⟨T, z1, z2, rfl, hT, h2', hz1, hz2⟩ := hy
    have q1 := hz1 vs (SqL.of h1)
    have q2 := hz2 ws (SqL.of g1)
    rw [hv] at q1
    rw [hw] at q2
    cases q1
    cases q2
    exact zip_new al hT h2' dv dw
theorem it_zipT {Rel : (Addr → Prop) → Hp → Prop} {t u : Addr} {vs ws : List V} {xs ys : List D} (h : ∀ N' H', Rel N' H' → (SqT F.K H' t vs ∧ DdAll F.K N' F.W H' vs xs) ∧ SqT F.K H' u ws ∧ DdAll F.K N' F.W H' ws ys) : ItOk F Rel (RZ.ItzT F.K t u) (zipD xs ys) := fun N' H' r al i => by
  obtain ⟨⟨h1, h2⟩, g1, g2⟩ := h N' H' r
  refine ⟨fun hi => ⟨vs, ws, h1, g1, ?_⟩, fun x hx => ?_⟩
  · rw [h2.len, g2.len]
    rw [zip_len] at hi
    omega
  · obtain ⟨x1, x2, e1, e2, rfl⟩ := zip_get i xs ys x hx
    obtain ⟨v, hv, dv⟩ := h2.get e1
    obtain ⟨w, hw, dw⟩ := g2.get e2
    refine ⟨⟨vs, ws, v, w, h1, g1, hv, hw⟩, fun w' H2 hy => ?_⟩
    obtain ⟨T, z1, z2, rfl, hT, h2', hz1, hz2⟩ := hy
    have q1 := hz1 vs h1
    have q2 := hz2 ws g1
    rw [hv] at q1
    rw [hw] at q2
    cases q1
    cases q2
    exact zip_new al hT h2' dv dw
theorem zip_I (hK : F.K = X.K) : ∀ σ H R, lI F (iZp da db) σ H R → RZ.iZipA X.K (tCons (lC F da) (tCons (lC F db) tNil)) σ H R := fun σ H R ⟨env, L, P, A, pp, q⟩ => by
  rw [← hK]
  rcases pp with pp | pp
  · refine ⟨env, L, _, A, pp, fun x v H1 px k1 o1 d1 => ⟨env, L, _, A.step k1 o1, px, fun y w H2 py k2 o2 d2 => ?_⟩⟩
    obtain ⟨xs, e, py⟩ := ob_elim py
    obtain ⟨ys, e', py⟩ := ob_elim py
    have := lstD_e e
    subst this
    have := lstD_e e'
    subst this
    obtain ⟨t, vs, rfl, h1, h2, h3⟩ := dd_lstE ((A.step k1 o1).kd k2 d1)
    obtain ⟨u, ws, rfl, g1, g2, g3⟩ := dd_lstE d2
    exact ⟨t, u, vs, ws, rfl, .inl ⟨SqL.of h1, SqL.of g1, q _ _ H2 py (k1.trans k2) o2 (it_zipL fun N' H' r => ⟨⟨(r t _ h2 h1).2, h3.pres r⟩, (r u _ g2 g1).2, g3.pres r⟩)⟩⟩
  · refine ⟨env, L, _, A, pp, fun x v H1 px k1 o1 d1 => ⟨env, L, _, A.step k1 o1, px, fun y w H2 py k2 o2 d2 => ?_⟩⟩
    obtain ⟨xs, e, py⟩ := ob_elim py
    obtain ⟨ys, e', py⟩ := ob_elim py
    obtain ⟨t, vs, rfl, h1, h2⟩ := seqT_keep (N' := fun _ => False) (H' := H2) e ((A.step k1 o1).kd k2 d1)
    obtain ⟨u, ws, rfl, g1, g2⟩ := seqT_keep (N' := fun _ => False) (H' := H2) e' d2
    exact ⟨t, u, vs, ws, rfl, .inr ⟨h1, g1, q _ _ H2 py (k1.trans k2) o2 (it_zipT fun N' H' r => ⟨h2 N' H' r, g2 N' H' r⟩)⟩⟩
theorem di_zip {elts : List Expr} {kk : Nat} {tpos : Pos} (hg : Gl X "zip") (hm : X.mg "zip" = none) (ha : PE X a (lC F da)) (hb : PE X b (lC F db)) (hs : starEach [a, b] X.env = (false, eval a X.env) :: starEach [b] X.env := by rfl) (hs2 : starEach [b] X.env = (false, eval b X.env) :: starEach [] X.env := by rfl) (hpl : (backTo pos (starEach [b] X.env)).any (·.1) = false := by rfl) (hK : F.K = X.K := by rfl) :
    PI X (.Tuple elts kk tpos) (.Call (.Name "zip" p) [a, b] [] pos) (lI F (iZp da db)) := PI.mono (RZ.pi_zipA hg hm (pa_cons ha (pa_cons hb pa_nil hs2) hs) hs hpl) (zip_I hK)
end
end DL
namespace DL
open PySem PySem.Spec PyProof.Rows L2 RK
section
variable {X : Cx} {F : Fx} {e o a b : Expr} {d : TDE} {pos apos cpos : Pos} {i : Nat}
end
end DL
namespace DL
open PySem PySem.Spec PyProof.Rows L2 RK
section
variable {X : Cx}
abbrev oneGen (tg iter : Expr) (ifs : List Expr) : List Comprehension := [⟨tg, iter, ifs, 0⟩]
end
end DL
namespace DL
open PySem PySem.Spec PyProof.Rows L2 RK
section
variable {X : Cx} {F : Fx} {e a b c o : Expr} {es : List Expr} {d da db dc : TDE} {ds : TDA} {pos p apos : Pos}
end
end DL
namespace DL
open PySem PySem.Spec PyProof.Rows L2 RK
section
variable {X : Cx} {F : Fx} {e a b c o : Expr} {es : List Expr} {d da db dc : TDE} {ds : TDA} {pos p apos : Pos}
end
section
variable {X : Cx} {F : Fx} {e : Expr} {d : TDE} {pos p : Pos} {k : Nat}
end
end DL
namespace RK
open PySem PySem.Spec PyProof.Rows L2
def metK (val : Nat → Key) (i : Nat) (k : Key) : Bool := (List.range i).any fun j => decide (val j = k)
def cntK (val : Nat → Key) : Nat → Nat
  | 0 => 0
  | i + 1 => if metK val i (val i) = true then cntK val i else cntK val i + 1
theorem cntK_le (val : Nat → Key) : ∀ i, cntK val i ≤ i
  | 0 => Nat.le_refl _
  | i + 1 => by
    have := cntK_le val i
    rw [cntK]
    split <;> omega
theorem metK_succ (val : Nat → Key) (i : Nat) (k : Key) : metK val (i + 1) k = (metK val i k || decide (k = val i)) := by
  unfold metK
  rw [List.range_succ, List.any_append, List.any_cons, List.any_nil, Bool.or_false]
  congr 1
  exact decide_eq_decide.mpr eq_comm
section
variable {prog : Program} {w : World} {A : Around} {R : Result → Shared → Prop} {I S : Addr} {fp wr : List Addr} {G : Array GenState → Array GenState → Prop} {n : Nat} {P : Nat → Value → Prop} {St : Nat → Shared → Prop}
theorem keep_set {h z : Heap} {S' : Key → Bool} {c : Nat} (q : h.SetOf (mixKind prog w) S S' c) (k : ∀ o, h.get? S = some o → z.get? S = some o) : z.SetOf (mixKind prog w) S S' c := by
  obtain ⟨o, es, ep, t, ho, r⟩ := q
  exact ⟨o, es, ep, t, k o ho, r⟩
theorem set_go (W : WalksS prog w A.in1 I fp wr G n P St) (out : S ∉ fp) {val : Nat → Key} (hv : ∀ i v, P i v → (mixKind prog w).is (val i) v = true ∧ v.scannable = true) (room : n + 1 < scanBound) :
    ∀ (m i : Nat) (s : Shared), n = i + m → St i s → s.heap.SetOf (mixKind prog w) S (metK val i) (cntK val i) → (∀ z, Moved (S :: wr) G s z → z.heap.SetOf (mixKind prog w) S (metK val n) (cntK val n) → R (.ok (.ret .none)) z) →
      codeAny (model prog w) A (.builtin "set.update.loop" ⟨[.ref S, .ref I], []⟩) R s := by
  have nw : S ∉ wr := fun z => out (W.sub _ z)
  have up : ∀ b ∈ wr, b ∈ S :: wr := fun b z => List.mem_cons_of_mem _ z
  intro m
  induction m with
  | zero =>
    intro i s e st q fin
    have e : n = i := by omega
    subst e
    refine codeAny_builtin (by exact F.entry_set_update_loop) ?_
    rw [Around.under_plainId (by exact F.plain_set_update_loop)]
    refine wpAny_bind (W.done s _ _ st fun z mv => wpAny_pure (fin z (mv.mono up) (keep_set q fun o ho => mv.heap S _ nw ho)))
  | succ m go =>
    intro i s e st q fin
    refine codeAny_builtin (by exact F.entry_set_update_loop) ?_
    rw [Around.under_plainId (by exact F.plain_set_update_loop)]
    refine wpAny_bind (W.item i s _ _ (by omega) st fun v z hP st2 mv => ?_)
    obtain ⟨hk, hs⟩ := hv i v hP
    have q2 := keep_set q (z := z.heap) fun o ho => mv.heap S _ nw ho
    refine wpAny_bind (wpAny_holding ?_)
    unfold setAdd
    refine wpAny_holding (wpAny_bind ((mixKind prog w).pyHash hk ?_))
    refine wpAny_setAddHashed_of (s := { z with toks := z.toks + 1 }) hk hs q2 (by have := cntK_le val i; omega) fun g sb q3 => ?_
    have q4 : g.SetOf (mixKind prog w) S (metK val (i + 1)) (cntK val (i + 1)) := by
      have e1 : (fun k => metK val i k || decide (k = val i)) = metK val (i + 1) := funext fun k => (metK_succ val i k).symm
      rw [e1] at q3
      rw [cntK]
      exact q3
    refine wpAny_pure ⟨plainId_quiet (by exact F.plain_set_update_loop) _, go (i + 1) _ (by omega) (W.frame _ z _ _ st2 (Nat.le_succ _) fun b hb o eb => ?_) q4 fun y my qy => fin y ?_ qy⟩
    · rw [sb.2 b fun x => out (x ▸ hb)]
      exact eb
    · refine Moved.trans W.gtrans ((mv.mono up).then_heap (Nat.le_succ _) fun b o hb eb => ?_) my
      rw [sb.2 b fun x => hb (x ▸ List.mem_cons_self)]
      exact eb
end
section
variable {prog : Program} {w : World} {A : Around} {E : Value → Shared → Prop} {s : Shared}
def newSet (led : Bool) : Obj := { cls := .type "set", dict := none, data := .set #[] 0 (.fresh 0 0 led) }
theorem set_made {x : Value} {Q : Value → Shared → Prop} (K : Shared → Prop) (fin : ∀ z, K z → Q (.ref s.heap.objs.size) z)
    (go : ∀ led : Bool, wpAny (model prog w) A.in1.in1 (Builtin.«set.__init__» ⟨[.ref s.heap.objs.size, x], []⟩) (fun f z => match f with | .done f => wants (fun r y => r = Value.none ∧ K y) E (.ok f) z | .again c => c.quiet = true ∧ codeAny (model prog w) A.in1 c (wants (fun r y => r = Value.none ∧ K y) E) z) (fun e z => wants (fun r y => r = Value.none ∧ K y) E (.error e) z) { s with heap := s.heap.push (newSet led) }) :
    wpAny (model prog w) A (call (.type "set") [x]) Q E s := by
  have a1 := PySem.F.called_set.made
  have a2 := PySem.F.called_set.sub
  obtain ⟨c, tl, a3⟩ := PySem.F.called_set.mro
  refine wpAny_call (codeAny_of_tree (wpAny_pure ⟨Code.quiet_builtin _ (by decide +kernel), codeAny_builtin (by exact PySem.F.entry_type_call) ?_⟩))
  rw [Around.under_plain (weight_type_call_type "set" [x] []) rfl]
  have a4 := PySem.F.called_set.notType
  have a5 := PySem.F.called_set.canCreate
  have a6 := PySem.F.typeCall_set_1 x
  repeat (any_goals (first | assumption | wp_step))
  refine codeAny_mono (code_set_new_1 x (E := E) (Q₁ := fun v z => v = .ref s.heap.objs.size ∧ ∃ led : Bool, z = { s with heap := s.heap.push (newSet led) }) fun led => ⟨rfl, led, rfl⟩) fun r z hr => ?_
  cases r with
  | error e => exact hr
  | ok f =>
    cases f with
    | ret v =>
      obtain ⟨rfl, led, rfl⟩ := hr
      have b1 : (s.heap.push (newSet led)).get? s.heap.objs.size = some (newSet led) := Heap.get?_push_size _ rfl
      have b2 : Shared.TypeIs { s with heap := s.heap.push (newSet led) } (.ref s.heap.objs.size) "set" := ⟨_, b1, rfl⟩
      have b3 := PySem.F.called_set.init.lookup
      have b4 := PySem.F.called_set.init.bind (.ref s.heap.objs.size)
      repeat (any_goals (first | assumption | wp_step))
      refine codeAny_mono (codeAny_call_builtin (R := wants (fun r y => r = .none ∧ K y) E) PySem.F.called_set.init.plain PySem.F.entry_set_init (check_set_init_1 b2 ?_)) fun r y hy => ?_
      · exact go led
      · cases r with
        | error e => exact hy
        | ok f =>
          cases f with
          | ret v =>
            obtain ⟨rfl, ky⟩ := hy
            repeat (any_goals (first | assumption | wp_step))
            exact fin _ ky
          | _ => exact hy.elim
    | _ => exact hr.elim
def SetMade (prog : Program) (w : World) (s : Shared) (val : Nat → Key) (n : Nat) (z : Shared) : Prop :=
  ∃ g tk, z = { s with heap := g, toks := tk } ∧ g.SetOf (mixKind prog w) s.heap.objs.size (metK val n) (cntK val n) ∧ ∀ b o, s.heap.get? b = some o → g.get? b = some o
theorem fresh_set (led : Bool) {h : Heap} {a : Addr} (q : h.get? a = some (newSet led)) (val : Nat → Key) : h.SetOf (mixKind prog w) a (metK val 0) (cntK val 0) := by
  exact ⟨_, #[], 0, _, q, ⟨rfl, rfl, rfl⟩, rfl, fun e he => (by simp at he), fun k => (by simp [metK]), (by decide), (by rfl), rfl⟩
theorem set_end {wr : List Addr} {val : Nat → Key} {n : Nat} {led : Bool} {ob : Obj} {z : Shared} (mv : Moved (s.heap.objs.size :: [(s.heap.push (newSet led)).objs.size]) (fun a b => b = a) { s with heap := (s.heap.push (newSet led)).push ob } z) (q : z.heap.SetOf (mixKind prog w) s.heap.objs.size (metK val n) (cntK val n)) : SetMade prog w s val n z := by
  obtain ⟨g, a, b, c, d⟩ := z
  obtain rfl : a = s.gens := mv.gens
  obtain rfl : b = s.drawn := mv.drawn
  obtain rfl : d = s.os := mv.os
  refine ⟨g, c, rfl, q, fun x o e => mv.heap x o (fun hx => ?_) (Heap.get?_push_of_some _ (Heap.get?_push_of_some _ e))⟩
  have lt := Heap.lt_size e
  rw [Heap.size_push] at hx
  simp only [List.mem_cons, List.not_mem_nil, or_false] at hx
  rcases hx with hx | hx
  · exact absurd lt (hx ▸ Nat.lt_irrefl _)
  · exact absurd lt (hx ▸ Nat.not_lt.mpr (Nat.le_succ _))
theorem apart (led : Bool) {l : Addr} (lt : l < s.heap.objs.size) : s.heap.objs.size ∉ [(s.heap.push (newSet led)).objs.size, l] := fun z => by
  rw [Heap.size_push] at z
  rcases List.mem_cons.mp z with z | z
  · exact Nat.ne_of_lt (Nat.lt_succ_self _) z
  · exact Nat.ne_of_gt lt (List.mem_singleton.mp z)
theorem set_list {l : Addr} {items : Array Value} {val : Nat → Key} {Q : Value → Shared → Prop} (hh : A.handled = none) (hl : s.heap.IsList l items) (hv : ∀ i v, items[i]? = some v → (mixKind prog w).is (val i) v = true ∧ v.scannable = true) (room : items.size + 1 < scanBound)
    (h : ∀ z, SetMade prog w s val items.size z → Q (.ref s.heap.objs.size) z) : wpAny (model prog w) A (call (.type "set") [.ref l]) Q E s := by
  refine set_made (SetMade prog w s val items.size) h fun led => ?_
  obtain ⟨⟨k1, k2, k3, k4⟩, c1, c2, c4, c5⟩ := hl
  simp only at c2 c5
  subst c2 c5
  have d1 : (s.heap.push (newSet led)).get? l = some { cls := .type "list", dict := k2, data := .seq items c4, slots := k4 } := Heap.get?_push_of_some _ c1
  have d2 := PySem.F.sub_list_set
  have d3 := PySem.F.sub_list_frozenset
  have d4 : (Value.type "list" == Value.type "dict") = false := by decide
  have d5 : (s.heap.push (newSet led)).IsList l items := ⟨_, d1, rfl, c4, rfl⟩
  unfold Builtin.«set.__init__» noKeywords Builtin.Frozenset.updateFrom
  generalize hPI : pyIter = PI
  wp_walk
  subst hPI
  have lt : l < s.heap.objs.size := Heap.lt_size c1
  refine wpAny_pyIter_list d5 (wpAny_bind (wpAny_runValue (set_go ((Walks.list (by simp [hh]) _ l (by rw [Heap.size_push]; exact Nat.ne_of_lt (Nat.lt_succ_of_lt lt)) items).toS) (apart led lt) hv room items.size 0 _ (by omega) ⟨⟨_, Heap.get?_push_size _ rfl, rfl, rfl⟩, d5.push _⟩ ?_ fun z mv q => ?_)))
  · exact fresh_set led (Heap.get?_push_of_some _ (Heap.get?_push_size _ rfl)) val
  · exact wpAny_pure (wpAny_pure ⟨rfl, set_end (wr := []) mv q⟩)
end
end RK
namespace PySem
namespace SplatX
open PySem.Spec PyProof.Rows
section
variable {prog : Program} {w : World} {K : Type} [DecidableEq K] {knd : KeyKind prog w K} {A : Around} {E : Value → Shared → Prop} {s : Shared}
end
end SplatX
end PySem
namespace RK
open PySem PySem.Spec PyProof.Rows L2
end RK
namespace DL
open PySem PySem.Spec PyProof.Rows L2 RK
section
variable {X : Cx} {F : Fx} {e a b c e1 e2 k0 : Expr} {es : List Expr} {d da db dc d1 d2 dk : TDE} {ds : TDA} {pos p p2 q0 : Pos}
end
end DL
namespace DL
open PySem PySem.Spec PyProof.Rows L2 RK
section
variable {X : Cx} {F : Fx}
end
end DL
namespace RK
open PySem PySem.Spec PyProof.Rows L2
section
variable {X : Cx} {pins : List (Addr × Obj)} {σ τ : L2.St} {s0 s : Shared} {H0 H : Hp} {sco : Scope} {own : List (Str × Nat)} {tg : Expr} {J : It} {fp : List Addr} {it : Addr} {tn : Nat → Heap → Prop} {i : Nat}
abbrev bEnv (X : Cx) (sco : Scope) (s0 : Shared) : Env := compEnvC sco (cellsFrom (s0.heap.objs.size + 1) sco.names (cloFrom X.env.cells sco.names [])) s0.heap.objs.size X.env
abbrev bCx (X : Cx) (sco : Scope) (fp : List Addr) (s0 : Shared) (H0 : Hp) : Cx := X.blk s0 H0 sco (bEnv X sco s0) fp
structure Outer (X : Cx) (pins : List (Addr × Obj)) (σ : L2.St) (s0 : Shared) (H0 : Hp) (fp : List Addr) : Prop where
  inv : Inv X pins σ H0 s0
  cells : ∀ b ∈ fp, FpOk X pins H0 b ∧ b < s0.heap.objs.size
structure Inner (X : Cx) (sco : Scope) (fp : List Addr) (s0 : Shared) (H0 : Hp) (tn : Nat → Heap → Prop) (τ : L2.St) (i : Nat) (H : Hp) (s : Shared) : Prop where
  inv : Inv (bCx X sco fp s0 H0) [] τ H s
  at_ : tn i s.heap
  out : ∀ b ∈ fp, H b = none
theorem Inner.cells (B : Inner X sco fp s0 H0 tn τ i H s) : ∀ b ∈ fp, FpOk (bCx X sco fp s0 H0) [] H b := fun b hb =>
  ⟨B.out b hb, (B.inv.ok.exf b hb).1, B.inv.ok.exfs b hb, .inl hb, (B.inv.ok.exf b hb).2, fun _ h => nomatch h⟩
theorem Outer.back (O : Outer X pins σ s0 H0 fp) (I : Inv (bCx X sco fp s0 H0) [] τ H s) : Inv X pins σ H s ∧ FpOk X pins H s0.heap.objs.size ∧ ∃ m, s.heap.Ns s0.heap.objs.size m :=
  ⟨O.inv.call' (ch := fp) I.os I.base I.hok I.bare fun b hb => let ⟨_, f1, _, f3, f4, f5⟩ := (O.cells b hb).1; ⟨f3, f1, f4, f5⟩, O.inv.fpOk (Nat.le_refl _) I.free, let ⟨m, h, _⟩ := I.loc; ⟨m, h⟩⟩
theorem Inner.stop (B : Inner X sco fp s0 H0 tn τ i H s) (O : Outer X pins σ s0 H0 fp) (calm : X.calm = true) (T : Turn X.prog X.w X.K tg J fp it tn) (e : J.stop i H) {E : Value → Shared → Prop} :
    wpAny (model X.prog X.w) X.A (pyNext (.ref it)) (fun r s1 => r = none ∧ Inv X pins σ H s1 ∧ FpOk X pins H s0.heap.objs.size ∧ ∃ m, s1.heap.Ns s0.heap.objs.size m) E s :=
  thn (T.done (bCx X sco fp s0 H0) rfl rfl rfl calm i [] s τ H E B.inv B.cells B.at_ e) fun _ _ h => ⟨h.1, O.back h.2⟩
theorem Inner.take (B : Inner X sco fp s0 H0 tn τ i H s) (calm : X.calm = true) (T : Turn X.prog X.w X.K tg J fp it tn) (e : J.go i H) {E : Value → Shared → Prop} :
    wpAny (model X.prog X.w) X.A (pyNext (.ref it)) (fun r s1 => ∃ u, r = some u ∧ wpAny (model X.prog X.w) X.A (letOwnedTupleGo tg (.ref it) u) (fun _ s2 =>
      ∃ x H2, RelV x u ∧ J.yld i H x H2 ∧ Inv (bCx X sco fp s0 H0) ([] ++ pinsAt fp s2.heap) τ H2 s2 ∧
        ∀ τ3 H3 s3, Inv (bCx X sco fp s0 H0) ([] ++ pinsAt fp s2.heap) τ3 H3 s3 → Inner X sco fp s0 H0 tn τ3 (i + 1) H3 s3) E s1) E s := by
  refine thn (T.item (bCx X sco fp s0 H0) rfl rfl rfl calm i [] s τ H E B.inv B.cells B.at_ e) fun r s1 ⟨u, hr, h⟩ => ⟨u, hr, thn h fun _ s2 ⟨x, H2, I2, rx, y, t2, n2⟩ => ?_⟩
  have B2 : Inner X sco fp s0 H0 tn τ (i + 1) H2 s2 := ⟨I2, t2, n2⟩
  refine ⟨x, H2, rx, y, I2.pinned B2.cells (T.obj _ _ t2), fun τ3 H3 s3 I3 => ?_⟩
  have pin : ∀ b ∈ fp, ∀ o, s2.heap.get? b = some o → s3.heap.get? b = some o ∧ H3 b = none := fun b hb o e =>
    let p := I3.pin (b, o) (List.mem_append_right _ (List.mem_append_right _ (mem_pinsAt hb e)))
    ⟨p.1, p.2.1⟩
  exact ⟨I3.unpinned, T.keep _ _ _ t2 fun b hb o e => (pin b hb o e).1, fun b hb => let ⟨o, e, _⟩ := T.obj _ _ t2 b hb; (pin b hb o e).2⟩
end
end RK
namespace RK
open PySem PySem.Spec PyProof.Rows L2
section
variable {prog : Program} {w : World} {A : Around} {R : Result → Shared → Prop} {s : Shared} {ev x0 l0 x1 l1 : Expr} {c0 c1 : List Expr} {sco : Scope} {pos : Pos} {it acc : Value} {env : Env}
abbrev sc2 (ev x0 l0 x1 l1 : Expr) (c0 c1 : List Expr) (sco : Scope) (pos : Pos) : Expr := .SetComp ev [⟨x0, l0, c0, 0⟩, ⟨x1, l1, c1, 0⟩] sco pos
theorem sc2_turn0 (ev x0 l0 x1 l1 : Expr) (c0 c1 : List Expr) (sco : Scope) (pos : Pos) (it acc : Value) (env : Env) :
    compTurn (sc2 ev x0 l0 x1 l1 c0 c1 sco pos) 0 it acc env = (do
      standAt l0.pos
      match ← pyNext it with
      | none => pure (.done .next)
      | some u =>
        letOwnedTupleGo x0 it u
        assign x0 env u
        let mut go := true
        for z in c0 do
          if go then go ← isTrue z env (eval z env)
        if go then
          let y ← eval l1 env
          standAt l1.pos
          let y ← foldedSetIterable l1 env y
          let _ ← runOwn (.compStart (sc2 ev x0 l0 x1 l1 c0 c1 sco pos) 1 (← holding [y] (pyIter y)) acc env) env
        again (.compLoop (sc2 ev x0 l0 x1 l1 c0 c1 sco pos) 0 it acc env)) := by rfl
theorem sc2_turn1 (ev x0 l0 x1 l1 : Expr) (c0 c1 : List Expr) (sco : Scope) (pos : Pos) (it acc : Value) (env : Env) :
    compTurn (sc2 ev x0 l0 x1 l1 c0 c1 sco pos) 1 it acc env = (do
      standAt l1.pos
      match ← pyNext it with
      | none => pure (.done .next)
      | some u =>
        letOwnedTupleGo x1 it u
        assign x1 env u
        let mut go := true
        for z in c1 do
          if go then go ← isTrue z env (eval z env)
        if go then
          (do let y ← eval ev env; standAt ev.pos; let _ ← call (.builtin "set.add") [acc, y])
        again (.compLoop (sc2 ev x0 l0 x1 l1 c0 c1 sco pos) 1 it acc env)) := by rfl
abbrev tstS (cs : List Expr) (env : Env) : Sem Bool := forIn cs true fun z g => if g = true then do let b ← isTrue z env (eval z env); pure (ForInStep.yield b) else pure (ForInStep.yield g)
abbrev nb (prog : Program) (w : World) (A : Around) (env : Env) (R : Result → Shared → Prop) : Value → Shared → Prop := notedBy (model prog w) A env fun e s' => R (.error e) s'
theorem sc2_loop0 (hs : ∀ x, foldedSetIterable l1 env x = pure x) (I : Nat → Shared → Prop)
    (turn : ∀ n s, I n s → wpAny (model prog w) A (pyNext it) (fun r s1 => match r with
      | none => R (.ok .next) s1
      | some u => wpAny (model prog w) A (letOwnedTupleGo x0 it u) (fun _ s2 => wpAny (model prog w) A (assign x0 env u) (fun _ s3 =>
          wpAny (model prog w) A (tstS c0 env) (fun b s4 => if b = true then wpAny (model prog w) A (eval l1 env) (fun y s5 => wpAny (model prog w) A (pyIter y) (fun it1 s6 =>
              codeAny (model prog w) A (.compStart (sc2 ev x0 l0 x1 l1 c0 c1 sco pos) 1 it1 acc env) (fun r s' => match r with | .ok _ => ∃ m, m < n ∧ I m s' | .error _ => False) s6) (nb prog w A env R) s5) (nb prog w A env R) s4
            else ∃ m, m < n ∧ I m s4) (nb prog w A env R) s3) (nb prog w A env R) s2) (nb prog w A env R) s1) (nb prog w A env R) s)
    (n : Nat) (h : I n s) : codeAny (model prog w) A (.compLoop (sc2 ev x0 l0 x1 l1 c0 c1 sco pos) 0 it acc env) R s := by
  refine codeAny_loop rfl I (fun n s hI => ?_) n h
  show wpAny _ A ((compTurn (sc2 ev x0 l0 x1 l1 c0 c1 sco pos) 0 it acc env).onRaise (fun x => do noteFrame x env; theTreesLotGoes x)) _ _ s
  refine wpAny_noted ?_
  rw [sc2_turn0]
  refine wpAny_bind (wpAny_standAt (wpAny_bind (wpAny_mono (turn n s hI) (fun r s1 h1 => ?_) fun _ _ q => q)))
  cases r with
  | none => exact wpAny_pure h1
  | some u =>
    refine wpAny_bind (wpAny_mono h1 (fun _ s2 h2 => wpAny_bind (wpAny_mono h2 (fun _ s3 h3 => wpAny_bind (wpAny_mono h3 (fun b s4 h4 => ?_) fun _ _ q => q)) fun _ _ q => q)) fun _ _ q => q)
    cases b with
    | false => exact wpAny_pure ⟨rfl, h4⟩
    | true =>
      refine wpAny_bind (wpAny_mono h4 (fun y s5 h5 => ?_) fun _ _ q => q)
      refine wpAny_bind (wpAny_standAt (wpAny_bind (wpAny_of_eq (hs y) (wpAny_bind (wpAny_holding (wpAny_mono h5 (fun it1 s6 h6 => ?_) fun _ _ q => q))))))
      refine wpAny_bind (wpAny_runOwn ?_)
      rw [Around.mark_none]
      refine codeAny_mono h6 fun r s' hr => ?_
      cases r with
      | ok f => first | exact wpAny_pure ⟨rfl, hr⟩ | exact wpAny_bind (wpAny_pure (wpAny_pure ⟨rfl, hr⟩))
      | error e => exact hr.elim
theorem sc2_loop1 (I : Nat → Shared → Prop)
    (turn : ∀ n s, I n s → wpAny (model prog w) A (pyNext it) (fun r s1 => match r with
      | none => R (.ok .next) s1
      | some u => wpAny (model prog w) A (letOwnedTupleGo x1 it u) (fun _ s2 => wpAny (model prog w) A (assign x1 env u) (fun _ s3 =>
          wpAny (model prog w) A (tstS c1 env) (fun b s4 => if b = true then wpAny (model prog w) A (eval ev env) (fun y s5 => wpAny (model prog w) A (call (.builtin "set.add") [acc, y]) (fun _ s6 => ∃ m, m < n ∧ I m s6) (nb prog w A env R) s5) (nb prog w A env R) s4
            else ∃ m, m < n ∧ I m s4) (nb prog w A env R) s3) (nb prog w A env R) s2) (nb prog w A env R) s1) (nb prog w A env R) s)
    (n : Nat) (h : I n s) : codeAny (model prog w) A (.compLoop (sc2 ev x0 l0 x1 l1 c0 c1 sco pos) 1 it acc env) R s := by
  refine codeAny_loop rfl I (fun n s hI => ?_) n h
  show wpAny _ A ((compTurn (sc2 ev x0 l0 x1 l1 c0 c1 sco pos) 1 it acc env).onRaise (fun x => do noteFrame x env; theTreesLotGoes x)) _ _ s
  refine wpAny_noted ?_
  rw [sc2_turn1]
  refine wpAny_bind (wpAny_standAt (wpAny_bind (wpAny_mono (turn n s hI) (fun r s1 h1 => ?_) fun _ _ q => q)))
  cases r with
  | none => exact wpAny_pure h1
  | some u =>
    refine wpAny_bind (wpAny_mono h1 (fun _ s2 h2 => wpAny_bind (wpAny_mono h2 (fun _ s3 h3 => wpAny_bind (wpAny_mono h3 (fun b s4 h4 => ?_) fun _ _ q => q)) fun _ _ q => q)) fun _ _ q => q)
    cases b with
    | false => exact wpAny_pure ⟨rfl, h4⟩
    | true => exact wpAny_bind (wpAny_bind (wpAny_mono h4 (fun y s5 h5 => wpAny_bind (wpAny_standAt (wpAny_bind (wpAny_mono h5 (fun _ s6 h6 => wpAny_pure (wpAny_pure ⟨rfl, h6⟩)) fun _ _ q => q)))) fun _ _ q => q))
theorem sc2_start1 (h0 : codeAny (model prog w) A (.compLoop (sc2 ev x0 l0 x1 l1 c0 c1 sco pos) 1 it acc env) R s)
    (h : wpAny (model prog w) A (pyIter it) (fun it' s' => codeAny (model prog w) A (.compLoop (sc2 ev x0 l0 x1 l1 c0 c1 sco pos) 1 it' acc env) R s') (nb prog w A env R) s) :
    codeAny (model prog w) A (.compStart (sc2 ev x0 l0 x1 l1 c0 c1 sco pos) 1 it acc env) R s := by
  refine codeAny_of_tree ?_
  show wpAny _ _ ((compStart (sc2 ev x0 l0 x1 l1 c0 c1 sco pos) 1 it acc env).onRaise (fun x => do noteFrame x env; standAt theWindowsPlace)) _ _ s
  refine wpAny_notedAt ?_
  unfold compStart
  show wpAny _ _ (ask >>= _) _ _ s
  refine wpAny_bind (wpAny_askSetting (wpAny_ite ?_))
  split
  · first | exact wpAny_bind (wpAny_pure (wpAny_pure ⟨rfl, h0⟩)) | exact wpAny_pure ⟨rfl, h0⟩
  · first
      | exact wpAny_bind (wpAny_rule (wpAny_bind (wpAny_standAt (wpAny_bind (wpAny_mono h (fun _ _ z => wpAny_pure ⟨rfl, z⟩) fun _ _ x => x)))))
      | (refine wpAny_bind (wpAny_rule ?_); show wpAny _ _ (standAt l1.pos >>= _) _ _ s; exact wpAny_bind (wpAny_standAt (wpAny_bind (wpAny_mono h (fun _ _ z => wpAny_pure ⟨rfl, z⟩) fun _ _ x => x))))
end
def Has (w : World) (h : Heap) (D : Addr) (acc : List Int) : Prop := ∃ n, SetR w h D (fun k => decide (k ∈ acc)) n ∧ n ≤ acc.length
theorem Has.keep {w : World} {h h' : Heap} {D : Addr} {acc : List Int} (R : Has w h D acc) (k : ∀ o, h.get? D = some o → h'.get? D = some o) : Has w h' D acc := let ⟨n, r, l⟩ := R; ⟨n, r.at k, l⟩
theorem Has.ob {w : World} {h : Heap} {D : Addr} {acc : List Int} (R : Has w h D acc) : ∃ o, h.get? D = some o ∧ ∀ v, o.data ≠ .cell v := by
  obtain ⟨n, ⟨o, es, ep, t, ho, _, hd, _⟩, _⟩ := R
  exact ⟨o, ho, fun v z => by rw [hd] at z; cases z⟩
section
variable {X Y : Cx} {pins ps : List (Addr × Obj)} {σ τ : L2.St} {s0 s : Shared} {H0 H : Hp} {sco : Scope} {own : List (Str × Nat)} {D : Addr} {acc : List Int} {fp : List Addr}
theorem has_add {A : Around} {E : Value → Shared → Prop} {k : Int} {tk : Tok} {Q : Value → Shared → Prop} (I : Inv Y ps τ H s) (f : FpOk Y ps H D) (R : Has Y.w s.heap D acc) (room : acc.length + 1 < scanBound)
    (q : ∀ s', Inv Y ps τ H s' → Has Y.w s'.heap D (acc ++ [k]) → (∀ b o, b ≠ D → s.heap.get? b = some o → s'.heap.get? b = some o) → Q .none s') : wpAny (model Y.prog Y.w) A (call (.builtin "set.add") [.ref D, .int k tk]) Q E s := by
  obtain ⟨n, r, l⟩ := R
  refine setR_add r (by omega) fun h' sb r' => q _ (I.turned (t' := s.toks + 1) (fun b o hb e => (sb.2 b hb).trans e) f.1 f.2.1 f.2.2.2.1 f.2.2.2.2.1 f.2.2.2.2.2) ⟨_, r'.congr fun j => ?_, ?_⟩ fun b o hb e => (sb.2 b hb).trans e
  · by_cases h1 : j ∈ acc <;> by_cases h2 : j = k <;> simp [h1, h2]
  · rw [List.length_append]
    show (if _ then n else n + 1) ≤ _
    split <;> simp <;> omega
theorem own_fp (I : Inv (bCx X sco fp s0 H0) ps τ H s) {b : Addr} (hb : b ∈ fp) (out : H b = none) (ne : ∀ p ∈ ps, p.1 ≠ b) : FpOk (bCx X sco fp s0 H0) ps H b :=
  ⟨out, (I.ok.exf b hb).1, I.ok.exfs b hb, .inl hb, (I.ok.exf b hb).2, fun p hp => ne p hp⟩
def tSS (wi : TI) (g : TG) (tt : TT) (wi1 : TI) (g1 : TG) (tt1 : TT) (te : TE) (vs vs1 : List Nat) : TE := fun σ H Q => wi σ H fun J H1 => ∃ W : Nat → Nat → List Int → Hp → Prop, (∃ m, W 0 m [] H1) ∧ ∀ i m acc H, W i m acc H →
  (J.stop i H ∧ acc.length < 64 ∧ ∀ (ns : List Int) (p : Addr), ns.Pairwise (· < ·) → (∀ k, k ∈ ns ↔ k ∈ acc) → H p = none → Q (.ref p) (upd H p (.lst (ns.map V.int)))) ∨
  (J.go i H ∧ ∃ N : List Int → Hp → Prop, (∀ ac H', N ac H' → ∃ m', m' < m ∧ W (i + 1) m' ac H') ∧ ∀ x H', J.yld i H x H' → g x (wipe σ vs) H' fun σ2 H2 => wipe σ2 vs = wipe σ vs ∧ tt σ2 H2 fun b H3 =>
    if b = true then wi1 σ2 H3 fun J1 H4 => ∃ W1 : Nat → Nat → List Int → Hp → Prop, (∃ k, W1 0 k acc H4) ∧ ∀ j k ac H, W1 j k ac H →
      (J1.stop j H ∧ N ac H) ∨ (J1.go j H ∧ ∃ N1 : List Int → Hp → Prop, (∀ a2 H', N1 a2 H' → ∃ k', k' < k ∧ W1 (j + 1) k' a2 H') ∧ ∀ x H', J1.yld j H x H' → g1 x (wipe σ2 vs1) H' fun σ3 H5 => wipe σ3 vs1 = wipe σ2 vs1 ∧ tt1 σ3 H5 fun b H6 =>
        if b = true then te σ3 H6 fun y H7 => ∃ k, y = .int k ∧ ac.length + 1 < scanBound ∧ N1 (ac ++ [k]) H7 else N1 ac H6)
    else N acc H3)
def SsEnd (X : Cx) (pins : List (Addr × Obj)) (σ : L2.St) (Q : VK) (v : Value) (s : Shared) : Prop :=
  ∃ D acc H, v = .ref D ∧ Inv X pins σ H s ∧ Has X.w s.heap D acc ∧ acc.length < 64 ∧ ∀ (ns : List Int) (p : Addr), ns.Pairwise (· < ·) → (∀ k, k ∈ ns ↔ k ∈ acc) → H p = none → Q (.ref p) (upd H p (.lst (ns.map V.int)))
theorem ss_comp {Q : VK} {ev x0 l0 x1 l1 : Expr} {c0 c1 : List Expr} {pos pos' : Pos} {vs1 : List Nat} {wi wi1 : TI} {g g1 : TG} {tt tt1 : TT} {te : TE} (calm : X.calm = true) (nd : X.N.Nodup) (I : Inv X pins σ H s) (pi : PI X x0 l0 wi) (blk : BlkOk X.N X.env.scope sco own) (hv : ∀ i ∈ vs1, i ∈ own.map (·.2))
    (pg : ∀ (s : Shared) (H : Hp) (C : Addr) (cl : List (Str × Addr)) (fp : List Addr), PG (X.blk s H sco (compEnvC sco cl C X.env) fp) x0 g)
    (pt : ∀ (s : Shared) (H : Hp) (C : Addr) (cl : List (Str × Addr)) (fp : List Addr), PTs (X.blk s H sco (compEnvC sco cl C X.env) fp) c0 tt)
    (pi1 : ∀ (s : Shared) (H : Hp) (C : Addr) (cl : List (Str × Addr)) (fp : List Addr), PI (X.blk s H sco (compEnvC sco cl C X.env) fp) x1 l1 wi1)
    (pg1 : ∀ (s : Shared) (H : Hp) (C : Addr) (cl : List (Str × Addr)) (fp : List Addr), PG (X.blk s H sco (compEnvC sco cl C X.env) fp) x1 g1)
    (pt1 : ∀ (s : Shared) (H : Hp) (C : Addr) (cl : List (Str × Addr)) (fp : List Addr), PTs (X.blk s H sco (compEnvC sco cl C X.env) fp) c1 tt1)
    (pe : ∀ (s : Shared) (H : Hp) (C : Addr) (cl : List (Str × Addr)) (fp : List Addr), PE (X.blk s H sco (compEnvC sco cl C X.env) fp) ev te)
    (fs : ∀ z, foldedSetIterable l0 X.env z = pure z) (fs1 : ∀ env z, foldedSetIterable l1 env z = pure z)
    (h : tSS wi g tt wi1 g1 tt1 te (own.map (·.2)) vs1 σ H Q) :
    wpAny (model X.prog X.w) X.A (comprehension (sc2 ev x0 l0 x1 l1 c0 c1 sco pos) sco X.env pos' (PySem.newSet (.type "set")) false (eval l0 X.env) none) (SsEnd X pins σ Q) X.xe s := by
  refine wpAny_comprehension_free (use := none) rfl fs (closure_ok fun y hy e => (blk.free y hy e).elim (fun z => I.ok.has _ (.inl z)) fun z => I.ok.has _ (.inr z)) blk.kind (fun y hy e => by rw [blk.uniq y hy, e]) (thn (pi.run pins s σ H _ I h) fun _ _ hx => thn hx fun _ s2 hy => ?_)
  obtain ⟨it, fp, tn, J, H2, rfl, I2, T, t2, f2, q⟩ := hy
  refine PpSet.newSet_ok (newEnv_comp ?_)
  obtain ⟨W, ⟨m0, w0⟩, turn⟩ := q
  have nD : H2 s2.heap.objs.size = none := I2.hok.fresh (Nat.le_refl _)
  have lt : ∀ b ∈ fp, b < s2.heap.objs.size := fun b hb => let ⟨_, e, _⟩ := T.obj _ _ t2 b hb; Heap.lt_size e
  have nDf : ∀ b ∈ fp, b ≠ s2.heap.objs.size := fun b hb => Nat.ne_of_lt (lt b hb)
  have I3 : Inv X pins σ H2 { s2 with heap := s2.heap.push { cls := .type "set", dict := none, data := .set #[] 0 (.fresh 0 0 (!X.w.params.followText "set-order")) } } := I2.turned (t' := s2.toks) (it := s2.heap.objs.size) (fun b o _ e => Heap.get?_push_of_some _ e) nD (I2.fpOk (Nat.le_refl _) nD).2.1 (I2.fpOk (Nat.le_refl _) nD).2.2.2.1 (I2.fpOk (Nat.le_refl _) nD).2.2.2.2.1 (I2.fpOk (Nat.le_refl _) nD).2.2.2.2.2
  have R3 : Has X.w (s2.heap.push { cls := .type "set", dict := none, data := .set #[] 0 (.fresh 0 0 (!X.w.params.followText "set-order")) }) s2.heap.objs.size [] := ⟨0, (setR_fresh X.w).congr fun k => by simp, Nat.le_refl _⟩
  have t3 : tn 0 (s2.heap.push { cls := .type "set", dict := none, data := .set #[] 0 (.fresh 0 0 (!X.w.params.followText "set-order")) }) := T.keep _ _ _ t2 fun b _ o e => Heap.get?_push_of_some _ e
  have O : Outer X pins σ { s2 with heap := s2.heap.push { cls := .type "set", dict := none, data := .set #[] 0 (.fresh 0 0 (!X.w.params.followText "set-order")) } } H2 (s2.heap.objs.size :: fp) := ⟨I3, fun b hb => by
    rcases List.mem_cons.mp hb with rfl | hb
    · exact ⟨I2.fpOk (Nat.le_refl _) nD, by rw [Heap.size_push]; exact Nat.lt_succ_self _⟩
    · exact ⟨f2 b hb, by rw [Heap.size_push]; exact Nat.lt_succ_of_lt (lt b hb)⟩⟩
  generalize hD : s2.heap.objs.size = D at *
  generalize hs3 : ({ s2 with heap := s2.heap.push { cls := .type "set", dict := none, data := .set #[] 0 (.fresh 0 0 (!X.w.params.followText "set-order")) } } : Shared) = s3 at *
  have h3 : s3.heap = s2.heap.push { cls := .type "set", dict := none, data := .set #[] 0 (.fresh 0 0 (!X.w.params.followText "set-order")) } := by rw [← hs3]
  rw [← h3] at R3 t3
  show codeAny _ _ (.compStart (sc2 ev x0 l0 x1 l1 c0 c1 sco pos) 0 (.ref it) (.ref D) (bEnv X sco s3)) (compPost (model X.prog X.w) X.A X.xe none (SsEnd X pins σ Q) (.ref D) s3.heap.objs.size) { s3 with heap := pushCells (s3.heap.push { cls := .type "dict", data := .dict #[] }) sco.names }
  have kp4 : ∀ b o, s3.heap.get? b = some o → (pushCells (s3.heap.push { cls := .type "dict", data := .dict #[] }) sco.names).get? b = some o := fun b o e => pushCells_keeps _ _ _ _ (Heap.get?_push_of_some _ e)
  have I4 := block_start O.inv blk nd O.cells
  have gg := pg s3 H2 s3.heap.objs.size (cellsFrom (s3.heap.objs.size + 1) sco.names (cloFrom X.env.cells sco.names [])) (D :: fp)
  have gt := pt s3 H2 s3.heap.objs.size (cellsFrom (s3.heap.objs.size + 1) sco.names (cloFrom X.env.cells sco.names [])) (D :: fp)
  have gi1 := pi1 s3 H2 s3.heap.objs.size (cellsFrom (s3.heap.objs.size + 1) sco.names (cloFrom X.env.cells sco.names [])) (D :: fp)
  have gg1 := pg1 s3 H2 s3.heap.objs.size (cellsFrom (s3.heap.objs.size + 1) sco.names (cloFrom X.env.cells sco.names [])) (D :: fp)
  have gt1 := pt1 s3 H2 s3.heap.objs.size (cellsFrom (s3.heap.objs.size + 1) sco.names (cloFrom X.env.cells sco.names [])) (D :: fp)
  have ge := pe s3 H2 s3.heap.objs.size (cellsFrom (s3.heap.objs.size + 1) sco.names (cloFrom X.env.cells sco.names [])) (D :: fp)
  have dm : D ∈ D :: fp := List.mem_cons_self
  have loop : codeAny (model X.prog X.w) X.A (.compLoop (sc2 ev x0 l0 x1 l1 c0 c1 sco pos) 0 (.ref it) (.ref D) (bEnv X sco s3)) (compPost (model X.prog X.w) X.A X.xe none (SsEnd X pins σ Q) (.ref D) s3.heap.objs.size) { s3 with heap := pushCells (s3.heap.push { cls := .type "dict", data := .dict #[] }) sco.names } := by
    refine sc2_loop0 (fs1 _) (fun n s' => ∃ i acc H', Inv (bCx X sco (D :: fp) s3 H2) [] (wipe σ (own.map (·.2))) H' s' ∧ tn i s'.heap ∧ (∀ b ∈ D :: fp, H' b = none) ∧ Has X.w s'.heap D acc ∧ W i n acc H') ?_ m0 ⟨0, [], H2, I4, T.keep _ _ _ t3 (fun b _ o e => kp4 b o e), fun b hb => (O.cells b hb).1.1, R3.keep (fun o e => kp4 D o e), w0⟩
    rintro n s5 ⟨i, acc, H5, I5, a5, n5, R5, w5⟩
    have fD : FpOk (bCx X sco (D :: fp) s3 H2) [] H5 D := own_fp I5 dm (n5 D dm) fun _ z => nomatch z
    have P5 : Inv (bCx X sco (D :: fp) s3 H2) ([] ++ pinsAt [D] s5.heap) (wipe σ (own.map (·.2))) H5 s5 := I5.pinned (fp := [D]) (fun b hb => by rw [List.mem_singleton.mp hb]; exact fD) fun b hb => by rw [List.mem_singleton.mp hb]; exact R5.ob
    have only : ∀ {h : Heap}, ∀ p ∈ ([] ++ pinsAt [D] h : List (Addr × Obj)), p.1 = D := fun p hp => List.mem_singleton.mp (of_pinsAt (show p ∈ pinsAt [D] _ from hp)).1
    have f5 : ∀ b ∈ fp, FpOk (bCx X sco (D :: fp) s3 H2) ([] ++ pinsAt [D] s5.heap) H5 b := fun b hb => own_fp P5 (List.mem_cons_of_mem _ hb) (n5 b (List.mem_cons_of_mem _ hb)) fun p hp => by rw [only p hp]; exact fun z => nDf b hb z.symm
    rcases turn i n acc H5 w5 with ⟨stop, qq⟩ | ⟨go, N, less, each⟩
    · refine thn (T.done (bCx X sco (D :: fp) s3 H2) rfl rfl rfl calm i _ s5 _ H5 _ P5 f5 a5 stop) fun r s6 ⟨hr, I6⟩ => ?_
      subst hr
      have R6 : Has X.w s6.heap D acc := R5.keep fun o e => (I6.pin (D, o) (List.mem_append_right _ (List.mem_append_right _ (mem_pinsAt List.mem_cons_self e)))).1
      obtain ⟨I7, f7, m, n7⟩ := O.back I6.unpinned
      have neC : D ≠ s3.heap.objs.size := by rw [h3, Heap.size_push, ← hD]; exact Nat.ne_of_lt (Nat.lt_succ_self _)
      exact ⟨m, n7, fun h'' sb => ⟨D, acc, H5, rfl, I7.turned (t' := s6.toks) (fun b o hb e => (sb.2 b hb).trans e) f7.1 f7.2.1 f7.2.2.2.1 f7.2.2.2.2.1 f7.2.2.2.2.2, R6.keep fun o e => (sb.2 D neC).trans e, qq⟩⟩
    · refine thn (T.item (bCx X sco (D :: fp) s3 H2) rfl rfl rfl calm i _ s5 _ H5 _ P5 f5 a5 go) fun r s6 ⟨u, hr, h6⟩ => ?_
      subst hr
      refine thn h6 fun _ s7 ⟨x, H7, I7, rx, y7, a7, n7⟩ => ?_
      have R7 : Has X.w s7.heap D acc := R5.keep fun o e => (I7.pin (D, o) (List.mem_append_right _ (List.mem_append_right _ (mem_pinsAt List.mem_cons_self e)))).1
      have nD7 : H7 D = none := by
        obtain ⟨o, e, _⟩ := R5.ob
        exact (I7.pin (D, o) (List.mem_append_right _ (List.mem_append_right _ (mem_pinsAt List.mem_cons_self e)))).2.1
      have n7' : ∀ b ∈ D :: fp, H7 b = none := fun b hb => by
        rcases List.mem_cons.mp hb with rfl | hb
        · exact nD7
        · exact n7 b hb
      have ob7 : ∀ b ∈ D :: fp, ∃ o, s7.heap.get? b = some o ∧ ∀ v, o.data ≠ .cell v := fun b hb => by
        rcases List.mem_cons.mp hb with rfl | hb
        · exact R7.ob
        · exact T.obj _ _ a7 b hb
      have J7 := (I7.unpinned (pins := [])).pinned (fp := D :: fp) (fun b hb => own_fp I7.unpinned hb (n7' b hb) fun _ z => nomatch z) ob7
      have fin : ∀ {τ' : L2.St} {ac : List Int} {s' : Shared} {H' : Hp}, Inv (bCx X sco (D :: fp) s3 H2) [] τ' H' s' → (wipe σ (own.map (·.2))).length = τ'.length → (∀ (j : Nat) v, (wipe σ (own.map (·.2)))[j]? = some (some v) → τ'[j]? = some (some v)) → (∀ b ∈ fp, (∀ o, s7.heap.get? b = some o → s'.heap.get? b = some o) ∧ H' b = none) → H' D = none → Has X.w s'.heap D ac → N ac H' →
          ∃ m, m < n ∧ ∃ i acc H', Inv (bCx X sco (D :: fp) s3 H2) [] (wipe σ (own.map (·.2))) H' s' ∧ tn i s'.heap ∧ (∀ b ∈ D :: fp, H' b = none) ∧ Has X.w s'.heap D acc ∧ W i m acc H' := fun I' hl hk kf kd R' hN =>
        let ⟨m, lm, w⟩ := less _ _ hN
        ⟨m, lm, i + 1, _, _, I'.weak hl hk, T.keep _ _ _ a7 fun b hb o e => (kf b hb).1 o e, fun b hb => (by
          rcases List.mem_cons.mp hb with rfl | hb
          · exact kd
          · exact (kf b hb).2), R', w⟩
      have pin7 : ∀ {τ' : L2.St} {H' : Hp} {s' : Shared} {pl : List (Addr × Obj)}, Inv (bCx X sco (D :: fp) s3 H2) (([] ++ pinsAt (D :: fp) s7.heap) ++ pl) τ' H' s' → ∀ b ∈ D :: fp, (∀ o, s7.heap.get? b = some o → s'.heap.get? b = some o) ∧ H' b = none := fun {τ' H' s' pl} I' b hb =>
        ⟨fun o e => (I'.pin (b, o) (List.mem_append_right _ (List.mem_append_left _ (List.mem_append_right _ (mem_pinsAt hb e))))).1, by
          obtain ⟨o, e, _⟩ := ob7 b hb
          exact (I'.pin (b, o) (List.mem_append_right _ (List.mem_append_left _ (List.mem_append_right _ (mem_pinsAt hb e))))).2.1⟩
      have pin7' : ∀ {τ' : L2.St} {H' : Hp} {s' : Shared}, Inv (bCx X sco (D :: fp) s3 H2) ([] ++ pinsAt (D :: fp) s7.heap) τ' H' s' → ∀ b ∈ D :: fp, (∀ o, s7.heap.get? b = some o → s'.heap.get? b = some o) ∧ H' b = none := fun {τ' H' s'} I' => pin7 (pl := []) (by rw [List.append_nil]; exact I')
      refine thnF (gg.run _ s7 _ H7 x u _ J7 rx (each x H7 y7)) fun _ s8 ⟨τ8, H8, I8, e8, q8⟩ => ?_
      have hl8 : (wipe σ (own.map (·.2))).length = τ8.length := by rw [← e8, wipe_length]
      have hk8 : ∀ (j : Nat) v, (wipe σ (own.map (·.2)))[j]? = some (some v) → τ8[j]? = some (some v) := fun j v e => (wipe_some (by rw [← e8] at e; exact e)).1
      refine thnF (gt.run _ s8 τ8 H8 _ I8 q8) fun b s9 ⟨H9, I9, q9⟩ => ?_
      have p9 := pin7' I9
      have R9 : Has X.w s9.heap D acc := R7.keep (p9 D dm).1
      cases b with
      | false => exact fin I9.unpinned hl8 hk8 (fun b hb => p9 b (List.mem_cons_of_mem _ hb)) (p9 D dm).2 R9 (by simpa using q9)
      | true =>
        rw [if_pos rfl] at q9 ⊢
        refine thnF (gi1.run _ s9 τ8 H9 _ I9 q9) fun xv s10 hx => thnF hx fun itv s11 h11 => ?_
        obtain ⟨it1, fp1, tn1, J1, H11, rfl, I11, T1, a11, f11, W1, ⟨k1, v1⟩, turn1⟩ := h11
        have p11 := pin7' I11
        have nD1 : ∀ b ∈ fp1, b ∉ D :: fp := fun b hb z => by
          obtain ⟨o, e, _⟩ := ob7 b z
          exact (f11 b hb).2.2.2.2.2 (b, o) (List.mem_append_right _ (List.mem_append_right _ (mem_pinsAt z e))) rfl
        have hk9 : ∀ (j : Nat) v, (wipe σ (own.map (·.2)))[j]? = some (some v) → (wipe τ8 vs1)[j]? = some (some v) := fun j v e => by
          obtain ⟨z1, z2⟩ := wipe_some (by rw [← e8] at e; exact e)
          rw [wipe_out fun z => z2 (hv j z)]
          exact z1
        have loop1 : codeAny (model X.prog X.w) X.A (.compLoop (sc2 ev x0 l0 x1 l1 c0 c1 sco pos) 1 (.ref it1) (.ref D) (bEnv X sco s3))
            (fun r s' => match r with | .ok _ => ∃ m, m < n ∧ ∃ i acc H', Inv (bCx X sco (D :: fp) s3 H2) [] (wipe σ (own.map (·.2))) H' s' ∧ tn i s'.heap ∧ (∀ b ∈ D :: fp, H' b = none) ∧ Has X.w s'.heap D acc ∧ W i m acc H' | .error _ => False) s11 := by
          refine sc2_loop1 (fun k s' => ∃ j ac H', Inv (bCx X sco (D :: fp) s3 H2) ([] ++ pinsAt fp s7.heap) (wipe τ8 vs1) H' s' ∧ tn1 j s'.heap ∧ (∀ b ∈ fp1, FpOk (bCx X sco (D :: fp) s3 H2) ([] ++ pinsAt fp s7.heap) H' b) ∧ H' D = none ∧ Has X.w s'.heap D ac ∧ W1 j k ac H') ?_ k1
            ⟨0, acc, H11, (I11.pins_of fun p hp => I11.pin p (List.mem_append_right _ (by
              obtain ⟨z1, z2⟩ := of_pinsAt (show p ∈ pinsAt fp s7.heap from hp)
              exact List.mem_append_right _ (mem_pinsAt (List.mem_cons_of_mem _ z1) z2)))).weak (wipe_length _ _) (fun j v e => (wipe_some e).1), a11, fun b hb => ⟨(f11 b hb).1, (f11 b hb).2.1, (f11 b hb).2.2.1, (f11 b hb).2.2.2.1, (f11 b hb).2.2.2.2.1, fun p hp => fun z => nD1 b hb (List.mem_cons_of_mem _ (z ▸ (of_pinsAt (show p ∈ pinsAt fp s7.heap from hp)).1))⟩, (p11 D dm).2, R7.keep (p11 D dm).1, v1⟩
          rintro k s12 ⟨j, ac, H12, I12, a12, f12, d12, R12, w12⟩
          have pfp : ∀ {τ' : L2.St} {H' : Hp} {s' : Shared} {pl : List (Addr × Obj)}, Inv (bCx X sco (D :: fp) s3 H2) (([] ++ pinsAt fp s7.heap) ++ pl) τ' H' s' → ∀ b ∈ fp, (∀ o, s7.heap.get? b = some o → s'.heap.get? b = some o) ∧ H' b = none := fun {τ' H' s' pl} I' b hb =>
            ⟨fun o e => (I'.pin (b, o) (List.mem_append_right _ (List.mem_append_left _ (List.mem_append_right _ (mem_pinsAt hb e))))).1, by
              obtain ⟨o, e, _⟩ := ob7 b (List.mem_cons_of_mem _ hb)
              exact (I'.pin (b, o) (List.mem_append_right _ (List.mem_append_left _ (List.mem_append_right _ (mem_pinsAt hb e))))).2.1⟩
          have nDp : ∀ p ∈ ([] ++ pinsAt fp s7.heap : List (Addr × Obj)), p.1 ≠ D := fun p hp => nDf _ (of_pinsAt (show p ∈ pinsAt fp s7.heap from hp)).1
          have fD12 := own_fp I12 dm d12 nDp
          have P12 := I12.pinned (fp := [D]) (fun b hb => by rw [List.mem_singleton.mp hb]; exact fD12) fun b hb => by rw [List.mem_singleton.mp hb]; exact R12.ob
          have onl : ∀ {p : Addr × Obj} {h : Heap}, p ∈ pinsAt [D] h → p.1 = D := fun hp => List.mem_singleton.mp (of_pinsAt hp).1
          have wide : ∀ {H' : Hp} {h : Heap} {b : Addr}, b ∈ fp1 → FpOk (bCx X sco (D :: fp) s3 H2) ([] ++ pinsAt fp s7.heap) H' b → FpOk (bCx X sco (D :: fp) s3 H2) (([] ++ pinsAt fp s7.heap) ++ pinsAt [D] h) H' b := fun {H' h b} hb f => ⟨f.1, f.2.1, f.2.2.1, f.2.2.2.1, f.2.2.2.2.1, fun p hp => by
            rcases List.mem_append.mp (show p ∈ ([] ++ pinsAt fp s7.heap) ++ pinsAt [D] h from hp) with z | z
            · exact f.2.2.2.2.2 p z
            · rw [onl z]; exact fun z => nD1 b hb (by rw [← z]; exact dm)⟩
          have nar : ∀ {H' : Hp} {b : Addr}, H' b = none → FpOk (bCx X sco (D :: fp) s3 H2) ([] ++ pinsAt fp s7.heap) H12 b → FpOk (bCx X sco (D :: fp) s3 H2) ([] ++ pinsAt fp s7.heap) H' b := fun h f => ⟨h, f.2⟩
          rcases turn1 j k ac H12 w12 with ⟨stop1, nx⟩ | ⟨go1, N1, less1, each1⟩
          · refine thn (T1.done (bCx X sco (D :: fp) s3 H2) rfl rfl rfl calm j _ s12 (wipe τ8 vs1) H12 _ P12 (fun b hb => wide hb (f12 b hb)) a12 stop1) fun r s13 ⟨hr, I13⟩ => ?_
            subst hr
            have d13 := fun o (e : s12.heap.get? D = some o) => (I13.pin (D, o) (List.mem_append_right _ (List.mem_append_right _ (mem_pinsAt List.mem_cons_self e)))).1
            exact fin (I13.pins_of fun p hp => nomatch hp) (hl8.trans (wipe_length τ8 vs1).symm) hk9 (pfp I13) d12 (R12.keep d13) nx
          · refine thn (T1.item (bCx X sco (D :: fp) s3 H2) rfl rfl rfl calm j _ s12 (wipe τ8 vs1) H12 _ P12 (fun b hb => wide hb (f12 b hb)) a12 go1) fun r s13 ⟨u1, hr, h13⟩ => ?_
            subst hr
            refine thn h13 fun _ s14 ⟨z1, H14, I14, r14, y14, a14, n14⟩ => ?_
            have dd : ∀ {τ' : L2.St} {H' : Hp} {s' : Shared} {pl : List (Addr × Obj)}, Inv (bCx X sco (D :: fp) s3 H2) ((([] ++ pinsAt fp s7.heap) ++ pinsAt [D] s12.heap) ++ pl) τ' H' s' → (∀ o, s12.heap.get? D = some o → s'.heap.get? D = some o) ∧ H' D = none := fun {τ' H' s' pl} I' =>
              ⟨fun o e => (I'.pin (D, o) (List.mem_append_right _ (List.mem_append_left _ (List.mem_append_right _ (mem_pinsAt List.mem_cons_self e))))).1, by
                obtain ⟨o, e, _⟩ := R12.ob
                exact (I'.pin (D, o) (List.mem_append_right _ (List.mem_append_left _ (List.mem_append_right _ (mem_pinsAt List.mem_cons_self e))))).2.1⟩
            have Q14 := I14.pinned (fun b hb => wide hb (nar (n14 b hb) (f12 b hb))) (T1.obj _ _ a14)
            refine thnF (gg1.run _ s14 (wipe τ8 vs1) H14 z1 u1 _ Q14 r14 (each1 z1 H14 y14)) fun _ s15 ⟨τ15, H15, I15, e15, q15⟩ => ?_
            refine thnF (gt1.run _ s15 τ15 H15 _ I15 q15) fun b1 s16 ⟨H16, I16, q16⟩ => ?_
            have pf1 : ∀ {τ' : L2.St} {H' : Hp} {s' : Shared}, Inv (bCx X sco (D :: fp) s3 H2) ((([] ++ pinsAt fp s7.heap) ++ pinsAt [D] s12.heap) ++ pinsAt fp1 s14.heap) τ' H' s' → ∀ b ∈ fp1, (∀ o, s14.heap.get? b = some o → s'.heap.get? b = some o) ∧ H' b = none := fun {τ' H' s'} I' b hb =>
              ⟨fun o e => (I'.pin (b, o) (List.mem_append_right _ (List.mem_append_right _ (mem_pinsAt hb e)))).1, by
                obtain ⟨o, e, _⟩ := T1.obj _ _ a14 b hb
                exact (I'.pin (b, o) (List.mem_append_right _ (List.mem_append_right _ (mem_pinsAt hb e)))).2.1⟩
            have fin1 : ∀ {ac' : List Int} {s' : Shared} {H' : Hp}, Inv (bCx X sco (D :: fp) s3 H2) ([] ++ pinsAt fp s7.heap) τ15 H' s' → (∀ b ∈ fp1, (∀ o, s14.heap.get? b = some o → s'.heap.get? b = some o) ∧ H' b = none) → H' D = none → Has X.w s'.heap D ac' → N1 ac' H' →
                ∃ m, m < k ∧ ∃ j ac H', Inv (bCx X sco (D :: fp) s3 H2) ([] ++ pinsAt fp s7.heap) (wipe τ8 vs1) H' s' ∧ tn1 j s'.heap ∧ (∀ b ∈ fp1, FpOk (bCx X sco (D :: fp) s3 H2) ([] ++ pinsAt fp s7.heap) H' b) ∧ H' D = none ∧ Has X.w s'.heap D ac ∧ W1 j m ac H' := fun I' kf kd R' hN =>
              let ⟨m, lm, w⟩ := less1 _ _ hN
              ⟨m, lm, j + 1, _, _, I'.weak (by rw [← e15, wipe_length]) (fun j v e => (wipe_some (by rw [← e15] at e; exact e)).1), T1.keep _ _ _ a14 fun b hb o e => (kf b hb).1 o e, fun b hb => nar (kf b hb).2 (f12 b hb), kd, R', w⟩
            cases b1 with
            | false => exact fin1 (I16.unpinned.unpinned) (pf1 I16) (dd I16).2 (R12.keep (dd I16).1) (by simpa using q16)
            | true =>
              rw [if_pos rfl] at q16 ⊢
              refine thnF (ge.run _ s16 τ15 H16 _ I16 q16) fun yu s17 ⟨yv, H17, I17, r17, kk, ey, room, hN⟩ => ?_
              subst ey
              obtain ⟨tk, rfl⟩ := r17
              have p17 := pf1 I17
              have nd1 : ∀ b ∈ fp1, b ≠ D := fun b hb z => nD1 b hb (by rw [z]; exact dm)
              exact has_add (Y := bCx X sco (D :: fp) s3 H2) I17.unpinned.unpinned (own_fp I17.unpinned.unpinned dm (dd I17).2 nDp) (R12.keep (dd I17).1) room fun s18 I18 R18 k18 => fin1 I18 (fun b hb => ⟨fun o e => k18 b o (nd1 b hb) ((p17 b hb).1 o e), (p17 b hb).2⟩) (dd I17).2 R18 hN
        exact sc2_start1 loop1 (T1.self X.A 0 _ _ _ a11 loop1)
  exact PpSet.codeAny_compStart_set loop (T.self X.A 0 _ _ _ (T.keep _ _ _ t3 fun b _ o e => kp4 b o e) loop)
theorem pe_sortSc2 {ev x0 l0 x1 l1 : Expr} {c0 c1 : List Expr} {p cpos pos : Pos} {vs1 : List Nat} {wi wi1 : TI} {g g1 : TG} {tt tt1 : TT} {te : TE} (calm : X.calm = true) (hg : Gl X "sorted") (hm : X.mg "sorted" = none) (nd : X.N.Nodup) (pi : PI X x0 l0 wi) (blk : BlkOk X.N X.env.scope sco own) (hv : ∀ i ∈ vs1, i ∈ own.map (·.2))
    (pg : ∀ (s : Shared) (H : Hp) (C : Addr) (cl : List (Str × Addr)) (fp : List Addr), PG (X.blk s H sco (compEnvC sco cl C X.env) fp) x0 g)
    (pt : ∀ (s : Shared) (H : Hp) (C : Addr) (cl : List (Str × Addr)) (fp : List Addr), PTs (X.blk s H sco (compEnvC sco cl C X.env) fp) c0 tt)
    (pi1 : ∀ (s : Shared) (H : Hp) (C : Addr) (cl : List (Str × Addr)) (fp : List Addr), PI (X.blk s H sco (compEnvC sco cl C X.env) fp) x1 l1 wi1)
    (pg1 : ∀ (s : Shared) (H : Hp) (C : Addr) (cl : List (Str × Addr)) (fp : List Addr), PG (X.blk s H sco (compEnvC sco cl C X.env) fp) x1 g1)
    (pt1 : ∀ (s : Shared) (H : Hp) (C : Addr) (cl : List (Str × Addr)) (fp : List Addr), PTs (X.blk s H sco (compEnvC sco cl C X.env) fp) c1 tt1)
    (pe : ∀ (s : Shared) (H : Hp) (C : Addr) (cl : List (Str × Addr)) (fp : List Addr), PE (X.blk s H sco (compEnvC sco cl C X.env) fp) ev te)
    (fs : ∀ z, foldedSetIterable l0 X.env z = pure z := by intro _; rfl) (fs1 : ∀ env z, foldedSetIterable l1 env z = pure z := by intro _ _; rfl)
    (na : starEach [sc2 ev x0 l0 x1 l1 c0 c1 sco cpos] X.env = (false, eval (sc2 ev x0 l0 x1 l1 c0 c1 sco cpos) X.env) :: starEach [] X.env := by rfl) :
    PE X (.Call (.Name "sorted" p) [sc2 ev x0 l0 x1 l1 c0 c1 sco cpos] [] pos) (tSS wi g tt wi1 g1 tt1 te (own.map (·.2)) vs1) := by
  refine ⟨fun pins s σ H Q I h => Call_ (ld_blt I hg hm boot_sorted (PyProof.Rows.callWith_builtin1 (PyProof.Rows.args_cons ?_ na) rfl rfl))⟩
  rw [PpSet.eval_SetComp]
  refine thn (ss_comp calm nd I pi blk hv pg pt pi1 pg1 pt1 pe fs fs1 h) fun _ s1 ⟨D, acc, H1, e, I1, ⟨n, R, ln⟩, l64, q⟩ => PyProof.Rows.args_nil ?_
  subst e
  refine sorted_set R (I1.ok.hd calm) (by omega) fun s' b out c ns kk hg' ho hb hl hi hs hm' hn => ?_
  have nb : H1 b = none := I1.hok.fresh hb
  have sz : (ns.map V.int).length ≤ sizeLine := by rw [List.length_map, hn, sizeLine_eq]; omega
  have J : Inv X pins σ (upd H1 b (.lst (ns.map V.int))) s' := I1.call' (ch := []) ho (Un.laid kk hb nb) (I1.hok.laid kk hb ⟨sz, out.toList, c, vals_of_ints hi, hl⟩) (by rw [hg']; exact I1.bare) (fun _ z => nomatch z)
  exact ⟨.ref b, _, J, rfl, q ns b hs (fun k => by rw [hm' k]; exact decide_eq_true_iff) nb⟩
end
end RK
namespace DL
open PySem PySem.Spec PyProof.Rows L2 RK
def sIn (g : TDG) (tt : TDT) (te : TDE) (k : List Int → Prop) (env : De) : List D → List Int → Prop
  | [], acc => k acc
  | x :: xs, acc => g x env fun env' => tt env' fun b => if b = true then te env' fun y => ∃ n, y = .int n ∧ acc.length + 1 < scanBound ∧ sIn g tt te k env xs (acc ++ [n]) else sIn g tt te k env xs acc
def sOut (g : TDG) (tt : TDT) (it1 : TDI) (g1 : TDG) (tt1 : TDT) (te : TDE) (vs1 : List Nat) (P : List Int → Prop) (env : De) : List D → List Int → Prop
  | [], acc => P acc
  | x :: xs, acc => g x env fun env' => tt env' fun b => if b = true then it1 env' fun ys => sIn g1 tt1 te (fun ac => sOut g tt it1 g1 tt1 te vs1 P env xs ac) (wipeE env' vs1) ys acc else sOut g tt it1 g1 tt1 te vs1 P env xs acc
def dSS (it : TDI) (g : TDG) (tt : TDT) (it1 : TDI) (g1 : TDG) (tt1 : TDT) (te : TDE) (vs vs1 : List Nat) : TDE := fun env P => it env fun xs => sOut g tt it1 g1 tt1 te vs1 (fun acc => acc.length < 64 ∧ ∀ ns : List Int, ns.Pairwise (· < ·) → (∀ k, k ∈ ns ↔ k ∈ acc) → P (.lst (ns.map D.int))) (wipeE env vs) xs []
section
variable {X : Cx} {F : Fx}
theorem l_ss {S vs S1 vs1 : List Nat} {it it1 : TDI} {g g1 : TDG} {tt tt1 : TDT} {te : TDE} (hS : ∀ i ∈ S, i ∈ vs) (hS1 : ∀ i ∈ S1, i ∈ vs1) : ∀ σ H Q, lN F (dSS it g tt it1 g1 tt1 te vs vs1) σ H Q → tSS (lIb F it) (lG F S g) (lT F tt) (lI F it1) (lG F S1 g1) (lT F tt1) (lC F te) vs vs1 σ H Q := fun σ H Q ⟨env, L, P, A, pp, q⟩ =>
  ⟨env, L, _, A, pp, fun xs J H1 px k1 o1 ok => by
    have A1 := A.step k1 o1
    have B0 := A1.wipe vs
    let PP : List Int → Prop := fun acc => acc.length < 64 ∧ ∀ ns : List Int, ns.Pairwise (· < ·) → (∀ k, k ∈ ns ↔ k ∈ acc) → P (.lst (ns.map D.int))
    let Z : (List Int → Prop) → List Int → Hp → Prop := fun lp acc H' => Abs F (wipeE env vs) (wipe σ vs) L H' ∧ (∀ a o, ¬ F.W.own a → H1 a = some o → H' a = some o) ∧ lp acc
    refine ⟨fun i m acc H' => Z (fun acc => sOut g tt it1 g1 tt1 te vs1 PP (wipeE env vs) (xs.drop i) acc) acc H' ∧ i ≤ xs.length ∧ m = xs.length - i, ⟨_, ⟨B0, fun a o _ h => h, px⟩, Nat.zero_le _, rfl⟩, ?_⟩
    rintro i m acc H' ⟨⟨B, kk, lp⟩, hi, rfl⟩
    obtain ⟨st, go⟩ := ok (F.N L) H' (fun a o n h => ⟨fun nn => nn, kk a o n h⟩) (fun a h => B.alN h) i
    by_cases hlt : i < xs.length
    · obtain ⟨g1', g2⟩ := go xs[i] (List.getElem?_eq_getElem hlt)
      rw [List.drop_eq_getElem_cons hlt] at lp
      refine .inr ⟨g1', fun ac H2 => Z (fun acc => sOut g tt it1 g1 tt1 te vs1 PP (wipeE env vs) (xs.drop (i + 1)) acc) ac H2, fun ac H2 z => ⟨xs.length - (i + 1), by omega, z, hlt, rfl⟩, fun v H2 hy => ?_⟩
      obtain ⟨sm, dd⟩ := g2 v H2 hy
      have B2 := B.step (same_keep sm) (same_ok B.ok sm)
      refine ⟨_, _, _, _, B2, dd, lp, fun env3 σ3 p3 B3 w3 n3 => ⟨by rw [w3 vs hS]; exact wipe_wipe σ vs, env3, _, _, B3, p3, fun bb H3 p4 k4 o4 => ?_⟩⟩
      have B4 := B3.step k4 o4
      have W4 : Abs F (wipeE env vs) (wipe σ vs) L H3 := B2.step k4 o4
      have kk3 : ∀ a o, ¬ F.W.own a → H1 a = some o → H3 a = some o := fun a o n h => k4 a o n (sm a o (kk a o n h))
      cases bb with
      | false => exact iteF ⟨W4, kk3, p4⟩
      | true =>
        refine iteT ⟨env3, _, _, B4, p4, fun ys J1 H4 p5 k5 o5 ok1 => ?_⟩
        have B5 := B4.step k5 o5
        have W5 := W4.step k5 o5
        let Z1 : Nat → List Int → Hp → Prop := fun jj ac HH => Abs F (wipeE env3 vs1) (wipe σ3 vs1) L HH ∧ Abs F (wipeE env vs) (wipe σ vs) L HH ∧ (∀ a o, ¬ F.W.own a → H1 a = some o → HH a = some o) ∧ (∀ a o, ¬ F.N L a → H4 a = some o → HH a = some o) ∧ sIn g1 tt1 te (fun ac => sOut g tt it1 g1 tt1 te vs1 PP (wipeE env vs) (xs.drop (i + 1)) ac) (wipeE env3 vs1) (ys.drop jj) ac
        refine ⟨fun jj kx ac HH => Z1 jj ac HH ∧ jj ≤ ys.length ∧ kx = ys.length - jj, ⟨_, ⟨B5.wipe vs1, W5, fun a o n h => k5 a o n (kk3 a o n h), fun _ _ _ h => h, p5⟩, Nat.zero_le _, rfl⟩, ?_⟩
        rintro jj kx ac HH ⟨⟨V, Y, kk5, kp5, lp5⟩, hj, rfl⟩
        obtain ⟨st1, go1⟩ := ok1 (F.N L) HH (fun a o n h => ⟨n, kp5 a o n h⟩) (fun a h => V.alN h) jj
        by_cases hlt1 : jj < ys.length
        · obtain ⟨u1, u2⟩ := go1 ys[jj] (List.getElem?_eq_getElem hlt1)
          rw [List.drop_eq_getElem_cons hlt1] at lp5
          refine .inr ⟨u1, fun a2 HH => Z1 (jj + 1) a2 HH, fun a2 HH z => ⟨ys.length - (jj + 1), by omega, z, hlt1, rfl⟩, fun v1 H6 hy1 => ?_⟩
          obtain ⟨sm1, dd1⟩ := u2 v1 H6 hy1
          have V2 := V.step (same_keep sm1) (same_ok V.ok sm1)
          have Y2 := Y.step (same_keep sm1) (same_ok Y.ok sm1)
          refine ⟨_, _, _, _, V2, dd1, lp5, fun env7 σ7 p7 V7 w7 _ => ⟨by rw [w7 vs1 hS1]; exact wipe_wipe σ3 vs1, env7, _, _, V7, p7, fun b1 H8 p8 k8 o8 => ?_⟩⟩
          have V8 := V7.step k8 o8
          have U8 : Abs F (wipeE env3 vs1) (wipe σ3 vs1) L H8 := V2.step k8 o8
          have Y8 := Y2.step k8 o8
          have kk8 : ∀ a o, ¬ F.W.own a → H1 a = some o → H8 a = some o := fun a o n h => k8 a o n (sm1 a o (kk5 a o n h))
          have kp8 : ∀ a o, ¬ F.N L a → H4 a = some o → H8 a = some o := fun a o n h => k8 a o (nw_of V n) (sm1 a o (kp5 a o n h))
          cases b1 with
          | false => exact iteF ⟨U8, Y8, kk8, kp8, p8⟩
          | true =>
            refine iteT ⟨env7, _, _, V8, p8, fun y v' H9 p9 k9 o9 d9 => ?_⟩
            obtain ⟨n, rfl, room, p9⟩ := p9
            cases d9
            exact ⟨n, rfl, room, U8.step k9 o9, Y8.step k9 o9, fun a o m h => k9 a o m (kk8 a o m h), fun a o m h => k9 a o (nw_of V m) (kp8 a o m h), p9⟩
        · have e : ys.drop jj = [] := List.drop_eq_nil_of_le (by omega)
          rw [e] at lp5
          exact .inl ⟨st1 (by omega), Y, kk5, lp5⟩
    · have e : xs.drop i = [] := List.drop_eq_nil_of_le (by omega)
      rw [e] at lp
      obtain ⟨l64, qq⟩ := lp
      have dd : ∀ ns : List Int, DdAll F.K (F.N L) F.W H' (ns.map V.int) (ns.map D.int) := fun ns => by
        induction ns with
        | nil => exact .nil
        | cons n ns ih => exact .cons (.int n) ih
      exact .inl ⟨st (by omega), l64, fun ns p h1 h2 np => q _ p _ (qq ns h1 h2) ((k1.trans fun a o n h => kk a o n h).trans (.new np)) (ok_new B.ok np) (free_of k1 o1 (free_of (fun a o n h => kk a o n h) B.ok np)) (new_lstN B np (dd ns))⟩⟩
end
end DL
namespace DL
open PySem PySem.Spec PyProof.Rows L2 RK
section
variable {X : Cx} {F : Fx} {e : Expr} {d : TDE} {pos p : Pos}
end
end DL
namespace DL
open PySem PySem.Spec PyProof.Rows L2 RK
section
variable {X : Cx} {F : Fx} {e a b : Expr} {d da db : TDE} {pos p : Pos}
end
end DL
namespace DL
open PySem PySem.Spec PyProof.Rows L2 RK
section
variable {X : Cx} {F : Fx} {a b : Expr} {da db : TDE} {pos : Pos}
end
end DL
namespace RK
open PySem PySem.Spec PyProof.Rows L2
variable {P : Program} {w : World} {K : PySem.W.Frag} {mg : Str → Option Value} {base : Heap}
end RK
namespace DL
open PySem PySem.Spec PyProof.Rows L2 RK
section
variable {X : Cx} {F : Fx} {e : Expr} {d : TDE} {pos p : Pos}
end
end DL
namespace RK
open PySem PySem.Calls PyProof.Rows PyProof.V PySem.Spec PySem.W
section
variable {prog : Program} {w : World} {K : Type} [DecidableEq K] {knd : KeyKind prog w K} {A : Around} {E : Value → Shared → Prop} {s : Shared}
end
end RK
namespace DL
open PySem PySem.Spec PyProof.Rows L2 RK
section
variable {X : Cx} {F : Fx} {e a b : Expr} {d da db : TDE} {pos p : Pos}
end
end DL
namespace RK
open PySem PySem.Spec PyProof.Rows L2
open PySem.Sem (wp)
inductive Out : Value → Prop
  | no : Out .none
  | num (T : Addr) : Out (rawInt T)
abbrev ZR (h : Heap) (z : Addr) (o f : Value) (p q : Addr) : Prop :=
  h.get? z = some { cls := .type "zip", dict := none, data := .fields #[o, f, .bool false, .ref p, .ref q], slots := #[] }
theorem lives {prog : Program} {w : World} {A : Around} {E : Value → Shared → Prop} {s : Shared} {t : Addr} {Q : Option Obj → Shared → Prop} (h : Q (s.heap.get? t) s) : wpAny (model prog w) A (loadIfAlive t) Q E s := fun _ _ _ => h
theorem raised {prog : Program} {w : World} {A : Around} {E : Value → Shared → Prop} {s : Shared} {z e p q : Addr} {o f : Value} {Q : Unit → Shared → Prop} (r : ZR s.heap z o f p q) (x : ∃ u, s.heap.get? e = some u ∧ u.cls = .type "StopIteration")
    (k : ∀ h', Heap.SameBut z s.heap h' → (∃ u, h'.get? e = some u ∧ u.cls = .type "StopIteration") → Q () { s with heap := h' }) : wpAny (model prog w) A (setField (.ref z) 0 .none) Q E s :=
  wpAny_setField_rec r (by simp) fun h' _ k1 => k h' k1 (by
    obtain ⟨u, e1, e2⟩ := x
    refine ⟨u, k1.extBut _ _ (fun y => ?_) e1, e2⟩
    subst y
    rw [r] at e1
    cases e1
    exact absurd (show Value.type "zip" = .type "StopIteration" from e2) (by decide))
section
variable {prog : Program} {w : World} {A : Around} {E : Value → Shared → Prop} {z TI TO i1 i2 : Addr} {fp1 fp2 : List Addr} {n1 n2 : Nat} {P1 P2 : Nat → Value → Prop} {St1 St2 : Nat → Heap → Prop}
structure Zs (z TI TO i1 i2 : Addr) (St1 St2 : Nat → Heap → Prop) (h0 : Heap) (m : Nat) (o : Value) (f : Bool) (j1 j2 : Nat) (a b : Value) (h : Heap) : Prop where
  rcd : ZR h z o (.bool f) TI TO
  ins : IsPair h TI (.ref i1) (.ref i2)
  out : IsPair h TO a b
  s1 : St1 j1 h
  s2 : St2 j2 h
  num : h.objs.size = m
  rest : ∀ c u, c ≠ z → c ≠ TO → c ≠ i1 → c ≠ i2 → h0.get? c = some u → h.get? c = some u
variable (S : ZipSep2 z TI TO i1 i2 fp1 fp2) (D1 : Draws prog w A i1 fp1 n1 P1 St1) (D2 : Draws prog w A i2 fp2 n2 P2 St2)
variable {h0 h h' : Heap} {m : Nat} {o o' : Value} {f f' : Bool} {j1 j2 : Nat} {a b a' b' : Value}
include S D1 D2
theorem Zs.note (q : Zs z TI TO i1 i2 St1 St2 h0 m o f j1 j2 a b h) (k : Heap.SameBut z h h') (r : ZR h' z o' (.bool f') TI TO) : Zs z TI TO i1 i2 St1 St2 h0 m o' f' j1 j2 a b h' :=
  ⟨r, k.extBut _ _ S.TIz q.ins, k.extBut _ _ S.TOz q.out, D1.over q.s1 k S.zf1, D2.over q.s2 k S.zf2, k.1.trans q.num, fun c u e1 e2 e3 e4 x => k.extBut _ _ e1 (q.rest c u e1 e2 e3 e4 x)⟩
theorem Zs.write (q : Zs z TI TO i1 i2 St1 St2 h0 m o f j1 j2 a b h) (k : Heap.SameBut TO h h') (r : IsPair h' TO a' b') : Zs z TI TO i1 i2 St1 St2 h0 m o f j1 j2 a' b' h' :=
  ⟨k.extBut _ _ S.TOz.symm q.rcd, k.extBut _ _ S.TITO q.ins, r, D1.over q.s1 k S.Tf1, D2.over q.s2 k S.Tf2, k.1.trans q.num, fun c u e1 e2 e3 e4 x => k.extBut _ _ e2 (q.rest c u e1 e2 e3 e4 x)⟩
theorem Zs.one (q : Zs z TI TO i1 i2 St1 St2 h0 m o f j1 j2 a b h) (k : Heap.SameBut i1 h h') (r : St1 (j1 + 1) h') : Zs z TI TO i1 i2 St1 St2 h0 m o f (j1 + 1) j2 a b h' :=
  ⟨k.extBut _ _ S.zi1 q.rcd, k.extBut _ _ S.TIi1 q.ins, k.extBut _ _ S.Ti1 q.out, r, D2.over q.s2 k S.sep1_2, k.1.trans q.num, fun c u e1 e2 e3 e4 x => k.extBut _ _ e3 (q.rest c u e1 e2 e3 e4 x)⟩
theorem Zs.two (q : Zs z TI TO i1 i2 St1 St2 h0 m o f j1 j2 a b h) (k : Heap.SameBut i2 h h') (r : St2 (j2 + 1) h') : Zs z TI TO i1 i2 St1 St2 h0 m o f j1 (j2 + 1) a b h' :=
  ⟨k.extBut _ _ S.zi2 q.rcd, k.extBut _ _ S.TIi2 q.ins, k.extBut _ _ S.Ti2 q.out, D1.over q.s1 k S.sep2_1, r, k.1.trans q.num, fun c u e1 e2 e3 e4 x => k.extBut _ _ e4 (q.rest c u e1 e2 e3 e4 x)⟩
theorem Zs.more (q : Zs z TI TO i1 i2 St1 St2 h0 m o f j1 j2 a b h) (t : Obj) : Zs z TI TO i1 i2 St1 St2 h0 (m + 1) o f j1 j2 a b (h.push t) := by
  have up : ∀ c u, h.get? c = some u → (h.push t).get? c = some u := fun c u e => Heap.get?_push_of_some _ e
  exact ⟨up _ _ q.rcd, up _ _ q.ins, up _ _ q.out, D1.frame _ _ _ q.s1 fun c _ u e => up c u e, D2.frame _ _ _ q.s2 fun c _ u e => up c u e, by rw [Heap.size_push, q.num], fun c u e1 e2 e3 e4 x => up c u (q.rest c u e1 e2 e3 e4 x)⟩
theorem Zs.draw1 {s : Shared} {Q : Value → Shared → Prop} (q : Zs z TI TO i1 i2 St1 St2 h0 m o f j1 j2 a b s.heap) (l : j1 < n1)
    (k : ∀ x h' t, P1 j1 x → Zs z TI TO i1 i2 St1 St2 h0 m o f (j1 + 1) j2 a b h' → Q x { s with heap := h', toks := t }) : wpAny (model prog w) A (Builtin.SmallTypes.nextOf (.ref i1)) Q E s :=
  D1.item j1 s Q E l q.s1 fun x h' t p st sb => k x h' t p (q.one S D1 D2 sb st)
theorem Zs.draw2 {s : Shared} {Q : Value → Shared → Prop} (q : Zs z TI TO i1 i2 St1 St2 h0 m o f j1 j2 a b s.heap) (l : j2 < n2)
    (k : ∀ x h' t, P2 j2 x → Zs z TI TO i1 i2 St1 St2 h0 m o f j1 (j2 + 1) a b h' → Q x { s with heap := h', toks := t }) : wpAny (model prog w) A (Builtin.SmallTypes.nextOf (.ref i2)) Q E s :=
  D2.item j2 s Q E l q.s2 fun x h' t p st sb => k x h' t p (q.two S D1 D2 sb st)
theorem Zs.ask {s : Shared} {Q : Bool → Shared → Prop} (q : Zs z TI TO i1 i2 St1 St2 h0 m o f j1 j2 a b s.heap) (ho : Out o)
    (k : ∀ y h' f', Zs z TI TO i1 i2 St1 St2 h0 m o f' j1 j2 a b h' → Q y { s with heap := h' }) : wpAny (model prog w) A (Builtin.SmallTypes.ownedTupleIsFree (.ref z)) Q E s := by
  unfold Builtin.SmallTypes.ownedTupleIsFree
  refine wpAny_bind (wpAny_field q.rcd rfl (x := o) rfl ?_)
  cases ho with
  | no => exact wpAny_pure (k true s.heap f q)
  | num T =>
    refine wpAny_bind (lives ?_)
    generalize s.heap.get? _ = al
    cases al with
    | none => exact wpAny_pure (k true s.heap f q)
    | some u =>
      refine wpAny_bind (wpAny_field q.rcd rfl (x := .bool f) rfl ?_)
      cases f with
      | true => exact wpAny_pure (k false s.heap true q)
      | false => exact wpAny_bind (wpAny_setField_rec q.rcd (by simp) fun h' r sb => wpAny_pure (k false h' true (q.note S D1 D2 sb r)))
theorem Zs.put {s : Shared} {β : Type} {r : Sem β} {Q : β → Shared → Prop} {x : Value} (q : Zs z TI TO i1 i2 St1 St2 h0 m o f j1 j2 a b s.heap) (n : Nat) (e : (#[a, b] : Array Value).setIfInBounds n x = #[a', b'])
    (k : ∀ h', Zs z TI TO i1 i2 St1 St2 h0 m o f j1 j2 a' b' h' → wpAny (model prog w) A r Q E { s with heap := h' }) :
    wpAny (model prog w) A (do let some kept ← seqItems? (.ref TO) | unsupported "internal:zip.__next__"
                               updateSeq TO (·.setIfInBounds n x)
                               letGo [kept.getD n .none]
                               r) Q E s := by
  refine wpAny_bind (wpAny_seqItems q.out rfl (wpAny_bind (wpAny_updateSeq q.out rfl (wpAny_bind (wpAny_letGo (k _ (q.write S D1 D2 (Heap.SameBut.update ..) ?_)))))))
  show Heap.get? _ _ = _
  rw [Heap.get?_update_self _ q.out rfl, ← e]
  simp [Obj.mapSeq]
theorem Zs.next {s : Shared} {Q : Value → Shared → Prop} {j : Nat} (q : Zs z TI TO i1 i2 St1 St2 s.heap s.heap.objs.size o f j j a b s.heap) (ho : Out o) (l1 : j < n1) (l2 : j < n2)
    (k : ∀ x y h' t o' f' a' b', P1 j x → P2 j y → Out o' → IsPair h' s.heap.objs.size x y → Zs z TI TO i1 i2 St1 St2 s.heap (s.heap.objs.size + 1) o' f' (j + 1) (j + 1) a' b' h' → Q (.ref s.heap.objs.size) { s with heap := h', toks := t }) :
    wpAny (model prog w) A (Builtin.«zip.__next__» ⟨[.ref z], []⟩) (fun v s' => ∃ u, v = .done (.ret u) ∧ Q u s') E s := by
  have lz : z < s.heap.objs.size := Heap.lt_size q.rcd
  show wpAny _ _ (field (.ref z) 2 >>= _) _ _ _
  refine wpAny_bind (wpAny_field q.rcd rfl (x := .bool false) rfl (wpAny_bind (wpAny_field q.rcd rfl (x := .ref TI) rfl (wpAny_bind (wpAny_seqItems q.ins rfl ?_)))))
  refine wpAny_bind (q.ask S D1 D2 ho fun y h1 f1 q1 => ?_)
  cases y
  · refine wpAny_bind ?_
    rw [← Array.forIn_toList]
    simp only [List.forIn_cons, List.forIn_nil]
    refine wpAny_bind (wpAny_bind (wpAny_holding (wpAny_bind (Zs.draw1 S D1 D2 (s := { s with heap := h1 }) q1 l1 fun x h2 t2 px q2 => wpAny_pure (wpAny_pure ?_)))))
    refine wpAny_bind (wpAny_bind (wpAny_holding (wpAny_bind (Zs.draw2 S D1 D2 (s := { s with heap := h2, toks := t2 }) q2 l2 fun y h3 t3 py q3 => wpAny_pure (wpAny_pure (wpAny_pure ?_))))))
    refine wpAny_bind (wpAny_newTuple (hsz := by show 2 ≤ sizeLine; decide) (wpAny_pure ⟨_, rfl, ?_⟩))
    have e := Heap.get?_push_size h3 (o := { cls := .type "tuple", data := .seq #[x, y] }) rfl
    rw [q3.num] at e
    have g := k x y _ t3 o f1 a b px py ho e (q3.more S D1 D2 _)
    rw [← q3.num] at g
    exact g
  · refine wpAny_bind (wpAny_rule (wpAny_bind (wpAny_field q1.rcd rfl (x := .ref TO) rfl (wpAny_bind (wpAny_setField_rec q1.rcd (by simp) fun h2 r2 k2 => ?_)))))
    have q2 : Zs z TI TO i1 i2 St1 St2 s.heap s.heap.objs.size .ellipsis f1 j j a b h2 := q1.note S D1 D2 k2 r2
    refine wpAny_bind ?_
    simp only [List.zipIdx_cons, List.zipIdx_nil, List.forIn_cons, List.forIn_nil]
    refine wpAny_bind (wpAny_bind (wpAny_onRaise (wpAny_bind (Zs.draw1 S D1 D2 (s := { s with heap := h2 }) q2 l1 fun x h3 t3 px q3 => wpAny_pure ?_))))
    refine Zs.put S D1 D2 (s := { s with heap := h3, toks := t3 }) q3 0 (a' := x) (b' := b) rfl fun h4 q4 => wpAny_pure ?_
    refine wpAny_bind (wpAny_bind (wpAny_onRaise (wpAny_bind (Zs.draw2 S D1 D2 (s := { s with heap := h4, toks := t3 }) q4 l2 fun y h5 t5 py q5 => wpAny_pure ?_))))
    refine Zs.put S D1 D2 (s := { s with heap := h5, toks := t5 }) q5 1 (a' := x) (b' := y) rfl fun h6 q6 => wpAny_pure (wpAny_pure ?_)
    refine wpAny_bind (wpAny_seqItems q6.out rfl (wpAny_bind (wpAny_newTuple (hsz := by show 2 ≤ sizeLine; decide) ?_)))
    have e := Heap.get?_push_size h6 (o := { cls := .type "tuple", data := .seq #[x, y] }) rfl
    have q7 := q6.more S D1 D2 { cls := .type "tuple", data := .seq #[x, y] }
    refine wpAny_bind (wpAny_bind (wpAny_setField_rec q7.rcd (by simp) fun h8 r8 k8 => ?_))
    refine wpAny_setField_rec r8 (by simp) fun h9 r9 k9 => wpAny_pure ⟨_, rfl, ?_⟩
    have q9 : Zs z TI TO i1 i2 St1 St2 s.heap (s.heap.objs.size + 1) (rawInt h6.objs.size) false (j + 1) (j + 1) x y h9 := (q7.note S D1 D2 (o' := rawInt h6.objs.size) (f' := f1) k8 r8).note S D1 D2 k9 r9
    have e9 : IsPair h9 h6.objs.size x y := by
      have ne : h6.objs.size ≠ z := by rw [q6.num]; exact Nat.ne_of_gt lz
      exact k9.extBut _ _ ne (k8.extBut _ _ ne e)
    rw [q6.num] at e9
    have g := k x y _ t5 _ false x y px py (.num _) e9 q9
    rw [← q6.num] at g
    exact g
theorem Zs.over {s : Shared} {Q : Fin → Shared → Prop} {j : Nat} (q : Zs z TI TO i1 i2 St1 St2 s.heap s.heap.objs.size o f j j a b s.heap) (ho : Out o) (l : j = n1 ∨ (j < n1 ∧ j = n2))
    (k : ∀ h' t e, (∀ c u, c ≠ z → c ≠ TO → c ≠ i1 → c ≠ i2 → s.heap.get? c = some u → h'.get? c = some u) → (∃ u, h'.get? e = some u ∧ u.cls = .type "StopIteration") → E (.ref e) { s with heap := h', toks := t }) :
    wpAny (model prog w) A (Builtin.«zip.__next__» ⟨[.ref z], []⟩) Q E s := by
  show wpAny _ _ (field (.ref z) 2 >>= _) _ _ _
  refine wpAny_bind (wpAny_field q.rcd rfl (x := .bool false) rfl (wpAny_bind (wpAny_field q.rcd rfl (x := .ref TI) rfl (wpAny_bind (wpAny_seqItems q.ins rfl ?_)))))
  refine wpAny_bind (q.ask S D1 D2 ho fun y h1 f1 q1 => ?_)
  cases y
  · refine wpAny_bind ?_
    rw [← Array.forIn_toList]
    simp only [List.forIn_cons, List.forIn_nil]
    refine wpAny_bind (wpAny_bind (wpAny_holding (wpAny_bind ?_)))
    rcases l with rfl | ⟨l1, rfl⟩
    · exact D1.done { s with heap := h1 } _ _ q1.s1 fun h2 e k2 x => k h2 s.toks e (fun c u e1 e2 e3 e4 y => k2 _ _ e3 (q1.rest c u e1 e2 e3 e4 y)) x
    · refine Zs.draw1 S D1 D2 (s := { s with heap := h1 }) q1 l1 fun x h2 t2 px q2 => wpAny_pure (wpAny_pure ?_)
      refine wpAny_bind (wpAny_bind (wpAny_holding (wpAny_bind ?_)))
      exact D2.done { s with heap := h2, toks := t2 } _ _ q2.s2 fun h3 e k3 x => k h3 t2 e (fun c u e1 e2 e3 e4 y => k3 _ _ e4 (q2.rest c u e1 e2 e3 e4 y)) x
  · refine wpAny_bind (wpAny_rule (wpAny_bind (wpAny_field q1.rcd rfl (x := .ref TO) rfl (wpAny_bind (wpAny_setField_rec q1.rcd (by simp) fun h2 r2 k2 => ?_)))))
    have q2 : Zs z TI TO i1 i2 St1 St2 s.heap s.heap.objs.size .ellipsis f1 j j a b h2 := q1.note S D1 D2 k2 r2
    refine wpAny_bind ?_
    simp only [List.zipIdx_cons, List.zipIdx_nil, List.forIn_cons, List.forIn_nil]
    refine wpAny_bind (wpAny_bind (wpAny_onRaise (wpAny_bind ?_)))
    rcases l with rfl | ⟨l1, rfl⟩
    · exact D1.done { s with heap := h2 } _ _ q2.s1 fun h3 e k3 x => raised (s := { s with heap := h3 }) (k3 _ _ S.zi1 q2.rcd) x fun h4 k4 y => k h4 s.toks e (fun c u e1 e2 e3 e4 y => k4.extBut _ _ e1 (k3 _ _ e3 (q2.rest c u e1 e2 e3 e4 y))) y
    · refine Zs.draw1 S D1 D2 (s := { s with heap := h2 }) q2 l1 fun x h3 t3 px q3 => wpAny_pure ?_
      refine Zs.put S D1 D2 (s := { s with heap := h3, toks := t3 }) q3 0 (a' := x) (b' := b) rfl fun h4 q4 => wpAny_pure ?_
      refine wpAny_bind (wpAny_bind (wpAny_onRaise (wpAny_bind ?_)))
      exact D2.done { s with heap := h4, toks := t3 } _ _ q4.s2 fun h5 e k5 x => raised (s := { s with heap := h5, toks := t3 }) (k5 _ _ S.zi2 q4.rcd) x fun h6 k6 y => k h6 t3 e (fun c u e1 e2 e3 e4 y => k6.extBut _ _ e1 (k5 _ _ e4 (q4.rest c u e1 e2 e3 e4 y))) y
end
section
variable {prog : Program} {w : World} {A : Around} {E : Value → Shared → Prop} {z TI TO i1 i2 : Addr} {fp1 fp2 : List Addr} {n1 n2 : Nat} {P1 P2 : Nat → Value → Prop} {St1 St2 : Nat → Heap → Prop} {o : Value} {f : Bool} {a b : Value}
end
structure Kin (Sq : PySem.W.Frag → Hp → Addr → List V → Prop) (Has : Heap → Addr → Array Value → Prop) (Itr : Heap → Addr → Addr → Nat → Prop) : Prop where
  stay : ∀ {h h' : Heap} {i l : Addr} {k : Nat}, Itr h i l k → (∀ u, h.get? i = some u → h'.get? i = some u) → Itr h' i l k
  live : ∀ {h : Heap} {i l : Addr} {k : Nat}, Itr h i l k → ∃ u, h.get? i = some u ∧ ∀ v, u.data ≠ .cell v
  lt : ∀ {h : Heap} {l : Addr} {xs : Array Value}, Has h l xs → l < h.objs.size
  items : ∀ {X : Cx} {pins : List (Addr × Obj)} {σ : L2.St} {H : Hp} {s : Shared} {l : Addr} {xs : List V}, Inv X pins σ H s → Sq X.K H l xs → ∃ its : List Value, Vals xs its ∧ Has s.heap l its.toArray
  inj : ∀ {X : Cx} {pins : List (Addr × Obj)} {σ : L2.St} {H : Hp} {s : Shared} {l : Addr} {xs ys : List V}, Inv X pins σ H s → Sq X.K H l xs → Sq X.K H l ys → xs = ys
  goes : ∀ {prog : Program} {w : World} {A : Around}, A.handled = none → ∀ (i l : Addr) (xs : Array Value), l ≠ i → Draws prog w A i [i, l] xs.size (fun k v => xs[k]? = some v) (fun k h => Itr h i l k ∧ Has h l xs)
  ends : ∀ {prog : Program} {w : World} {A : Around}, A.handled = none → ∀ (i l : Addr) (xs : Array Value) (n : Nat), l ≠ i → xs.size ≤ n → Draws prog w A i [i, l] n (fun _ _ => False) (fun k h => k = n ∧ Itr h i l n ∧ Has h l xs)
section
variable {Sq : PySem.W.Frag → Hp → Addr → List V → Prop} {Has : Heap → Addr → Array Value → Prop} {Itr : Heap → Addr → Addr → Nat → Prop}
def ZipAt (Itr : Heap → Addr → Addr → Nat → Prop) (z TI TO i1 i2 l1 l2 : Addr) (i : Nat) (h : Heap) : Prop :=
  ∃ o f a b, Out o ∧ ZR h z o (.bool f) TI TO ∧ IsPair h TI (.ref i1) (.ref i2) ∧ IsPair h TO a b ∧ Itr h i1 l1 i ∧ Itr h i2 l2 i
theorem made {X : Cx} {pins : List (Addr × Obj)} {σ : L2.St} {H : Hp} {s : Shared} {h' : Heap} {l1 l2 : Addr} {x : String} {px : Pos} {J : It} {R : It → Hp → Prop} (kin : Kin Sq Has Itr) (I : Inv X pins σ H s) (e1 : l1 < s.heap.objs.size) (e2 : l2 < s.heap.objs.size)
    (k : ∀ c u, s.heap.get? c = some u → h'.get? c = some u) (at0 : ZipAt Itr (s.heap.objs.size + 4) (s.heap.objs.size + 2) (s.heap.objs.size + 3) s.heap.objs.size (s.heap.objs.size + 1) l1 l2 0 h')
    (t : Turn X.prog X.w X.K (.Name x px) J [s.heap.objs.size + 4, s.heap.objs.size + 2, s.heap.objs.size + 3, s.heap.objs.size, s.heap.objs.size + 1] (s.heap.objs.size + 4) (ZipAt Itr (s.heap.objs.size + 4) (s.heap.objs.size + 2) (s.heap.objs.size + 3) s.heap.objs.size (s.heap.objs.size + 1) l1 l2)) (q : R J H) :
    PIE X pins σ (.Name x px) R (.ref (s.heap.objs.size + 4)) { s with heap := h' } := by
  refine ⟨_, _, _, J, H, rfl, I.kept (t' := s.toks) k, t, at0, fun c hc => ?_, q⟩
  have le : s.heap.objs.size ≤ c := by
    simp only [List.mem_cons, List.not_mem_nil, or_false] at hc
    rcases hc with rfl | rfl | rfl | rfl | rfl
    all_goals first | exact Nat.le_add_right _ _ | exact Nat.le_refl _
  exact I.fpOk le (I.hok.fresh le)
end
end RK
namespace DL
open PySem PySem.Spec PyProof.Rows L2 RK
section
variable {X : Cx} {F : Fx} {e a b c tg iter : Expr} {es : List Expr} {d da db dc : TDE} {ds : TDA} {pos p : Pos} {i j l : Nat}
end
end DL
namespace DL
open PySem PySem.Spec PyProof.Rows L2 RK
section
variable {X : Cx} {F : Fx} {e : Expr} {es : List Expr} {d : TDE} {ds : TDA} {p : Pos}
end
end DL
namespace DL
open PySem PySem.Spec PyProof.Rows L2 RK
section
variable {X : Cx}
end
section
variable {X : Cx} {F : Fx} {e : Expr} {d : TDE} {pos p : Pos}
end
end DL
namespace RK
open PySem PySem.Spec PyProof.Rows L2
inductive TestOk (X : Cx) : Expr → List Value → Prop
  | one {x : Str} {c : Value} {np : Pos} (hc : L2.Names X x c) : TestOk X (.Name x np) [c]
  | two {x1 x2 : Str} {c1 c2 : Value} {p1 p2 tp : Pos} {kk : Nat} (h1 : L2.Names X x1 c1) (h2 : L2.Names X x2 c2) : TestOk X (.Tuple [.Name x1 p1, .Name x2 p2] kk tp) [c1, c2]
inductive HdsAs (X : Cx) (n : Str) : List ExceptHandler → List (List Value × (Addr → Value → Option Addr → TS)) → Prop
  | nil : HdsAs X n [] []
  | cons {te : Expr} {cs : List Value} {ts : Addr → Value → Option Addr → TS} {b₀ : Stmt} {suite : List Stmt} {pos' : Pos} {hds : List ExceptHandler} {l : List (List Value × (Addr → Value → Option Addr → TS))} (hc : TestOk X te cs)
      (hsu : ∀ (a : Addr) (oe : Obj) (cls : Value) (d : Option Addr) (pn : List (Addr × Obj)), Zc cls d oe → (∃ vs, oe.data = .fields vs) → PSs (X.suite a ((a, oe) :: pn)) (b₀ :: suite) (ts a cls d)) (r : HdsAs X n hds l) :
      HdsAs X n (.ExceptHandler (some te) (some n) (b₀ :: suite) pos' :: hds) ((cs, ts) :: l)
section
variable {X : Cx} {n : Str} {i : Nat} {body : List Stmt} {h₀ : ExceptHandler} {hds : List ExceptHandler} {l : List (List Value × (Addr → Value → Option Addr → TS))} {pos : Pos} {tb : WX → TS} {Wout : WX}
end
end RK
namespace RK
open PySem PySem.Spec PyProof.Rows L2 L2H
abbrev SpP := Addr × Obj → Sp
structure FnP (P : Program) (w : World) (K : PySem.W.Frag) (mg : Str → Option Value) (base : Heap) (CX : CXT) (k : Nat) (f : Addr) (fd : FuncData) (ps : List Str) (sp : SpP) : Prop where
  len : ∀ p vs H Q E, sp p vs H Q E → vs.length = ps.length
  run : ∀ (A : Around) (outer : List Env) (s : Shared) (H : Hp) (args : Args) (us : List Value) (vs : List V) (Q : VK) (E : XK) (p : Addr × Obj), RoomH k A → PinOk outer H s p → Env0 P w K mg base A outer s H → BindsTo s fd args (ps.zip us) → Vals vs us → sp p vs H Q E →
    codeAny (model P w) A (.call (.ref f) args) (CR CX outer P w H s Q E) s
section
variable {X : Cx} {CX : CXT} {k : Nat} {f C : Addr} {fd : FuncData} {ps : List Str} {sp : SpP} {E : XK} {x m : Str} {q pos apos : Pos} {e o : Expr} {es : List Expr} {ta : TE} {t : TA} {p : Addr × Obj}
end
end RK
namespace PySem
namespace OEG
open PySem.W PySem.Calls PyProof.Rows PySem.HandSPX
structure BD where
  B : String
  newId : String
  initId : String
  bm : List Value
structure BD.Ok (b : BD) : Prop where
  F : ExcBaseFacts b.B b.newId b.initId b.bm
  S : StoreFacts b.B b.bm "object.__setattr__" "object"
theorem BD.Ok.ne {b : BD} (o : b.Ok) : b.bm ≠ [] := fun e => by
  have := o.S.hasOwner
  rw [e] at this
  cases this
section
open Builtin Builtin.ObjectAttr
variable {prog : Program} {w : World} {A : Around} {E : Value → Shared → Prop} {R : Result → Shared → Prop} {hp : Heap} {g : Array GenState} {d : Drawn} {t : Nat} {os : OsState}
end
abbrev bdV : BD := ⟨"ValueError", "ValueError.__new__", "ValueError.__init__", [.type "ValueError", .type "Exception", .type "BaseException", .type "object"]⟩
abbrev bdL : BD := ⟨"LookupError", "LookupError.__new__", "LookupError.__init__", [.type "LookupError", .type "Exception", .type "BaseException", .type "object"]⟩
abbrev bdI : BD := ⟨"IndexError", "IndexError.__new__", "IndexError.__init__", [.type "IndexError", .type "LookupError", .type "Exception", .type "BaseException", .type "object"]⟩
theorem cls_of {K : W.Frag} {C : Addr} {bmB : List Value} {newId : String} (q : excInitIn K C bmB newId = true) : ∃ nm N qn bs bm hdct sn sub ab col dd k0 k1 k2 k3 k5,
    K.lookup C = some (excClassObj nm qn C N bs bm hdct sn sub ab col dd k0 k1 k2 k3 k5 newId) ∧ excTail bmB bm = true := by
  unfold excInitIn at q
  split at q
  · rename_i dd cd sl ho
    split at q
    · rename_i C' bm k0 k1 k2 k3 n k5 hm hs
      simp only [Bool.and_eq_true, beq_iff_eq, Bool.not_eq_true'] at q
      obtain ⟨⟨⟨rfl, rfl⟩, hdel⟩, ht⟩ := q
      obtain ⟨nm, bs, mro, ns, qn, hd, sn, sub, ab, col, del⟩ := cd
      dsimp only at hm hdel
      subst hm hdel
      have hsl : sl = #[k0, k1, k2, k3, some (.builtin n), k5] := by
        obtain ⟨l⟩ := sl
        simp only at hs
        rw [hs]
      subst hsl
      exact ⟨nm, ns, qn, bs, bm, hd, sn, sub, ab, col, dd, k0, k1, k2, k3, k5, ho, ht⟩
    · cases q
  · cases q
end OEG
end PySem
namespace RK
open PySem PySem.Spec PyProof.Rows L2 PySem.OEG
structure OexG (K : PySem.W.Frag) (C : Addr) (b : BD) : Prop where
  ob : b.Ok
  ini : PySem.W.excInitIn K C b.bm b.newId = true
  hd : PySem.W.hasDictIn K C = true
  sa : PySem.W.findIn K (.ref C) "__setattr__" = some (some (.builtin "object.__setattr__"))
  exC : PySem.W.subIn K (.ref C) (.type "BaseException") = some true
  tyC : PySem.W.typeIn K (.ref C) = some (.type "type")
  kC : PySem.W.keepIn K (.ref C) = true
theorem OexG.cls {K : PySem.W.Frag} {C : Addr} {b : BD} (T : OexG K C b) : ∃ nm q N bs bm sn sub ab col dd k0 k1 k2 k3 k5, K.lookup C = some (excClassObj nm q C N bs bm true sn sub ab col dd k0 k1 k2 k3 k5 b.newId) ∧ PySem.W.excTail b.bm bm = true := by
  obtain ⟨nm, N, qn, bs, bm, hdct, sn, sub, ab, col, dd, k0, k1, k2, k3, k5, hC, ht⟩ := cls_of T.ini
  have h := T.hd
  have e : hdct = true := by
    unfold PySem.W.hasDictIn PySem.W.clsIn at h
    rw [hC] at h
    simpa using h
  subst e
  exact ⟨nm, qn, N, bs, bm, sn, sub, ab, col, dd, k0, k1, k2, k3, k5, hC, ht⟩
section
variable {X : Cx} {pins : List (Addr × Obj)} {σ : L2.St} {H : Hp} {s : Shared} {a C dx : Addr} {f : Str} {y : V} {u : Value} {fs : List (Str × V)} {Q : Unit → Shared → Prop} {E : Value → Shared → Prop} {A : Around} {b : BD}
end
section
variable {X : Cx} {o e : Expr} {es : List Expr} {to te : TE} {ta : TA} {f : Str} {p p' p1 p2 pos : Pos}
end
end RK
namespace RK
open PySem PySem.Spec PyProof.Rows L2 PySem.OEG
structure FunA (K : PySem.W.Frag) (x qual : Str) (st : Stmt) (f : Addr) (fd : FuncData) : Prop where
  ex : ∃ (oc : Value) (od : Option Addr) (dV kV doc pm : Value) (an : Option Addr) (cdv ct : Value) (osl : Array (Option Value)),
    fd = PySem.W.fnOf x qual (defArgs st) (defBody st) (defScope st) dV kV doc pm an cdv ct ∧ K.lookup f = some ⟨oc, od, .func fd, osl⟩ ∧ PySem.W.codeIn K cdv qual = true
  kp : PySem.W.keepIn K (.ref f) = true
theorem FunA.ok {P : Program} {w : World} {K : PySem.W.Frag} {mg : Str → Option Value} {base : Heap} {x qual : Str} {st : Stmt} {f : Addr} {fd : FuncData} {N ps : List Str} {k : Nat} {sp : Sp} (F : FunA K x qual st f fd) (S : FnScope N ps (defScope st)) (len : ∀ vs H Q E, sp vs H Q E → vs.length = ps.length)
    (hbody : ∀ (cdv : Value) (A : Around) (outer : List Env) (s : Shared) (H : Hp) (vs : List V) (Q : VK) (E : XK), Room k (A.deeper (envOfC qual (defScope st) s.heap.objs.size f cdv)) → sp vs H Q E →
      ∃ t, PSs (cxOf CX0 P w K mg base N qual (defScope st) f cdv A outer s H E).nox (defBody st) t ∧ t { nx := fun _ H' => Q .non H', rt := Q } (start N vs) H) : FnOk P w K mg base CX0 (k + 1) f fd ps sp := by
  obtain ⟨oc, od, dV, kV, doc, pm, an, cdv, ct, osl, rfl, lk, hcd⟩ := F.ex
  refine fn_of lk hcd S len fun A outer s H vs Q E hr hsp => ?_
  obtain ⟨t, ht, hq⟩ := hbody cdv A outer s H vs Q E hr hsp
  exact ⟨t, ht.nox, hq⟩
def TxtOk (y : Str) : Prop := y.length ≤ 1000 ∧ ∀ c ∈ y.cps.toList, c < 16 ^ 8
end RK
namespace RK
open PySem PySem.Spec PyProof.Rows L2 PySem.OEG
structure WinsW (H : Hp) (ws : List W3) : Prop where
  nd : (Names ws).Nodup
  tx : ∀ w ∈ ws, TxtOk w.1
  at_ : ∀ w ∈ ws, H w.2.1 = some (.tup w.2.2.vs)
theorem WinsW.same {H H' : Hp} {ws : List W3} (W : WinsW H ws) (e : Same H H') : WinsW H' ws := ⟨W.nd, W.tx, fun w hw => e _ _ (W.at_ w hw)⟩
theorem WinsW.perm {H : Hp} {ws us : List W3} (W : WinsW H ws) (p : us.Perm ws) : WinsW H us := ⟨(List.Perm.map (fun x : W3 => x.1) p).nodup_iff.mpr W.nd, fun w hw => W.tx w (p.mem_iff.mp hw), fun w hw => W.at_ w (p.mem_iff.mp hw)⟩
theorem NameOk.txt {z : Str} (h : NameOk z) : TxtOk z := by
  refine ⟨Nat.le_trans h.2.1 (by decide), fun c hc => ?_⟩
  have l := h.2.2 c hc
  unfold Low at l
  have e : (16 : Nat) ^ 8 = 4294967296 := by decide
  omega
theorem Wins.weak {H : Hp} {ws : List W3} (W : Wins H ws) : WinsW H ws := ⟨W.nd, fun w hw => (W.nm w hw).txt, W.at_⟩
def errS (z f : Str) (y : V) : List (Str × V) := [(f, y), ("word", .str z)]
def err0 (z : Str) : List (Str × V) := [("word", .str z)]
def ChkX (CS CN CR : Addr) (ws : List W3) (H : Hp) (Q : Hp → Prop) (E : XK) : Prop :=
  (¬ (1 ≤ ws.length ∧ ws.length ≤ 24) → ∀ dx, H dx = none → E (.ref CS) (some dx) (upd H dx (.xd (err0 "BadSize")))) ∧
  (1 ≤ ws.length ∧ ws.length ≤ 24 → ∀ us : List W3, us.Perm ws → sortedS (Names us) = true → ∀ H', Same H H' →
    ((∀ w ∈ us, NameOk w.1) → (∀ w ∈ us, w.2.2.good) → Q H') ∧
    (∀ pre w post, us = pre ++ w :: post → (∀ v ∈ pre, NameOk v.1) → ¬ NameOk w.1 → ∀ dx, H' dx = none → E (.ref CN) (some dx) (upd H' dx (.xd (errS "BadName" "name" (.str w.1))))) ∧
    (∀ pre w post, us = pre ++ w :: post → (∀ v ∈ us, NameOk v.1) → (∀ v ∈ pre, v.2.2.good) → ¬ w.2.2.good → ∀ dx, H' dx = none → E (.ref CR) (some dx) (upd H' dx (.xd (errS "BadRectangle" "name" (.str w.1))))))
theorem ChkX.same {CS CN CR : Addr} {ws : List W3} {H : Hp} {Q Q' : Hp → Prop} {E : XK} (h : ChkX CS CN CR ws H Q E) (k : ∀ H', Same H H' → Q H' → Q' H') : ChkX CS CN CR ws H Q' E :=
  ⟨h.1, fun l us pu so H' s' => ⟨fun n g => k H' s' ((h.2 l us pu so H' s').1 n g), (h.2 l us pu so H' s').2⟩⟩
end RK
namespace DL
open PySem PySem.Spec PyProof.Rows L2 RK
structure Er where
  C : Addr
  w : Str
  f : Option (Str × D)
def lfV : D → V
  | .str x => .str x
  | .int i => .int i
  | .bl b => .bl b
  | _ => .non
def Er.fs (e : Er) : List (Str × V) := match e.f with
  | none => err0 e.w
  | some (f, d) => errS e.w f (lfV d)
abbrev DSpX := List D → (D → Prop) → (Er → Prop) → Prop
def ErOk (F : Fx) (PX : Er → Prop) (E : XK) : Prop := ∀ (e : Er) (dx : Addr) (H' : Hp), PX e → KeepW F.W F.H0 H' → F.W.ok H' → F.H0 dx = none → H' dx = some (.xd e.fs) → E (.ref e.C) (some dx) H'
section
variable {X : Cx} {F : Fx} {e a b c : Expr} {es : List Expr} {d da db dc : TDE} {ds dk : TDA} {pos p : Pos} {PX : Er → Prop}
theorem ErOk.up {E : XK} {env : De} {σ : L2.St} {L : List Addr} {H : Hp} {fr : Fr} {N0 : Addr → Prop} (hE : ErOk F PX E) (A : Abs F env σ L H) : ErOk ⟨F.K, F.W, N0, H, fr⟩ PX E := fun er dx H2 pe k2 o2 n2 h2 => hE er dx H2 pe (A.kp.trans k2) o2 (free_of A.kp A.ok n2) h2
variable {CX : CXT} {k : Nat} {f : Addr} {fd : FuncData} {ps ks : List Str} {sp : DSpX} {E : XK} {x : Str} {fr : Fr} {K : PySem.W.Frag}
end
end DL
namespace PySem.W
open PySem PySem.Spec PySem.Calls PyProof.Rows
abbrev kld_fn (name qual : Str) (params : Arguments) (body : Expr) (scope : Scope) (cl : List (Str × Addr)) (dV pm cdv ct : Value) : FuncData := { kla_fn name qual params body scope cl pm cdv ct with defaults := dV }
abbrev kld_obj (name qual : Str) (params : Arguments) (body : Expr) (scope : Scope) (clos : List (Str × Addr)) (dV pm cdv ctv : Value) : Obj :=
  { cls := .type "function", data := .func (kld_fn name qual params body scope clos dV pm cdv ctv) }
section
variable {M : Model} {A : Around} {E : Value → Shared → Prop} {s : Shared} {name qual : Str} {params : Arguments} {body : Expr} {scope : Scope} {env : Env} {c P : Addr} {ps : Array Value} {pos : Pos} {firstLine : Nat} {mg : Str → Option Value}
  {clos : List (Str × Addr)} {Q : Value → Shared → Prop} {dV : Value}
end
end PySem.W
namespace RK
open PySem PySem.Spec PyProof.Rows L2 LamX
structure LamD (N : List Str) (sc scope : Scope) : Prop where
  kind : scope.kind = .function
  co : scope.isCoroutine = false
  gen : scope.isGenerator = false
  own : ∀ y ∈ scope.names, y.2 ≠ .cell ∧ (y.2 = .local → y.1 ∉ N)
  free : ∀ y ∈ scope.names, y.2 = .free → sc.names.lookup y.1 = some .cell ∨ sc.names.lookup y.1 = some .free
theorem LamD.has {X : Cx} {N : List Str} {scope : Scope} (L : LamD N X.env.scope scope) (ok : X.Ok) : ∀ y ∈ scope.names, y.2 = .free → ∃ c, X.env.cells.lookup y.1 = some c := fun y hy e => by
  rcases L.free y hy e with k | k
  · exact ok.has _ (.inl k)
  · exact ok.has _ (.inr k)
section
variable {X : Cx} {pins : List (Addr × Obj)} {σ : L2.St} {H HZ : Hp} {s s1 : Shared}
end
end RK
namespace RK
open PySem PySem.Spec PyProof.Rows L2 LamX
section
variable {X : Cx} {pins : List (Addr × Obj)} {σ : L2.St} {H HZ : Hp} {s s1 : Shared}
end
end RK
namespace RK
open PySem PySem.Spec PyProof.Rows L2 LamX
section
variable {X : Cx} {pins : List (Addr × Obj)} {σ : L2.St} {H H1 : Hp} {s s1 : Shared}
end
end RK
namespace RK
open PySem PySem.Spec PyProof.Rows L2
def mx (i j : Int) : Int := if j > i then j else i
def mn (i j : Int) : Int := if j < i then j else i
def R.meets (p q : R) : Prop := mx p.l q.l < mn p.r q.r ∧ mx p.t q.t < mn p.b q.b
instance (p q : R) : Decidable (p.meets q) := by unfold R.meets; infer_instance
def ltS (a b : Str) : Bool := decide (a.cps.toList < b.cps.toList)
def TxP (H : Hp) (ts : List Addr) (ps : List (Str × Str)) : Prop := Paired (fun p (z : Str × Str) => H p = some (.tup [.str z.1, .str z.2])) ts ps
theorem TxP.mono {H H' : Hp} (k : ∀ p xs, H p = some (.tup xs) → H' p = some (.tup xs)) : ∀ {ts : List Addr} {ps : List (Str × Str)}, TxP H ts ps → TxP H' ts ps
  | _, _, .nil => .nil
  | _, _, .cons h t => .cons (k _ _ h) (TxP.mono k t)
theorem TxP.append {H : Hp} : ∀ {ts us : List Addr} {ps qs : List (Str × Str)}, TxP H ts ps → TxP H us qs → TxP H (ts ++ us) (ps ++ qs)
  | _, _, _, _, .nil, h => h
  | _, _, _, _, .cons g t, h => .cons g (TxP.append t h)
theorem TxP.len {H : Hp} {ts : List Addr} {ps : List (Str × Str)} (h : TxP H ts ps) : ts.length = ps.length := Paired.length h
theorem TxP.dp {K : PySem.W.Frag} {H : Hp} : ∀ {ts : List Addr} {ps : List (Str × Str)}, TxP H ts ps → DpAll K H (ts.map V.ref) (ps.map fun z => .tuple [.str z.1, .str z.2])
  | _, _, .nil => .nil
  | _, _, .cons h t => .cons (.tup (.inl (.inl h)) (.cons (.str _) (.cons (.str _) .nil))) (TxP.dp t)
inductive Stp where
  | mv (up : Bool) (names : List Str)
  | pl (z : Str) (a : Addr) (r : R)
def wordOf (up : Bool) : Str := if up = true then "raise" else "lower"
def StpAt (H : Hp) (p : Addr) : Stp → Prop
  | .mv up zs => ∃ l, H p = some (.tup [.str (wordOf up), .ref l]) ∧ H l = some (.lst (zs.map V.str))
  | .pl z a r => H p = some (.tup [.str "place", .str z, .ref a]) ∧ H a = some (.tup r.vs)
def Apart (b : Addr) (H : Hp) (p : Addr) : Prop := ∀ w l, H p = some (.tup [.str w, .ref l]) → l ≠ b
theorem StpAt.keep {b s : Addr} {H H' : Hp} {p : Addr} (k : Keep b H H') (B : Bag b s H) (ap : Apart b H p) : ∀ {x : Stp}, StpAt H p x → StpAt H' p x
  | .mv up zs, h => by
    obtain ⟨l, h1, h2⟩ := h
    exact ⟨l, k.of_tup B h1, k _ _ (ap _ _ h1) h2⟩
  | .pl z a r, h => ⟨k.of_tup B h.1, k.of_tup B h.2⟩
theorem StpAt.same {H H' : Hp} {p : Addr} (e : Same H H') : ∀ {x : Stp}, StpAt H p x → StpAt H' p x
  | .mv up zs, h => by
    obtain ⟨l, h1, h2⟩ := h
    exact ⟨l, e _ _ h1, e _ _ h2⟩
  | .pl z a r, h => ⟨e _ _ h.1, e _ _ h.2⟩
theorem StpAt.tup {H : Hp} {p : Addr} : ∀ {x : Stp}, StpAt H p x → ∃ xs, H p = some (.tup xs)
  | .mv up zs, h => by
    obtain ⟨l, h1, _⟩ := h
    exact ⟨_, h1⟩
  | .pl z a r, h => ⟨_, h.1⟩
theorem Apart.keep {b s : Addr} {H H' : Hp} {p : Addr} {xs : List V} (k : Keep b H H') (B : Bag b s H) (hp : H p = some (.tup xs)) (ap : Apart b H p) : Apart b H' p := fun w l h => by
  have := k.of_tup B hp
  rw [this] at h
  have e : xs = [.str w, .ref l] := by
    injection h with h
    injection h
  exact ap w l (e ▸ hp)
theorem Apart.same {b : Addr} {H H' : Hp} {p : Addr} {xs : List V} (e : Same H H') (hp : H p = some (.tup xs)) (ap : Apart b H p) : Apart b H' p := fun w l h => by
  have := e _ _ hp
  rw [this] at h
  have e2 : xs = [.str w, .ref l] := by
    injection h with h
    injection h
  exact ap w l (e2 ▸ hp)
def StpsAt (H : Hp) (ps : List Addr) (xs : List Stp) : Prop := Paired (fun p x => StpAt H p x) ps xs
theorem StpsAt.same {H H' : Hp} (e : Same H H') : ∀ {ps : List Addr} {xs : List Stp}, StpsAt H ps xs → StpsAt H' ps xs
  | _, _, .nil => .nil
  | _, _, .cons h t => .cons (h.same e) (StpsAt.same e t)
theorem StpsAt.len {H : Hp} {ps : List Addr} {xs : List Stp} (h : StpsAt H ps xs) : ps.length = xs.length := Paired.length h
theorem StpsAt.get {H : Hp} : ∀ {ps : List Addr} {xs : List Stp} {i : Nat} {p : Addr}, StpsAt H ps xs → ps[i]? = some p → ∃ x, xs[i]? = some x ∧ StpAt H p x
  | _, _, _, _, .nil, h => by simp at h
  | _, _, 0, _, .cons g _, h => by
    have e := Option.some.inj h
    subst e
    exact ⟨_, rfl, g⟩
  | _, _, i + 1, _, .cons _ t, h => StpsAt.get (i := i) t h
theorem StpsAt.map {H H' : Hp} : ∀ {ps : List Addr} {xs : List Stp}, (∀ p ∈ ps, ∀ x, StpAt H p x → StpAt H' p x) → StpsAt H ps xs → StpsAt H' ps xs
  | _, _, _, .nil => .nil
  | _, _, k, .cons h t => .cons (k _ List.mem_cons_self _ h) (StpsAt.map (fun p hp => k p (List.mem_cons_of_mem _ hp)) t)
end RK
namespace RK
open PySem PySem.Spec PyProof.Rows L2 PySem.OEG
structure Sn (H H' : Hp) : Prop where
  f : Same H H'
  n : NoT H H'
theorem Sn.new {H : Hp} {p : Addr} (h : H p = none) (o : HO) (n : Ntb o := by exact True.intro) : Sn H (upd H p o) := ⟨same_new h o, noT_upd n⟩
theorem Sn.trans {H H1 H2 : Hp} (a : Sn H H1) (b : Sn H1 H2) : Sn H H2 := ⟨a.f.trans b.f, fun x ps h => let ⟨qs, q⟩ := b.n x ps h; a.n x qs q⟩
structure ErrP (K : PySem.W.Frag) (H : Hp) (p : Addr × Obj) (C dd : Addr) (fs : List (Str × V)) (w : Str) : Prop where
  data : ∃ vs, p.2.data = .fields vs
  z : Zc (.ref C) (some dd) p.2
  xf : XfC K C
  nw : PySem.W.findIn K (.ref C) "word" = some none
  hx : H dd = some (.xd fs)
  lw : fs.lookup ("word" : Str) = some (.str w)
theorem ErrP.same {K : PySem.W.Frag} {H H' : Hp} {p : Addr × Obj} {C dd : Addr} {fs : List (Str × V)} {w : Str} (e : ErrP K H p C dd fs w) (s : Same H H') : ErrP K H' p C dd fs w := ⟨e.data, e.z, e.xf, e.nw, s _ _ e.hx, e.lw⟩
def lNam : List Str := ["BadName", "BadRectangle", "BadCost", "Unknown"]
def lAt : List Str := ["BadStep", "BadWish", "BadFact", "BadDeed", "BadText"]
def lStm : List Str := ["Taken", "Clash", "NoStamp"]
def lNum : List Str := ["Full", "NoWatch", "BadPage"]
def fieldName (w : Str) : Option Str := if w ∈ lNam then some "name" else if w ∈ lAt then some "at" else if w ∈ lStm then some "stamp" else if w ∈ lNum then some (if w = "Full" then "most" else if w = "BadPage" then "row" else "number") else none
end RK
namespace DL
open PySem PySem.Spec PyProof.Rows L2 RK LamX
section
variable {F : Fx} {env : De} {σ : L2.St} {L : List Addr} {H H' : Hp}
abbrev ErCl := List (Addr × Str × Option Str)
def ErCl.has (ec : ErCl) (e : Er) : Prop := (e.C, e.w, e.f.map (·.1)) ∈ ec ∧ ∀ p, e.f = some p → p.2.leaf = true
def Er.val (e : Er) : D := match e.f with | none => .non | some p => p.2
structure ClOk (K : PySem.W.Frag) (CD CM CL : Addr) (k : Addr × Str × Option Str) : Prop where
  xf : XfC K k.1
  nw : PySem.W.findIn K (.ref k.1) "word" = some none
  ct : (PySem.W.exmAny K (.ref k.1) [.ref CD, .ref CM] = some true ∧ fieldName k.2.1 = k.2.2 ∧ ∀ n, k.2.2 = some n → n ≠ "word" ∧ PySem.W.findIn K (.ref k.1) n = some none) ∨
    (PySem.W.exmAny K (.ref k.1) [.ref CD, .ref CM] = some false ∧ PySem.W.exmAny K (.ref k.1) [.ref CL] = some true ∧ k.2.2 = none)
variable {ec : ErCl} {d : (Er → Prop) → TDE} {CD CM CL : Addr} {b s : Addr} {T : List (Addr × Str)}
end
end DL
namespace DL
open PySem PySem.Spec PyProof.Rows L2 RK
structure AbY (F : Fx) (env : De) (σ : L2.St) (L : List Addr) (H : Hp) (i j : Nat) (H0 : Hp) : Prop where
  a : Abs F env σ L H
  y : ∀ xs ys, env[i]? = some (.fz (.tup xs)) → xs[j]? = some (.lst ys) → ∃ t vs c us, σ[i]? = some (some (.ref t)) ∧ H t = some (.tup vs) ∧ vs[j]? = some (.ref c) ∧ H0 c = none ∧ H c = some (.lst us) ∧ Lone (env.set i .no) σ c ∧ Abs F (env.set i .no) σ (c :: L) H
section
variable {X : Cx} {F : Fx} {e c o : Expr} {d : TDE} {pos p : Pos} {i j : Nat} {sa rest : List Stmt} {r r2 : TDS} {t : TDT}
theorem AbY.step {env : De} {σ : L2.St} {L : List Addr} {H H' H0 : Hp} (A : AbY F env σ L H i j H0) (k : KeepW F.W H H') (ok : F.W.ok H') : AbY F env σ L H' i j H0 := by
  refine ⟨A.a.step k ok, fun xs ys h1 h2 => ?_⟩
  obtain ⟨t, vs, c, us, a1, a2, a3, a4, a5, lo, B⟩ := A.y xs ys h1 h2
  have hv := A.a.en i _ _ h1 a1
  have nt : ¬ F.W.own t := by
    cases hv with | tup g1 g2 _ => exact nw_of A.a g2
  have nc : ¬ F.W.own c := fun z => B.out List.mem_cons_self (B.wn c z)
  exact ⟨t, vs, c, us, a1, k _ _ nt a2, a3, a4, k _ _ nc a5, lo, B.step k ok⟩
end
end DL
namespace DL
open PySem PySem.Spec PyProof.Rows L2 RK
section
variable {X : Cx} {F : Fx} {e : Expr} {es : List Expr} {ds dk : TDA} {pos p : Pos} {CX : CXT} {k n m : Nat} {f : Addr} {fd : FuncData} {ps ks : List Str} {sp : DSp} {E : XK} {x : Str} {fr : Fr} {K : PySem.W.Frag}
variable {a b c : Expr} {d da db dc : TDE} {i j : Nat} {kk : Nat}
end
end DL
namespace DL
open PySem PySem.Spec PyProof.Rows L2 RK
section
variable {X : Cx} {F : Fx} {o : Expr} {d : TDE} {dk : TDA} {pos apos : Pos} {CX : CXT} {k q : Nat} {f C : Addr} {fd : FuncData} {ps ks : List Str} {sp : DSp} {E : XK} {m : Str} {fr : Fr} {K : PySem.W.Frag} {pl : Sem Bool}
end
end DL
namespace RK
open PySem PySem.Spec PyProof.Rows L2
section
variable {prog : Program} {w : World} {A : Around} {R : Result → Shared → Prop} {I : Addr} {fp wr : List Addr} {n : Nat} {P : Nat → Value → Prop} {St : Nat → Heap → Prop} {kw : List (Str × Value)}
end
section
variable {prog : Program} {w : World} {A : Around} {E : Value → Shared → Prop} {s : Shared} {l : Addr} {its : List Value} {ns : List Int}
end
section
variable {X : Cx}
end
end RK
namespace DL
open PySem PySem.Spec PyProof.Rows L2 RK
section
variable {X : Cx} {F : Fx} {e a b c : Expr} {d da db dc : TDE} {ds dk : TDA} {pos p : Pos} {k : Nat}
def prD : List D → Option (List (Key × D))
  | [] => some []
  | .tup [x, y] :: ds => (keyD x).bind fun k => (prD ds).map fun l => (k, y) :: l
  | _ => none
def dictPD : List D → Option D
  | [.lst xs] => (prD xs).map fun l => .dic (mergeD [] l)
  | _ => none
theorem prD_v {K : PySem.W.Frag} {N : Addr → Prop} {W : Wd} {H : Hp} : ∀ {vs : List V} {ds : List D} {l : List (Key × D)}, DdAll K N W H vs ds → prD ds = some l → ∃ (ps : List Addr) (kvs : List (Key × V)), vs = ps.map V.ref ∧ Paired (fun p kv => SqT K H p [kV kv.1, kv.2]) ps kvs ∧ kvs.map (·.1) = l.map (·.1) ∧ DdAll K N W H (kvs.map (·.2)) (l.map (·.2))
  | _, _, _, .nil, e => by cases e; exact ⟨[], [], rfl, .nil, rfl, .nil⟩
  | _, _, _, .cons (v := v) (d := d) (ds := dss) h a, e => by
    cases d with
    | tup xs =>
      match xs, e, h with
      | [x, y], e, h =>
        obtain ⟨k, h1, h2⟩ := Option.bind_eq_some_iff.mp e
        obtain ⟨l, h3, h4⟩ := Option.map_eq_some_iff.mp h2
        subst h4
        obtain ⟨ps, kvs, rfl, r1, r2, r3⟩ := prD_v a h3
        obtain ⟨q, us, rfl, g1, _, g2⟩ := dd_tupE h
        match us, g2 with
        | [u, w], .cons hu (.cons hw .nil) =>
          have eu : u = kV k := by
            cases x <;> cases h1
            · exact dd_intE hu
            · exact dd_strE hu
          subst eu
          exact ⟨q :: ps, (k, w) :: kvs, rfl, .cons (SqT.of g1) r1, by rw [List.map_cons, List.map_cons, r2], .cons hw r3⟩
    | _ => cases e
theorem dictP_okN (hK : F.K = X.K) : CaN F (fun xs H Q => ∃ (a : Addr) (ps : List Addr) (kvs : List (Key × V)), xs = [.ref a] ∧ SqL X.K H a (ps.map V.ref) ∧ Paired (fun p kv => SqT X.K H p [kV kv.1, kv.2]) ps kvs ∧ ∀ p, H p = none → Q (.ref p) (upd H p (.dK (mergeK [] kvs)))) dictPD := fun A b e Q q => by
  rename_i dl z
  match dl, b, e with
  | [.lst xs], .cons h .nil, e =>
    obtain ⟨a, vs, rfl, h1, h2⟩ := bw_lst h
    obtain ⟨l, e1, e2⟩ := Option.map_eq_some_iff.mp e
    subst e2
    obtain ⟨ps, kvs, rfl, r1, r2, r3⟩ := prD_v h2 e1
    rw [← hK]
    refine ⟨_, ps, kvs, rfl, SqL.of h1, r1, fun t ht => q _ _ (.new ht) (ok_new A.ok ht) ht ?_⟩
    obtain ⟨m1, m2⟩ := merge_rel (kvs := []) (kds := []) r2 r3 rfl .nil
    exact ⟨_, upd_same, m1, new_pres A ht m2⟩
theorem dn_dictP (hc : X.calm = true) (hg : Gl X "dict") (hm : X.mg "dict" = none) (ha : PE X e (lB F d)) (he : starEach [e] X.env = (false, eval e X.env) :: starEach [] X.env := by rfl) (hpl : (backTo pos (starEach [] X.env)).any (·.1) = false := by rfl) (hK : F.K = X.K := by rfl) :
    PE X (.Call (.Name "dict" p) [e] [] pos) (lN F (dCa dictPD (aCons d aNil))) := PE.mono (pe_callTy (call_dictP hc) hg hm (by decide +kernel) (db_cons ha db_nil he) (by decide) (by decide) he hpl) (lcaN (dictP_okN hK))
end
end DL
namespace DL
open PySem PySem.Spec PyProof.Rows L2 RK
section
variable {K : PySem.W.Frag} {N : Addr → Prop} {W : Wd} {H H' : Hp} {d : Addr} {kvs : List (Key × V)}
structure LkR (H H' : Hp) (d : Addr) (kvs : List (Key × V)) : Prop where
  o : ∀ a, a ≠ d → H' a = H a
  l : Rd H d (.dK kvs)
  r : Rd H' d (.dK kvs)
theorem LkR.symm (h : LkR H H' d kvs) : LkR H' H d kvs := ⟨fun a n => (h.o a n).symm, h.r, h.l⟩
theorem LkR.keep (h : LkR H H' d kvs) {a : Addr} {u : HO} (e : H a = some u) (n : ∀ o, u ≠ .dK kvs ∧ u ≠ .frz o (.dK kvs)) : H' a = some u := by
  by_cases z : a = d
  · subst z
    rcases h.l with q | ⟨o, q⟩
    · rw [q] at e
      exact absurd (Option.some.inj e).symm (n (Classical.choice ⟨default⟩)).1
    · rw [q] at e
      exact absurd (Option.some.inj e).symm (n o).2
  · rw [h.o a z]; exact e
theorem LkR.rd (h : LkR H H' d kvs) {a : Addr} {us : List (Key × V)} (e : Rd H a (.dK us)) : Rd H' a (.dK us) := by
  by_cases z : a = d
  · subst z
    have : us = kvs := by
      rcases h.l with q | ⟨o, q⟩ <;> rcases e with e | ⟨o', e⟩ <;> rw [q] at e <;> cases e <;> rfl
    rw [this]
    exact h.r
  · rcases e with e | ⟨o, e⟩
    · exact .inl (by rw [h.o a z]; exact e)
    · exact .inr ⟨o, by rw [h.o a z]; exact e⟩
theorem LkR.rdT (h : LkR H H' d kvs) {a : Addr} {us : List (List Key × V)} (e : Rd H a (.dT us)) : Rd H' a (.dT us) := by
  rcases e with e | ⟨o, e⟩
  · exact .inl (h.keep e fun o => ⟨fun z => (by cases z), fun z => (by cases z)⟩)
  · exact .inr ⟨o, h.keep e fun o => ⟨fun z => (by cases z), fun z => (by cases z)⟩⟩
mutual
theorem Dd.lk (h : LkR H H' d kvs) : ∀ {v : V} {x : D}, Dd K N W H v x → Dd K N W H' v x
  | _, _, .non => .non
  | _, _, .bl b => .bl b
  | _, _, .int i => .int i
  | _, _, .str x => .str x
  | _, _, .lst e q a => .lst (h.keep e fun o => ⟨fun z => (by cases z), fun z => (by cases z)⟩) q (DdAll.lk h a)
  | _, _, .tup e q a => .tup (h.keep e fun o => ⟨fun z => (by cases z), fun z => (by cases z)⟩) q (DdAll.lk h a)
  | _, _, .ktp h1 h2 h3 h4 h5 a => .ktp h1 h2 h3 h4 h5 (DdAll.lk h a)
  | _, _, .dic e q z a => .dic (h.rd e) q z (DdAll.lk h a)
  | _, _, .dct e q z a => .dct (h.rdT e) q z (DdAll.lk h a)
  | _, _, .obj e q z a => .obj (h.keep e fun o => ⟨fun z => (by cases z), fun z => (by cases z)⟩) q z (DdAll.lk h a)
  | _, _, .bag e => .bag e
theorem DdAll.lk (h : LkR H H' d kvs) : ∀ {vs : List V} {xs : List D}, DdAll K N W H vs xs → DdAll K N W H' vs xs
  | _, _, .nil => .nil
  | _, _, .cons e a => .cons (Dd.lk h e) (DdAll.lk h a)
end
theorem LkR.ok (h : LkR H H' d kvs) (k : W.ok H) (nd : ¬ W.own d) : W.ok H' := by
  refine Wd.st k (fun a o e n => ?_) (fun a ps e => ?_)
  · by_cases ad : a = d
    · subst ad
      exfalso
      rcases n with n | n
      · exact nd n
      · rcases h.l with q | ⟨z, q⟩ <;> rw [q] at e <;> cases e <;> exact n True.intro
    · rw [h.o a ad]; exact e
  · exact ⟨ps, h.symm.keep e fun z => ⟨fun q => (by cases q), fun q => (by cases q)⟩⟩
end
def En.hk : En → En
  | .fz d => .fz d
  | _ => .no
def hidK (env : De) : De := env.map En.hk
theorem En.hk_ow : ∀ e : En, e.hk.isOw = false
  | .no => rfl
  | .fz _ => rfl
  | .ow _ => rfl
  | .od _ => rfl
  | .ot _ => rfl
theorem nk_nil {N : Addr → Prop} {a : Addr} {K : PySem.W.Frag} {W : Wd} {H0 : Hp} {fr : Fr} : Fx.N ⟨K, W, N, H0, fr⟩ [] a ↔ N a := ⟨fun h => h.elim id (fun z => by cases z), fun h => .inl h⟩
section
variable {F : Fx} {env : De} {σ : L2.St} {L : List Addr} {H H' : Hp} {d : Addr} {kvs : List (Key × V)}
theorem Abs.lk (A : Abs F env σ L H) (h : LkR H H' d kvs) (nd : ¬ F.N L d) : Abs ⟨F.K, F.W, F.N L, H', false⟩ (hidK env) σ [] H' where
  ok := h.ok A.ok fun z => nd (.inl (A.wn d z))
  al := fun a n => by
    obtain ⟨o, e⟩ := A.alN n
    by_cases z : a = d
    · exact absurd (z ▸ n) nd
    · exact ⟨o, (h.o a z).trans e⟩
  wn := fun a h => .inl (A.wn a h)
  kp := .refl _ _
  fr := fun a h => by cases h
  ls := by unfold hidK; rw [List.length_map]; exact A.ls
  sep := fun i j a ei ej h1 _ h3 _ _ _ => by
    unfold hidK at h1
    rw [List.getElem?_map] at h1
    obtain ⟨e, _, rfl⟩ := Option.map_eq_some_iff.mp h1
    rw [En.hk_ow] at h3
    cases h3
  en := fun i e x h1 h2 => by
    unfold hidK at h1
    rw [List.getElem?_map] at h1
    obtain ⟨e, he, rfl⟩ := Option.map_eq_some_iff.mp h1
    have h3 := A.en i e x he h2
    cases e with
    | fz y =>
      cases x with
      | none => exact h3.elim
      | some v => exact Dd.keep (fun a o _ h => h) (fun a h => nk_nil.mp h) (Dd.lk h h3)
    | _ => exact trivial
end
theorem PE.or2 {X : Cx} {e : Expr} {t t' : TE} (h : PE X e t) (h' : PE X e t') : PE X e (fun σ H Q => t σ H Q ∨ t' σ H Q) := ⟨fun pins s σ H Q I q => by
  rcases q with q | q
  · exact h.run pins s σ H Q I q
  · exact h'.run pins s σ H Q I q⟩
end DL
namespace RK
open PySem PySem.Spec PyProof.Rows L2
section
variable {P : Program} {w : World} {A : Around} {E : Value → Shared → Prop} {s : Shared}
abbrev TuK (P : Program) (w : World) (h : Heap) (k : List Key) (b : Addr) : Prop := IsTupleKey (mixKind P w) h k b
abbrev hsh (P : Program) (w : World) (k : List Key) : Int := tupleKeyHash (mixKind P w) k
abbrev Lf (vs : List Value) : Prop := ∀ v ∈ vs, (∃ i t, v = Value.int i t) ∨ ∃ x t, v = Value.str x t
abbrev AllT (P : Program) (w : World) (h : Heap) (ys : List Value) : Prop := ∀ y ∈ ys, ∃ k c, y = Value.ref c ∧ TuK P w h k c
abbrev Mem := Addr × List Key
def entries (P : Program) (w : World) (L : List Mem) : List (Int × Value) := L.map fun p => (hsh P w p.2, Value.ref p.1)
def hashes (P : Program) (w : World) (L : List Mem) : List Int := L.map fun p => hsh P w p.2
structure TSt (P : Program) (w : World) (h : Heap) (a : Addr) (L : List Mem) (es : Array (Int × Value)) (ep : Nat) (t : SetTable) : Prop where
  ob : ∃ o, h.get? a = some o ∧ o.ExactSet ∧ o.data = .set es ep t
  es : es.toList = entries P w L
  tb : TabOk t (hashes P w L)
  nd : (L.map (·.2)).Nodup
  tu : ∀ p ∈ L, TuK P w h p.2 p.1
  ld : w.params.followText "set-order" = true ∨ t.led = true
  rm : L.length * 5 < t.mask * 3
  fw : L.length < 64
variable {a : Addr} {L : List Mem} {es : Array (Int × Value)} {ep : Nat} {t : SetTable}
theorem ent_size (h : es.toList = entries P w L) : es.size = L.length := by
  have := congrArg List.length h
  rwa [Array.length_toList, entries, List.length_map] at this
theorem hashes_len (L : List Mem) : (hashes P w L).length = L.length := List.length_map _
theorem fits_of (h1 : t.place.size = es.size) (h2 : t.dummies = #[]) (h3 : es.size ≤ t.mask) : t.fits es.size = true := by
  unfold SetTable.fits SetTable.fill
  rw [h2, Bool.and_eq_true, beq_iff_eq, decide_eq_true_eq]
  exact ⟨h1, by show t.place.size + 0 ≤ _; omega⟩
theorem TSt.fits (R : TSt P w s.heap a L es ep t) : t.fits es.size = true := by
  have h1 := R.tb.sz
  have h2 := ent_size R.es
  have h3 := R.rm
  rw [hashes_len] at h1
  exact fits_of (h1.trans h2.symm) R.tb.dm (by omega)
abbrev stp (t : SetTable) (h : Int) (c : Nat) : SetTable.Probe := nth t.mask (runAt t.mask (SetTable.bits h % (t.mask + 1)) (SetTable.bits h)) c
end
end RK
namespace RK
open PySem PySem.Spec PyProof.Rows L2
structure Met (ks : List Mem) (i : Nat) (L : List Mem) : Prop where
  sub : ∀ p ∈ L, p ∈ ks.take i
  all : ∀ p ∈ ks.take i, p.2 ∈ L.map (·.2)
theorem take_one {α : Type} {l : List α} {i : Nat} {x : α} (h : l[i]? = some x) : l.take (i + 1) = l.take i ++ [x] := by
  rw [List.take_succ, h]
  rfl
theorem Met.new {ks L L' : List Mem} {i : Nat} {x : Mem} (g : Met ks i L) (h : ks[i]? = some x) (pm : L'.Perm (x :: L)) : Met ks (i + 1) L' := by
  constructor
  · intro p hp
    rw [take_one h]
    rcases List.mem_cons.mp (pm.mem_iff.mp hp) with e | z
    · exact List.mem_append_right _ (List.mem_singleton.mpr e)
    · exact List.mem_append_left _ (g.sub p z)
  · intro p hp
    rw [(pm.map (·.2)).mem_iff, List.map_cons]
    rw [take_one h] at hp
    rcases List.mem_append.mp hp with z | z
    · exact List.mem_cons_of_mem _ (g.all p z)
    · rw [List.mem_singleton.mp z]; exact List.mem_cons_self
section
variable {P : Program} {w : World} {A : Around} {E : Value → Shared → Prop} {s : Shared}
theorem TSt.keep {h h' : Heap} {a : Addr} {L : List Mem} {es : Array (Int × Value)} {ep : Nat} {t : SetTable} (R : TSt P w h a L es ep t) (ka : ∀ o, h.get? a = some o → h'.get? a = some o) (ht : ∀ p ∈ L, TuK P w h' p.2 p.1) : TSt P w h' a L es ep t :=
  let ⟨o, ho, r⟩ := R.ob
  ⟨⟨o, ka o ho, r⟩, R.es, R.tb, R.nd, ht, R.ld, R.rm, R.fw⟩
theorem set_madeL {x : Value} {Q : Value → Shared → Prop} (K : Shared → Prop) (fin : ∀ z, K z → Q (.ref s.heap.objs.size) z)
    (go : wpAny (model P w) A.in1.in1 (Builtin.«set.__init__» ⟨[.ref s.heap.objs.size, x], []⟩) (fun f z => match f with | .done f => wants (fun r y => r = Value.none ∧ K y) E (.ok f) z | .again c => c.quiet = true ∧ codeAny (model P w) A.in1 c (wants (fun r y => r = Value.none ∧ K y) E) z) (fun e z => wants (fun r y => r = Value.none ∧ K y) E (.error e) z) { s with heap := s.heap.push (newSet (!w.params.followText "set-order")) }) :
    wpAny (model P w) A (call (.type "set") [x]) Q E s := by
  have a1 := PySem.F.called_set.made
  have a2 := PySem.F.called_set.sub
  obtain ⟨c, tl, a3⟩ := PySem.F.called_set.mro
  refine wpAny_call (codeAny_of_tree (wpAny_pure ⟨Code.quiet_builtin _ (by decide +kernel), codeAny_builtin (by exact PySem.F.entry_type_call) ?_⟩))
  rw [Around.under_plain (weight_type_call_type "set" [x] []) rfl]
  have a4 := PySem.F.called_set.notType
  have a5 := PySem.F.called_set.canCreate
  have a6 := PySem.F.typeCall_set_1 x
  repeat (any_goals (first | assumption | wp_step))
  refine codeAny_mono (code_set_led1 x (E := E) (Q₁ := fun v z => v = .ref s.heap.objs.size ∧ z = { s with heap := s.heap.push (newSet (!w.params.followText "set-order")) }) ⟨rfl, rfl⟩) fun r z hr => ?_
  cases r with
  | error e => exact hr
  | ok f =>
    cases f with
    | ret v =>
      obtain ⟨rfl, rfl⟩ := hr
      have b1 : (s.heap.push (newSet (!w.params.followText "set-order"))).get? s.heap.objs.size = some (newSet (!w.params.followText "set-order")) := Heap.get?_push_size _ rfl
      have b2 : Shared.TypeIs { s with heap := s.heap.push (newSet (!w.params.followText "set-order")) } (.ref s.heap.objs.size) "set" := ⟨_, b1, rfl⟩
      have b3 := PySem.F.called_set.init.lookup
      have b4 := PySem.F.called_set.init.bind (.ref s.heap.objs.size)
      repeat (any_goals (first | assumption | wp_step))
      refine codeAny_mono (codeAny_call_builtin (R := wants (fun r y => r = .none ∧ K y) E) PySem.F.called_set.init.plain PySem.F.entry_set_init (check_set_init_1 b2 go)) fun r y hy => ?_
      cases r with
      | error e => exact hy
      | ok f =>
        cases f with
        | ret v =>
          obtain ⟨rfl, ky⟩ := hy
          repeat (any_goals (first | assumption | wp_step))
          exact fin _ ky
        | _ => exact hy.elim
    | _ => exact hr.elim
end
end RK
namespace DL
open PySem PySem.Spec PyProof.Rows L2 RK
section
variable {X : Cx} {F : Fx} {e : Expr} {d : TDE} {pos p : Pos}
end
end DL
namespace DL
open PySem PySem.Spec PyProof.Rows L2 RK
section
variable {X : Cx} {F : Fx} {e1 k0 : Expr} {dk dv : TDE} {pos : Pos}
end
end DL
namespace RK
open PySem PySem.Spec PyProof.Rows L2 LamX
variable {P : Program} {w : World} {K : PySem.W.Frag} {mg : Str → Option Value}
abbrev tab0 : Obj := { cls := .none, data := .fields #[] }
structure OnlyT (cs : List (Addr × Addr)) (H : Hp) : Prop where
  tb : ∀ p ∈ cs, H p.2 = some (.tbl #[])
  on : ∀ b, H b = none ∨ (∃ p ∈ cs, p.2 = b) ∨ ∃ o xs, H b = some (.frz o (.lst xs))
structure TabW (h : Heap) (K : PySem.W.Frag) (cs : List (Addr × Addr)) : Prop where
  e : ∀ p ∈ cs, h.get? p.2 = some tab0
  n : ∀ p ∈ cs, K.lookup p.2 = none
  c : ∀ p ∈ cs, PySem.W.codeHdIn K p.1 p.2 = true
end RK
namespace DL
open PySem PySem.Spec PyProof.Rows L2 RK LamX
section
variable {P : Program} {w : World} {K : PySem.W.Frag} {mg : Str → Option Value} {base : Heap} {k : Nat} {f : Addr} {fd : FuncData} {ps : List Str}
end
section
variable {X : Cx} {F : Fx} {dk : TDA} {pos p : Pos} {CX : CXT} {k : Nat} {f : Addr} {fd : FuncData} {ps ks : List Str} {sp : DSpX} {E : XK} {x : Str} {fr : Fr} {K : PySem.W.Frag} {PX : Er → Prop}
end
abbrev lamT (cs : List (Addr × Addr)) (q : Str) : List (Addr × Str) := cs.map fun p => (p.2, q)
structure Cls where
  Desk : Addr := 0
  BadName : Addr := 0
  BadRectangle : Addr := 0
  BadSize : Addr := 0
  BadOrder : Addr := 0
  BadStep : Addr := 0
  TooLong : Addr := 0
  BadWish : Addr := 0
  BadFact : Addr := 0
  BadCost : Addr := 0
  Impossible : Addr := 0
  BadStamp : Addr := 0
  Taken : Addr := 0
  Clash : Addr := 0
  OtherLog : Addr := 0
  Full : Addr := 0
  BadDeed : Addr := 0
  BadWatch : Addr := 0
  BadText : Addr := 0
  BadPage : Addr := 0
  Unknown : Addr := 0
  NoStamp : Addr := 0
  NoWatch : Addr := 0
  NothingLeft : Addr := 0
end DL
namespace RK
open PySem PySem.Spec PyProof.Rows L2
section
variable {P : Program} {w : World} {A : Around} {E : Value → Shared → Prop} {s : Shared}
theorem iset0 {h : Heap} {a : Addr} (ho : h.get? a = some (newSet (!w.params.followText "set-order"))) : Has w h a [] :=
  ⟨0, ⟨_, #[], 0, _, ho, ⟨rfl, rfl, rfl⟩, rfl, (fun e he => by cases he), List.nodup_nil, (fun k => by simp), (by unfold scanBound; decide), rfl, rfl, List.Pairwise.nil, (by
    show _ ∨ (!w.params.followText "set-order") = true
    cases w.params.followText "set-order" <;> simp)⟩, Nat.le_refl _⟩
theorem iset_go {I S : Addr} {fp wr : List Addr} {G : Array GenState → Array GenState → Prop} {n : Nat} {Pv : Nat → Value → Prop} {St : Nat → Shared → Prop} {R : Result → Shared → Prop} (W : WalksS P w A.in1 I fp wr G n Pv St) (out : S ∉ fp) {ns : List Int} (hn : n = ns.length) (lU : ns.length + 1 < scanBound)
    (hv : ∀ i v, Pv i v → ∃ k t, ns[i]? = some k ∧ v = .int k t) {h0 : Heap} (hS : h0.get? S = none) (hw : ∀ b ∈ wr, h0.get? b = none) :
    ∀ (m i : Nat) (s : Shared), n = i + m → St i s → (∀ b o, h0.get? b = some o → s.heap.get? b = some o) → Has w s.heap S (ns.take i) →
      (∀ z, Moved (S :: wr) G s z → Has w z.heap S ns → (∀ b o, h0.get? b = some o → z.heap.get? b = some o) → R (.ok (.ret .none)) z) → codeAny (model P w) A (.builtin "set.update.loop" ⟨[.ref S, .ref I], []⟩) R s := by
  have nw : S ∉ wr := fun z => out (W.sub _ z)
  have up : ∀ b ∈ wr, b ∈ S :: wr := fun b z => List.mem_cons_of_mem _ z
  have mk : ∀ {s z : Shared}, Moved wr G s z → (∀ b o, h0.get? b = some o → s.heap.get? b = some o) → ∀ b o, h0.get? b = some o → z.heap.get? b = some o := fun mv k b o e => mv.heap b o (fun hb => by rw [hw b hb] at e; cases e) (k b o e)
  intro m
  induction m with
  | zero =>
    intro i s e st k0 T fin
    obtain rfl : n = i := by omega
    refine codeAny_builtin (by exact F.entry_set_update_loop) ?_
    rw [Around.under_plainId (by exact F.plain_set_update_loop)]
    refine wpAny_bind (W.done s _ _ st fun z mv => wpAny_pure ?_)
    rw [hn, List.take_length] at T
    exact fin z (mv.mono up) (T.keep fun o ho => mv.heap S _ nw ho) (mk mv k0)
  | succ m go =>
    intro i s e st k0 T fin
    refine codeAny_builtin (by exact F.entry_set_update_loop) ?_
    rw [Around.under_plainId (by exact F.plain_set_update_loop)]
    refine wpAny_bind (W.item i s _ _ (by omega) st fun v z hP st2 mv => ?_)
    obtain ⟨k, tk, hp, rfl⟩ := hv i v hP
    have k1 := mk mv k0
    obtain ⟨c, T1, lc⟩ := T.keep (h' := z.heap) fun o ho => mv.heap S _ nw ho
    have ht : ns.take (i + 1) = ns.take i ++ [k] := take_one hp
    have lt : (ns.take i).length ≤ i := by rw [List.length_take]; omega
    have li : i < ns.length := (List.getElem?_eq_some_iff.mp hp).1
    refine wpAny_bind (wpAny_holding ?_)
    unfold setAdd
    refine wpAny_holding (wpAny_bind ((intKind P w).pyHash (k := k) (intKind_is _ _ _ _) ?_))
    refine setR_add_hashed (s := { z with toks := z.toks + 1 }) T1 (by omega) fun g1 sb T2 => ?_
    have T3 : Has w g1 S (ns.take (i + 1)) := ⟨_, T2.congr fun j => by
      rw [ht]
      by_cases h1 : j ∈ ns.take i <;> by_cases h2 : j = k <;> simp [h1, h2], by
      rw [ht, List.length_append]
      show (if _ then c else c + 1) ≤ _
      split <;> simp <;> omega⟩
    have k2 : ∀ b o, h0.get? b = some o → g1.get? b = some o := fun b o e => (sb.2 b fun z => by rw [z, hS] at e; cases e).trans (k1 b o e)
    refine wpAny_pure ⟨plainId_quiet (by exact F.plain_set_update_loop) _, go (i + 1) _ (by omega) (W.frame _ z _ _ st2 (Nat.le_add_right _ _) fun b hb o eb => ?_) k2 T3 fun y my T4 k3 => fin y ?_ T4 k3⟩
    · rw [sb.2 b fun x => out (x ▸ hb)]; exact eb
    · refine Moved.trans W.gtrans ((mv.mono up).then_heap (Nat.le_add_right _ _) fun b o hb eb => ?_) my
      rw [sb.2 b fun x => hb (x ▸ List.mem_cons_self)]; exact eb
def IMade (w : World) (s : Shared) (ns : List Int) (z : Shared) : Prop :=
  ∃ g tk, z = { s with heap := g, toks := tk } ∧ Has w g s.heap.objs.size ns ∧ ∀ b o, s.heap.get? b = some o → g.get? b = some o
theorem set_intsL {l : Addr} {items : Array Value} {ns : List Int} {Q : Value → Shared → Prop} (hh : A.handled = none) (hl : s.heap.IsList l items) (hi : PyProof.Rows.IntsAre items.toList ns) (lU : ns.length + 1 < scanBound)
    (h : ∀ z, IMade w s ns z → Q (.ref s.heap.objs.size) z) : wpAny (model P w) A (call (.type "set") [.ref l]) Q E s := by
  have sz : items.size = ns.length := by
    have q := IntsAre.length hi
    rwa [Array.length_toList] at q
  have fresh : ∀ b, s.heap.objs.size ≤ b → s.heap.get? b = none := fun b hb => by
    cases q : s.heap.get? b with
    | none => rfl
    | some o => exact absurd (Nat.lt_of_lt_of_le (Heap.lt_size q) hb) (Nat.lt_irrefl _)
  have val : ∀ (i : Nat) (v : Value), items[i]? = some v → ∃ k t, ns[i]? = some k ∧ v = .int k t := fun i v hv => by
    have q : items.toList[i]? = some v := by rw [Array.getElem?_toList]; exact hv
    obtain ⟨t, e⟩ := PyProof.Rows.IntsAre.int_at hi i v q
    have li : i < ns.length := by
      have := (List.getElem?_eq_some_iff.mp q).1
      rw [Array.length_toList] at this
      omega
    exact ⟨_, t, by rw [List.getD_eq_getElem?_getD, List.getElem?_eq_getElem li]; rfl, e⟩
  refine set_madeL (IMade w s ns) h ?_
  obtain ⟨⟨k1, k2, k3, k4⟩, c1, c2, c4, c5⟩ := hl
  simp only at c2 c5
  subst c2 c5
  have d1 : (s.heap.push (newSet (!w.params.followText "set-order"))).get? l = some { cls := .type "list", dict := k2, data := .seq items c4, slots := k4 } := Heap.get?_push_of_some _ c1
  have d2 := PySem.F.sub_list_set
  have d3 := PySem.F.sub_list_frozenset
  have d4 : (Value.type "list" == Value.type "dict") = false := by decide
  have d5 : (s.heap.push (newSet (!w.params.followText "set-order"))).IsList l items := ⟨_, d1, rfl, c4, rfl⟩
  unfold Builtin.«set.__init__» noKeywords Builtin.Frozenset.updateFrom
  generalize hPI : pyIter = PI
  wp_walk
  subst hPI
  have lt : l < s.heap.objs.size := Heap.lt_size c1
  refine wpAny_pyIter_list d5 (wpAny_bind (wpAny_runValue (iset_go (ns := ns) (h0 := s.heap) ((Walks.list (by simp [hh]) _ l (by rw [Heap.size_push]; exact Nat.ne_of_lt (Nat.lt_succ_of_lt lt)) items).toS) (apart _ lt) sz lU val (fresh _ (Nat.le_refl _)) (fun b hb => fresh b (by rw [List.mem_singleton.mp hb, Heap.size_push]; exact Nat.le_succ _)) items.size 0 _ (by omega) ⟨⟨_, Heap.get?_push_size _ rfl, rfl, rfl⟩, d5.push _⟩ (fun b o e => Heap.get?_push_of_some _ (Heap.get?_push_of_some _ e)) (iset0 (Heap.get?_push_of_some _ (Heap.get?_push_size _ rfl))) fun z mv g k => ?_)))
  obtain ⟨g1, a, b, c, d⟩ := z
  obtain rfl : a = s.gens := mv.gens
  obtain rfl : b = s.drawn := mv.drawn
  obtain rfl : d = s.os := mv.os
  exact wpAny_pure (wpAny_pure ⟨rfl, g1, c, rfl, g, k⟩)
end
def tSoSetI (K : PySem.W.Frag) (ta : TE) : TE := fun σ H Q => ta σ H fun x H1 => ∃ (l : Addr) (ns : List Int), x = .ref l ∧ SqL K H1 l (ns.map V.int) ∧ ns.length < 64 ∧
  ∀ (ys : List Int) (b : Addr), ys.Pairwise (· < ·) → (∀ k, k ∈ ys ↔ k ∈ ns) → H1 b = none → Q (.ref b) (upd H1 b (.lst (ys.map V.int)))
theorem pe_soSetI {X : Cx} {a : Expr} {ta : TE} {p p2 q pos : Pos} (calm : X.calm = true) (hg : Gl X "sorted") (hm : X.mg "sorted" = none) (hg2 : Gl X "set") (hm2 : X.mg "set" = none) (ha : PE X a ta) (na : starEach [a] X.env = (false, eval a X.env) :: starEach [] X.env := by rfl) :
    PE X (.Call (.Name "sorted" p) [.Call (.Name "set" p2) [a] [] q] [] pos) (tSoSetI X.K ta) := by
  refine ⟨fun pins s σ H Q I h => ?_⟩
  refine Call_ (ld_blt I hg hm boot_sorted (PyProof.Rows.callWith_builtin1 (PyProof.Rows.args_cons ?_ rfl) rfl rfl))
  refine Call_ (ld_blt I hg2 hm2 boot_set (PyProof.Rows.callWith_type1 (PyProof.Rows.args_cons (thn (ha.run pins s σ H _ I h) fun v s1 ⟨x, H1, I1, r1, l, ns, ex, hq, lU, fin⟩ => PyProof.Rows.args_nil ?_) na) na rfl))
  subst ex
  cases r1
  obtain ⟨its, r, pl, hz⟩ := I1.list hq
  refine set_intsL (ns := ns) (I1.ok.hd calm) pl.isList (by simpa using r.ints) (by unfold scanBound; omega) fun z ⟨g, tk, ez, ⟨n, R, ln⟩, kp⟩ => PyProof.Rows.args_nil ?_
  subst ez
  have I2 : Inv X pins σ H1 { s1 with heap := g, toks := tk } := I1.kept kp
  refine sorted_set (s := { s1 with heap := g, toks := tk }) R (I1.ok.hd calm) (by omega) fun s' b out c ms kk hg' ho hb hl hi hs hm' hn => ?_
  have nb : H1 b = none := I2.hok.fresh hb
  have sz : (ms.map V.int).length ≤ sizeLine := by rw [List.length_map, hn, sizeLine_eq]; omega
  have J : Inv X pins σ (upd H1 b (.lst (ms.map V.int))) s' := I2.call' (ch := []) ho (Un.laid kk hb nb) (I2.hok.laid kk hb ⟨sz, out.toList, c, vals_of_ints hi, hl⟩) (by rw [hg']; exact I2.bare) (fun _ z => nomatch z)
  exact ⟨.ref b, _, J, rfl, fin ms b hs (fun k => by rw [hm' k]; exact decide_eq_true_iff) nb⟩
end RK
namespace DL
open PySem PySem.Spec PyProof.Rows L2 RK
def dSoSetI (d : TDE) : TDE := fun env P => d env fun x => match x with
  | .lst xs => ∃ ns : List Int, xs = ns.map D.int ∧ ns.length < 64 ∧ ∀ ys : List Int, ys.Pairwise (· < ·) → (∀ k, k ∈ ys ↔ k ∈ ns) → P (.lst (ys.map D.int))
  | _ => False
section
variable {X : Cx} {F : Fx} {e : Expr} {d : TDE} {pos p : Pos}
theorem int_vals {K : PySem.W.Frag} {N : Addr → Prop} {W : Wd} {H : Hp} : ∀ {ns : List Int} {us : List V}, DdAll K N W H us (ns.map D.int) → us = ns.map V.int
  | [], _, h => by
    have h : DdAll K N W H _ [] := h
    cases h
    rfl
  | x :: k, _, h => by
    have h : DdAll K N W H _ (D.int x :: k.map D.int) := h
    cases h with
    | cons h t =>
      rw [int_vals t]
      cases h
      rfl
theorem dn_soSetI {p2 q : Pos} (hg : Gl X "sorted") (hm : X.mg "sorted" = none) (hg2 : Gl X "set") (hm2 : X.mg "set" = none) (ha : PE X e (lB F d)) (hc : X.calm = true := by rfl) (he : starEach [e] X.env = (false, eval e X.env) :: starEach [] X.env := by rfl) (hK : F.K = X.K := by rfl) :
    PE X (.Call (.Name "sorted" p) [.Call (.Name "set" p2) [e] [] q] [] pos) (lN F (dSoSetI d)) := PE.mono (pe_soSetI hc hg hm hg2 hm2 ha he) fun σ H Q ⟨env, L, P, A, pp, q⟩ =>
  ⟨env, L, _, A, pp, fun x v H1 px k1 o1 b1 => by
    have A1 := A.step k1 o1
    cases x with
    | lst xs =>
      obtain ⟨ns, rfl, lU, px⟩ := px
      obtain ⟨a, vs, rfl, h1, h2⟩ := bw_lst b1
      rw [int_vals h2] at h1
      exact ⟨a, ns, rfl, hK ▸ SqL.of h1, lU, fun ys b pw mm hb => q _ _ _ (px ys pw mm) (k1.trans (.new hb)) (ok_new o1 hb) (free_of k1 o1 hb) (new_lstN A1 hb (dd_ints ys))⟩
    | _ => exact px.elim⟩
end
section
variable {F : Fx} {env : De} {σ : L2.St} {L : List Addr} {H H' : Hp} {d : Addr} {kvs : List (Key × V)}
theorem lcV_core {S vs : List Nat} {g : TDG} {tt : TDT} {te : TDE} {i : Nat} {od : Obj} {kds : List (Key × D)} {P : D → Prop} {Q : VK} (hS : ∀ i ∈ S, i ∈ vs) (A : Abs F env σ [] H) (hH : F.H0 = H) (hi : σ[i]? = some (some (.ref d))) (hd : H d = some (.frz od (.dK kvs))) (nd : ¬ F.N [] d) (da : DdAll F.K (F.N []) F.W H (kvs.map (·.2)) (kds.map (·.2)))
    (pp : dComp g tt te P (wipeE env vs) (kds.map (·.2)) []) (q : ∀ x a H', P x → KeepW F.W H H' → F.W.ok H' → H a = none → NewV F [] H' a x → Q (.ref a) H') : tLc (iVals (tVar i)) (lG F S g) (lT F tt) (lC F te) vs σ H Q := by
  have h0 : lN F (dLc (fun _ P => P (kds.map (·.2))) g tt te vs) σ H Q := ⟨env, [], P, A, pp, q⟩
  obtain ⟨env', L', P', A', p', r⟩ := l_lc hS σ H Q h0
  have da' : DdAll F.K (F.N L') F.W H (kvs.map (·.2)) (kds.map (·.2)) := da.pres fun a o n h => ⟨fun z => z.elim (fun z => n (.inl z)) fun z => (by
    have := (A'.fr a z).1
    rw [hH, h] at this
    cases this), h⟩
  refine ⟨.ref d, hi, d, od, kvs, rfl, hd, r _ (Itd d od kvs) H p' (.refl _ _) A'.ok fun N' H2 rel _ j => ?_⟩
  have hd2 : H2 d = some (.frz od (.dK kvs)) := (rel d _ (fun z => nd (.inl (A.wn d z))) hd).2
  have d2 : DdAll F.K N' F.W H2 (kvs.map (·.2)) (kds.map (·.2)) := da'.pres (relK_p A' rel)
  have el : kvs.length = kds.length := by
    have := da.len
    rwa [List.length_map, List.length_map] at this
  refine ⟨fun e => ⟨hd2, by rw [List.length_map] at e; omega⟩, fun x hx => ?_⟩
  have lt := (List.getElem?_eq_some_iff.mp hx).1
  rw [List.length_map] at lt
  refine ⟨⟨hd2, by omega⟩, fun v H3 hy => ?_⟩
  obtain ⟨rfl, k, h1⟩ := hy
  obtain ⟨v', hv', dv⟩ := d2.get hx
  rw [List.getElem?_map, h1] at hv'
  cases hv'
  exact ⟨.refl _, dv⟩
def dLcV (i : Nat) (g : TDG) (tt : TDT) (te : TDE) (vs : List Nat) : TDE := fun env P => ∃ kds, env[i]? = some (.fz (.dic kds)) ∧ dComp g tt te P (wipeE (hidK env) vs) (kds.map (·.2)) []
def tLcV (F : Fx) (i : Nat) (S : List Nat) (g : TDG) (tt : TDT) (te : TDE) (vs : List Nat) : TE := fun σ H Q => ∃ (N0 : Addr → Prop) (H0 : Hp), tLc (iVals (tVar i)) (lG ⟨F.K, F.W, N0, H0, false⟩ S g) (lT ⟨F.K, F.W, N0, H0, false⟩ tt) (lC ⟨F.K, F.W, N0, H0, false⟩ te) vs σ H Q
theorem l_lcV {S vs : List Nat} {g : TDG} {tt : TDT} {te : TDE} {i : Nat} (hS : ∀ i ∈ S, i ∈ vs) : ∀ σ H Q, lN F (dLcV i g tt te vs) σ H Q → tLockE (tLcV F i S g tt te vs) σ H Q ∨ tLcV F i S g tt te vs σ H Q := fun σ H Q ⟨env, L, P, A, ⟨kds, he, pp⟩, q⟩ => by
  obtain ⟨v, hv, dv⟩ := abs_at A he (by simp)
  obtain ⟨d, kvs, rfl, rd, nd, ek, da⟩ : ∃ (d : Addr) (kvs : List (Key × V)), v = .ref d ∧ Rd H d (.dK kvs) ∧ ¬ F.N L d ∧ kvs.map (·.1) = kds.map (·.1) ∧ DdAll F.K (F.N L) F.W H (kvs.map (·.2)) (kds.map (·.2)) := by
    cases dv with | dic g1 g2 g3 g4 => exact ⟨_, _, rfl, g1, g2, g3, g4⟩
  have nw : ¬ F.W.own d := fun z => nd (.inl (A.wn d z))
  have nd' : ∀ {H2 : Hp}, ¬ Fx.N ⟨F.K, F.W, F.N L, H2, false⟩ [] d := fun z => nd (nk_nil.mp z)
  have back : ∀ {H2 H3 H4 : Hp} {x : D} {a : Addr}, LkR H H2 d kvs → KeepW F.W H2 H3 → F.W.ok H3 → H2 a = none → NewV ⟨F.K, F.W, F.N L, H2, false⟩ [] H3 a x → LkR H3 H4 d kvs → H4 d = H d → P x → Q (.ref a) H4 := fun {H2 H3 H4 x a} l1 k3 o3 n2 nv l2 e4 px => by
    refine q x a H4 px (fun b o hb e => ?_) (l2.ok o3 nw) ?_ ?_
    · by_cases z : b = d
      · rw [z, e4, ← z]; exact e
      · rw [l2.o b z]
        exact k3 b o hb (by rw [l1.o b z]; exact e)
    · have ad : a ≠ d := fun z => by
        subst z
        rcases l1.r with r | ⟨_, r⟩ <;> rw [r] at n2 <;> cases n2
      rw [← l1.o a ad]; exact n2
    · have ad : a ≠ d := fun z => by
        subst z
        rcases l1.r with r | ⟨_, r⟩ <;> rw [r] at n2 <;> cases n2
      have tr : ∀ {vs : List V} {xs : List D}, DdAll F.K (Fx.N ⟨F.K, F.W, F.N L, H2, false⟩ [a]) F.W H3 vs xs → DdAll F.K (F.N (a :: L)) F.W H4 vs xs := fun {vs xs} h => (DdAll.lk l2 h).keep (fun _ _ _ e => e) fun b hb => by
        rcases hb with hb | hb
        · exact .inl (.inl hb)
        · rcases List.mem_cons.mp hb with hb | hb
          · exact .inr (by rw [hb]; exact List.mem_cons_self)
          · exact .inl (.inr hb)
      cases x with
      | lst xs => obtain ⟨us, u1, u2⟩ := nv; exact ⟨us, by rw [l2.o a ad]; exact u1, tr u2⟩
      | tup xs => obtain ⟨us, u1, u2⟩ := nv; exact ⟨us, by rw [l2.o a ad]; exact u1, tr u2⟩
      | dic xs => obtain ⟨us, u1, u2, u3⟩ := nv; exact ⟨us, by rw [l2.o a ad]; exact u1, u2, tr u3⟩
      | dct xs => obtain ⟨us, u1, u2, u3⟩ := nv; exact ⟨us, by rw [l2.o a ad]; exact u1, u2, tr u3⟩
      | _ => exact nv.elim
  have da2 : ∀ {H2 : Hp}, LkR H H2 d kvs → DdAll F.K (Fx.N ⟨F.K, F.W, F.N L, H2, false⟩ []) F.W H2 (kvs.map (·.2)) (kds.map (·.2)) := fun l => (DdAll.lk l da).keep (fun _ _ _ e => e) fun b hb => nk_nil.mp hb
  rcases rd with rd | ⟨od, rd⟩
  · refine .inl ⟨d, .dK kvs, rd, True.intro, fun od => ?_⟩
    have l1 : LkR H (upd H d (.frz od (.dK kvs))) d kvs := ⟨fun a n => upd_ne n, .inl rd, .inr ⟨od, upd_same⟩⟩
    refine ⟨F.N L, upd H d (.frz od (.dK kvs)), lcV_core hS (A.lk l1 nd) rfl hv upd_same nd' (da2 l1) pp fun x a H3 px k3 o3 n3 nv => ?_⟩
    have hd3 : H3 d = some (.frz od (.dK kvs)) := k3 d _ nw upd_same
    exact ⟨hd3, back l1 k3 o3 n3 nv ⟨fun b n => upd_ne n, .inr ⟨od, hd3⟩, .inl upd_same⟩ (by rw [upd_same, rd]) px⟩
  · have l1 : LkR H H d kvs := ⟨fun a n => rfl, .inr ⟨od, rd⟩, .inr ⟨od, rd⟩⟩
    refine .inr ⟨F.N L, H, lcV_core hS (A.lk l1 nd) rfl hv rd nd' (da2 l1) pp fun x a H3 px k3 o3 n3 nv => ?_⟩
    have hd3 : H3 d = some (.frz od (.dK kvs)) := k3 d _ nw rd
    exact back l1 k3 o3 n3 nv ⟨fun b n => rfl, .inr ⟨od, hd3⟩, .inr ⟨od, hd3⟩⟩ (by rw [hd3, rd]) px
end
theorem dn_lcV {X : Cx} {F : Fx} {x : Str} {px apos cpos pos : Pos} {elt tg : Expr} {ifs : List Expr} {scope : Scope} {own : List (Str × Nat)} {i : Nat} {S : List Nat} {g : TDG} {tt : TDT} {te : TDE} (hv : PE X (.Name x px) (tVar i)) (hS : ∀ i ∈ S, i ∈ own.map (·.2))
    (h : ∀ (N0 : Addr → Prop) (H0 : Hp) (wi : TI), PI X tg (.Call (.Attribute (.Name x px) "values" apos) [] [] cpos) wi → PE X (.ListComp elt [⟨tg, .Call (.Attribute (.Name x px) "values" apos) [] [] cpos, ifs, 0⟩] scope pos) (tLc wi (lG ⟨F.K, F.W, N0, H0, false⟩ S g) (lT ⟨F.K, F.W, N0, H0, false⟩ tt) (lC ⟨F.K, F.W, N0, H0, false⟩ te) (own.map (·.2))))
    (hbase : attributeBase (.Name x px) "values" X.env (eval (.Name x px) X.env) = eval (.Name x px) X.env := by rfl) (hline : (apos.endLine == cpos.line) = true := by rfl) :
    PE X (.ListComp elt [⟨tg, .Call (.Attribute (.Name x px) "values" apos) [] [] cpos, ifs, 0⟩] scope pos) (lN F (dLcV i g tt te (own.map (·.2)))) := by
  have hp : PE X (.ListComp elt [⟨tg, .Call (.Attribute (.Name x px) "values" apos) [] [] cpos, ifs, 0⟩] scope pos) (tLcV F i S g tt te (own.map (·.2))) := ⟨fun pins s σ H Q I ⟨N0, H0, q⟩ => (h N0 H0 _ (pi_values hv hbase hline)).run pins s σ H Q I q⟩
  exact PE.mono (PE.or2 (pe_lock hp) hp) (l_lcV hS)
end DL
namespace DL
open PySem PySem.Spec PyProof.Rows L2 RK
section
variable {F : Fx} {da db : TDE} {i j : Nat} {K : PySem.W.Frag}
end
end DL
namespace DL
open PySem PySem.Spec PyProof.Rows L2 RK
theorem bIx_l {xs : List D} {j : Nat} {x : D} (h : xs[j]? = some x) : bIx (.lst xs) (.int (j : Nat)) = some x := by
  show (atI xs (j : Int)).or _ = some x
  rw [atI_nat h]
  rfl
theorem bIx_tp {xs : List D} {j : Nat} {x : D} (h : xs[j]? = some x) : bIx (.tup xs) (.int (j : Nat)) = some x := by
  show (atI xs (j : Int)).or _ = some x
  rw [atI_nat h]
  rfl
theorem bIx_s {z : Str} (hz : z.length ≤ sizeLine) {j : Nat} {c : Nat} (h : z.cps.toList[j]? = some c) : bIx (.str z) (.int (j : Nat)) = some (.str ⟨#[c]⟩) := by
  show (none : Option D).or ((if z.length ≤ sizeLine then (atI z.cps.toList (j : Int)).map (fun c => D.str ⟨#[c]⟩) else none).or _) = _
  rw [if_pos hz, atI_nat h]
  rfl
theorem allD_map (bs : List Bool) : allD [.lst (bs.map D.bl)] = some (.bl (bs.all id)) := by
  show (blsD (bs.map D.bl)).map _ = _
  rw [blsD_map]
  rfl
theorem allD_f {α : Type} (l : List α) (f : α → Bool) : allD [.lst (l.map fun a => D.bl (f a))] = some (.bl (l.all f)) := by
  have : (l.map fun a => D.bl (f a)) = (l.map f).map D.bl := by rw [List.map_map]; rfl
  rw [this, allD_map, List.all_map]
  rfl
theorem szM {n : Nat} (h : n ≤ 1000000) : n < sizeLine := Nat.lt_of_le_of_lt h (by rw [sizeLine_eq]; decide)
theorem comp_all {α : Type} {g : TDG} {tt : TDT} {te : TDE} {P : D → Prop} {env : De} (enc : α → D) (R : α → D → Prop) : ∀ (l : List α) (acc : List D), (∀ a ∈ l, ∀ (Q : D → Prop) (Z : Prop), (∀ y, R a y → Q y) → g (enc a) env fun env' => tt env' fun b => if b = true then te env' Q else Z) → acc.length + l.length ≤ 1000000 →
    (∀ ys, Paired R l ys → P (.lst (acc ++ ys))) → dComp g tt te P env (l.map enc) acc
  | [], acc, _, _, q => by
    have := q [] .nil
    rw [List.append_nil] at this
    exact this
  | a :: l, acc, h, hl, q => h a List.mem_cons_self _ _ fun y hy => by
      refine ⟨szM (by simp at hl; omega), comp_all enc R l (acc ++ [y]) (fun b hb => h b (List.mem_cons_of_mem _ hb)) (by simp at hl ⊢; omega) fun ys hys => ?_⟩
      rw [List.append_assoc]
      exact q (y :: ys) (.cons hy hys)
theorem comp_map {α : Type} {g : TDG} {tt : TDT} {te : TDE} {P : D → Prop} {env : De} (enc f : α → D) : ∀ (l : List α) (acc : List D), (∀ a ∈ l, ∀ (Q : D → Prop) (Z : Prop), Q (f a) → g (enc a) env fun env' => tt env' fun b => if b = true then te env' Q else Z) → acc.length + l.length ≤ 1000000 →
    P (.lst (acc ++ l.map f)) → dComp g tt te P env (l.map enc) acc
  | [], acc, _, _, q => by
    rw [List.map_nil, List.append_nil] at q
    exact q
  | a :: l, acc, h, hl, q => h a List.mem_cons_self _ _ (by
      refine ⟨szM (by simp at hl; omega), comp_map enc f l (acc ++ [f a]) (fun b hb => h b (List.mem_cons_of_mem _ hb)) (by simp at hl ⊢; omega) ?_⟩
      rw [List.append_assoc]
      exact q)
theorem comp_filter {α : Type} {g : TDG} {tt : TDT} {te : TDE} {P : D → Prop} {env : De} (enc f : α → D) (p : α → Bool) : ∀ (l : List α) (acc : List D), (∀ a ∈ l, ∀ (Q : D → Prop) (Z : Prop), (p a = true → Q (f a)) → (p a = false → Z) → g (enc a) env fun env' => tt env' fun b => if b = true then te env' Q else Z) → acc.length + l.length ≤ 1000000 →
    P (.lst (acc ++ (l.filter p).map f)) → dComp g tt te P env (l.map enc) acc
  | [], acc, _, _, q => by
    rw [List.filter_nil, List.map_nil, List.append_nil] at q
    exact q
  | a :: l, acc, h, hl, q => by
    refine h a List.mem_cons_self _ _ (fun hp => ⟨szM (by simp at hl; omega), comp_filter enc f p l (acc ++ [f a]) (fun b hb => h b (List.mem_cons_of_mem _ hb)) (by simp at hl ⊢; omega) ?_⟩) (fun hp => comp_filter enc f p l acc (fun b hb => h b (List.mem_cons_of_mem _ hb)) (by simp at hl ⊢; omega) ?_)
    · rw [List.filter_cons_of_pos hp, List.map_cons] at q
      rw [List.append_assoc]
      exact q
    · rw [List.filter_cons_of_neg (by rw [hp]; exact Bool.false_ne_true)] at q
      exact q
theorem loop_inv {α : Type} {g : TDG} {body : TDS} {P : DEnds} (enc : α → D) (l : List α) (I : List α → De → Prop)
    (step : ∀ (pre : List α) (a : α) (post : List α) (env : De), l = pre ++ a :: post → I pre env → ∀ k : De → Prop, (∀ env', I (pre ++ [a]) env' → k env') → g (enc a) env fun env' => body { nx := k, rt := P.rt, bk := P.nx, ct := k } env') (done : ∀ env, I l env → P.nx env) :
    ∀ (post pre : List α) (env : De), l = pre ++ post → I pre env → sLoop g body P (post.map enc) env
  | [], pre, env, e, h => by
    rw [List.append_nil] at e
    exact done env (e ▸ h)
  | a :: post, pre, env, e, h => step pre a post env e h _ fun env' h' => loop_inv enc l I step done post (pre ++ [a]) env' (by rw [List.append_assoc]; exact e) h'
theorem loop_all {α : Type} {g : TDG} {body : TDS} {P : DEnds} {env : De} (enc : α → D) (l : List α) (I : List α → De → Prop) (h0 : I [] env)
    (step : ∀ (pre : List α) (a : α) (post : List α) (env : De), l = pre ++ a :: post → I pre env → ∀ k : De → Prop, (∀ env', I (pre ++ [a]) env' → k env') → g (enc a) env fun env' => body { nx := k, rt := P.rt, bk := P.nx, ct := k } env') (done : ∀ env, I l env → P.nx env) :
    sLoop g body P (l.map enc) env := loop_inv enc l I step done l [] env rfl h0
theorem loop_rng {g : TDG} {body : TDS} {P : DEnds} {env : De} {lo : Int} {n : Nat} (I : Nat → De → Prop) (h0 : I 0 env)
    (step : ∀ (i : Nat) (env : De), i < n → I i env → ∀ k : De → Prop, (∀ env', I (i + 1) env' → k env') → g (.int (lo + (i : Nat))) env fun env' => body { nx := k, rt := P.rt, bk := P.nx, ct := k } env') (done : ∀ env, I n env → P.nx env) :
    sLoop g body P (rngD lo n) env := by
  unfold rngD
  refine loop_all (fun k : Nat => D.int (lo + (k : Nat))) (List.range n) (fun pre env => I pre.length env) h0 (fun pre a post env e h k hk => ?_) (fun env h => done env (by rw [List.length_range] at h; exact h))
  have hl : pre.length < n := by
    have := congrArg List.length e
    simp at this
    omega
  have ha : a = pre.length := by
    have h1 : (List.range n)[pre.length]? = some a := by rw [e]; simp
    rw [List.getElem?_range hl] at h1
    exact (Option.some.inj h1).symm
  rw [ha]
  exact step pre.length env hl h k fun env' h' => hk env' (by rw [List.length_append]; exact h')
def sp_of : DSp := fun ds P => (∃ xs, (ds = [.bag, .lst xs] ∨ ds = [.bag, .tup xs]) ∧ 1 ≤ xs.length ∧ xs.length ≤ 1000000 ∧ ∀ x ∈ xs, P x) ∨ (∃ z : Str, ds = [.bag, .str z] ∧ 1 ≤ z.length ∧ z.length ≤ 1000000 ∧ ∀ c ∈ z.cps.toList, P (.str ⟨#[c]⟩))
def d_of : TDS := (sRet (dO2 bIx (dV 1) (dCall sp_pull (aCons (dV 0) (aCons (dCa lenD (aCons (dV 1) aNil)) aNil)))))
theorem rd_of {ds : List D} {P : D → Prop} (h : sp_of ds P) : d_of (fin false P) (st 2 ds) := by
  rcases h with ⟨xs, h | h, l1, l2, q⟩ | ⟨z, rfl, l1, l2, q⟩
  · subst h
    simp only [d_of, dC, dV, dB, dO2, ob_some, dT, dAndT, dOrT, dNotT, dIf, dAndV, dOrV, dNotV, dChain, aNil, aCons, dTup, dLst, dCut, oNone, oSome, dRev, dNeg, dTru, dCa, dIs, dIsA, dCall, dCallK, sNil, sSeq, sNever, sBrk, sCont, sIf, sRet, sRetO, sRetE, sSet, sSetO, sDrop, sPar, sPar3, kn, enOf, owD, sAsg, gNm, gsNil, gsCons, gTp, sApp, sIns, sExt, sClr, sRev, sPut, sFrz, owAt, fin, st, iRng, iRngB, iSeq, lstD, tupD, sFor, dLc, dDc, wipeE, tYesD, dIndex, dSort, dDictZip, dMeth, dFld, dMk, List.map_cons, List.map_nil, List.length_cons, List.length_nil, List.replicate_succ, List.replicate_zero, List.cons_append, List.nil_append, List.append_nil, List.getElem?_cons_zero, List.getElem?_cons_succ, List.set_cons_zero, List.set_cons_succ, Option.bind_some, Option.map_some, Nat.reduceSub, Nat.reduceAdd, kwP, List.getD_cons_zero, List.getD_cons_succ, lenD]
    refine ⟨_, rfl, by omega, by omega, fun r r0 r1 => ?_⟩
    obtain ⟨j, rfl⟩ : ∃ j : Nat, r = (j : Int) := ⟨r.toNat, by omega⟩
    show ob (bIx (.lst xs) (.int (j : Nat))) P
    rw [bIx_l (List.getElem?_eq_getElem (by omega))]
    exact q _ (List.getElem_mem _)
  · subst h
    simp only [d_of, dC, dV, dB, dO2, ob_some, dT, dAndT, dOrT, dNotT, dIf, dAndV, dOrV, dNotV, dChain, aNil, aCons, dTup, dLst, dCut, oNone, oSome, dRev, dNeg, dTru, dCa, dIs, dIsA, dCall, dCallK, sNil, sSeq, sNever, sBrk, sCont, sIf, sRet, sRetO, sRetE, sSet, sSetO, sDrop, sPar, sPar3, kn, enOf, owD, sAsg, gNm, gsNil, gsCons, gTp, sApp, sIns, sExt, sClr, sRev, sPut, sFrz, owAt, fin, st, iRng, iRngB, iSeq, lstD, tupD, sFor, dLc, dDc, wipeE, tYesD, dIndex, dSort, dDictZip, dMeth, dFld, dMk, List.map_cons, List.map_nil, List.length_cons, List.length_nil, List.replicate_succ, List.replicate_zero, List.cons_append, List.nil_append, List.append_nil, List.getElem?_cons_zero, List.getElem?_cons_succ, List.set_cons_zero, List.set_cons_succ, Option.bind_some, Option.map_some, Nat.reduceSub, Nat.reduceAdd, kwP, List.getD_cons_zero, List.getD_cons_succ, lenD]
    refine ⟨_, rfl, by omega, by omega, fun r r0 r1 => ?_⟩
    obtain ⟨j, rfl⟩ : ∃ j : Nat, r = (j : Int) := ⟨r.toNat, by omega⟩
    show ob (bIx (.tup xs) (.int (j : Nat))) P
    rw [bIx_tp (List.getElem?_eq_getElem (by omega))]
    exact q _ (List.getElem_mem _)
  · have hz : z.length ≤ sizeLine := Nat.le_of_lt (szM l2)
    simp only [d_of, dC, dV, dB, dO2, ob_some, dT, dAndT, dOrT, dNotT, dIf, dAndV, dOrV, dNotV, dChain, aNil, aCons, dTup, dLst, dCut, oNone, oSome, dRev, dNeg, dTru, dCa, dIs, dIsA, dCall, dCallK, sNil, sSeq, sNever, sBrk, sCont, sIf, sRet, sRetO, sRetE, sSet, sSetO, sDrop, sPar, sPar3, kn, enOf, owD, sAsg, gNm, gsNil, gsCons, gTp, sApp, sIns, sExt, sClr, sRev, sPut, sFrz, owAt, fin, st, iRng, iRngB, iSeq, lstD, tupD, sFor, dLc, dDc, wipeE, tYesD, dIndex, dSort, dDictZip, dMeth, dFld, dMk, List.map_cons, List.map_nil, List.length_cons, List.length_nil, List.replicate_succ, List.replicate_zero, List.cons_append, List.nil_append, List.append_nil, List.getElem?_cons_zero, List.getElem?_cons_succ, List.set_cons_zero, List.set_cons_succ, Option.bind_some, Option.map_some, Nat.reduceSub, Nat.reduceAdd, kwP, List.getD_cons_zero, List.getD_cons_succ, lenD, if_pos hz]
    refine ⟨_, rfl, by omega, by omega, fun r r0 r1 => ?_⟩
    obtain ⟨j, rfl⟩ : ∃ j : Nat, r = (j : Int) := ⟨r.toNat, by omega⟩
    have hj : j < z.cps.toList.length := by rw [← str_len]; omega
    show ob (bIx (.str z) (.int (j : Nat))) P
    rw [bIx_s hz (List.getElem?_eq_getElem hj)]
    exact q _ (List.getElem_mem _)
def sp_mixed : DSp := fun ds P => ∃ xs, (ds = [.bag, .lst xs] ∨ ds = [.bag, .tup xs]) ∧ xs.length ≤ 100000 ∧ ∀ ys : List D, ys.Perm xs → P (.lst ys)
def d_mixed : TDS := (sSeq (sSetO 2 (dLst aNil))
  (sSeq (sFor (iSeq (dV 1)) (gNm 3) (sIns 2 (dCall sp_pull (aCons (dV 0) (aCons (dO2 bAdd (dCa lenD (aCons (dB 2) aNil)) (dC (.int 1))) aNil))) (dV 3)))
  (sRetO 2)))
theorem rd_mixed {ds : List D} {P : D → Prop} (h : sp_mixed ds P) : d_mixed (fin true P) (st 4 ds) := by
  obtain ⟨xs, h, l2, q⟩ := h
  have loop : ∀ y : D, sLoop (gNm 3) (sIns 2 (dCall sp_pull (aCons (dV 0) (aCons (dO2 bAdd (dCa lenD (aCons (dB 2) aNil)) (dC (.int 1))) aNil))) (dV 3)) { fin true P with nx := sRetO 2 (fin true P) } xs [.fz .bag, .fz y, .ow [], .no] := fun y => by
    have := loop_all (g := gNm 3) (body := sIns 2 (dCall sp_pull (aCons (dV 0) (aCons (dO2 bAdd (dCa lenD (aCons (dB 2) aNil)) (dC (.int 1))) aNil))) (dV 3)) (P := { fin true P with nx := sRetO 2 (fin true P) }) (env := [.fz .bag, .fz y, .ow [], .no]) id xs (fun pre env => ∃ ys e, env = [.fz .bag, .fz y, .ow ys, e] ∧ ys.Perm pre) ⟨[], .no, rfl, .nil⟩ (fun pre a post env e h k hk => ?_) (fun env h => ?_)
    · rw [List.map_id] at this
      exact this
    · obtain ⟨ys, e2, rfl, hp⟩ := h
      have hl : ys.length < 100001 := by
        have h1 := hp.length_eq
        have h2 := congrArg List.length e
        simp at h2
        omega
      simp only [dC, dV, dB, dO2, ob_some, dT, dAndT, dOrT, dNotT, dIf, dAndV, dOrV, dNotV, dChain, aNil, aCons, dTup, dLst, dCut, oNone, oSome, dRev, dNeg, dTru, dCa, dIs, dIsA, dCall, dCallK, sNil, sSeq, sNever, sBrk, sCont, sIf, sRet, sRetO, sRetE, sSet, sSetO, sDrop, sPar, sPar3, kn, enOf, owD, sAsg, gNm, gsNil, gsCons, gTp, sApp, sIns, sExt, sClr, sRev, sPut, sFrz, owAt, fin, st, iRng, iRngB, iSeq, lstD, tupD, sFor, dLc, dDc, wipeE, tYesD, dIndex, dSort, dDictZip, dMeth, dFld, dMk, List.map_cons, List.map_nil, List.length_cons, List.length_nil, List.replicate_succ, List.replicate_zero, List.cons_append, List.nil_append, List.append_nil, List.getElem?_cons_zero, List.getElem?_cons_succ, List.set_cons_zero, List.set_cons_succ, Option.bind_some, Option.map_some, Nat.reduceSub, Nat.reduceAdd, kwP, List.getD_cons_zero, List.getD_cons_succ, lenD, bAdd, iI0, Option.some_or]
      refine ⟨_, rfl, by omega, by omega, fun r r0 r1 => ⟨szM (by omega), r0, by omega, hk _ ⟨_, _, rfl, ?_⟩⟩⟩
      have e3 : ys = ys.take r.toNat ++ ys.drop r.toNat := (List.take_append_drop _ _).symm
      rw [List.append_assoc]
      refine (List.perm_middle).trans ?_
      show (a :: (ys.take r.toNat ++ ys.drop r.toNat)).Perm (pre ++ [a])
      rw [← e3]
      exact (List.Perm.cons a hp).trans (List.perm_append_singleton a pre).symm
    · obtain ⟨ys, e2, rfl, hp⟩ := h
      simp only [dC, dV, dB, dO2, ob_some, dT, dAndT, dOrT, dNotT, dIf, dAndV, dOrV, dNotV, dChain, aNil, aCons, dTup, dLst, dCut, oNone, oSome, dRev, dNeg, dTru, dCa, dIs, dIsA, dCall, dCallK, sNil, sSeq, sNever, sBrk, sCont, sIf, sRet, sRetO, sRetE, sSet, sSetO, sDrop, sPar, sPar3, kn, enOf, owD, sAsg, gNm, gsNil, gsCons, gTp, sApp, sIns, sExt, sClr, sRev, sPut, sFrz, owAt, fin, st, iRng, iRngB, iSeq, lstD, tupD, sFor, dLc, dDc, wipeE, tYesD, dIndex, dSort, dDictZip, dMeth, dFld, dMk, List.map_cons, List.map_nil, List.length_cons, List.length_nil, List.replicate_succ, List.replicate_zero, List.cons_append, List.nil_append, List.append_nil, List.getElem?_cons_zero, List.getElem?_cons_succ, List.set_cons_zero, List.set_cons_succ, Option.bind_some, Option.map_some, Nat.reduceSub, Nat.reduceAdd, kwP, List.getD_cons_zero, List.getD_cons_succ]
      exact q ys hp
  rcases h with h | h
  · subst h
    simp only [d_mixed, dC, dV, dB, dO2, ob_some, dT, dAndT, dOrT, dNotT, dIf, dAndV, dOrV, dNotV, dChain, aNil, aCons, dTup, dLst, dCut, oNone, oSome, dRev, dNeg, dTru, dCa, dIs, dIsA, dCall, dCallK, sNil, sSeq, sNever, sBrk, sCont, sIf, sRet, sRetO, sRetE, sSet, sSetO, sDrop, sPar, sPar3, kn, enOf, owD, sAsg, gNm, gsNil, gsCons, gTp, sApp, sIns, sExt, sClr, sRev, sPut, sFrz, owAt, fin, st, iRng, iRngB, iSeq, lstD, tupD, sFor, dLc, dDc, wipeE, tYesD, dIndex, dSort, dDictZip, dMeth, dFld, dMk, List.map_cons, List.map_nil, List.length_cons, List.length_nil, List.replicate_succ, List.replicate_zero, List.cons_append, List.nil_append, List.append_nil, List.getElem?_cons_zero, List.getElem?_cons_succ, List.set_cons_zero, List.set_cons_succ, Option.bind_some, Option.map_some, Nat.reduceSub, Nat.reduceAdd, kwP, List.getD_cons_zero, List.getD_cons_succ]
    exact ⟨Nat.zero_le _, .inl (loop _)⟩
  · subst h
    simp only [d_mixed, dC, dV, dB, dO2, ob_some, dT, dAndT, dOrT, dNotT, dIf, dAndV, dOrV, dNotV, dChain, aNil, aCons, dTup, dLst, dCut, oNone, oSome, dRev, dNeg, dTru, dCa, dIs, dIsA, dCall, dCallK, sNil, sSeq, sNever, sBrk, sCont, sIf, sRet, sRetO, sRetE, sSet, sSetO, sDrop, sPar, sPar3, kn, enOf, owD, sAsg, gNm, gsNil, gsCons, gTp, sApp, sIns, sExt, sClr, sRev, sPut, sFrz, owAt, fin, st, iRng, iRngB, iSeq, lstD, tupD, sFor, dLc, dDc, wipeE, tYesD, dIndex, dSort, dDictZip, dMeth, dFld, dMk, List.map_cons, List.map_nil, List.length_cons, List.length_nil, List.replicate_succ, List.replicate_zero, List.cons_append, List.nil_append, List.append_nil, List.getElem?_cons_zero, List.getElem?_cons_succ, List.set_cons_zero, List.set_cons_succ, Option.bind_some, Option.map_some, Nat.reduceSub, Nat.reduceAdd, kwP, List.getD_cons_zero, List.getD_cons_succ]
    exact ⟨Nat.zero_le _, .inr (.inl (loop _))⟩
end DL
namespace DL
open PySem PySem.Spec PyProof.Rows L2 RK
def rectD (p : R) : D := .tup [.int p.l, .int p.t, .int p.r, .int p.b]
def sp_rectangle : DSp := fun ds P => ∃ c : Int, ds = [.bag, .int c] ∧ 1 ≤ c ∧ c ≤ 100000000 ∧ ∀ x y x2 y2 : Int, -4 ≤ x → x ≤ 4 → -4 ≤ y → y ≤ 4 → x < x2 → x2 ≤ x + 4 → y < y2 → y2 ≤ y + 4 → P (rectD ⟨c * x, c * y, c * x2, c * y2⟩)
def d_rectangle : TDS := (sSeq (sPar 2 3 false false (dO2 bSub (dCall sp_pull (aCons (dV 0) (aCons (dC (.int 9)) aNil))) (dC (.int 4))) (dO2 bSub (dCall sp_pull (aCons (dV 0) (aCons (dC (.int 9)) aNil))) (dC (.int 4))))
  (sSeq (sPar 4 5 false false (dO2 bAdd (dO2 bAdd (dV 2) (dC (.int 1))) (dCall sp_pull (aCons (dV 0) (aCons (dC (.int 4)) aNil)))) (dO2 bAdd (dO2 bAdd (dV 3) (dC (.int 1))) (dCall sp_pull (aCons (dV 0) (aCons (dC (.int 4)) aNil)))))
  (sRet (dTup (aCons (dO2 bMul (dV 1) (dV 2)) (aCons (dO2 bMul (dV 1) (dV 3)) (aCons (dO2 bMul (dV 1) (dV 4)) (aCons (dO2 bMul (dV 1) (dV 5)) aNil))))))))
theorem rd_rectangle {ds : List D} {P : D → Prop} (h : sp_rectangle ds P) : d_rectangle (fin true P) (st 6 ds) := by
  obtain ⟨c, rfl, c1, c2, q⟩ := h
  simp only [d_rectangle, dC, dV, dB, dO2, ob_some, dT, dAndT, dOrT, dNotT, dIf, dAndV, dOrV, dNotV, dChain, aNil, aCons, dTup, dLst, dCut, oNone, oSome, dRev, dNeg, dTru, dCa, dIs, dIsA, dCall, dCallK, sNil, sSeq, sNever, sBrk, sCont, sIf, sRet, sRetO, sRetE, sSet, sSetO, sDrop, sPar, sPar3, kn, enOf, owD, sAsg, gNm, gsNil, gsCons, gTp, sApp, sIns, sExt, sClr, sRev, sPut, sFrz, owAt, fin, st, iRng, iRngB, iSeq, lstD, tupD, sFor, dLc, dDc, wipeE, tYesD, dIndex, dSort, dDictZip, dMeth, dFld, dMk, List.map_cons, List.map_nil, List.length_cons, List.length_nil, List.replicate_succ, List.replicate_zero, List.cons_append, List.nil_append, List.append_nil, List.getElem?_cons_zero, List.getElem?_cons_succ, List.set_cons_zero, List.set_cons_succ, Option.bind_some, Option.map_some, Nat.reduceSub, Nat.reduceAdd, kwP, List.getD_cons_zero, List.getD_cons_succ, bSub, bAdd, iI0, Option.some_or]
  refine ⟨_, rfl, by decide, by decide, fun r r0 r1 => ⟨_, rfl, by decide, by decide, fun s s0 s1 => ?_⟩⟩
  refine ⟨_, rfl, by decide, by decide, fun u u0 u1 => ⟨_, rfl, by decide, by decide, fun v v0 v1 => ?_⟩⟩
  have e : ∀ z : Int, bMul (.int c) (.int z) = some (.int (c * z)) := fun z => by
    show (if decide _ = true then some (D.int (c * z)) else none).or _ = _
    rw [if_pos (decide_eq_true (.inl ⟨by omega, by omega⟩))]
    rfl
  simp only [dC, dV, dB, dO2, ob_some, dT, dAndT, dOrT, dNotT, dIf, dAndV, dOrV, dNotV, dChain, aNil, aCons, dTup, dLst, dCut, oNone, oSome, dRev, dNeg, dTru, dCa, dIs, dIsA, dCall, dCallK, sNil, sSeq, sNever, sBrk, sCont, sIf, sRet, sRetO, sRetE, sSet, sSetO, sDrop, sPar, sPar3, kn, enOf, owD, sAsg, gNm, gsNil, gsCons, gTp, sApp, sIns, sExt, sClr, sRev, sPut, sFrz, owAt, fin, st, iRng, iRngB, iSeq, lstD, tupD, sFor, dLc, dDc, wipeE, tYesD, dIndex, dSort, dDictZip, dMeth, dFld, dMk, List.map_cons, List.map_nil, List.length_cons, List.length_nil, List.replicate_succ, List.replicate_zero, List.cons_append, List.nil_append, List.append_nil, List.getElem?_cons_zero, List.getElem?_cons_succ, List.set_cons_zero, List.set_cons_succ, Option.bind_some, Option.map_some, Nat.reduceSub, Nat.reduceAdd, kwP, List.getD_cons_zero, List.getD_cons_succ, e, bSub, bAdd, iI0, Option.some_or]
  exact ⟨by decide, q (r - 4) (s - 4) (r - 4 + 1 + u) (s - 4 + 1 + v) (by omega) (by omega) (by omega) (by omega) (by omega) (by omega) (by omega) (by omega)⟩
theorem abc_get {j : Nat} (h : j < 26) : abc.cps.toList[j]? = some (97 + j) := by
  rw [abc_codes, List.getElem?_range' h, Nat.one_mul]
def sp_names : DSp := fun ds P => ∃ n : Int, ds = [.bag, .int n] ∧ 0 ≤ n ∧ n ≤ 26 ∧ ∀ zs : List Str, zs.length = n.toNat → (∀ z ∈ zs, NameOk z) → zs.Nodup → P (.lst (zs.map D.str))
def d_names : TDS := (sSeq (sAsg (dTup (aCons (dC (.str "abcdefghijklmnopqrstuvwxyz")) (aCons (dC (.str "")) aNil))) (gTp 2 (gsCons (gNm 2) (gsCons (gNm 3) gsNil))))
  (sSeq (sFor (iRng (aCons (dCall sp_pull (aCons (dV 0) (aCons (dC (.int 6)) aNil))) aNil)) (gNm 4) (sSet 3 (dO2 bAdd (dV 3) (dCall sp_of (aCons (dV 0) (aCons (dV 2) aNil))))))
  (sSeq (sIf (dT (dO2 (bEqN false) (dCall sp_pull (aCons (dV 0) (aCons (dC (.int 4)) aNil))) (dC (.int 0)))) (sRet (dLc (iRng (aCons (dV 1) aNil)) (gNm 4) tYesD (dO2 bMul (dO2 bIx (dV 2) (dO2 bMod (dO2 bAdd (dCa lenD (aCons (dV 3) aNil)) (dO2 bMul (dC (.int 7)) (dV 4))) (dC (.int 26)))) (dO2 bAdd (dC (.int 1)) (dO2 bMod (dO2 bAdd (dCa lenD (aCons (dV 3) aNil)) (dO2 bMul (dC (.int 5)) (dV 4))) (dC (.int 4))))) [4])) sNil)
  (sSeq (sAsg (dTup (aCons (dCall sp_pull (aCons (dV 0) (aCons (dO2 bAdd (dCa lenD (aCons (dV 3) aNil)) (dC (.int 1))) aNil))) (aCons (dCall sp_pull (aCons (dV 0) (aCons (dC (.int 26)) aNil))) (aCons (dCall sp_of (aCons (dV 0) (aCons (dLst (aCons (dC (.int 1)) (aCons (dC (.int 3)) (aCons (dC (.int 5)) (aCons (dC (.int 7)) (aCons (dC (.int 9)) aNil)))))) aNil))) aNil)))) (gTp 3 (gsCons (gNm 5) (gsCons (gNm 6) (gsCons (gNm 7) gsNil)))))
  (sRet (dLc (iRng (aCons (dV 1) aNil)) (gNm 4) tYesD (dO2 bAdd (dO2 bAdd (dCut cutA (dV 3) oNone (oSome (dV 5))) (dO2 bIx (dV 2) (dO2 bMod (dO2 bAdd (dV 6) (dO2 bMul (dV 7) (dV 4))) (dC (.int 26))))) (dCut cutA (dV 3) (oSome (dV 5)) oNone)) [4]))))))
theorem nodup_map_range {β : Type} {n : Nat} {f : Nat → β} (h : ∀ i j, i < n → j < n → f i = f j → i = j) : ((List.range n).map f).Nodup := by
  rw [List.nodup_iff_pairwise_ne, List.pairwise_map]
  refine List.Pairwise.imp_of_mem (fun {a b} ha hb hab e => ?_) (List.nodup_iff_pairwise_ne.mp List.nodup_range)
  exact hab (h a b (List.mem_range.mp ha) (List.mem_range.mp hb) e)
theorem bMul_i {i j : Int} (h : -(2 ^ 64) < i) (h' : i < 2 ^ 64) : bMul (.int i) (.int j) = some (.int (i * j)) := by
  show (if decide _ = true then some (D.int (i * j)) else none).or _ = _
  rw [if_pos (decide_eq_true (.inl ⟨h, h'⟩))]
  rfl
theorem bMod_i {i j : Int} (h : 0 < j) : bMod (.int i) (.int j) = some (.int (i % j)) := by
  show (if decide _ = true then some (D.int (i % j)) else none) = _
  rw [if_pos (decide_eq_true h)]
theorem bAdd_i (i j : Int) : bAdd (.int i) (.int j) = some (.int (i + j)) := rfl
theorem bAdd_s {x y : Str} (h : x.length + y.length ≤ sizeLine) : bAdd (.str x) (.str y) = some (.str (x ++ y)) := by
  show (none : Option D).or ((if x.length + y.length ≤ sizeLine then some (D.str (x ++ y)) else none).or _) = _
  rw [if_pos h]
  rfl
theorem bEq_i (i j : Int) : bEqN false (.int i) (.int j) = some (.bl (decide (i = j))) := by
  show (some (D.bl (false ^^ decide (i = j)))).or _ = _
  rw [Bool.false_xor]
  rfl
theorem bIx_abc {j : Nat} (h : j < 26) : bIx (.str abc) (.int (j : Nat)) = some (.str ⟨#[97 + j]⟩) := bIx_s (by rw [abc_len]; exact Nat.le_of_lt (szM (by decide))) (abc_get h)
theorem rd_names {ds : List D} {P : D → Prop} (h : sp_names ds P) : d_names (fin true P) (st 8 ds) := by
  obtain ⟨n, rfl, n0, n1, q⟩ := h
  simp only [d_names, dC, dV, dB, dO2, ob_some, dT, dAndT, dOrT, dNotT, dIf, dAndV, dOrV, dNotV, dChain, aNil, aCons, dTup, dLst, dCut, oNone, oSome, dRev, dNeg, dTru, dCa, dIs, dIsA, dCall, dCallK, sNil, sSeq, sNever, sBrk, sCont, sIf, sRet, sRetO, sRetE, sSet, sSetO, sDrop, sPar, sPar3, kn, enOf, owD, sAsg, gNm, gsNil, gsCons, gTp, sApp, sIns, sExt, sClr, sRev, sPut, sFrz, owAt, fin, st, iRng, iRngB, iSeq, lstD, tupD, sFor, dLc, dDc, wipeE, tYesD, dIndex, dSort, dDictZip, dMeth, dFld, dMk, List.map_cons, List.map_nil, List.length_cons, List.length_nil, List.replicate_succ, List.replicate_zero, List.cons_append, List.nil_append, List.append_nil, List.getElem?_cons_zero, List.getElem?_cons_succ, List.set_cons_zero, List.set_cons_succ, Option.bind_some, Option.map_some, Nat.reduceSub, Nat.reduceAdd, kwP, List.getD_cons_zero, List.getD_cons_succ]
  refine ⟨by decide, trivial, trivial, ⟨_, rfl, by decide, by decide, fun r r0 r1 => ⟨by omega, by omega, ?_⟩⟩⟩
  refine loop_rng (fun i env => ∃ e4 bs, env = [.fz .bag, .fz (.int n), .fz (.str abc), .fz (.str bs), e4, .no, .no, .no] ∧ bs.length = i ∧ ∀ c ∈ bs.cps.toList, Low c) ⟨.no, "", rfl, by decide +kernel, by intro c hc; exact absurd hc (by decide +kernel +revert)⟩ (fun i env hi h k hk => ?_) (fun env h => ?_)
  · obtain ⟨e4, bs, rfl, hl, hc⟩ := h
    simp only [dC, dV, dB, dO2, ob_some, dT, dAndT, dOrT, dNotT, dIf, dAndV, dOrV, dNotV, dChain, aNil, aCons, dTup, dLst, dCut, oNone, oSome, dRev, dNeg, dTru, dCa, dIs, dIsA, dCall, dCallK, sNil, sSeq, sNever, sBrk, sCont, sIf, sRet, sRetO, sRetE, sSet, sSetO, sDrop, sPar, sPar3, kn, enOf, owD, sAsg, gNm, gsNil, gsCons, gTp, sApp, sIns, sExt, sClr, sRev, sPut, sFrz, owAt, fin, st, iRng, iRngB, iSeq, lstD, tupD, sFor, dLc, dDc, wipeE, tYesD, dIndex, dSort, dDictZip, dMeth, dFld, dMk, List.map_cons, List.map_nil, List.length_cons, List.length_nil, List.replicate_succ, List.replicate_zero, List.cons_append, List.nil_append, List.append_nil, List.getElem?_cons_zero, List.getElem?_cons_succ, List.set_cons_zero, List.set_cons_succ, Option.bind_some, Option.map_some, Nat.reduceSub, Nat.reduceAdd, kwP, List.getD_cons_zero, List.getD_cons_succ]
    refine .inr ⟨abc, rfl, by rw [abc_len]; decide, by rw [abc_len]; decide, fun c hm => ?_⟩
    dsimp only
    rw [bAdd_s (by rw [one_len, hl]; exact Nat.le_of_lt (szM (by omega)))]
    refine hk _ ⟨_, _, rfl, ?_, fun c' hc' => ?_⟩
    · rw [str_len, app_codes, List.length_append, ← str_len, hl]
      rfl
    · rw [app_codes] at hc'
      rcases List.mem_append.mp hc' with h | h
      · exact hc c' h
      · have h := List.mem_singleton.mp h
        subst h
        exact abc_mem.mp hm
  · obtain ⟨e4, bs, rfl, hl, hc⟩ := h
    have hb5 : bs.length ≤ 5 := by omega
    have hbs : bs.length ≤ sizeLine := Nat.le_of_lt (szM (by omega))
    simp only [dC, dV, dB, dO2, ob_some, dT, dAndT, dOrT, dNotT, dIf, dAndV, dOrV, dNotV, dChain, aNil, aCons, dTup, dLst, dCut, oNone, oSome, dRev, dNeg, dTru, dCa, dIs, dIsA, dCall, dCallK, sNil, sSeq, sNever, sBrk, sCont, sIf, sRet, sRetO, sRetE, sSet, sSetO, sDrop, sPar, sPar3, kn, enOf, owD, sAsg, gNm, gsNil, gsCons, gTp, sApp, sIns, sExt, sClr, sRev, sPut, sFrz, owAt, fin, st, iRng, iRngB, iSeq, lstD, tupD, sFor, dLc, dDc, wipeE, tYesD, dIndex, dSort, dDictZip, dMeth, dFld, dMk, List.map_cons, List.map_nil, List.length_cons, List.length_nil, List.replicate_succ, List.replicate_zero, List.cons_append, List.nil_append, List.append_nil, List.getElem?_cons_zero, List.getElem?_cons_succ, List.set_cons_zero, List.set_cons_succ, Option.bind_some, Option.map_some, Nat.reduceSub, Nat.reduceAdd, kwP, List.getD_cons_zero, List.getD_cons_succ, lenD, if_pos hbs, bEq_i, bAdd_i]
    refine ⟨_, rfl, by decide, by decide, fun r2 _ _ => ite2 (fun c4 => ?_) (fun c4 => ?_)⟩
    · -- one letter, again and again
      refine ⟨by omega, by omega, ?_⟩
      have hm : ∀ k : Nat, ((bs.length : Int) + 7 * (0 + (k : Nat))) % 26 = ((bs.length + 7 * k) % 26 : Nat) := fun k => by omega
      have hm2 : ∀ k : Nat, 1 + ((bs.length : Int) + 5 * (0 + (k : Nat))) % 4 = ((1 + (bs.length + 5 * k) % 4 : Nat) : Int) := fun k => by omega
      refine comp_map (fun k : Nat => D.int (0 + (k : Nat))) (fun k => D.str (PySem.Txt.mul ⟨#[97 + (bs.length + 7 * k) % 26]⟩ ((1 + (bs.length + 5 * k) % 4 : Nat) : Int))) (List.range n.toNat) [] (fun k hk Q Z hQ => ?_) (by simp; omega) ?_
      · simp only [dC, dV, dB, dO2, ob_some, dT, dAndT, dOrT, dNotT, dIf, dAndV, dOrV, dNotV, dChain, aNil, aCons, dTup, dLst, dCut, oNone, oSome, dRev, dNeg, dTru, dCa, dIs, dIsA, dCall, dCallK, sNil, sSeq, sNever, sBrk, sCont, sIf, sRet, sRetO, sRetE, sSet, sSetO, sDrop, sPar, sPar3, kn, enOf, owD, sAsg, gNm, gsNil, gsCons, gTp, sApp, sIns, sExt, sClr, sRev, sPut, sFrz, owAt, fin, st, iRng, iRngB, iSeq, lstD, tupD, sFor, dLc, dDc, wipeE, tYesD, dIndex, dSort, dDictZip, dMeth, dFld, dMk, List.map_cons, List.map_nil, List.length_cons, List.length_nil, List.replicate_succ, List.replicate_zero, List.cons_append, List.nil_append, List.append_nil, List.getElem?_cons_zero, List.getElem?_cons_succ, List.set_cons_zero, List.set_cons_succ, Option.bind_some, Option.map_some, Nat.reduceSub, Nat.reduceAdd, kwP, List.getD_cons_zero, List.getD_cons_succ, lenD, if_pos hbs, bAdd_i, bMod_i (show (0 : Int) < 26 by decide), bMod_i (show (0 : Int) < 4 by decide), bMul_i (show (-(2 ^ 64) : Int) < 7 by decide) (by decide), bMul_i (show (-(2 ^ 64) : Int) < 5 by decide) (by decide), hm, hm2, bIx_abc (Nat.mod_lt _ (by decide)), if_true]
        have e : bMul (.str ⟨#[97 + (bs.length + 7 * k) % 26]⟩) (.int ((1 + (bs.length + 5 * k) % 4 : Nat) : Int)) = some (.str (PySem.Txt.mul ⟨#[97 + (bs.length + 7 * k) % 26]⟩ ((1 + (bs.length + 5 * k) % 4 : Nat) : Int))) := by
          show (none : Option D).or ((none : Option D).or (if 1 ≤ ((1 + (bs.length + 5 * k) % 4 : Nat) : Int) ∧ ((1 + (bs.length + 5 * k) % 4 : Nat) : Int) ≤ 1000 then some _ else none)) = _
          rw [if_pos ⟨by omega, by omega⟩]
          rfl
        rw [e]
        exact hQ
      · rw [List.nil_append, show (fun k => D.str (PySem.Txt.mul ⟨#[97 + (bs.length + 7 * k) % 26]⟩ ((1 + (bs.length + 5 * k) % 4 : Nat) : Int))) = D.str ∘ fun k => PySem.Txt.mul ⟨#[97 + (bs.length + 7 * k) % 26]⟩ ((1 + (bs.length + 5 * k) % 4 : Nat) : Int) from rfl, ← List.map_map]
        refine q _ (by simp) (fun z hz => ?_) (nodup_map_range fun i j hi hj e => ?_)
        · obtain ⟨k, _, rfl⟩ := List.mem_map.mp hz
          obtain ⟨m, h1, h2⟩ := mul_codes (97 + (bs.length + 7 * k) % 26) (1 + (bs.length + 5 * k) % 4) (by omega)
          have hl2 : (PySem.Txt.mul ⟨#[97 + (bs.length + 7 * k) % 26]⟩ ((1 + (bs.length + 5 * k) % 4 : Nat) : Int)).length = m := by rw [str_len, h1, List.length_replicate]
          refine ⟨by omega, by omega, fun c hc => ?_⟩
          rw [h1] at hc
          have := (List.mem_replicate.mp hc).2
          unfold Low
          omega
        · obtain ⟨m, h1, h2⟩ := mul_codes (97 + (bs.length + 7 * i) % 26) (1 + (bs.length + 5 * i) % 4) (by omega)
          obtain ⟨m2, h3, h4⟩ := mul_codes (97 + (bs.length + 7 * j) % 26) (1 + (bs.length + 5 * j) % 4) (by omega)
          have e2 : List.replicate m (97 + (bs.length + 7 * i) % 26) = List.replicate m2 (97 + (bs.length + 7 * j) % 26) := by rw [← h1, ← h3, e]
          have e3 : (97 + (bs.length + 7 * i) % 26) ∈ List.replicate m2 (97 + (bs.length + 7 * j) % 26) := by rw [← e2]; exact List.mem_replicate.mpr ⟨by omega, rfl⟩
          have := (List.mem_replicate.mp e3).2
          omega
    · refine ⟨_, rfl, by omega, by omega, fun sp s0 s1 => ⟨_, rfl, by decide, by decide, fun fi f0 f1 => ⟨by decide, .inl ⟨_, .inl rfl, by decide, by decide, fun x hx => ?_⟩⟩⟩⟩
      obtain ⟨w, rfl, hw⟩ : ∃ w : Nat, x = .int (w : Int) ∧ (w = 1 ∨ w = 3 ∨ w = 5 ∨ w = 7 ∨ w = 9) := by
        simp only [List.mem_cons, List.not_mem_nil, or_false] at hx
        rcases hx with rfl | rfl | rfl | rfl | rfl
        · exact ⟨1, rfl, by omega⟩
        · exact ⟨3, rfl, by omega⟩
        · exact ⟨5, rfl, by omega⟩
        · exact ⟨7, rfl, by omega⟩
        · exact ⟨9, rfl, by omega⟩
      obtain ⟨sp, rfl⟩ : ∃ j : Nat, sp = (j : Int) := ⟨sp.toNat, by omega⟩
      obtain ⟨fi, rfl⟩ : ∃ j : Nat, fi = (j : Int) := ⟨fi.toNat, by omega⟩
      refine ⟨by decide, trivial, trivial, by omega, by omega, ?_⟩
      have hm : ∀ k : Nat, ((fi : Int) + (w : Int) * (0 + (k : Nat))) % 26 = ((fi + w * k) % 26 : Nat) := fun k => by
        rw [Int.zero_add]
        norm_cast
      have c1 : cutA (.str bs) none (some (sp : Int)) = some (.str (cutS bs none (some (sp : Int)))) := if_pos hbs
      have c2 : cutA (.str bs) (some (sp : Int)) none = some (.str (cutS bs (some (sp : Int)) none)) := if_pos hbs
      have k1 : (cutS bs none (some (sp : Int))).cps.toList = bs.cps.toList.take sp := by
        rw [cut_codes, HT.sIx_none, HT.sIx_nat, List.drop_zero, Nat.sub_zero]
        exact congrArg (fun m => List.take m bs.cps.toList) (by omega)
      have k2 : (cutS bs (some (sp : Int)) none).cps.toList = bs.cps.toList.drop sp := by
        rw [cut_codes, HT.sIx_none, HT.sIx_nat]
        have : min sp bs.length = sp := by omega
        rw [this]
        exact List.take_of_length_le (by rw [List.length_drop, ← str_len]; exact Nat.le_refl _)
      have l1 : (cutS bs none (some (sp : Int))).length = sp := by rw [str_len, k1, List.length_take, ← str_len]; omega
      have l2 : (cutS bs (some (sp : Int)) none).length = bs.length - sp := by rw [str_len, k2, List.length_drop, ← str_len]
      have codes : ∀ k : Nat, (cutS bs none (some (sp : Int)) ++ ⟨#[97 + (fi + w * k) % 26]⟩ ++ cutS bs (some (sp : Int)) none).cps.toList = bs.cps.toList.take sp ++ [97 + (fi + w * k) % 26] ++ bs.cps.toList.drop sp := fun k => by
        rw [app_codes, app_codes, k1, k2]
      refine comp_map (fun k : Nat => D.int (0 + (k : Nat))) (fun k => D.str (cutS bs none (some (sp : Int)) ++ ⟨#[97 + (fi + w * k) % 26]⟩ ++ cutS bs (some (sp : Int)) none)) (List.range n.toNat) [] (fun k hk Q Z hQ => ?_) (by simp; omega) ?_
      · simp only [dC, dV, dB, dO2, ob_some, dT, dAndT, dOrT, dNotT, dIf, dAndV, dOrV, dNotV, dChain, aNil, aCons, dTup, dLst, dCut, oNone, oSome, dRev, dNeg, dTru, dCa, dIs, dIsA, dCall, dCallK, sNil, sSeq, sNever, sBrk, sCont, sIf, sRet, sRetO, sRetE, sSet, sSetO, sDrop, sPar, sPar3, kn, enOf, owD, sAsg, gNm, gsNil, gsCons, gTp, sApp, sIns, sExt, sClr, sRev, sPut, sFrz, owAt, fin, st, iRng, iRngB, iSeq, lstD, tupD, sFor, dLc, dDc, wipeE, tYesD, dIndex, dSort, dDictZip, dMeth, dFld, dMk, List.map_cons, List.map_nil, List.length_cons, List.length_nil, List.replicate_succ, List.replicate_zero, List.cons_append, List.nil_append, List.append_nil, List.getElem?_cons_zero, List.getElem?_cons_succ, List.set_cons_zero, List.set_cons_succ, Option.bind_some, Option.map_some, Nat.reduceSub, Nat.reduceAdd, kwP, List.getD_cons_zero, List.getD_cons_succ, c1, c2, bMul_i (show (-(2 ^ 64) : Int) < (w : Int) by omega) (show (w : Int) < 2 ^ 64 by omega), bAdd_i, bMod_i (show (0 : Int) < 26 by decide), hm, bIx_abc (Nat.mod_lt _ (by decide)), if_true]
        rw [bAdd_s (by rw [one_len, l1]; exact Nat.le_of_lt (szM (by omega))), ob_some, bAdd_s (by rw [str_len, app_codes, List.length_append, ← str_len, l1, l2]; exact Nat.le_of_lt (szM (by show sp + 1 + (bs.length - sp) ≤ _; omega)))]
        exact hQ
      · rw [List.nil_append, show (fun k => D.str (cutS bs none (some (sp : Int)) ++ ⟨#[97 + (fi + w * k) % 26]⟩ ++ cutS bs (some (sp : Int)) none)) = D.str ∘ fun k => cutS bs none (some (sp : Int)) ++ ⟨#[97 + (fi + w * k) % 26]⟩ ++ cutS bs (some (sp : Int)) none from rfl, ← List.map_map]
        refine q _ (by simp) (fun z hz => ?_) (nodup_map_range fun i j hi hj e => ?_)
        · obtain ⟨k, _, rfl⟩ := List.mem_map.mp hz
          have hl2 : (cutS bs none (some (sp : Int)) ++ ⟨#[97 + (fi + w * k) % 26]⟩ ++ cutS bs (some (sp : Int)) none).length = bs.length + 1 := by
            rw [str_len, codes, List.length_append, List.length_append, List.length_take, List.length_drop, ← str_len]
            simp
            omega
          refine ⟨by omega, by omega, fun c hc' => ?_⟩
          rw [codes, List.append_assoc] at hc'
          rcases List.mem_append.mp hc' with h | h
          · exact hc c (List.mem_of_mem_take h)
          · rcases List.mem_append.mp h with h | h
            · have := List.mem_singleton.mp h
              unfold Low
              omega
            · exact hc c (List.mem_of_mem_drop h)
        · have e2 : bs.cps.toList.take sp ++ [97 + (fi + w * i) % 26] ++ bs.cps.toList.drop sp = bs.cps.toList.take sp ++ [97 + (fi + w * j) % 26] ++ bs.cps.toList.drop sp := by rw [← codes, ← codes, e]
          rw [List.append_assoc, List.append_assoc] at e2
          have e3 := (List.cons.inj (List.append_cancel_left e2)).1
          rcases hw with rfl | rfl | rfl | rfl | rfl <;> omega
end DL
namespace DL
open PySem PySem.Spec PyProof.Rows L2 RK
mutual
def toP : D → PyData
  | .non => .none
  | .bl b => .bool b
  | .int i => .int i
  | .str x => .str x
  | .lst xs => .list (toPA xs)
  | .tup xs => .tuple (toPA xs)
  | _ => .none
def toPA : List D → List PyData
  | [] => []
  | x :: xs => toP x :: toPA xs
end
def sh : Nat → D → Bool
  | _, .non => true
  | _, .int _ => true
  | _, .str x => PyData.strOk x
  | n + 1, .lst xs => xs.all (sh n)
  | n + 1, .tup xs => xs.all (sh n)
  | _, _ => false
theorem sh_py : ∀ (n : Nat) (x : D), sh n x = true → toPy x = some (toP x) ∧ (toP x).canLay0 = true ∧ (toP x).depth ≤ n := by
  have lists : ∀ (n : Nat), (∀ x : D, sh n x = true → toPy x = some (toP x) ∧ (toP x).canLay0 = true ∧ (toP x).depth ≤ n) → ∀ xs : List D, xs.all (sh n) = true → toPyA xs = some (toPA xs) ∧ PyData.canLayAll0 (toPA xs) = true ∧ PyData.depthAll (toPA xs) ≤ n := by
    intro n ih xs
    induction xs with
    | nil => intro _; exact ⟨rfl, rfl, Nat.zero_le _⟩
    | cons x xs ihx =>
      intro h
      rw [List.all_cons, Bool.and_eq_true] at h
      obtain ⟨h1, h2, h3⟩ := ih x h.1
      obtain ⟨g1, g2, g3⟩ := ihx h.2
      refine ⟨?_, ?_, ?_⟩
      · show (toPy x).bind _ = _
        rw [h1]
        show (toPyA xs).map _ = _
        rw [g1]
        rfl
      · show (PyData.canLay0 (toP x) && PyData.canLayAll0 (toPA xs)) = true
        rw [h2, g2]
        rfl
      · show max (PyData.depth (toP x)) (PyData.depthAll (toPA xs)) ≤ n
        omega
  intro n
  induction n with
  | zero =>
    intro x h
    cases x with
    | non => exact ⟨rfl, rfl, Nat.le_refl _⟩
    | int i => exact ⟨rfl, rfl, Nat.le_refl _⟩
    | str z => exact ⟨rfl, h, Nat.le_refl _⟩
    | _ => cases h
  | succ n ih =>
    intro x h
    cases x with
    | non => exact ⟨rfl, rfl, Nat.zero_le _⟩
    | int i => exact ⟨rfl, rfl, Nat.zero_le _⟩
    | str z => exact ⟨rfl, h, Nat.zero_le _⟩
    | lst xs =>
      obtain ⟨h1, h2, h3⟩ := lists n ih xs h
      refine ⟨?_, h2, ?_⟩
      · show (toPyA xs).map _ = _
        rw [h1]
        rfl
      · show PyData.depthAll (toPA xs) + 1 ≤ n + 1
        omega
    | tup xs =>
      obtain ⟨h1, h2, h3⟩ := lists n ih xs h
      refine ⟨?_, h2, ?_⟩
      · show (toPyA xs).map _ = _
        rw [h1]
        rfl
      · show PyData.depthAll (toPA xs) + 1 ≤ n + 1
        omega
    | _ => cases h
theorem eqv_iff : ∀ (n : Nat) (x y : D), sh n x = true → sh n y = true → (PyData.eqv (toP x) (toP y) = true ↔ x = y) := by
  have lists : ∀ (n : Nat), (∀ x y : D, sh n x = true → sh n y = true → (PyData.eqv (toP x) (toP y) = true ↔ x = y)) → ∀ xs ys : List D, xs.all (sh n) = true → ys.all (sh n) = true → (PyData.eqvAll (toPA xs) (toPA ys) = true ↔ xs = ys) := by
    intro n ih xs
    induction xs with
    | nil =>
      intro ys _ _
      cases ys with
      | nil => exact ⟨fun _ => rfl, fun _ => rfl⟩
      | cons y ys => exact ⟨fun h => (by cases h), fun h => (by cases h)⟩
    | cons x xs ihx =>
      intro ys hx hy
      cases ys with
      | nil => exact ⟨fun h => (by cases h), fun h => (by cases h)⟩
      | cons y ys =>
        rw [List.all_cons, Bool.and_eq_true] at hx hy
        have h1 := ih x y hx.1 hy.1
        have h2 := ihx ys hx.2 hy.2
        show (PyData.eqv (toP x) (toP y) && PyData.eqvAll (toPA xs) (toPA ys)) = true ↔ _
        rw [Bool.and_eq_true, h1, h2]
        exact ⟨fun ⟨a, b⟩ => by rw [a, b], fun h => ⟨(List.cons.inj h).1, (List.cons.inj h).2⟩⟩
  intro n
  induction n with
  | zero =>
    intro x y hx hy
    cases x <;> try cases hx
    all_goals cases y <;> try cases hy
    all_goals simp [toP, PyData.eqv]
  | succ n ih =>
    intro x y hx hy
    cases x <;> try cases hx
    all_goals cases y <;> try cases hy
    any_goals (simp [toP, PyData.eqv]; done)
    · rename_i xs ys
      have := lists n ih xs ys hx hy
      simp only [toP, PyData.eqv, D.lst.injEq]
      exact this
    · rename_i xs ys
      have := lists n ih xs ys hx hy
      simp only [toP, PyData.eqv, D.tup.injEq]
      exact this
theorem shaped_of {n : Nat} {x : D} (hn : n ≤ 64) (h : sh n x = true) : SeqAt.shaped (toP x) = true := by
  obtain ⟨_, h2, h3⟩ := sh_py n x h
  unfold SeqAt.shaped
  rw [h2, Bool.true_and]
  exact decide_eq_true (by omega)
theorem eqS_iff {neg : Bool} {x y z : D} (h : eqS neg x y = some z) : ∃ b, z = .bl (neg ^^ b) ∧ (b = true ↔ x = y) := by
  cases x <;> try cases h
  all_goals cases y <;> try cases h
  · exact ⟨_, rfl, by rw [decide_eq_true_eq]; exact ⟨fun h => by rw [h], fun h => by cases h; rfl⟩⟩
  · exact ⟨_, rfl, by rw [decide_eq_true_eq]; exact ⟨fun h => by rw [h], fun h => by cases h; rfl⟩⟩
  · exact ⟨_, rfl, by rw [decide_eq_true_eq]; exact ⟨fun h => by rw [h], fun h => by cases h; rfl⟩⟩
theorem beq_iff {neg : Bool} {n : Nat} {x y : D} (hn : n ≤ 64) (hx : sh n x = true) (hy : sh n y = true) : ∃ b, bEqN neg x y = some (.bl (neg ^^ b)) ∧ (b = true ↔ x = y) := by
  cases e : eqS neg x y with
  | some z =>
    obtain ⟨b, rfl, h⟩ := eqS_iff e
    exact ⟨b, by unfold bEqN; rw [e]; rfl, h⟩
  | none =>
    refine ⟨PyData.eqv (toP x) (toP y), ?_, eqv_iff n x y hx hy⟩
    unfold bEqN
    rw [e]
    show eqP neg x y = _
    unfold eqP
    rw [(sh_py n x hx).1, (sh_py n y hy).1]
    exact if_pos ⟨shaped_of hn hx, shaped_of hn hy⟩
theorem beq_ob {neg : Bool} {n : Nat} {x y : D} {P : D → Prop} (hn : n ≤ 64) (hx : sh n x = true) (hy : sh n y = true) (h1 : x = y → P (.bl (!neg))) (h2 : x ≠ y → P (.bl neg)) : ob (bEqN neg x y) P := by
  obtain ⟨b, e, h⟩ := beq_iff (neg := neg) hn hx hy
  rw [e]
  cases b with
  | true => have := h1 (h.mp rfl); cases neg <;> exact this
  | false => have := h2 (fun z => by have := h.mpr z; cases this); cases neg <;> exact this
theorem name_ok {z : Str} (h : NameOk z) : PyData.strOk z = true := by
  unfold PyData.strOk
  rw [← Array.all_toList, List.all_eq_true]
  intro c hc
  have := h.2.2 c hc
  unfold Low at this
  exact decide_eq_true (by omega)
theorem sh_names {n : Nat} {zs : List Str} (h : ∀ z ∈ zs, NameOk z) : sh (n + 1) (.lst (zs.map D.str)) = true := by
  show (zs.map D.str).all (sh n) = true
  rw [List.all_eq_true]
  intro d hd
  obtain ⟨z, hz, rfl⟩ := List.mem_map.mp hd
  have := name_ok (h z hz)
  cases n <;> exact this
def likeD : Nat → D → Bool
  | n + 1, .lst xs => decide (xs.length ≤ 100000) && xs.all (likeD n)
  | n + 1, .tup xs => decide (xs.length ≤ 100000) && xs.all (likeD n)
  | _, .non => true
  | _, .bl _ => true
  | _, .int _ => true
  | _, .str x => PyData.strOk x
  | _, _ => false
def sp_like : Nat → DSp
  | 0 => fun _ _ => False
  | n + 1 => fun ds P => ∃ x, ds = [x, x] ∧ likeD n x = true ∧ P (.bl true)
def d_like (sp_like : DSp) : TDS := (sSeq (sIf (dOrT (dT (dO2 (bEqN true) (dIs "tuple" (dV 1)) (dIs "tuple" (dV 0)))) (dT (dO2 (bEqN true) (dIs "list" (dV 1)) (dIs "list" (dV 0))))) (sRet (dC (.bl false))) sNil)
  (sSeq (sIf (dNotT (dT (dIsA ["tuple", "list"] (dV 1)))) (sRet (dAndV (dO2 (bEqN false) (dIs "bool" (dV 0)) (dIs "bool" (dV 1))) (dO2 (bEqN false) (dV 0) (dV 1)))) sNil)
  (sRet (dAndV (dO2 (bEqN false) (dCa lenD (aCons (dV 0) aNil)) (dCa lenD (aCons (dV 1) aNil))) (dCa allD (aCons (dLc (iRng (aCons (dCa lenD (aCons (dV 1) aNil)) aNil)) (gNm 2) tYesD (dCall sp_like (aCons (dO2 bIx (dV 0) (dV 2)) (aCons (dO2 bIx (dV 1) (dV 2)) aNil))) [2]) aNil))))))
theorem beq_self {x : D} (h : likeD 0 x = true) : bEqN false x x = some (.bl true) := by
  cases x <;> try cases h
  · rfl
  · simp [bEqN, eqS]
  · simp [bEqN, eqS]
  · simp [bEqN, eqS]
theorem rng_map (n : Nat) : rngD 0 n = (List.range n).map fun k => D.int ((k : Nat) : Int) := by
  unfold rngD
  exact List.map_congr_left fun k _ => by rw [Int.zero_add]
theorem rd_like {n : Nat} {ds : List D} {P : D → Prop} (h : sp_like (n + 1) ds P) : d_like (sp_like n) (fin false P) (st 3 ds) := by
  obtain ⟨x, rfl, hx, q⟩ := h
  have isb : ∀ b : Bool, bEqN true (.bl b) (.bl b) = some (.bl false) := fun b => by simp [bEqN, eqS]
  have isc : ∀ b : Bool, bEqN false (.bl b) (.bl b) = some (.bl true) := fun b => by simp [bEqN, eqS]
  have ty : ∀ T, T = "tuple" ∨ T = "list" ∨ T = "bool" → ∃ b, isD T x = some b := by
    intro T hT
    have key : ∀ t, t ∈ ["NoneType", "bool", "int", "str", "list", "tuple"] → ∃ b, kitB t T = some b := by
      intro t ht
      simp only [List.mem_cons, List.not_mem_nil, or_false] at ht
      rcases ht with rfl | rfl | rfl | rfl | rfl | rfl <;> rcases hT with rfl | rfl | rfl <;> first | exact ⟨true, by decide +kernel⟩ | exact ⟨false, by decide +kernel⟩
    unfold isD
    cases n <;> cases x <;> first | (cases hx; done) | exact key _ (by simp)
  obtain ⟨b1, h1⟩ := ty "tuple" (.inl rfl)
  obtain ⟨b2, h2⟩ := ty "list" (.inr (.inl rfl))
  obtain ⟨b3, h3⟩ := ty "bool" (.inr (.inr rfl))
  have hany : isAnyD x ["tuple", "list"] = some (b1 || b2) := by
    unfold isAnyD isAnyD isAnyD
    rw [h1, h2]
    cases b1 <;> cases b2 <;> rfl
  have seqs : ∀ (xs : List D), (x = .lst xs ∨ x = .tup xs) → xs.length ≤ 100000 → (∀ y ∈ xs, likeD (n - 1) y = true) → 1 ≤ n → lenD [x] = some (.int xs.length) → (∀ k : Nat, ∀ y, xs[k]? = some y → bIx x (.int ((k : Nat) : Int)) = some y) → (b1 || b2) = true → d_like (sp_like n) (fin false P) (st 3 [x, x]) := by
    intro xs _ hl hall hn hlen hix hb
    simp only [d_like, dC, dV, dB, dO2, ob_some, dT, dAndT, dOrT, dNotT, dIf, dAndV, dOrV, dNotV, dChain, aNil, aCons, dTup, dLst, dCut, oNone, oSome, dRev, dNeg, dTru, dCa, dIs, dIsA, dCall, dCallK, sNil, sSeq, sNever, sBrk, sCont, sIf, sRet, sRetO, sRetE, sSet, sSetO, sDrop, sPar, sPar3, kn, enOf, owD, sAsg, gNm, gsNil, gsCons, gTp, sApp, sIns, sExt, sClr, sRev, sPut, sFrz, owAt, fin, st, iRng, iRngB, iSeq, lstD, tupD, sFor, dLc, dDc, wipeE, tYesD, dIndex, dSort, dDictZip, dMeth, dFld, dMk, List.map_cons, List.map_nil, List.length_cons, List.length_nil, List.replicate_succ, List.replicate_zero, List.cons_append, List.nil_append, List.append_nil, List.getElem?_cons_zero, List.getElem?_cons_succ, List.set_cons_zero, List.set_cons_succ, Option.bind_some, Option.map_some, Nat.reduceSub, Nat.reduceAdd, kwP, List.getD_cons_zero, List.getD_cons_succ, h1, h2, isb, hany, hb, hlen, bEq_i, decide_true, if_true, Bool.not_true, Bool.false_eq_true, if_false]
    refine ⟨by omega, by omega, ?_⟩
    rw [Int.toNat_natCast, rng_map]
    refine comp_map (fun k : Nat => D.int ((k : Nat) : Int)) (fun _ => D.bl true) (List.range xs.length) [] (fun k hk Q Z hQ => ?_) (by simp; omega) ?_
    · have hk' : k < xs.length := List.mem_range.mp hk
      simp only [dC, dV, dB, dO2, ob_some, dT, dAndT, dOrT, dNotT, dIf, dAndV, dOrV, dNotV, dChain, aNil, aCons, dTup, dLst, dCut, oNone, oSome, dRev, dNeg, dTru, dCa, dIs, dIsA, dCall, dCallK, sNil, sSeq, sNever, sBrk, sCont, sIf, sRet, sRetO, sRetE, sSet, sSetO, sDrop, sPar, sPar3, kn, enOf, owD, sAsg, gNm, gsNil, gsCons, gTp, sApp, sIns, sExt, sClr, sRev, sPut, sFrz, owAt, fin, st, iRng, iRngB, iSeq, lstD, tupD, sFor, dLc, dDc, wipeE, tYesD, dIndex, dSort, dDictZip, dMeth, dFld, dMk, List.map_cons, List.map_nil, List.length_cons, List.length_nil, List.replicate_succ, List.replicate_zero, List.cons_append, List.nil_append, List.append_nil, List.getElem?_cons_zero, List.getElem?_cons_succ, List.set_cons_zero, List.set_cons_succ, Option.bind_some, Option.map_some, Nat.reduceSub, Nat.reduceAdd, kwP, List.getD_cons_zero, List.getD_cons_succ, hix k _ (List.getElem?_eq_getElem hk'), if_true]
      obtain ⟨m, rfl⟩ : ∃ m, n = m + 1 := ⟨n - 1, by omega⟩
      exact ⟨_, rfl, hall _ (List.getElem_mem hk'), hQ⟩
    · have e : ((List.range xs.length).map fun _ => D.bl true) = (List.replicate xs.length true).map D.bl := by
        rw [List.map_replicate, List.map_const', List.length_range]
      rw [List.nil_append, e]
      show ob (allD [.lst ((List.replicate xs.length true).map D.bl)]) P
      rw [allD_map]
      show P (.bl ((List.replicate xs.length true).all id))
      have : (List.replicate xs.length true).all id = true := by
        rw [List.all_eq_true]
        intro b hb
        exact (List.mem_replicate.mp hb).2
      rw [this]
      exact q
  have leafs : likeD 0 x = true → isD "tuple" x = some false → isD "list" x = some false → d_like (sp_like n) (fin false P) (st 3 [x, x]) := by
    intro hl e1 e2
    have hany : isAnyD x ["tuple", "list"] = some false := by
      unfold isAnyD isAnyD isAnyD
      rw [e1, e2]
      rfl
    simp only [d_like, dC, dV, dB, dO2, ob_some, dT, dAndT, dOrT, dNotT, dIf, dAndV, dOrV, dNotV, dChain, aNil, aCons, dTup, dLst, dCut, oNone, oSome, dRev, dNeg, dTru, dCa, dIs, dIsA, dCall, dCallK, sNil, sSeq, sNever, sBrk, sCont, sIf, sRet, sRetO, sRetE, sSet, sSetO, sDrop, sPar, sPar3, kn, enOf, owD, sAsg, gNm, gsNil, gsCons, gTp, sApp, sIns, sExt, sClr, sRev, sPut, sFrz, owAt, fin, st, iRng, iRngB, iSeq, lstD, tupD, sFor, dLc, dDc, wipeE, tYesD, dIndex, dSort, dDictZip, dMeth, dFld, dMk, List.map_cons, List.map_nil, List.length_cons, List.length_nil, List.replicate_succ, List.replicate_zero, List.cons_append, List.nil_append, List.append_nil, List.getElem?_cons_zero, List.getElem?_cons_succ, List.set_cons_zero, List.set_cons_succ, Option.bind_some, Option.map_some, Nat.reduceSub, Nat.reduceAdd, kwP, List.getD_cons_zero, List.getD_cons_succ, e1, e2, h3, isb, isc, hany, beq_self hl, if_true, Bool.not_false, Bool.false_eq_true, if_false]
    exact q
  cases x with
  | lst xs =>
    cases n with
    | zero => cases hx
    | succ n =>
      have hx' : (decide (xs.length ≤ 100000) && xs.all (likeD n)) = true := hx
      rw [Bool.and_eq_true] at hx'
      refine seqs xs (.inl rfl) (of_decide_eq_true hx'.1) (fun y hy => List.all_eq_true.mp hx'.2 y hy) (by omega) rfl (fun k y h => bIx_l h) ?_
      have : b2 = true := by
        have : isD "list" (.lst xs) = some true := (by decide +kernel : kitB "list" "list" = some true)
        rw [h2] at this
        exact Option.some.inj this
      rw [this]
      simp
  | tup xs =>
    cases n with
    | zero => cases hx
    | succ n =>
      have hx' : (decide (xs.length ≤ 100000) && xs.all (likeD n)) = true := hx
      rw [Bool.and_eq_true] at hx'
      refine seqs xs (.inr rfl) (of_decide_eq_true hx'.1) (fun y hy => List.all_eq_true.mp hx'.2 y hy) (by omega) rfl (fun k y h => bIx_tp h) ?_
      have : b1 = true := by
        have : isD "tuple" (.tup xs) = some true := (by decide +kernel : kitB "tuple" "tuple" = some true)
        rw [h1] at this
        exact Option.some.inj this
      rw [this]
      simp
  | non => exact leafs rfl (by decide +kernel) (by decide +kernel)
  | bl b => exact leafs rfl (by show kitB "bool" "tuple" = some false; decide +kernel) (by show kitB "bool" "list" = some false; decide +kernel)
  | int i => exact leafs rfl (by show kitB "int" "tuple" = some false; decide +kernel) (by show kitB "int" "list" = some false; decide +kernel)
  | str z => exact leafs (by cases n <;> exact hx) (by show kitB "str" "tuple" = some false; decide +kernel) (by show kitB "str" "list" = some false; decide +kernel)
  | _ => cases n <;> cases hx
end DL
namespace DL
open PySem PySem.Spec PyProof.Rows L2 RK
abbrev Win := Str × R
def wk (w : Win) : Key × D := (Sum.inr w.1, rectD w.2)
def winD (ws : List Win) : D := .dic (ws.map wk)
def nms (ws : List Win) : List Str := ws.map (·.1)
structure WOk (ws : List Win) : Prop where
  nd : (nms ws).Nodup
  nm : ∀ w ∈ ws, NameOk w.1
  gd : ∀ w ∈ ws, w.2.good
def Sm (p : R) : Prop := p.good ∧ p.r - p.l ≤ 400000000 ∧ p.b - p.t ≤ 400000000
theorem WOk.perm {ws us : List Win} (h : WOk ws) (p : us.Perm ws) : WOk us := ⟨(p.map _).nodup_iff.mpr h.nd, fun w hw => h.nm w (p.mem_iff.mp hw), fun w hw => h.gd w (p.mem_iff.mp hw)⟩
theorem nodup_inj {α β : Type} {f : α → β} {l : List α} (inj : ∀ a b, f a = f b → a = b) (h : l.Nodup) : (l.map f).Nodup := by
  rw [List.nodup_iff_pairwise_ne, List.pairwise_map]
  exact (List.nodup_iff_pairwise_ne.mp h).imp fun hab e => hab (inj _ _ e)
theorem perm_str {ys : List D} {zs : List Str} (h : ys.Perm (zs.map D.str)) : ∃ us : List Str, ys = us.map D.str ∧ us.Perm zs := by
  have key : ∀ (ys : List D), (∀ y ∈ ys, ∃ z, y = D.str z) → ∃ us : List Str, ys = us.map D.str := by
    intro ys
    induction ys with
    | nil => intro _; exact ⟨[], rfl⟩
    | cons y ys ih =>
      intro h
      obtain ⟨z, rfl⟩ := h y List.mem_cons_self
      obtain ⟨us, rfl⟩ := ih fun w hw => h w (List.mem_cons_of_mem _ hw)
      exact ⟨z :: us, rfl⟩
  obtain ⟨us, rfl⟩ := key ys fun y hy => by
    obtain ⟨z, _, e⟩ := List.mem_map.mp (h.mem_iff.mp hy)
    exact ⟨z, e.symm⟩
  refine ⟨us, rfl, ?_⟩
  have h2 := h.map fun d => match d with | D.str z => z | _ => Str.empty
  rw [List.map_map, List.map_map] at h2
  have e : ((fun d => match d with | D.str z => z | _ => Str.empty) ∘ D.str) = id := rfl
  rw [e, List.map_id, List.map_id] at h2
  exact h2
end DL
namespace DL
open PySem PySem.Spec PyProof.Rows L2 RK
instance (p : R) : Decidable p.good := by unfold R.good; infer_instance
instance (p : R) (x y : Int) : Decidable (p.has x y) := by unfold R.has; infer_instance
instance (c : Nat) : Decidable (Low c) := by unfold Low; infer_instance
instance (z : Str) : Decidable (NameOk z) := by unfold NameOk; infer_instance
theorem is_tt {xs : List D} : isD "tuple" (.tup xs) = some true := (by decide +kernel : kitB "tuple" "tuple" = some true)
theorem is_ii {i : Int} : isD "int" (.int i) = some true := (by decide +kernel : kitB "int" "int" = some true)
theorem is_ss {z : Str} : isD "str" (.str z) = some true := (by decide +kernel : kitB "str" "str" = some true)
theorem bNe_i (i j : Int) : bEqN true (.int i) (.int j) = some (.bl (!decide (i = j))) := by
  show (some (D.bl (true ^^ decide (i = j)))).or _ = _
  rw [Bool.true_xor]
  rfl
theorem bLe_i (i j : Int) : bLe (.int i) (.int j) = some (.bl (decide (i ≤ j))) := rfl
theorem bLt_i (i j : Int) : bLt (.int i) (.int j) = some (.bl (decide (i < j))) := rfl
theorem iLt_i (i j : Int) : iI0 (fun i j => D.bl (decide (i < j))) (.int i) (.int j) = some (.bl (decide (i < j))) := rfl
def sp_has_four_numbers : DSp := fun ds P => ∃ r : R, ds = [rectD r] ∧ P (.bl true)
def d_has_four_numbers : TDS := (sSeq (sIf (dOrT (dNotT (dT (dIs "tuple" (dV 0)))) (dT (dO2 (bEqN true) (dCa lenD (aCons (dV 0) aNil)) (dC (.int 4))))) (sRet (dC (.bl false))) sNil)
  (sRet (dCa allD (aCons (dLc (iSeq (dV 0)) (gNm 1) tYesD (dIs "int" (dV 1)) [1]) aNil))))
theorem rd_has_four_numbers {ds : List D} {P : D → Prop} (h : sp_has_four_numbers ds P) : d_has_four_numbers (fin false P) (st 2 ds) := by
  obtain ⟨r, rfl, q⟩ := h
  simp only [d_has_four_numbers, dC, dV, dB, dO2, ob_some, dT, dAndT, dOrT, dNotT, dIf, dAndV, dOrV, dNotV, dChain, aNil, aCons, dTup, dLst, dCut, oNone, oSome, dRev, dNeg, dTru, dCa, dIs, dIsA, dCall, dCallK, sNil, sSeq, sNever, sBrk, sCont, sIf, sRet, sRetO, sRetE, sSet, sSetO, sDrop, sPar, sPar3, kn, enOf, owD, sAsg, gNm, gsNil, gsCons, gTp, sApp, sIns, sExt, sClr, sRev, sPut, sFrz, owAt, fin, st, iRng, iRngB, iSeq, lstD, tupD, sFor, dLc, dDc, wipeE, tYesD, dIndex, dSort, dDictZip, dMeth, dFld, dMk, List.map_cons, List.map_nil, List.length_cons, List.length_nil, List.replicate_succ, List.replicate_zero, List.cons_append, List.nil_append, List.append_nil, List.getElem?_cons_zero, List.getElem?_cons_succ, List.set_cons_zero, List.set_cons_succ, Option.bind_some, Option.map_some, Nat.reduceSub, Nat.reduceAdd, kwP, List.getD_cons_zero, List.getD_cons_succ, rectD, is_tt, lenD, bNe_i, Bool.not_true, Bool.false_eq_true, if_false]
  refine ite2 (fun h => by simp at h) (fun _ => .inr (.inl ?_))
  refine comp_map id (fun _ => D.bl true) [.int r.l, .int r.t, .int r.r, .int r.b] [] (fun x hx Q Z hQ => ?_) (by simp) ?_
  · obtain ⟨i, rfl⟩ : ∃ i, x = .int i := by
      simp only [List.mem_cons, List.not_mem_nil, or_false] at hx
      rcases hx with rfl | rfl | rfl | rfl <;> exact ⟨_, rfl⟩
    simp only [dC, dV, dB, dO2, ob_some, dT, dAndT, dOrT, dNotT, dIf, dAndV, dOrV, dNotV, dChain, aNil, aCons, dTup, dLst, dCut, oNone, oSome, dRev, dNeg, dTru, dCa, dIs, dIsA, dCall, dCallK, sNil, sSeq, sNever, sBrk, sCont, sIf, sRet, sRetO, sRetE, sSet, sSetO, sDrop, sPar, sPar3, kn, enOf, owD, sAsg, gNm, gsNil, gsCons, gTp, sApp, sIns, sExt, sClr, sRev, sPut, sFrz, owAt, fin, st, iRng, iRngB, iSeq, lstD, tupD, sFor, dLc, dDc, wipeE, tYesD, dIndex, dSort, dDictZip, dMeth, dFld, dMk, List.map_cons, List.map_nil, List.length_cons, List.length_nil, List.replicate_succ, List.replicate_zero, List.cons_append, List.nil_append, List.append_nil, List.getElem?_cons_zero, List.getElem?_cons_succ, List.set_cons_zero, List.set_cons_succ, Option.bind_some, Option.map_some, Nat.reduceSub, Nat.reduceAdd, kwP, List.getD_cons_zero, List.getD_cons_succ, id, is_ii, if_true]
    exact hQ
  · exact q
def sp_is_rectangle : DSp := fun ds P => ∃ r : R, ds = [rectD r] ∧ P (.bl (decide r.good))
def d_is_rectangle : TDS := (sSeq (sIf (dNotT (dT (dCall sp_has_four_numbers (aCons (dV 0) aNil)))) (sRet (dC (.bl false))) sNil)
  (sSeq (sAsg (dV 0) (gTp 4 (gsCons (gNm 1) (gsCons (gNm 2) (gsCons (gNm 3) (gsCons (gNm 4) gsNil))))))
  (sSeq (sIf (dNotT (dT (dCa allD (aCons (dLc (iSeq (dV 0)) (gNm 5) tYesD (dChain bLe bLe (dNeg (dC (.int 1000000000))) (dV 5) (dC (.int 1000000000))) [5]) aNil)))) (sRet (dC (.bl false))) sNil)
  (sRet (dAndV (dO2 bLt (dV 1) (dV 3)) (dO2 bLt (dV 2) (dV 4)))))))
theorem rd_is_rectangle {ds : List D} {P : D → Prop} (h : sp_is_rectangle ds P) : d_is_rectangle (fin false P) (st 6 ds) := by
  obtain ⟨r, rfl, q⟩ := h
  simp only [d_is_rectangle, dC, dV, dB, dO2, ob_some, dT, dAndT, dOrT, dNotT, dIf, dAndV, dOrV, dNotV, dChain, aNil, aCons, dTup, dLst, dCut, oNone, oSome, dRev, dNeg, dTru, dCa, dIs, dIsA, dCall, dCallK, sNil, sSeq, sNever, sBrk, sCont, sIf, sRet, sRetO, sRetE, sSet, sSetO, sDrop, sPar, sPar3, kn, enOf, owD, sAsg, gNm, gsNil, gsCons, gTp, sApp, sIns, sExt, sClr, sRev, sPut, sFrz, owAt, fin, st, iRng, iRngB, iSeq, lstD, tupD, sFor, dLc, dDc, wipeE, tYesD, dIndex, dSort, dDictZip, dMeth, dFld, dMk, List.map_cons, List.map_nil, List.length_cons, List.length_nil, List.replicate_succ, List.replicate_zero, List.cons_append, List.nil_append, List.append_nil, List.getElem?_cons_zero, List.getElem?_cons_succ, List.set_cons_zero, List.set_cons_succ, Option.bind_some, Option.map_some, Nat.reduceSub, Nat.reduceAdd, kwP, List.getD_cons_zero, List.getD_cons_succ, rectD]
  refine ⟨r, rfl, ?_⟩
  simp only [Bool.not_true, Bool.false_eq_true, if_false]
  refine ⟨trivial, trivial, .inr (.inl ?_)⟩
  refine comp_map id (fun x => match x with | .int i => D.bl (decide (-1000000000 ≤ i) && decide (i ≤ 1000000000)) | _ => .non) [.int r.l, .int r.t, .int r.r, .int r.b] [] (fun x hx Q Z hQ => ?_) (by simp) ?_
  · obtain ⟨i, rfl⟩ : ∃ i, x = .int i := by
      simp only [List.mem_cons, List.not_mem_nil, or_false] at hx
      rcases hx with rfl | rfl | rfl | rfl <;> exact ⟨_, rfl⟩
    simp only [dC, dV, dB, dO2, ob_some, dT, dAndT, dOrT, dNotT, dIf, dAndV, dOrV, dNotV, dChain, aNil, aCons, dTup, dLst, dCut, oNone, oSome, dRev, dNeg, dTru, dCa, dIs, dIsA, dCall, dCallK, sNil, sSeq, sNever, sBrk, sCont, sIf, sRet, sRetO, sRetE, sSet, sSetO, sDrop, sPar, sPar3, kn, enOf, owD, sAsg, gNm, gsNil, gsCons, gTp, sApp, sIns, sExt, sClr, sRev, sPut, sFrz, owAt, fin, st, iRng, iRngB, iSeq, lstD, tupD, sFor, dLc, dDc, wipeE, tYesD, dIndex, dSort, dDictZip, dMeth, dFld, dMk, List.map_cons, List.map_nil, List.length_cons, List.length_nil, List.replicate_succ, List.replicate_zero, List.cons_append, List.nil_append, List.append_nil, List.getElem?_cons_zero, List.getElem?_cons_succ, List.set_cons_zero, List.set_cons_succ, Option.bind_some, Option.map_some, Nat.reduceSub, Nat.reduceAdd, kwP, List.getD_cons_zero, List.getD_cons_succ, id, bLe_i, if_true]
    cases h1 : decide ((-1000000000 : Int) ≤ i) with
    | true => simp only [h1, Bool.true_and] at hQ; exact hQ
    | false => simp only [h1, Bool.false_and] at hQ; exact hQ
  · show ob (allD [.lst ([decide (-1000000000 ≤ r.l) && decide (r.l ≤ 1000000000), decide (-1000000000 ≤ r.t) && decide (r.t ≤ 1000000000), decide (-1000000000 ≤ r.r) && decide (r.r ≤ 1000000000), decide (-1000000000 ≤ r.b) && decide (r.b ≤ 1000000000)].map D.bl)]) _
    rw [allD_map]
    simp only [ob_some, List.all_cons, List.all_nil, id]
    refine ite2 (fun h => ?_) (fun h => ?_)
    · have : decide r.good = false := by
        rw [decide_eq_false_iff_not]
        rintro ⟨g1, g2, g3, g4, g5, g6, g7, g8, g9, g10⟩
        simp [g1, g2, g3, g4, g5, g6, g7, g8] at h
      rw [this] at q
      exact q
    · simp only [bLt_i, ob_some]
      have hb : -1000000000 ≤ r.l ∧ r.l ≤ 1000000000 ∧ -1000000000 ≤ r.t ∧ r.t ≤ 1000000000 ∧ -1000000000 ≤ r.r ∧ r.r ≤ 1000000000 ∧ -1000000000 ≤ r.b ∧ r.b ≤ 1000000000 := by
        simp at h
        omega
      have e : decide r.good = (decide (r.l < r.r) && decide (r.t < r.b)) := by
        rw [Bool.eq_iff_iff]
        simp only [decide_eq_true_eq, Bool.and_eq_true]
        exact ⟨fun g => ⟨g.2.2.2.2.2.2.2.2.1, g.2.2.2.2.2.2.2.2.2⟩, fun g => ⟨hb.1, hb.2.1, hb.2.2.1, hb.2.2.2.1, hb.2.2.2.2.1, hb.2.2.2.2.2.1, hb.2.2.2.2.2.2.1, hb.2.2.2.2.2.2.2, g.1, g.2⟩⟩
      rw [e] at q
      refine ite2 (fun h1 => ?_) (fun h1 => ?_)
      · rw [h1, Bool.true_and] at q
        exact q
      · rw [Bool.eq_false_iff.mpr h1, Bool.false_and] at q
        exact q
def sp_covers : DSp := fun ds P => ∃ (r : R) (x y : Int), ds = [rectD r, .int x, .int y] ∧ P (.bl (decide (r.has x y)))
def d_covers : TDS := (sSeq (sAsg (dV 0) (gTp 4 (gsCons (gNm 3) (gsCons (gNm 4) (gsCons (gNm 5) (gsCons (gNm 6) gsNil))))))
  (sRet (dAndV (dChain bLe (iI0 fun i j => .bl (decide (i < j))) (dV 3) (dV 1) (dV 5)) (dChain bLe (iI0 fun i j => .bl (decide (i < j))) (dV 4) (dV 2) (dV 6)))))
theorem and4 {a b c d : Prop} [Decidable a] [Decidable b] [Decidable c] [Decidable d] [Decidable (a ∧ b ∧ c ∧ d)] : decide (a ∧ b ∧ c ∧ d) = (decide a && (decide b && (decide c && decide d))) := by
  by_cases ha : a <;> by_cases hb : b <;> by_cases hc : c <;> by_cases hd : d <;> simp [ha, hb, hc, hd]
theorem rd_covers {ds : List D} {P : D → Prop} (h : sp_covers ds P) : d_covers (fin false P) (st 7 ds) := by
  obtain ⟨r, x, y, rfl, q⟩ := h
  have e : decide (r.has x y) = (decide (r.l ≤ x) && (decide (x < r.r) && (decide (r.t ≤ y) && decide (y < r.b)))) := and4
  rw [e] at q
  simp only [d_covers, dC, dV, dB, dO2, ob_some, dT, dAndT, dOrT, dNotT, dIf, dAndV, dOrV, dNotV, dChain, aNil, aCons, dTup, dLst, dCut, oNone, oSome, dRev, dNeg, dTru, dCa, dIs, dIsA, dCall, dCallK, sNil, sSeq, sNever, sBrk, sCont, sIf, sRet, sRetO, sRetE, sSet, sSetO, sDrop, sPar, sPar3, kn, enOf, owD, sAsg, gNm, gsNil, gsCons, gTp, sApp, sIns, sExt, sClr, sRev, sPut, sFrz, owAt, fin, st, iRng, iRngB, iSeq, lstD, tupD, sFor, dLc, dDc, wipeE, tYesD, dIndex, dSort, dDictZip, dMeth, dFld, dMk, List.map_cons, List.map_nil, List.length_cons, List.length_nil, List.replicate_succ, List.replicate_zero, List.cons_append, List.nil_append, List.append_nil, List.getElem?_cons_zero, List.getElem?_cons_succ, List.set_cons_zero, List.set_cons_succ, Option.bind_some, Option.map_some, Nat.reduceSub, Nat.reduceAdd, kwP, List.getD_cons_zero, List.getD_cons_succ, rectD, bLe_i, iLt_i]
  refine ⟨trivial, trivial, ?_⟩
  cases h1 : decide (r.l ≤ x) with
  | false => rw [h1, Bool.false_and] at q; exact q
  | true =>
    rw [h1, Bool.true_and] at q
    cases h2 : decide (x < r.r) with
    | false => rw [h2, Bool.false_and] at q; simpa using q
    | true =>
      rw [h2, Bool.true_and] at q
      simp only [if_true]
      cases h3 : decide (r.t ≤ y) with
      | false => rw [h3, Bool.false_and] at q; exact q
      | true => rw [h3, Bool.true_and] at q; exact q
def sp_is_name : DSp := fun ds P => ∃ z : Str, ds = [.str z] ∧ z.length ≤ 1000000 ∧ P (.bl (decide (NameOk z)))
def d_is_name : TDS := (sSeq (sIf (dOrT (dNotT (dT (dIs "str" (dV 0)))) (dNotT (dT (dChain bLe bLe (dC (.int 1)) (dCa lenD (aCons (dV 0) aNil)) (dC (.int 6)))))) (sRet (dC (.bl false))) sNil)
  (sRet (dCa allD (aCons (dLc (iSeq (dV 0)) (gNm 1) tYesD (dO2 (bIn false) (dV 1) (dC (.str "abcdefghijklmnopqrstuvwxyz"))) [1]) aNil))))
theorem rd_is_name {ds : List D} {P : D → Prop} (h : sp_is_name ds P) : d_is_name (fin false P) (st 2 ds) := by
  obtain ⟨z, rfl, hz, q⟩ := h
  have hs : z.length ≤ sizeLine := Nat.le_of_lt (szM hz)
  have e : decide (NameOk z) = (decide ((1 : Int) ≤ z.length) && (decide ((z.length : Int) ≤ 6) && z.cps.toList.all fun c => decide (Low c))) := by
    rw [Bool.eq_iff_iff, decide_eq_true_iff, Bool.and_eq_true, Bool.and_eq_true, decide_eq_true_iff, decide_eq_true_iff, List.all_eq_true]
    constructor
    · rintro ⟨g1, g2, g3⟩
      exact ⟨by omega, by omega, fun c hc => decide_eq_true (g3 c hc)⟩
    · rintro ⟨g1, g2, g3⟩
      exact ⟨by omega, by omega, fun c hc => of_decide_eq_true (g3 c hc)⟩
  rw [e] at q
  simp only [d_is_name, dC, dV, dB, dO2, ob_some, dT, dAndT, dOrT, dNotT, dIf, dAndV, dOrV, dNotV, dChain, aNil, aCons, dTup, dLst, dCut, oNone, oSome, dRev, dNeg, dTru, dCa, dIs, dIsA, dCall, dCallK, sNil, sSeq, sNever, sBrk, sCont, sIf, sRet, sRetO, sRetE, sSet, sSetO, sDrop, sPar, sPar3, kn, enOf, owD, sAsg, gNm, gsNil, gsCons, gTp, sApp, sIns, sExt, sClr, sRev, sPut, sFrz, owAt, fin, st, iRng, iRngB, iSeq, lstD, tupD, sFor, dLc, dDc, wipeE, tYesD, dIndex, dSort, dDictZip, dMeth, dFld, dMk, List.map_cons, List.map_nil, List.length_cons, List.length_nil, List.replicate_succ, List.replicate_zero, List.cons_append, List.nil_append, List.append_nil, List.getElem?_cons_zero, List.getElem?_cons_succ, List.set_cons_zero, List.set_cons_succ, Option.bind_some, Option.map_some, Nat.reduceSub, Nat.reduceAdd, kwP, List.getD_cons_zero, List.getD_cons_succ, is_ss, lenD, if_pos hs, bLe_i, Bool.not_true, Bool.false_eq_true, if_false]
  cases h1 : decide ((1 : Int) ≤ z.length) with
  | false => rw [h1, Bool.false_and] at q; simpa using q
  | true =>
    rw [h1, Bool.true_and] at q
    cases h2 : decide ((z.length : Int) ≤ 6) with
    | false => rw [h2, Bool.false_and] at q; simpa using q
    | true =>
      rw [h2, Bool.true_and] at q
      simp only [Bool.not_true, Bool.false_eq_true, if_false]
      refine .inr (.inr ?_)
      show dComp _ _ _ _ _ (z.cps.toList.map fun c => D.str ⟨#[c]⟩) []
      refine comp_map (fun c : Nat => D.str ⟨#[c]⟩) (fun c => D.bl (decide (Low c))) z.cps.toList [] (fun c hc Q Z hQ => ?_) (by rw [← str_len]; simp; omega) ?_
      · have e2 : bIn false (.str ⟨#[c]⟩) (.str "abcdefghijklmnopqrstuvwxyz") = some (.bl (decide (Low c))) := by
          show (none : Option D).or ((none : Option D).or ((some (D.bl (false ^^ decide (c ∈ abc.cps.toList)))).or _)) = _
          rw [Bool.false_xor, decide_eq_decide.mpr (abc_mem (c := c))]
          rfl
        simp only [dC, dV, dB, dO2, ob_some, dT, dAndT, dOrT, dNotT, dIf, dAndV, dOrV, dNotV, dChain, aNil, aCons, dTup, dLst, dCut, oNone, oSome, dRev, dNeg, dTru, dCa, dIs, dIsA, dCall, dCallK, sNil, sSeq, sNever, sBrk, sCont, sIf, sRet, sRetO, sRetE, sSet, sSetO, sDrop, sPar, sPar3, kn, enOf, owD, sAsg, gNm, gsNil, gsCons, gTp, sApp, sIns, sExt, sClr, sRev, sPut, sFrz, owAt, fin, st, iRng, iRngB, iSeq, lstD, tupD, sFor, dLc, dDc, wipeE, tYesD, dIndex, dSort, dDictZip, dMeth, dFld, dMk, List.map_cons, List.map_nil, List.length_cons, List.length_nil, List.replicate_succ, List.replicate_zero, List.cons_append, List.nil_append, List.append_nil, List.getElem?_cons_zero, List.getElem?_cons_succ, List.set_cons_zero, List.set_cons_succ, Option.bind_some, Option.map_some, Nat.reduceSub, Nat.reduceAdd, kwP, List.getD_cons_zero, List.getD_cons_succ, e2, if_true]
        exact hQ
      · rw [List.nil_append, allD_f]
        exact q
end DL
namespace DL
open PySem PySem.Spec PyProof.Rows L2 RK
def look (us : List Win) (z : Str) : Option R := (us.find? fun w => decide (w.1 = z)).map (·.2)
theorem val_win (us : List Win) (z : Str) : valD (us.map wk) (Sum.inr z : Key) = (look us z).map rectD := by
  unfold valD look
  induction us with
  | nil => rfl
  | cons u us ih =>
    rw [List.map_cons, List.find?_cons, List.find?_cons]
    have e : decide ((wk u).1 = (Sum.inr z : Key)) = decide (u.1 = z) := decide_eq_decide.mpr inr_inj
    rw [e]
    cases decide (u.1 = z) with
    | true => rfl
    | false => exact ih
theorem look_mem {us : List Win} (nd : (nms us).Nodup) {w : Win} (h : w ∈ us) : look us w.1 = some w.2 := by
  unfold look
  induction us with
  | nil => cases h
  | cons u us ih =>
    rw [List.find?_cons]
    have nd' := List.nodup_cons.mp nd
    rcases List.mem_cons.mp h with rfl | h
    · rw [decide_eq_true rfl]
      rfl
    · have : u.1 ≠ w.1 := fun e => nd'.1 (by show u.1 ∈ _; rw [e]; exact List.mem_map.mpr ⟨w, h, rfl⟩)
      rw [decide_eq_false this]
      exact ih nd'.2 h
theorem look_some {us : List Win} {z : Str} {r : R} (h : look us z = some r) : (z, r) ∈ us := by
  unfold look at h
  obtain ⟨w, h1, h2⟩ := Option.map_eq_some_iff.mp h
  have h3 : w.1 = z := of_decide_eq_true (List.find?_some (p := fun w : Win => decide (w.1 = z)) h1)
  have h4 := List.mem_of_find?_eq_some h1
  rw [← h3, ← h2]
  exact h4
theorem look_ex {us : List Win} (nd : (nms us).Nodup) {z : Str} (h : z ∈ nms us) : ∃ r, look us z = some r ∧ (z, r) ∈ us := by
  obtain ⟨w, hw, rfl⟩ := List.mem_map.mp h
  exact ⟨w.2, look_mem nd hw, hw⟩
theorem look_perm {us ws : List Win} (nd : (nms ws).Nodup) (p : us.Perm ws) (z : Str) : look us z = look ws z := by
  have nd' : (nms us).Nodup := (p.map _).nodup_iff.mpr nd
  cases h : look ws z with
  | some r => exact look_mem nd' (w := (z, r)) (p.mem_iff.mpr (look_some h))
  | none =>
    cases g : look us z with
    | none => rfl
    | some r =>
      have := look_mem nd (w := (z, r)) (p.mem_iff.mp (look_some g))
      rw [h] at this
      cases this
theorem bIx_win {us : List Win} {z : Str} {r : R} (h : look us z = some r) : bIx (winD us) (.str z) = some (rectD r) := by
  show (none : Option D).or ((none : Option D).or ((some (valD (us.map wk) (Sum.inr z : Key))).bind fun r => r)) = _
  rw [val_win, h]
  rfl
theorem bIn_win {neg : Bool} (us : List Win) (z : Str) : bIn neg (.str z) (winD us) = some (.bl (neg ^^ (look us z).isSome)) := by
  show (none : Option D).or ((some (D.bl (neg ^^ (valD (us.map wk) (Sum.inr z : Key)).isSome))).or _) = _
  rw [val_win]
  cases look us z <;> rfl
theorem txtKeys_win (us : List Win) : txtKeys (us.map wk) = some (nms us) := by
  induction us with
  | nil => rfl
  | cons u us ih =>
    show (txtKeys (us.map wk)).map _ = _
    rw [ih]
    rfl
theorem any_str (zs : List Str) (n : Str) : ((zs.map D.str).any fun y => eqF y (.str n)) = decide (n ∈ zs) := by
  induction zs with
  | nil => rfl
  | cons z zs ih =>
    rw [List.map_cons, List.any_cons, ih]
    show ((z == n) || decide (n ∈ zs)) = _
    by_cases h : z = n
    · subst h
      simp
    · have : (z == n) = false := beq_eq_false_iff_ne.mpr h
      rw [this, Bool.false_or]
      exact decide_eq_decide.mpr ⟨fun h => List.mem_cons_of_mem _ h, fun h2 => (List.mem_cons.mp h2).elim (fun e => (h e.symm).elim) id⟩
theorem leaf_strs (zs : List Str) : (zs.map D.str).all D.leaf = true := by
  rw [List.all_eq_true]
  intro d hd
  obtain ⟨z, _, rfl⟩ := List.mem_map.mp hd
  rfl
def IsSeq (d : D) (zs : List Str) : Prop := d = .lst (zs.map D.str) ∨ d = .tup (zs.map D.str)
theorem bIn_strs {neg : Bool} {d : D} {zs : List Str} (h : IsSeq d zs) (n : Str) : bIn neg (.str n) d = some (.bl (neg ^^ decide (n ∈ zs))) := by
  rcases h with rfl | rfl
  · show ((if D.leaf (.str n) = true ∧ (zs.map D.str).all D.leaf = true then some (D.bl (neg ^^ (zs.map D.str).any fun y => eqF y (.str n))) else none)).or _ = _
    rw [if_pos ⟨rfl, leaf_strs zs⟩, any_str]
    rfl
  · show ((if D.leaf (.str n) = true ∧ (zs.map D.str).all D.leaf = true then some (D.bl (neg ^^ (zs.map D.str).any fun y => eqF y (.str n))) else none)).or _ = _
    rw [if_pos ⟨rfl, leaf_strs zs⟩, any_str]
    rfl
theorem len_strs {d : D} {zs : List Str} (h : IsSeq d zs) : lenD [d] = some (.int zs.length) := by
  rcases h with rfl | rfl
  · show some (D.int ((zs.map D.str).length : Int)) = _
    rw [List.length_map]
  · show some (D.int ((zs.map D.str).length : Int)) = _
    rw [List.length_map]
theorem seq_strs {d : D} {zs : List Str} (h : IsSeq d zs) {P : List D → Prop} (q : P (zs.map D.str)) : ob (lstD d) P ∨ ob (tupD d) P ∨ ob (sgnD d) P := by
  rcases h with rfl | rfl
  · exact .inl q
  · exact .inr (.inl q)
def sp_check_windows : DSp := fun ds P => ∃ ws, ds = [winD ws] ∧ WOk ws ∧ 1 ≤ ws.length ∧ ws.length ≤ 24 ∧ P .non
def d_check_windows : TDS := (sSeq (sIf (dNotT (dT (dChain bLe bLe (dC (.int 1)) (dCa lenD (aCons (dV 0) aNil)) (dC (.int 24))))) sNever sNil)
  (sSeq (sSet 1 (dSort (dV 0)))
  (sSeq (sFor (iSeq (dV 1)) (gNm 2) (sIf (dNotT (dT (dCall sp_is_name (aCons (dV 2) aNil)))) sNever sNil))
  (sFor (iSeq (dV 1)) (gNm 2) (sIf (dNotT (dT (dCall sp_is_rectangle (aCons (dO2 bIx (dV 0) (dV 2)) aNil)))) sNever sNil)))))
theorem sort_name {ws : List Win} {ys : List Str} (W : WOk ws) (h : SortS (nms ws) ys) : ∀ y ∈ ys, NameOk y ∧ ∃ r, look ws y = some r ∧ r.good := fun y hy => by
  obtain ⟨w, hw, rfl⟩ := List.mem_map.mp (h.1.mem_iff.mp hy)
  exact ⟨W.nm w hw, w.2, look_mem W.nd hw, W.gd w hw⟩
theorem rd_check_windows {ds : List D} {P : D → Prop} (h : sp_check_windows ds P) : d_check_windows (fin false P) (st 3 ds) := by
  obtain ⟨ws, rfl, W, l1, l2, q⟩ := h
  have e1 : decide ((1 : Int) ≤ (ws.map wk).length) = true := by rw [List.length_map]; exact decide_eq_true (by omega)
  have e2 : decide (((ws.map wk).length : Int) ≤ 24) = true := by rw [List.length_map]; exact decide_eq_true (by omega)
  simp only [d_check_windows, dC, dV, dB, dO2, ob_some, dT, dAndT, dOrT, dNotT, dIf, dAndV, dOrV, dNotV, dChain, aNil, aCons, dTup, dLst, dCut, oNone, oSome, dRev, dNeg, dTru, dCa, dIs, dIsA, dCall, dCallK, sNil, sSeq, sNever, sBrk, sCont, sIf, sRet, sRetO, sRetE, sSet, sSetO, sDrop, sPar, sPar3, kn, enOf, owD, sAsg, gNm, gsNil, gsCons, gTp, sApp, sIns, sExt, sClr, sRev, sPut, sFrz, owAt, fin, st, iRng, iRngB, iSeq, lstD, tupD, sFor, dLc, dDc, wipeE, tYesD, dIndex, dSort, dDictZip, dMeth, dFld, dMk, List.map_cons, List.map_nil, List.length_cons, List.length_nil, List.replicate_succ, List.replicate_zero, List.cons_append, List.nil_append, List.append_nil, List.getElem?_cons_zero, List.getElem?_cons_succ, List.set_cons_zero, List.set_cons_succ, Option.bind_some, Option.map_some, Nat.reduceSub, Nat.reduceAdd, kwP, List.getD_cons_zero, List.getD_cons_succ, winD, lenD, bLe_i, e1, e2, Bool.not_true, Bool.false_eq_true, if_false]
  refine ⟨_, txtKeys_win ws, by unfold nms; rw [List.length_map]; omega, fun ys hs => .inl ?_⟩
  have key := sort_name W hs
  refine loop_all D.str ys (fun _ env => ∃ e, env = [.fz (winD ws), .fz (.lst (ys.map D.str)), e]) ⟨.no, rfl⟩ (fun pre a post env e h k hk => ?_) (fun env h => ?_)
  · obtain ⟨e3, rfl⟩ := h
    have ha := key a (by rw [e]; simp)
    simp only [dC, dV, dB, dO2, ob_some, dT, dAndT, dOrT, dNotT, dIf, dAndV, dOrV, dNotV, dChain, aNil, aCons, dTup, dLst, dCut, oNone, oSome, dRev, dNeg, dTru, dCa, dIs, dIsA, dCall, dCallK, sNil, sSeq, sNever, sBrk, sCont, sIf, sRet, sRetO, sRetE, sSet, sSetO, sDrop, sPar, sPar3, kn, enOf, owD, sAsg, gNm, gsNil, gsCons, gTp, sApp, sIns, sExt, sClr, sRev, sPut, sFrz, owAt, fin, st, iRng, iRngB, iSeq, lstD, tupD, sFor, dLc, dDc, wipeE, tYesD, dIndex, dSort, dDictZip, dMeth, dFld, dMk, List.map_cons, List.map_nil, List.length_cons, List.length_nil, List.replicate_succ, List.replicate_zero, List.cons_append, List.nil_append, List.append_nil, List.getElem?_cons_zero, List.getElem?_cons_succ, List.set_cons_zero, List.set_cons_succ, Option.bind_some, Option.map_some, Nat.reduceSub, Nat.reduceAdd, kwP, List.getD_cons_zero, List.getD_cons_succ]
    refine ⟨a, rfl, by have := ha.1.2.1; omega, ?_⟩
    rw [decide_eq_true ha.1]
    simp only [Bool.not_true, Bool.false_eq_true, if_false]
    exact hk _ ⟨_, rfl⟩
  · obtain ⟨e3, rfl⟩ := h
    simp only [dC, dV, dB, dO2, ob_some, dT, dAndT, dOrT, dNotT, dIf, dAndV, dOrV, dNotV, dChain, aNil, aCons, dTup, dLst, dCut, oNone, oSome, dRev, dNeg, dTru, dCa, dIs, dIsA, dCall, dCallK, sNil, sSeq, sNever, sBrk, sCont, sIf, sRet, sRetO, sRetE, sSet, sSetO, sDrop, sPar, sPar3, kn, enOf, owD, sAsg, gNm, gsNil, gsCons, gTp, sApp, sIns, sExt, sClr, sRev, sPut, sFrz, owAt, fin, st, iRng, iRngB, iSeq, lstD, tupD, sFor, dLc, dDc, wipeE, tYesD, dIndex, dSort, dDictZip, dMeth, dFld, dMk, List.map_cons, List.map_nil, List.length_cons, List.length_nil, List.replicate_succ, List.replicate_zero, List.cons_append, List.nil_append, List.append_nil, List.getElem?_cons_zero, List.getElem?_cons_succ, List.set_cons_zero, List.set_cons_succ, Option.bind_some, Option.map_some, Nat.reduceSub, Nat.reduceAdd, kwP, List.getD_cons_zero, List.getD_cons_succ]
    refine .inl (loop_all D.str ys (fun _ env => ∃ e, env = [.fz (winD ws), .fz (.lst (ys.map D.str)), e]) ⟨_, rfl⟩ (fun pre a post env e h k hk => ?_) (fun env h => ?_))
    · obtain ⟨e4, rfl⟩ := h
      obtain ⟨_, r, hr, gr⟩ := key a (by rw [e]; simp)
      simp only [dC, dV, dB, dO2, ob_some, dT, dAndT, dOrT, dNotT, dIf, dAndV, dOrV, dNotV, dChain, aNil, aCons, dTup, dLst, dCut, oNone, oSome, dRev, dNeg, dTru, dCa, dIs, dIsA, dCall, dCallK, sNil, sSeq, sNever, sBrk, sCont, sIf, sRet, sRetO, sRetE, sSet, sSetO, sDrop, sPar, sPar3, kn, enOf, owD, sAsg, gNm, gsNil, gsCons, gTp, sApp, sIns, sExt, sClr, sRev, sPut, sFrz, owAt, fin, st, iRng, iRngB, iSeq, lstD, tupD, sFor, dLc, dDc, wipeE, tYesD, dIndex, dSort, dDictZip, dMeth, dFld, dMk, List.map_cons, List.map_nil, List.length_cons, List.length_nil, List.replicate_succ, List.replicate_zero, List.cons_append, List.nil_append, List.append_nil, List.getElem?_cons_zero, List.getElem?_cons_succ, List.set_cons_zero, List.set_cons_succ, Option.bind_some, Option.map_some, Nat.reduceSub, Nat.reduceAdd, kwP, List.getD_cons_zero, List.getD_cons_succ, bIx_win hr]
      refine ⟨r, rfl, ?_⟩
      rw [decide_eq_true gr]
      simp only [Bool.not_true, Bool.false_eq_true, if_false]
      exact hk _ ⟨_, rfl⟩
    · exact ⟨trivial, q⟩
def SortW (us : List Win) : Prop := (nms us).Pairwise leS
def sp_Desk___init : DSp := fun ds P => ∃ ws, ds = [winD ws] ∧ WOk ws ∧ 1 ≤ ws.length ∧ ws.length ≤ 24 ∧ ∀ us, us.Perm ws → SortW us → P (winD us)
def deskD (C : Addr) (us : List Win) : D := .obj C [("windows", winD us)]
theorem lookW (us : List Win) : ([(("windows" : Str), winD us)] : List (Str × D)).lookup ("windows" : Str) = some (winD us) := by
  simp [List.lookup]
def sp_Desk_names (C : Addr) : DSp := fun ds P => ∃ us, ds = [deskD C us] ∧ P (.lst ((nms us).map D.str))
def d_Desk_names (C_Desk : Addr) : TDS := (sRet (dCa listD (aCons (dFld C_Desk "windows" (dV 0)) aNil)))
theorem rd_Desk_names {C : Addr} {ds : List D} {P : D → Prop} (h : sp_Desk_names C ds P) : d_Desk_names C (fin true P) (st 1 ds) := by
  obtain ⟨us, rfl, q⟩ := h
  have e : listD [winD us] = some (.lst ((nms us).map D.str)) := by
    show some (D.lst ((us.map wk).map fun kd => keyV kd.1)) = _
    rw [List.map_map]
    unfold nms
    rw [List.map_map]
    rfl
  simp only [d_Desk_names, dC, dV, dB, dO2, ob_some, dT, dAndT, dOrT, dNotT, dIf, dAndV, dOrV, dNotV, dChain, aNil, aCons, dTup, dLst, dCut, oNone, oSome, dRev, dNeg, dTru, dCa, dIs, dIsA, dCall, dCallK, sNil, sSeq, sNever, sBrk, sCont, sIf, sRet, sRetO, sRetE, sSet, sSetO, sDrop, sPar, sPar3, kn, enOf, owD, sAsg, gNm, gsNil, gsCons, gTp, sApp, sIns, sExt, sClr, sRev, sPut, sFrz, owAt, fin, st, iRng, iRngB, iSeq, lstD, tupD, sFor, dLc, dDc, wipeE, tYesD, dIndex, dSort, dDictZip, dMeth, dFld, dMk, List.map_cons, List.map_nil, List.length_cons, List.length_nil, List.replicate_succ, List.replicate_zero, List.cons_append, List.nil_append, List.append_nil, List.getElem?_cons_zero, List.getElem?_cons_succ, List.set_cons_zero, List.set_cons_succ, Option.bind_some, Option.map_some, Nat.reduceSub, Nat.reduceAdd, kwP, List.getD_cons_zero, List.getD_cons_succ, deskD, lookW, e]
  exact ⟨trivial, q⟩
def sp_Desk_rectangle (C : Addr) : DSp := fun ds P => ∃ us z r, ds = [deskD C us, .str z] ∧ look us z = some r ∧ P (rectD r)
def d_Desk_rectangle (C_Desk : Addr) : TDS := (sSeq (sIf (dT (dO2 (bIn true) (dV 1) (dFld C_Desk "windows" (dV 0)))) sNever sNil)
  (sRet (dO2 bIx (dFld C_Desk "windows" (dV 0)) (dV 1))))
theorem rd_Desk_rectangle {C : Addr} {ds : List D} {P : D → Prop} (h : sp_Desk_rectangle C ds P) : d_Desk_rectangle C (fin false P) (st 2 ds) := by
  obtain ⟨us, z, r, rfl, hr, q⟩ := h
  simp only [d_Desk_rectangle, dC, dV, dB, dO2, ob_some, dT, dAndT, dOrT, dNotT, dIf, dAndV, dOrV, dNotV, dChain, aNil, aCons, dTup, dLst, dCut, oNone, oSome, dRev, dNeg, dTru, dCa, dIs, dIsA, dCall, dCallK, sNil, sSeq, sNever, sBrk, sCont, sIf, sRet, sRetO, sRetE, sSet, sSetO, sDrop, sPar, sPar3, kn, enOf, owD, sAsg, gNm, gsNil, gsCons, gTp, sApp, sIns, sExt, sClr, sRev, sPut, sFrz, owAt, fin, st, iRng, iRngB, iSeq, lstD, tupD, sFor, dLc, dDc, wipeE, tYesD, dIndex, dSort, dDictZip, dMeth, dFld, dMk, List.map_cons, List.map_nil, List.length_cons, List.length_nil, List.replicate_succ, List.replicate_zero, List.cons_append, List.nil_append, List.append_nil, List.getElem?_cons_zero, List.getElem?_cons_succ, List.set_cons_zero, List.set_cons_succ, Option.bind_some, Option.map_some, Nat.reduceSub, Nat.reduceAdd, kwP, List.getD_cons_zero, List.getD_cons_succ, deskD, lookW, bIn_win, hr, bIx_win hr, Option.isSome_some, Bool.xor_true, Bool.not_true, Bool.false_eq_true, if_false]
  exact ⟨trivial, trivial, q⟩
def isOrd (us : List Win) (zs : List Str) : Bool := decide ((zs.length : Int) = us.length) && (nms us).all fun n => decide (n ∈ zs)
def sp_is_order (C : Addr) : DSp := fun ds P => ∃ us d zs, ds = [deskD C us, d] ∧ IsSeq d zs ∧ us.length ≤ 24 ∧ P (.bl (isOrd us zs))
theorem no_m {m : Str} (h : (m == ("windows" : Str)) = false) (us : List Win) : ([(("windows" : Str), winD us)] : List (Str × D)).lookup m = none := by
  simp [List.lookup, h]
def d_is_order (C_Desk : Addr) : TDS := (sSeq (sSet 2 (dMeth C_Desk "names" (sp_Desk_names C_Desk) (dV 0) aNil))
  (sRet (dAndV (dO2 (bEqN false) (dCa lenD (aCons (dV 1) aNil)) (dCa lenD (aCons (dV 2) aNil))) (dCa allD (aCons (dLc (iSeq (dV 2)) (gNm 3) tYesD (dO2 (bIn false) (dV 3) (dV 1)) [3]) aNil)))))
theorem rd_is_order {C : Addr} {ds : List D} {P : D → Prop} (h : sp_is_order C ds P) : d_is_order C (fin false P) (st 4 ds) := by
  obtain ⟨us, d, zs, rfl, hd, hl, q⟩ := h
  have hn : (("names" : Str) == ("windows" : Str)) = false := by decide +kernel
  simp only [d_is_order, dC, dV, dB, dO2, ob_some, dT, dAndT, dOrT, dNotT, dIf, dAndV, dOrV, dNotV, dChain, aNil, aCons, dTup, dLst, dCut, oNone, oSome, dRev, dNeg, dTru, dCa, dIs, dIsA, dCall, dCallK, sNil, sSeq, sNever, sBrk, sCont, sIf, sRet, sRetO, sRetE, sSet, sSetO, sDrop, sPar, sPar3, kn, enOf, owD, sAsg, gNm, gsNil, gsCons, gTp, sApp, sIns, sExt, sClr, sRev, sPut, sFrz, owAt, fin, st, iRng, iRngB, iSeq, lstD, tupD, sFor, dLc, dDc, wipeE, tYesD, dIndex, dSort, dDictZip, dMeth, dFld, dMk, List.map_cons, List.map_nil, List.length_cons, List.length_nil, List.replicate_succ, List.replicate_zero, List.cons_append, List.nil_append, List.append_nil, List.getElem?_cons_zero, List.getElem?_cons_succ, List.set_cons_zero, List.set_cons_succ, Option.bind_some, Option.map_some, Nat.reduceSub, Nat.reduceAdd, kwP, List.getD_cons_zero, List.getD_cons_succ, deskD, no_m hn]
  refine ⟨trivial, trivial, us, rfl, ?_⟩
  have e1 := len_strs hd
  have e2 : lenD [.lst ((nms us).map D.str)] = some (.int us.length) := by rw [len_strs (.inl rfl)]; unfold nms; rw [List.length_map]
  simp only [dC, dV, dB, dO2, ob_some, dT, dAndT, dOrT, dNotT, dIf, dAndV, dOrV, dNotV, dChain, aNil, aCons, dTup, dLst, dCut, oNone, oSome, dRev, dNeg, dTru, dCa, dIs, dIsA, dCall, dCallK, sNil, sSeq, sNever, sBrk, sCont, sIf, sRet, sRetO, sRetE, sSet, sSetO, sDrop, sPar, sPar3, kn, enOf, owD, sAsg, gNm, gsNil, gsCons, gTp, sApp, sIns, sExt, sClr, sRev, sPut, sFrz, owAt, fin, st, iRng, iRngB, iSeq, lstD, tupD, sFor, dLc, dDc, wipeE, tYesD, dIndex, dSort, dDictZip, dMeth, dFld, dMk, List.map_cons, List.map_nil, List.length_cons, List.length_nil, List.replicate_succ, List.replicate_zero, List.cons_append, List.nil_append, List.append_nil, List.getElem?_cons_zero, List.getElem?_cons_succ, List.set_cons_zero, List.set_cons_succ, Option.bind_some, Option.map_some, Nat.reduceSub, Nat.reduceAdd, kwP, List.getD_cons_zero, List.getD_cons_succ, e1, e2, bEq_i]
  refine ite2 (fun h => .inl ?_) (fun h => ?_)
  · refine comp_map D.str (fun n => D.bl (decide (n ∈ zs))) (nms us) [] (fun n hn Q Z hQ => ?_) (by unfold nms; simp; omega) ?_
    · simp only [dC, dV, dB, dO2, ob_some, dT, dAndT, dOrT, dNotT, dIf, dAndV, dOrV, dNotV, dChain, aNil, aCons, dTup, dLst, dCut, oNone, oSome, dRev, dNeg, dTru, dCa, dIs, dIsA, dCall, dCallK, sNil, sSeq, sNever, sBrk, sCont, sIf, sRet, sRetO, sRetE, sSet, sSetO, sDrop, sPar, sPar3, kn, enOf, owD, sAsg, gNm, gsNil, gsCons, gTp, sApp, sIns, sExt, sClr, sRev, sPut, sFrz, owAt, fin, st, iRng, iRngB, iSeq, lstD, tupD, sFor, dLc, dDc, wipeE, tYesD, dIndex, dSort, dDictZip, dMeth, dFld, dMk, List.map_cons, List.map_nil, List.length_cons, List.length_nil, List.replicate_succ, List.replicate_zero, List.cons_append, List.nil_append, List.append_nil, List.getElem?_cons_zero, List.getElem?_cons_succ, List.set_cons_zero, List.set_cons_succ, Option.bind_some, Option.map_some, Nat.reduceSub, Nat.reduceAdd, kwP, List.getD_cons_zero, List.getD_cons_succ, bIn_strs hd, Bool.false_xor, if_true]
      exact hQ
    · rw [List.nil_append, allD_f]
      unfold isOrd at q
      rw [h, Bool.true_and] at q
      exact q
  · unfold isOrd at q
    rw [Bool.eq_false_iff.mpr h, Bool.false_and] at q
    exact q
theorem ord_of {us : List Win} {zs : List Str} (h : zs.Perm (nms us)) : isOrd us zs = true := by
  unfold isOrd
  rw [Bool.and_eq_true]
  refine ⟨decide_eq_true (by have := h.length_eq; unfold nms at this; rw [List.length_map] at this; omega), List.all_eq_true.mpr fun n hn => decide_eq_true (h.mem_iff.mpr hn)⟩
def sp_check_order (C : Addr) : DSp := fun ds P => ∃ us d zs, ds = [deskD C us, d] ∧ IsSeq d zs ∧ us.length ≤ 24 ∧ isOrd us zs = true ∧ P .non
def d_check_order (C_Desk : Addr) : TDS := (sIf (dNotT (dT (dCall (sp_is_order C_Desk) (aCons (dV 0) (aCons (dV 1) aNil))))) sNever sNil)
theorem rd_check_order {C : Addr} {ds : List D} {P : D → Prop} (h : sp_check_order C ds P) : d_check_order C (fin false P) (st 2 ds) := by
  obtain ⟨us, d, zs, rfl, hd, hl, ho, q⟩ := h
  simp only [d_check_order, dC, dV, dB, dO2, ob_some, dT, dAndT, dOrT, dNotT, dIf, dAndV, dOrV, dNotV, dChain, aNil, aCons, dTup, dLst, dCut, oNone, oSome, dRev, dNeg, dTru, dCa, dIs, dIsA, dCall, dCallK, sNil, sSeq, sNever, sBrk, sCont, sIf, sRet, sRetO, sRetE, sSet, sSetO, sDrop, sPar, sPar3, kn, enOf, owD, sAsg, gNm, gsNil, gsCons, gTp, sApp, sIns, sExt, sClr, sRev, sPut, sFrz, owAt, fin, st, iRng, iRngB, iSeq, lstD, tupD, sFor, dLc, dDc, wipeE, tYesD, dIndex, dSort, dDictZip, dMeth, dFld, dMk, List.map_cons, List.map_nil, List.length_cons, List.length_nil, List.replicate_succ, List.replicate_zero, List.cons_append, List.nil_append, List.append_nil, List.getElem?_cons_zero, List.getElem?_cons_succ, List.set_cons_zero, List.set_cons_succ, Option.bind_some, Option.map_some, Nat.reduceSub, Nat.reduceAdd, kwP, List.getD_cons_zero, List.getD_cons_succ]
  refine ⟨us, d, zs, rfl, hd, hl, ?_⟩
  rw [ho]
  simp only [Bool.not_true, Bool.false_eq_true, if_false]
  exact ⟨trivial, q⟩
def cov (us : List Win) (x y : Int) (z : Str) : Bool := match look us z with | some r => decide (r.has x y) | none => false
theorem cov_perm {us ws : List Win} (nd : (nms ws).Nodup) (p : us.Perm ws) (x y : Int) : cov us x y = cov ws x y := by
  funext z
  unfold cov
  rw [look_perm nd p]
def topD (zs : List Str) : D := match zs.getLast? with | some z => .str z | none => .non
def sp_covering (C : Addr) : DSp := fun ds P => ∃ us d zs x y, ds = [deskD C us, d, .int x, .int y] ∧ IsSeq d zs ∧ zs.length ≤ 1000 ∧ (nms us).Nodup ∧ (∀ z ∈ zs, z ∈ nms us) ∧ P (.lst ((zs.filter (cov us x y)).map D.str))
def d_covering (C_Desk : Addr) : TDS := (sRet (dLc (iSeq (dV 1)) (gNm 4) (dT (dCall sp_covers (aCons (dMeth C_Desk "rectangle" (sp_Desk_rectangle C_Desk) (dV 0) (aCons (dV 4) aNil)) (aCons (dV 2) (aCons (dV 3) aNil))))) (dV 4) [4]))
theorem rd_covering {C : Addr} {ds : List D} {P : D → Prop} (h : sp_covering C ds P) : d_covering C (fin true P) (st 5 ds) := by
  obtain ⟨us, d, zs, x, y, rfl, hd, hl, nd, hz, q⟩ := h
  simp only [d_covering, dC, dV, dB, dO2, ob_some, dT, dAndT, dOrT, dNotT, dIf, dAndV, dOrV, dNotV, dChain, aNil, aCons, dTup, dLst, dCut, oNone, oSome, dRev, dNeg, dTru, dCa, dIs, dIsA, dCall, dCallK, sNil, sSeq, sNever, sBrk, sCont, sIf, sRet, sRetO, sRetE, sSet, sSetO, sDrop, sPar, sPar3, kn, enOf, owD, sAsg, gNm, gsNil, gsCons, gTp, sApp, sIns, sExt, sClr, sRev, sPut, sFrz, owAt, fin, st, iRng, iRngB, iSeq, lstD, tupD, sFor, dLc, dDc, wipeE, tYesD, dIndex, dSort, dDictZip, dMeth, dFld, dMk, List.map_cons, List.map_nil, List.length_cons, List.length_nil, List.replicate_succ, List.replicate_zero, List.cons_append, List.nil_append, List.append_nil, List.getElem?_cons_zero, List.getElem?_cons_succ, List.set_cons_zero, List.set_cons_succ, Option.bind_some, Option.map_some, Nat.reduceSub, Nat.reduceAdd, kwP, List.getD_cons_zero, List.getD_cons_succ]
  refine seq_strs hd ?_
  refine comp_filter D.str D.str (cov us x y) zs [] (fun z hz' Q Z h1 h2 => ?_) (by simp; omega) (by rw [List.nil_append]; exact q)
  have hn : (("rectangle" : Str) == ("windows" : Str)) = false := by decide +kernel
  obtain ⟨r, hr, _⟩ := look_ex nd (hz z hz')
  simp only [dC, dV, dB, dO2, ob_some, dT, dAndT, dOrT, dNotT, dIf, dAndV, dOrV, dNotV, dChain, aNil, aCons, dTup, dLst, dCut, oNone, oSome, dRev, dNeg, dTru, dCa, dIs, dIsA, dCall, dCallK, sNil, sSeq, sNever, sBrk, sCont, sIf, sRet, sRetO, sRetE, sSet, sSetO, sDrop, sPar, sPar3, kn, enOf, owD, sAsg, gNm, gsNil, gsCons, gTp, sApp, sIns, sExt, sClr, sRev, sPut, sFrz, owAt, fin, st, iRng, iRngB, iSeq, lstD, tupD, sFor, dLc, dDc, wipeE, tYesD, dIndex, dSort, dDictZip, dMeth, dFld, dMk, List.map_cons, List.map_nil, List.length_cons, List.length_nil, List.replicate_succ, List.replicate_zero, List.cons_append, List.nil_append, List.append_nil, List.getElem?_cons_zero, List.getElem?_cons_succ, List.set_cons_zero, List.set_cons_succ, Option.bind_some, Option.map_some, Nat.reduceSub, Nat.reduceAdd, kwP, List.getD_cons_zero, List.getD_cons_succ, deskD, no_m hn]
  refine ⟨trivial, trivial, us, z, r, rfl, hr, r, x, y, rfl, ?_⟩
  have e : cov us x y z = decide (r.has x y) := by
    unfold cov
    rw [hr]
  rw [e] at h1 h2
  cases hc : decide (r.has x y) with
  | true => exact h1 hc
  | false => exact h2 hc
theorem last_ix {zs : List Str} (h : zs ≠ []) : bIx (.lst (zs.map D.str)) (.int (-1)) = some (topD zs) := by
  obtain ⟨l, z, rfl⟩ : ∃ l z, zs = l ++ [z] := by
    rcases List.eq_nil_or_concat zs with h' | ⟨l, z, h'⟩
    · exact (h h').elim
    · exact ⟨l, z, by simpa using h'⟩
  show (atI ((l ++ [z]).map D.str) (-1)).or _ = _
  rw [List.map_append, List.map_cons, List.map_nil, atI_last]
  unfold topD
  rw [List.getLast?_append]
  rfl
def sp_top_window (C : Addr) : DSp := fun ds P => ∃ us d zs x y, ds = [deskD C us, d, .int x, .int y] ∧ IsSeq d zs ∧ zs.length ≤ 1000 ∧ (nms us).Nodup ∧ (∀ z ∈ zs, z ∈ nms us) ∧ P (topD (zs.filter (cov us x y)))
def d_top_window (C_Desk : Addr) : TDS := (sSeq (sSet 4 (dCall (sp_covering C_Desk) (aCons (dV 0) (aCons (dV 1) (aCons (dV 2) (aCons (dV 3) aNil))))))
  (sRet (dIf (dTru (dV 4)) (dO2 bIx (dV 4) (dNeg (dC (.int 1)))) (dC .non))))
theorem rd_top_window {C : Addr} {ds : List D} {P : D → Prop} (h : sp_top_window C ds P) : d_top_window C (fin false P) (st 5 ds) := by
  obtain ⟨us, d, zs, x, y, rfl, hd, hl, nd, hz, q⟩ := h
  simp only [d_top_window, dC, dV, dB, dO2, ob_some, dT, dAndT, dOrT, dNotT, dIf, dAndV, dOrV, dNotV, dChain, aNil, aCons, dTup, dLst, dCut, oNone, oSome, dRev, dNeg, dTru, dCa, dIs, dIsA, dCall, dCallK, sNil, sSeq, sNever, sBrk, sCont, sIf, sRet, sRetO, sRetE, sSet, sSetO, sDrop, sPar, sPar3, kn, enOf, owD, sAsg, gNm, gsNil, gsCons, gTp, sApp, sIns, sExt, sClr, sRev, sPut, sFrz, owAt, fin, st, iRng, iRngB, iSeq, lstD, tupD, sFor, dLc, dDc, wipeE, tYesD, dIndex, dSort, dDictZip, dMeth, dFld, dMk, List.map_cons, List.map_nil, List.length_cons, List.length_nil, List.replicate_succ, List.replicate_zero, List.cons_append, List.nil_append, List.append_nil, List.getElem?_cons_zero, List.getElem?_cons_succ, List.set_cons_zero, List.set_cons_succ, Option.bind_some, Option.map_some, Nat.reduceSub, Nat.reduceAdd, kwP, List.getD_cons_zero, List.getD_cons_succ]
  refine ⟨us, d, zs, x, y, rfl, hd, hl, nd, hz, ?_⟩
  generalize zs.filter (cov us x y) = ts at q
  simp only [truD, ob_some]
  cases ts with
  | nil => exact q
  | cons t ts =>
    show ob (bIx (.lst ((t :: ts).map D.str)) (.int (-1))) P
    rw [last_ix (by simp)]
    exact q
def sp_l_seen : DSp := fun ds P => ∃ (ws : List Win) (zs : List Str) (x y : Int), ds = [winD ws, .lst (zs.map D.str), .int x, .int y] ∧ zs.length ≤ 1000 ∧ WOk ws ∧ (∀ z ∈ zs, z ∈ nms ws) ∧ P (topD (zs.filter (cov ws x y)))
def d_l_seen : TDS := (sSeq (sSet 4 (dLc (iSeq (dV 1)) (gNm 5) (dAndT (dT (dChain bLe (iI0 fun i j => .bl (decide (i < j))) (dO2 bIx (dO2 bIx (dV 0) (dV 5)) (dC (.int 0))) (dV 2) (dO2 bIx (dO2 bIx (dV 0) (dV 5)) (dC (.int 2))))) (dT (dChain bLe (iI0 fun i j => .bl (decide (i < j))) (dO2 bIx (dO2 bIx (dV 0) (dV 5)) (dC (.int 1))) (dV 3) (dO2 bIx (dO2 bIx (dV 0) (dV 5)) (dC (.int 3)))))) (dV 5) [5]))
  (sRet (dIf (dT (dO2 (bEqN true) (dV 4) (dLst aNil))) (dO2 bIx (dV 4) (dNeg (dC (.int 1)))) (dC .non))))
theorem rd_l_seen {ds : List D} {P : D → Prop} (h : sp_l_seen ds P) : d_l_seen (fin false P) (st 6 ds) := by
  obtain ⟨ws, zs, x, y, rfl, hl, W, hz, q⟩ := h
  simp only [d_l_seen, dC, dV, dB, dO2, ob_some, dT, dAndT, dOrT, dNotT, dIf, dAndV, dOrV, dNotV, dChain, aNil, aCons, dTup, dLst, dCut, oNone, oSome, dRev, dNeg, dTru, dCa, dIs, dIsA, dCall, dCallK, sNil, sSeq, sNever, sBrk, sCont, sIf, sRet, sRetO, sRetE, sSet, sSetO, sDrop, sPar, sPar3, kn, enOf, owD, sAsg, gNm, gsNil, gsCons, gTp, sApp, sIns, sExt, sClr, sRev, sPut, sFrz, owAt, fin, st, iRng, iRngB, iSeq, lstD, tupD, sFor, dLc, dDc, wipeE, tYesD, dIndex, dSort, dDictZip, dMeth, dFld, dMk, List.map_cons, List.map_nil, List.length_cons, List.length_nil, List.replicate_succ, List.replicate_zero, List.cons_append, List.nil_append, List.append_nil, List.getElem?_cons_zero, List.getElem?_cons_succ, List.set_cons_zero, List.set_cons_succ, Option.bind_some, Option.map_some, Nat.reduceSub, Nat.reduceAdd, kwP, List.getD_cons_zero, List.getD_cons_succ]
  refine .inl ?_
  refine comp_filter D.str D.str (cov ws x y) zs [] (fun z hz' Q Z h1 h2 => ?_) (by simp; omega) ?_
  · obtain ⟨r, hr, _⟩ := look_ex W.nd (hz z hz')
    have e : cov ws x y z = (decide (r.l ≤ x) && (decide (x < r.r) && (decide (r.t ≤ y) && decide (y < r.b)))) := by
      unfold cov
      rw [hr]
      exact and4
    rw [e] at h1 h2
    have i0 : bIx (rectD r) (.int 0) = some (.int r.l) := rfl
    have i1 : bIx (rectD r) (.int 1) = some (.int r.t) := rfl
    have i2 : bIx (rectD r) (.int 2) = some (.int r.r) := rfl
    have i3 : bIx (rectD r) (.int 3) = some (.int r.b) := rfl
    simp only [dC, dV, dB, dO2, ob_some, dT, dAndT, dOrT, dNotT, dIf, dAndV, dOrV, dNotV, dChain, aNil, aCons, dTup, dLst, dCut, oNone, oSome, dRev, dNeg, dTru, dCa, dIs, dIsA, dCall, dCallK, sNil, sSeq, sNever, sBrk, sCont, sIf, sRet, sRetO, sRetE, sSet, sSetO, sDrop, sPar, sPar3, kn, enOf, owD, sAsg, gNm, gsNil, gsCons, gTp, sApp, sIns, sExt, sClr, sRev, sPut, sFrz, owAt, fin, st, iRng, iRngB, iSeq, lstD, tupD, sFor, dLc, dDc, wipeE, tYesD, dIndex, dSort, dDictZip, dMeth, dFld, dMk, List.map_cons, List.map_nil, List.length_cons, List.length_nil, List.replicate_succ, List.replicate_zero, List.cons_append, List.nil_append, List.append_nil, List.getElem?_cons_zero, List.getElem?_cons_succ, List.set_cons_zero, List.set_cons_succ, Option.bind_some, Option.map_some, Nat.reduceSub, Nat.reduceAdd, kwP, List.getD_cons_zero, List.getD_cons_succ, bIx_win hr, i0, i1, i2, i3, bLe_i, iLt_i]
    cases a1 : decide (r.l ≤ x) with
    | false => rw [a1] at h2; simpa using h2 rfl
    | true =>
      cases a2 : decide (x < r.r) with
      | false => rw [a1, a2] at h2; simpa using h2 rfl
      | true =>
        simp only [if_true]
        cases a3 : decide (r.t ≤ y) with
        | false => rw [a1, a2, a3] at h2; simpa using h2 rfl
        | true =>
          cases a4 : decide (y < r.b) with
          | false => rw [a1, a2, a3, a4] at h2; simpa using h2 rfl
          | true => rw [a1, a2, a3, a4] at h1; simpa using h1 rfl
  · rw [List.nil_append]
    have nm : ∀ z ∈ zs.filter (cov ws x y), NameOk z := fun z hz' => by
      obtain ⟨w, hw, rfl⟩ := List.mem_map.mp (hz z (List.mem_filter.mp hz').1)
      exact W.nm w hw
    generalize zs.filter (cov ws x y) = ts at q nm
    refine ⟨by decide, beq_ob (n := 2) (by decide) (sh_names nm) rfl (fun h => ?_) (fun h => ?_)⟩
    · have : ts = [] := by
        cases ts with
        | nil => rfl
        | cons t ts => cases h
      subst this
      exact q
    · show ob (bIx (.lst (ts.map D.str)) (.int (-1))) P
      rw [last_ix (fun e => h (by rw [e]; rfl))]
      exact q
end DL
namespace DL
open PySem PySem.Spec PyProof.Rows L2 RK
theorem ln_of {ds : List D} {P : D → Prop} (h : sp_of ds P) : ds.length = 2 := by
  rcases h with ⟨xs, h | h, _⟩ | ⟨z, h, _⟩ <;> (subst h; rfl)
theorem ln_mixed {ds : List D} {P : D → Prop} (h : sp_mixed ds P) : ds.length = 2 := by
  rcases h with ⟨xs, h | h, _⟩ <;> (subst h; rfl)
theorem ln_rectangle {ds : List D} {P : D → Prop} (h : sp_rectangle ds P) : ds.length = 2 := by obtain ⟨_, rfl, _⟩ := h; rfl
theorem ln_names {ds : List D} {P : D → Prop} (h : sp_names ds P) : ds.length = 2 := by obtain ⟨_, rfl, _⟩ := h; rfl
theorem ln_has_four_numbers {ds : List D} {P : D → Prop} (h : sp_has_four_numbers ds P) : ds.length = 1 := by obtain ⟨_, rfl, _⟩ := h; rfl
theorem ln_is_rectangle {ds : List D} {P : D → Prop} (h : sp_is_rectangle ds P) : ds.length = 1 := by obtain ⟨_, rfl, _⟩ := h; rfl
theorem ln_covers {ds : List D} {P : D → Prop} (h : sp_covers ds P) : ds.length = 3 := by obtain ⟨_, _, _, rfl, _⟩ := h; rfl
theorem ln_is_name {ds : List D} {P : D → Prop} (h : sp_is_name ds P) : ds.length = 1 := by obtain ⟨_, rfl, _⟩ := h; rfl
theorem ln_check_windows {ds : List D} {P : D → Prop} (h : sp_check_windows ds P) : ds.length = 1 := by obtain ⟨_, rfl, _⟩ := h; rfl
theorem ln_Desk_names {C : Addr} {ds : List D} {P : D → Prop} (h : sp_Desk_names C ds P) : ds.length = 1 := by obtain ⟨_, rfl, _⟩ := h; rfl
theorem ln_Desk_rectangle {C : Addr} {ds : List D} {P : D → Prop} (h : sp_Desk_rectangle C ds P) : ds.length = 2 := by obtain ⟨_, _, _, rfl, _⟩ := h; rfl
theorem ln_is_order {C : Addr} {ds : List D} {P : D → Prop} (h : sp_is_order C ds P) : ds.length = 2 := by obtain ⟨_, _, _, rfl, _⟩ := h; rfl
theorem ln_check_order {C : Addr} {ds : List D} {P : D → Prop} (h : sp_check_order C ds P) : ds.length = 2 := by obtain ⟨_, _, _, rfl, _⟩ := h; rfl
theorem ln_covering {C : Addr} {ds : List D} {P : D → Prop} (h : sp_covering C ds P) : ds.length = 4 := by obtain ⟨_, _, _, _, _, rfl, _⟩ := h; rfl
theorem ln_top_window {C : Addr} {ds : List D} {P : D → Prop} (h : sp_top_window C ds P) : ds.length = 4 := by obtain ⟨_, _, _, _, _, rfl, _⟩ := h; rfl
theorem ln_l_seen {ds : List D} {P : D → Prop} (h : sp_l_seen ds P) : ds.length = 4 := by obtain ⟨_, _, _, _, rfl, _⟩ := h; rfl
def e1_init : TDE := (dCall sp_check_windows (aCons (dV 1) aNil))
def e2_init : TDE := (dDc (iSeq (dSort (dV 1))) (gNm 2) tYesD (dV 2) (dO2 bIx (dV 1) (dV 2)) [2])
theorem dcomp_new {α : Type} {g : TDG} {tt : TDT} {tk tv : TDE} {P : D → Prop} {env : De} (enc : α → D) (f : α → Key × D) : ∀ (l : List α) (acc : List (Key × D)), (∀ a ∈ l, ∀ (Q : Key → D → Prop) (Z : Prop), Q (f a).1 (f a).2 → g (enc a) env fun env' => tt env' fun b => if b = true then tk env' fun k => tv env' fun y => ob (keyD k) fun k => Q k y else Z) →
    (acc ++ l.map f).length ≤ 1000000 → ((acc ++ l.map f).map (·.1)).Nodup → P (.dic (acc ++ l.map f)) → dDcomp g tt tk tv P env (l.map enc) acc
  | [], acc, _, _, _, q => by
    rw [List.map_nil, List.append_nil] at q
    exact q
  | a :: l, acc, h, hl, nd, q => by
    refine h a List.mem_cons_self (fun k y => acc.length < sizeLine ∧ dDcomp g tt tk tv P env (l.map enc) (putD acc k y)) _ ⟨szM (by simp at hl; omega), ?_⟩
    have hk : (acc.any fun kd => decide (kd.1 = (f a).1)) = false := by
      rw [Bool.eq_false_iff]
      intro hz
      obtain ⟨q', hq, e⟩ := List.any_eq_true.mp hz
      have e := of_decide_eq_true e
      rw [List.map_append, List.nodup_append] at nd
      exact nd.2.2 q'.1 (List.mem_map.mpr ⟨q', hq, rfl⟩) (f a).1 (by simp) e
    have e2 : putD acc (f a).1 (f a).2 = acc ++ [f a] := by
      unfold putD
      rw [hk]
      rfl
    rw [e2]
    refine dcomp_new enc f l (acc ++ [f a]) (fun b hb => h b (List.mem_cons_of_mem _ hb)) ?_ ?_ ?_
    · rw [List.append_assoc]; exact hl
    · rw [List.append_assoc]; exact nd
    · rw [List.append_assoc]; exact q
theorem nodup_wk {us : List Win} (h : (nms us).Nodup) : ((us.map wk).map (·.1)).Nodup := by
  rw [List.map_map]
  have : ((fun kd : Key × D => kd.1) ∘ wk) = Sum.inr ∘ (fun w : Win => w.1) := rfl
  rw [this, ← List.map_map]
  exact nodup_inj (fun a b h => Sum.inr.inj h) h
def byNames (ws : List Win) (ys : List Str) : List Win := ys.map fun y => (y, (look ws y).getD ⟨0, 0, 0, 0⟩)
theorem nms_by (ws : List Win) (ys : List Str) : nms (byNames ws ys) = ys := by
  unfold nms byNames
  rw [List.map_map]
  exact List.map_id _
theorem by_perm {ws : List Win} (nd : (nms ws).Nodup) {ys : List Str} (h : ys.Perm (nms ws)) : (byNames ws ys).Perm ws := by
  have h1 : (byNames ws ys).Perm (byNames ws (nms ws)) := h.map _
  have h2 : byNames ws (nms ws) = ws := by
    unfold byNames nms
    rw [List.map_map]
    have : ∀ w ∈ ws, ((fun y => (y, (look ws y).getD ⟨0, 0, 0, 0⟩)) ∘ fun w : Win => w.1) w = w := fun w hw => by
      show (w.1, (look ws w.1).getD ⟨0, 0, 0, 0⟩) = w
      rw [look_mem nd hw]
      rfl
    rw [List.map_congr_left this, List.map_id']
  rw [h2] at h1
  exact h1
theorem rd_Desk___init {ds : List D} {P : D → Prop} (h : sp_Desk___init ds P) : e1_init (.no :: st 2 ds) fun _ => e2_init (.no :: st 2 ds) P := by
  obtain ⟨ws, rfl, W, l1, l2, q⟩ := h
  simp only [e1_init, e2_init, dC, dV, dB, dO2, ob_some, dT, dAndT, dOrT, dNotT, dIf, dAndV, dOrV, dNotV, dChain, aNil, aCons, dTup, dLst, dCut, oNone, oSome, dRev, dNeg, dTru, dCa, dIs, dIsA, dCall, dCallK, sNil, sSeq, sNever, sBrk, sCont, sIf, sRet, sRetO, sRetE, sSet, sSetO, sDrop, sPar, sPar3, kn, enOf, owD, sAsg, gNm, gsNil, gsCons, gTp, sApp, sIns, sExt, sClr, sRev, sPut, sFrz, owAt, fin, st, iRng, iRngB, iSeq, lstD, tupD, sFor, dLc, dDc, wipeE, tYesD, dIndex, dSort, dDictZip, dMeth, dFld, dMk, List.map_cons, List.map_nil, List.length_cons, List.length_nil, List.replicate_succ, List.replicate_zero, List.cons_append, List.nil_append, List.append_nil, List.getElem?_cons_zero, List.getElem?_cons_succ, List.set_cons_zero, List.set_cons_succ, Option.bind_some, Option.map_some, Nat.reduceSub, Nat.reduceAdd, kwP, List.getD_cons_zero, List.getD_cons_succ]
  refine ⟨ws, rfl, W, l1, l2, ?_⟩
  simp only [winD]
  refine .inl ⟨_, txtKeys_win ws, by unfold nms; rw [List.length_map]; omega, fun ys hs => ?_⟩
  have hp := by_perm W.nd hs.1
  have hlen : ys.length ≤ 24 := by rw [hs.1.length_eq]; unfold nms; rw [List.length_map]; exact l2
  have eb : (ys.map fun y => wk (y, (look ws y).getD ⟨0, 0, 0, 0⟩)) = (byNames ws ys).map wk := by
    unfold byNames
    rw [List.map_map]
    rfl
  refine dcomp_new D.str (fun y => wk (y, (look ws y).getD ⟨0, 0, 0, 0⟩)) ys [] (fun y hy Q Z hQ => ?_) (by simp; omega) ?_ ?_
  · obtain ⟨_, r, hr, _⟩ := sort_name W hs y hy
    have ex : bIx (.dic (ws.map wk)) (.str y) = some (rectD r) := bIx_win hr
    rw [hr] at hQ
    simp only [dC, dV, dB, dO2, ob_some, dT, dAndT, dOrT, dNotT, dIf, dAndV, dOrV, dNotV, dChain, aNil, aCons, dTup, dLst, dCut, oNone, oSome, dRev, dNeg, dTru, dCa, dIs, dIsA, dCall, dCallK, sNil, sSeq, sNever, sBrk, sCont, sIf, sRet, sRetO, sRetE, sSet, sSetO, sDrop, sPar, sPar3, kn, enOf, owD, sAsg, gNm, gsNil, gsCons, gTp, sApp, sIns, sExt, sClr, sRev, sPut, sFrz, owAt, fin, st, iRng, iRngB, iSeq, lstD, tupD, sFor, dLc, dDc, wipeE, tYesD, dIndex, dSort, dDictZip, dMeth, dFld, dMk, List.map_cons, List.map_nil, List.length_cons, List.length_nil, List.replicate_succ, List.replicate_zero, List.cons_append, List.nil_append, List.append_nil, List.getElem?_cons_zero, List.getElem?_cons_succ, List.set_cons_zero, List.set_cons_succ, Option.bind_some, Option.map_some, Nat.reduceSub, Nat.reduceAdd, kwP, List.getD_cons_zero, List.getD_cons_succ, ex, keyD, if_true]
    exact hQ
  · rw [List.nil_append, eb]
    exact nodup_wk (by rw [nms_by]; exact hs.1.nodup_iff.mpr W.nd)
  · rw [List.nil_append, eb]
    exact q _ hp (by unfold SortW; rw [nms_by]; exact sorted_of hs.2)
end DL
namespace DL
open PySem PySem.Spec PyProof.Rows L2 RK
def mx (i j : Int) : Int := if j > i then j else i
def mn (i j : Int) : Int := if j < i then j else i
def meetB (p q : R) : Bool := decide (mx p.l q.l < mn p.r q.r) && decide (mx p.t q.t < mn p.b q.b)
def ovl (us : List Win) (a b : Str) : Bool := match look us a, look us b with | some p, some q => meetB p q | _, _ => false
def prs (ov : Str → Str → Bool) : List Str → List SP
  | [] => []
  | n :: r => (r.filter (ov n)).map (fun m => (n, m)) ++ prs ov r
def ltS (a b : Str) : Bool := decide (a.cps.toList < b.cps.toList)
end DL
namespace DL
open PySem PySem.Spec PyProof.Rows L2 RK
def insI (k : Int) : List Int → List Int
  | [] => [k]
  | x :: xs => if k < x then k :: x :: xs else if k = x then x :: xs else x :: insI k xs
theorem insI_mem (k j : Int) : ∀ l : List Int, j ∈ insI k l ↔ j = k ∨ j ∈ l
  | [] => by simp [insI]
  | x :: xs => by
    unfold insI
    split
    · simp
    · split
      · rename_i h1 h2
        subst h2
        simp
      · rw [List.mem_cons, insI_mem k j xs, List.mem_cons]
        constructor
        · rintro (h | h | h)
          · exact .inr (.inl h)
          · exact .inl h
          · exact .inr (.inr h)
        · rintro (h | h | h)
          · exact .inr (.inl h)
          · exact .inl h
          · exact .inr (.inr h)
theorem insI_asc (k : Int) : ∀ {l : List Int}, l.Pairwise (· < ·) → (insI k l).Pairwise (· < ·)
  | [], _ => by simp [insI]
  | x :: xs, h => by
    have h' := List.pairwise_cons.mp h
    unfold insI
    split
    · rename_i h1
      refine List.pairwise_cons.mpr ⟨fun y hy => ?_, h⟩
      rcases List.mem_cons.mp hy with rfl | hy
      · exact h1
      · exact Int.lt_trans h1 (h'.1 y hy)
    · split
      · exact h
      · refine List.pairwise_cons.mpr ⟨fun y hy => ?_, insI_asc k h'.2⟩
        rcases (insI_mem k y xs).mp hy with rfl | hy
        · omega
        · exact h'.1 y hy
def asc (l : List Int) : List Int := l.foldr insI []
theorem asc_mem (l : List Int) (j : Int) : j ∈ asc l ↔ j ∈ l := by
  unfold asc
  induction l with
  | nil => simp
  | cons k l ih => rw [List.foldr_cons, insI_mem, ih, List.mem_cons]
theorem asc_asc (l : List Int) : (asc l).Pairwise (· < ·) := by
  unfold asc
  induction l with
  | nil => exact .nil
  | cons k l ih => exact insI_asc k ih
theorem asc_one : ∀ {a b : List Int}, a.Pairwise (· < ·) → b.Pairwise (· < ·) → (∀ k, k ∈ a ↔ k ∈ b) → a = b
  | [], [], _, _, _ => rfl
  | [], y :: ys, _, _, h => by have := (h y).mpr List.mem_cons_self; cases this
  | x :: xs, [], _, _, h => by have := (h x).mp List.mem_cons_self; cases this
  | x :: xs, y :: ys, ha, hb, h => by
    have a' := List.pairwise_cons.mp ha
    have b' := List.pairwise_cons.mp hb
    have e : x = y := by
      rcases List.mem_cons.mp ((h x).mp List.mem_cons_self) with e | e
      · exact e
      · rcases List.mem_cons.mp ((h y).mpr List.mem_cons_self) with e' | e'
        · exact e'.symm
        · have := b'.1 x e
          have := a'.1 y e'
          omega
    subst e
    rw [asc_one a'.2 b'.2 fun k => ?_]
    constructor
    · intro hk
      rcases List.mem_cons.mp ((h k).mp (List.mem_cons_of_mem _ hk)) with rfl | z
      · exact absurd (a'.1 k hk) (by omega)
      · exact z
    · intro hk
      rcases List.mem_cons.mp ((h k).mpr (List.mem_cons_of_mem _ hk)) with rfl | z
      · exact absurd (b'.1 k hk) (by omega)
      · exact z
theorem asc_len (l : List Int) : (asc l).length ≤ l.length := by
  unfold asc
  induction l with
  | nil => exact Nat.le_refl _
  | cons k l ih =>
    rw [List.foldr_cons, List.length_cons]
    refine Nat.le_trans ?_ (Nat.succ_le_succ ih)
    generalize l.foldr insI [] = m
    clear ih
    induction m with
    | nil => exact Nat.le_refl _
    | cons x xs ih =>
      unfold insI
      split
      · simp
      · split
        · simp
        · simpa using ih
theorem sOut_two {α : Type} {g g1 : TDG} {tt tt1 : TDT} {it1 : TDI} {te : TDE} {vs1 : List Nat} {env : De} {P : List Int → Prop} (enc : α → D) (f1 f2 : α → Int) :
    ∀ (l : List α) (acc : List Int), (∀ a ∈ l, ∀ (ac : List Int) (K : List Int → Prop), ac.length + 2 < scanBound → K (ac ++ [f1 a, f2 a]) → g (enc a) env fun env' => tt env' fun b => if b = true then it1 env' fun ys => sIn g1 tt1 te K (wipeE env' vs1) ys ac else K ac) →
      acc.length + 2 * l.length + 2 < scanBound → P (acc ++ l.flatMap fun a => [f1 a, f2 a]) → sOut g tt it1 g1 tt1 te vs1 P env (l.map enc) acc
  | [], acc, _, _, q => by
    rw [List.flatMap_nil, List.append_nil] at q
    exact q
  | a :: l, acc, h, hl, q => by
    rw [List.length_cons] at hl
    refine h a List.mem_cons_self acc _ (by omega) (sOut_two enc f1 f2 l _ (fun x hx => h x (List.mem_cons_of_mem _ hx)) (by simp; omega) ?_)
    rw [List.append_assoc]
    simpa using q
structure Run where
  l : Int
  r : Int
  n : Str
def runD (u : Run) : D := .tup [.int u.l, .int u.r, .str u.n]
def prI : List Int → List (Int × Int)
  | [] => []
  | [_] => []
  | a :: b :: r => (a, b) :: prI (b :: r)
def pI (c : Int × Int) : D := .tup [.int c.1, .int c.2]
theorem zip_prI : ∀ l : List Int, zipD (l.map D.int) ((l.drop 1).map D.int) = (prI l).map pI
  | [] => rfl
  | [_] => rfl
  | a :: b :: r => by
    have := zip_prI (b :: r)
    simp only [List.map_cons, List.drop_succ_cons, List.drop_zero, zipD, prI] at this ⊢
    rw [this]
    rfl
theorem prI_len : ∀ l : List Int, (prI l).length = l.length - 1
  | [] => rfl
  | [_] => rfl
  | a :: b :: r => by
    rw [prI, List.length_cons, prI_len (b :: r)]
    simp
theorem zip_ints {da dbb : TDE} {env : De} {Q : List D → Prop} {l : List Int} (e1 : ∀ P : D → Prop, da env P = P (.lst (l.map D.int))) (e2 : ∀ P : D → Prop, dbb env P = ob (cutA (.lst (l.map D.int)) (some 1) none) P) (q : Q ((prI l).map pI)) : iZp da dbb env Q := by
  refine .inl ?_
  have c : cutA (.lst (l.map D.int)) (some 1) none = some (.lst ((l.drop 1).map D.int)) := by
    show some (D.lst (cutD _ _ _)) = _
    have e0 : cutD (l.map D.int) (some 1) none = (l.map D.int).drop 1 := by
      unfold cutD
      rw [show (some 1 : Option Int) = some ((1 : Nat) : Int) from rfl, HT.sIx_nat, HT.sIx_none]
      cases l with
      | nil => simp
      | cons a r =>
        show ((a :: r).map D.int |>.drop (min 1 _)).take _ = _
        rw [List.length_map, List.length_cons, Nat.min_eq_left (by omega)]
        exact List.take_of_length_le (by simp)
    rw [e0, List.map_drop]
  rw [twoD, e1, e2, c]
  show Q (zipD _ _)
  rw [zip_prI]
  exact q
def stepR (tp : Int → Option Str) (rs : List Run) (c : Int × Int) : List Run := match tp c.1 with
  | none => rs
  | some n => match rs.getLast? with
    | none => rs ++ [⟨c.1, c.2, n⟩]
    | some u => if u.r = c.1 ∧ u.n = n then rs.dropLast ++ [⟨u.l, c.2, n⟩] else rs ++ [⟨c.1, c.2, n⟩]
def runsT (tp : Int → Option Str) (cols : List Int) : List Run := (prI cols).foldl (stepR tp) []
theorem stepR_len (tp : Int → Option Str) (rs : List Run) (c : Int × Int) : (stepR tp rs c).length ≤ rs.length + 1 := by
  unfold stepR
  split
  · omega
  · split
    · simp
    · split
      · simp; try omega
      · simp
theorem fold_len (tp : Int → Option Str) : ∀ (l : List (Int × Int)) (rs : List Run), (l.foldl (stepR tp) rs).length ≤ rs.length + l.length
  | [], rs => Nat.le_refl _
  | c :: l, rs => by
    rw [List.foldl_cons, List.length_cons]
    have := fold_len tp l (stepR tp rs c)
    have := stepR_len tp rs c
    omega
theorem runs_len (tp : Int → Option Str) (cols : List Int) : (runsT tp cols).length ≤ cols.length := by
  have := fold_len tp (prI cols) []
  unfold runsT
  rw [prI_len] at this
  simp at this
  omega
theorem fold_n {tp : Int → Option Str} {ns : List Str} (h : ∀ x n, tp x = some n → n ∈ ns) : ∀ (l : List (Int × Int)) (rs : List Run), (∀ u ∈ rs, u.n ∈ ns) → ∀ u ∈ l.foldl (stepR tp) rs, u.n ∈ ns
  | [], rs, h0 => h0
  | c :: l, rs, h0 => fold_n h l (stepR tp rs c) fun u hu => by
    unfold stepR at hu
    cases e : tp c.1 with
    | none => rw [e] at hu; exact h0 u hu
    | some n =>
      have hn := h _ _ e
      rw [e] at hu
      have two : ∀ {xs : List Run} {v : Run}, (∀ w ∈ xs, w ∈ rs) → v.n = n → u ∈ xs ++ [v] → u.n ∈ ns := fun {xs v} k ev hu => by
        rcases List.mem_append.mp hu with z | z
        · exact h0 u (k u z)
        · rw [List.mem_singleton.mp z, ev]; exact hn
      cases g : rs.getLast? with
      | none => rw [g] at hu; exact two (fun _ z => z) rfl hu
      | some w =>
        rw [g] at hu
        by_cases q : w.r = c.1 ∧ w.n = n
        · simp only [if_pos q] at hu
          exact two (fun x hx => (List.dropLast_sublist rs).subset hx) rfl hu
        · simp only [if_neg q] at hu
          exact two (fun _ z => z) rfl hu
def topF (us : List Win) (zs : List Str) (x y : Int) : Option Str := (zs.filter (cov us x y)).getLast?
theorem topF_D (us : List Win) (zs : List Str) (x y : Int) : topD (zs.filter (cov us x y)) = match topF us zs x y with | some z => .str z | none => .non := rfl
theorem topF_mem {us : List Win} {zs : List Str} {x y : Int} {n : Str} (h : topF us zs x y = some n) : n ∈ zs := (List.mem_filter.mp (List.mem_of_getLast? h)).1
theorem last_run {rs : List Run} {u : Run} : bIx (.lst ((rs ++ [u]).map runD)) (.int (-1)) = some (runD u) := by
  show (atI ((rs ++ [u]).map runD) (-1)).or _ = _
  rw [List.map_append, List.map_cons, List.map_nil, atI_last]
  rfl
theorem sh_two {a : Int} {n : Str} (h : NameOk n) : sh 1 (.tup [.int a, .str n]) = true := by
  show (true && (PyData.strOk n && true)) = true
  rw [name_ok h]
  rfl
def sp_band_runs (C : Addr) : DSp := fun ds P => ∃ us d zs cols y, ds = [deskD C us, d, .lst (cols.map D.int), .int y] ∧ IsSeq d zs ∧ zs.length ≤ 1000 ∧ (nms us).Nodup ∧ (∀ z ∈ zs, z ∈ nms us ∧ NameOk z) ∧ cols.length ≤ 1000 ∧ P (.lst ((runsT (fun x => topF us zs x y) cols).map runD))
def d_band_runs (C_Desk : Addr) : TDS := (sSeq (sSetO 4 (dLst aNil))
  (sSeq (sFor (iZp (dV 2) (dCut cutA (dV 2) (oSome (dC (.int 1))) oNone)) (gTp 2 (gsCons (gNm 5) (gsCons (gNm 6) gsNil))) (sSeq (sSet 7 (dCall (sp_top_window C_Desk) (aCons (dV 0) (aCons (dV 1) (aCons (dV 5) (aCons (dV 3) aNil))))))
  (sSeq (sIf (dT (dO2 (bIsN false) (dV 7) (dC .non))) sCont sNil)
  (sIf (dAndT (dTru (dB 4)) (dT (dO2 (bEqN false) (dCut cutA (dO2 bIx (dB 4) (dNeg (dC (.int 1)))) (oSome (dC (.int 1))) oNone) (dTup (aCons (dV 5) (aCons (dV 7) aNil)))))) (sPut 4 (dTup (aCons (dO2 bIx (dO2 bIx (dB 4) (dNeg (dC (.int 1)))) (dC (.int 0))) (aCons (dV 6) (aCons (dV 7) aNil)))) (dNeg (dC (.int 1)))) (sApp 4 (dTup (aCons (dV 5) (aCons (dV 6) (aCons (dV 7) aNil)))))))))
  (sRetO 4)))
theorem ln_band_runs {C : Addr} {ds : List D} {P : D → Prop} (h : sp_band_runs C ds P) : ds.length = 4 := by obtain ⟨_, _, _, _, _, rfl, _⟩ := h; rfl
theorem rd_band_runs {C : Addr} {ds : List D} {P : D → Prop} (h : sp_band_runs C ds P) : d_band_runs C (fin true P) (st 8 ds) := by
  obtain ⟨us, d, zs, cols, y, rfl, hd, hl, nd, hz, hc, q⟩ := h
  simp only [d_band_runs, dC, dV, dB, dO2, ob_some, dT, dAndT, dOrT, dNotT, dIf, dAndV, dOrV, dNotV, dChain, aNil, aCons, dTup, dLst, dCut, oNone, oSome, dRev, dNeg, dTru, dCa, dIs, dIsA, dCall, dCallK, sNil, sSeq, sNever, sBrk, sCont, sIf, sRet, sRetO, sRetE, sSet, sSetO, sDrop, sPar, sPar3, kn, enOf, owD, sAsg, gNm, gsNil, gsCons, gTp, sApp, sIns, sExt, sClr, sRev, sPut, sFrz, owAt, fin, st, iRng, iRngB, iSeq, lstD, tupD, sFor, dLc, dDc, wipeE, tYesD, dIndex, dSort, dDictZip, dMeth, dFld, dMk, List.map_cons, List.map_nil, List.length_cons, List.length_nil, List.replicate_succ, List.replicate_zero, List.cons_append, List.nil_append, List.append_nil, List.getElem?_cons_zero, List.getElem?_cons_succ, List.set_cons_zero, List.set_cons_succ, Option.bind_some, Option.map_some, Nat.reduceSub, Nat.reduceAdd, kwP, List.getD_cons_zero, List.getD_cons_succ]
  refine ⟨by decide, ?_⟩
  refine zip_ints (l := cols) (fun _ => by simp only [dC, dV, dB, dO2, ob_some, dT, dAndT, dOrT, dNotT, dIf, dAndV, dOrV, dNotV, dChain, aNil, aCons, dTup, dLst, dCut, oNone, oSome, dRev, dNeg, dTru, dCa, dIs, dIsA, dCall, dCallK, sNil, sSeq, sNever, sBrk, sCont, sIf, sRet, sRetO, sRetE, sSet, sSetO, sDrop, sPar, sPar3, kn, enOf, owD, sAsg, gNm, gsNil, gsCons, gTp, sApp, sIns, sExt, sClr, sRev, sPut, sFrz, owAt, fin, st, iRng, iRngB, iSeq, lstD, tupD, sFor, dLc, dDc, wipeE, tYesD, dIndex, dSort, dDictZip, dMeth, dFld, dMk, List.map_cons, List.map_nil, List.length_cons, List.length_nil, List.replicate_succ, List.replicate_zero, List.cons_append, List.nil_append, List.append_nil, List.getElem?_cons_zero, List.getElem?_cons_succ, List.set_cons_zero, List.set_cons_succ, Option.bind_some, Option.map_some, Nat.reduceSub, Nat.reduceAdd, kwP, List.getD_cons_zero, List.getD_cons_succ]) (fun _ => by simp only [dC, dV, dB, dO2, ob_some, dT, dAndT, dOrT, dNotT, dIf, dAndV, dOrV, dNotV, dChain, aNil, aCons, dTup, dLst, dCut, oNone, oSome, dRev, dNeg, dTru, dCa, dIs, dIsA, dCall, dCallK, sNil, sSeq, sNever, sBrk, sCont, sIf, sRet, sRetO, sRetE, sSet, sSetO, sDrop, sPar, sPar3, kn, enOf, owD, sAsg, gNm, gsNil, gsCons, gTp, sApp, sIns, sExt, sClr, sRev, sPut, sFrz, owAt, fin, st, iRng, iRngB, iSeq, lstD, tupD, sFor, dLc, dDc, wipeE, tYesD, dIndex, dSort, dDictZip, dMeth, dFld, dMk, List.map_cons, List.map_nil, List.length_cons, List.length_nil, List.replicate_succ, List.replicate_zero, List.cons_append, List.nil_append, List.append_nil, List.getElem?_cons_zero, List.getElem?_cons_succ, List.set_cons_zero, List.set_cons_succ, Option.bind_some, Option.map_some, Nat.reduceSub, Nat.reduceAdd, kwP, List.getD_cons_zero, List.getD_cons_succ]) ?_
  refine loop_all pI (prI cols) (fun pre env => ∃ e5 e6 e7, env = [.fz (deskD C us), .fz d, .fz (.lst (cols.map D.int)), .fz (.int y), .ow ((pre.foldl (stepR fun x => topF us zs x y) []).map runD), e5, e6, e7]) ⟨_, _, _, rfl⟩ (fun pre c post env e h k hk => ?_) (fun env h => ?_)
  · obtain ⟨e5, e6, e7, rfl⟩ := h
    have hp : pre.length < 1000 := by
      have := congrArg List.length e
      rw [prI_len] at this
      simp at this
      omega
    have rl := fold_len (fun x => topF us zs x y) pre []
    rw [List.foldl_append, List.foldl_cons, List.foldl_nil] at hk
    generalize hrs : pre.foldl (stepR fun x => topF us zs x y) [] = rs at hk rl
    have rl' : rs.length ≤ 1000 := by simp at rl; omega
    have hnn : ∀ u ∈ rs, NameOk u.n := fun u hu => (hz u.n (fold_n (tp := fun x => topF us zs x y) (fun _ _ h => topF_mem h) pre [] (fun _ z => nomatch z) u (by rw [hrs]; exact hu))).2
    obtain ⟨c1, c2⟩ := c
    simp only [pI, dC, dV, dB, dO2, ob_some, dT, dAndT, dOrT, dNotT, dIf, dAndV, dOrV, dNotV, dChain, aNil, aCons, dTup, dLst, dCut, oNone, oSome, dRev, dNeg, dTru, dCa, dIs, dIsA, dCall, dCallK, sNil, sSeq, sNever, sBrk, sCont, sIf, sRet, sRetO, sRetE, sSet, sSetO, sDrop, sPar, sPar3, kn, enOf, owD, sAsg, gNm, gsNil, gsCons, gTp, sApp, sIns, sExt, sClr, sRev, sPut, sFrz, owAt, fin, st, iRng, iRngB, iSeq, lstD, tupD, sFor, dLc, dDc, wipeE, tYesD, dIndex, dSort, dDictZip, dMeth, dFld, dMk, List.map_cons, List.map_nil, List.length_cons, List.length_nil, List.replicate_succ, List.replicate_zero, List.cons_append, List.nil_append, List.append_nil, List.getElem?_cons_zero, List.getElem?_cons_succ, List.set_cons_zero, List.set_cons_succ, Option.bind_some, Option.map_some, Nat.reduceSub, Nat.reduceAdd, kwP, List.getD_cons_zero, List.getD_cons_succ]
    refine ⟨trivial, trivial, us, d, zs, c1, y, rfl, hd, hl, nd, fun z h => (hz z h).1, ?_⟩
    rw [topF_D]
    have es : stepR (fun x => topF us zs x y) rs (c1, c2) = match topF us zs c1 y with
      | none => rs
      | some n => match rs.getLast? with
        | none => rs ++ [⟨c1, c2, n⟩]
        | some u => if u.r = c1 ∧ u.n = n then rs.dropLast ++ [⟨u.l, c2, n⟩] else rs ++ [⟨c1, c2, n⟩] := rfl
    rw [es] at hk
    cases et : topF us zs c1 y with
    | none =>
      rw [et] at hk
      exact hk _ ⟨_, _, _, rfl⟩
    | some n =>
      rw [et] at hk
      have nn : NameOk n := (hz n (topF_mem et)).2
      have isn : (bIsN false (.str n) .non) = some (.bl false) := rfl
      simp only [isn, ob_some, Bool.false_eq_true, if_false, dC, dV, dB, dO2, ob_some, dT, dAndT, dOrT, dNotT, dIf, dAndV, dOrV, dNotV, dChain, aNil, aCons, dTup, dLst, dCut, oNone, oSome, dRev, dNeg, dTru, dCa, dIs, dIsA, dCall, dCallK, sNil, sSeq, sNever, sBrk, sCont, sIf, sRet, sRetO, sRetE, sSet, sSetO, sDrop, sPar, sPar3, kn, enOf, owD, sAsg, gNm, gsNil, gsCons, gTp, sApp, sIns, sExt, sClr, sRev, sPut, sFrz, owAt, fin, st, iRng, iRngB, iSeq, lstD, tupD, sFor, dLc, dDc, wipeE, tYesD, dIndex, dSort, dDictZip, dMeth, dFld, dMk, List.map_cons, List.map_nil, List.length_cons, List.length_nil, List.replicate_succ, List.replicate_zero, List.cons_append, List.nil_append, List.append_nil, List.getElem?_cons_zero, List.getElem?_cons_succ, List.set_cons_zero, List.set_cons_succ, Option.bind_some, Option.map_some, Nat.reduceSub, Nat.reduceAdd, kwP, List.getD_cons_zero, List.getD_cons_succ]
      rcases List.eq_nil_or_concat rs with h0 | ⟨ru, u, h0⟩
      · subst h0
        simp only [List.map_nil, truD, List.isEmpty_nil, Bool.not_true, ob_some, Bool.false_eq_true, if_false, dC, dV, dB, dO2, ob_some, dT, dAndT, dOrT, dNotT, dIf, dAndV, dOrV, dNotV, dChain, aNil, aCons, dTup, dLst, dCut, oNone, oSome, dRev, dNeg, dTru, dCa, dIs, dIsA, dCall, dCallK, sNil, sSeq, sNever, sBrk, sCont, sIf, sRet, sRetO, sRetE, sSet, sSetO, sDrop, sPar, sPar3, kn, enOf, owD, sAsg, gNm, gsNil, gsCons, gTp, sApp, sIns, sExt, sClr, sRev, sPut, sFrz, owAt, fin, st, iRng, iRngB, iSeq, lstD, tupD, sFor, dLc, dDc, wipeE, tYesD, dIndex, dSort, dDictZip, dMeth, dFld, dMk, List.map_cons, List.map_nil, List.length_cons, List.length_nil, List.replicate_succ, List.replicate_zero, List.cons_append, List.nil_append, List.append_nil, List.getElem?_cons_zero, List.getElem?_cons_succ, List.set_cons_zero, List.set_cons_succ, Option.bind_some, Option.map_some, Nat.reduceSub, Nat.reduceAdd, kwP, List.getD_cons_zero, List.getD_cons_succ]
        exact ⟨by decide, by decide, hk _ ⟨_, _, _, rfl⟩⟩
      · rw [List.concat_eq_append] at h0
        subst h0
        have hu := hnn u (by simp)
        have tr : truD (.lst ((ru ++ [u]).map runD)) = some true := by
          show some (!((ru ++ [u]).map runD).isEmpty) = _
          simp
        have gl : (ru ++ [u]).getLast? = some u := by rw [List.getLast?_append]; rfl
        have dl : (ru ++ [u]).dropLast = ru := by simp
        have il : ixN ((ru ++ [u]).map runD).length (-1) = some ru.length := by
          unfold ixN
          simp only [List.length_map, List.length_append, List.length_cons, List.length_nil]
          rw [if_neg (by omega), if_pos (by omega)]
          congr 1
          omega
        have st1 : ((ru ++ [u]).map runD).set ru.length (.tup [.int u.l, .int c2, .str n]) = (ru ++ [(⟨u.l, c2, n⟩ : Run)]).map runD := by
          rw [List.map_append, List.map_append, List.set_append_right _ _ (by simp), List.length_map, Nat.sub_self]
          rfl
        have cu : cutA (runD u) (some 1) none = some (.tup [.int u.r, .str u.n]) := rfl
        have i0 : bIx (runD u) (.int 0) = some (.int u.l) := rfl
        simp only [tr, last_run, cu, ob_some, if_true]
        rw [gl, dl] at hk
        refine ⟨by decide, beq_ob (n := 1) (by decide) (sh_two hu) (sh_two nn) (fun e1 => ?_) (fun e1 => ?_)⟩
        · have e2 : u.r = c1 ∧ u.n = n := by
            injection e1 with e1
            injection e1 with a1 a2
            injection a1 with a1
            injection a2 with a2
            injection a2 with a2
            exact ⟨a1, a2⟩
          replace hk := hk [.fz (deskD C us), .fz d, .fz (.lst (cols.map D.int)), .fz (.int y), .ow ((ru ++ [(⟨u.l, c2, n⟩ : Run)]).map runD), .fz (.int c1), .fz (.int c2), .fz (.str n)]
          simp only [if_pos e2] at hk
          simp only [Bool.not_false, ob_some, if_true, i0, last_run, dC, dV, dB, dO2, ob_some, dT, dAndT, dOrT, dNotT, dIf, dAndV, dOrV, dNotV, dChain, aNil, aCons, dTup, dLst, dCut, oNone, oSome, dRev, dNeg, dTru, dCa, dIs, dIsA, dCall, dCallK, sNil, sSeq, sNever, sBrk, sCont, sIf, sRet, sRetO, sRetE, sSet, sSetO, sDrop, sPar, sPar3, kn, enOf, owD, sAsg, gNm, gsNil, gsCons, gTp, sApp, sIns, sExt, sClr, sRev, sPut, sFrz, owAt, fin, st, iRng, iRngB, iSeq, lstD, tupD, sFor, dLc, dDc, wipeE, tYesD, dIndex, dSort, dDictZip, dMeth, dFld, dMk, List.map_cons, List.map_nil, List.length_cons, List.length_nil, List.replicate_succ, List.replicate_zero, List.cons_append, List.nil_append, List.append_nil, List.getElem?_cons_zero, List.getElem?_cons_succ, List.set_cons_zero, List.set_cons_succ, Option.bind_some, Option.map_some, Nat.reduceSub, Nat.reduceAdd, kwP, List.getD_cons_zero, List.getD_cons_succ, il, st1]
          exact ⟨by decide, hk ⟨_, _, _, rfl⟩⟩
        · have e2 : ¬ (u.r = c1 ∧ u.n = n) := fun z => e1 (by rw [z.1, z.2])
          replace hk := hk [.fz (deskD C us), .fz d, .fz (.lst (cols.map D.int)), .fz (.int y), .ow (((ru ++ [u]) ++ [(⟨c1, c2, n⟩ : Run)]).map runD), .fz (.int c1), .fz (.int c2), .fz (.str n)]
          simp only [if_neg e2] at hk
          simp only [Bool.false_eq_true, if_false, dC, dV, dB, dO2, ob_some, dT, dAndT, dOrT, dNotT, dIf, dAndV, dOrV, dNotV, dChain, aNil, aCons, dTup, dLst, dCut, oNone, oSome, dRev, dNeg, dTru, dCa, dIs, dIsA, dCall, dCallK, sNil, sSeq, sNever, sBrk, sCont, sIf, sRet, sRetO, sRetE, sSet, sSetO, sDrop, sPar, sPar3, kn, enOf, owD, sAsg, gNm, gsNil, gsCons, gTp, sApp, sIns, sExt, sClr, sRev, sPut, sFrz, owAt, fin, st, iRng, iRngB, iSeq, lstD, tupD, sFor, dLc, dDc, wipeE, tYesD, dIndex, dSort, dDictZip, dMeth, dFld, dMk, List.map_cons, List.map_nil, List.length_cons, List.length_nil, List.replicate_succ, List.replicate_zero, List.cons_append, List.nil_append, List.append_nil, List.getElem?_cons_zero, List.getElem?_cons_succ, List.set_cons_zero, List.set_cons_succ, Option.bind_some, Option.map_some, Nat.reduceSub, Nat.reduceAdd, kwP, List.getD_cons_zero, List.getD_cons_succ]
          refine ⟨by decide, by rw [List.length_map]; unfold sizeLine; omega, ?_⟩
          have e3 : (ru ++ [u]).map runD ++ [.tup [.int c1, .int c2, .str n]] = ((ru ++ [u]) ++ [(⟨c1, c2, n⟩ : Run)]).map runD := by rw [List.map_append (l₁ := ru ++ [u])]; rfl
          rw [e3]
          exact hk ⟨_, _, _, rfl⟩
  · obtain ⟨e5, e6, e7, rfl⟩ := h
    simp only [dC, dV, dB, dO2, ob_some, dT, dAndT, dOrT, dNotT, dIf, dAndV, dOrV, dNotV, dChain, aNil, aCons, dTup, dLst, dCut, oNone, oSome, dRev, dNeg, dTru, dCa, dIs, dIsA, dCall, dCallK, sNil, sSeq, sNever, sBrk, sCont, sIf, sRet, sRetO, sRetE, sSet, sSetO, sDrop, sPar, sPar3, kn, enOf, owD, sAsg, gNm, gsNil, gsCons, gTp, sApp, sIns, sExt, sClr, sRev, sPut, sFrz, owAt, fin, st, iRng, iRngB, iSeq, lstD, tupD, sFor, dLc, dDc, wipeE, tYesD, dIndex, dSort, dDictZip, dMeth, dFld, dMk, List.map_cons, List.map_nil, List.length_cons, List.length_nil, List.replicate_succ, List.replicate_zero, List.cons_append, List.nil_append, List.append_nil, List.getElem?_cons_zero, List.getElem?_cons_succ, List.set_cons_zero, List.set_cons_succ, Option.bind_some, Option.map_some, Nat.reduceSub, Nat.reduceAdd, kwP, List.getD_cons_zero, List.getD_cons_succ]
    exact q
structure Tile where
  l : Int
  t : Int
  r : Int
  b : Int
  n : Str
def tileD (u : Tile) : D := .tup [.tup [.int u.l, .int u.t, .int u.r, .int u.b], .str u.n]
def bandT (c : Int × Int) (u : Run) : Tile := ⟨u.l, c.1, u.r, c.2, u.n⟩
def tls (tp : Int → Int → Option Str) (cols rows : List Int) : List Tile := (prI rows).flatMap fun c => (runsT (fun x => tp x c.1) cols).map (bandT c)
def rctO (us : List Win) (z : Str) : R := (look us z).getD ⟨0, 0, 0, 0⟩
def colsOf (us : List Win) (zs : List Str) : List Int := asc (zs.flatMap fun z => [(rctO us z).l, (rctO us z).r])
def rowsOf (us : List Win) (zs : List Str) : List Int := asc (zs.flatMap fun z => [(rctO us z).t, (rctO us z).b])
theorem flat2_len {α : Type} (f g : α → Int) : ∀ zs : List α, (zs.flatMap fun z => [f z, g z]).length = 2 * zs.length
  | [] => rfl
  | z :: zs => by
    rw [List.flatMap_cons, List.length_append, flat2_len f g zs]
    simp
    omega
theorem flat_bd {α β : Type} {f : α → List β} {m : Nat} : ∀ {l : List α}, (∀ x, (f x).length ≤ m) → (l.flatMap f).length ≤ l.length * m
  | [], _ => by simp
  | x :: l, h => by
    rw [List.flatMap_cons, List.length_append, List.length_cons, Nat.add_mul, Nat.one_mul]
    have := flat_bd (l := l) h
    have := h x
    omega
def sp_tiles (C : Addr) : DSp := fun ds P => ∃ us d zs, ds = [deskD C us, d] ∧ IsSeq d zs ∧ us.length ≤ 24 ∧ WOk us ∧ zs.Perm (nms us) ∧ P (.lst ((tls (topF us zs) (colsOf us zs) (rowsOf us zs)).map tileD))
def d_tiles (C_Desk : Addr) : TDS := (sSeq (sDrop (dCall (sp_check_order C_Desk) (aCons (dV 0) (aCons (dV 1) aNil))))
  (sSeq (sSet 2 (dLc (iSeq (dV 1)) (gNm 9) tYesD (dMeth C_Desk "rectangle" (sp_Desk_rectangle C_Desk) (dV 0) (aCons (dV 9) aNil)) [9]))
  (sSeq (sSet 3 (dSS (iSeq (dV 2)) (gNm 10) tYesD (iSeq (dTup (aCons (dO2 bIx (dV 10) (dC (.int 0))) (aCons (dO2 bIx (dV 10) (dC (.int 2))) aNil)))) (gNm 11) tYesD (dV 11) [10, 11] [11]))
  (sSeq (sSet 4 (dSS (iSeq (dV 2)) (gNm 10) tYesD (iSeq (dTup (aCons (dO2 bIx (dV 10) (dC (.int 1))) (aCons (dO2 bIx (dV 10) (dC (.int 3))) aNil)))) (gNm 11) tYesD (dV 11) [10, 11] [11]))
  (sSeq (sSetO 5 (dLst aNil))
  (sSeq (sFor (iZp (dV 4) (dCut cutA (dV 4) (oSome (dC (.int 1))) oNone)) (gTp 2 (gsCons (gNm 6) (gsCons (gNm 7) gsNil))) (sSeq (sSet 8 (dCall (sp_band_runs C_Desk) (aCons (dV 0) (aCons (dV 1) (aCons (dV 3) (aCons (dV 6) aNil))))))
  (sExt 5 (dLc (iSeq (dV 8)) (gTp 3 (gsCons (gNm 12) (gsCons (gNm 13) (gsCons (gNm 9) gsNil)))) tYesD (dTup (aCons (dTup (aCons (dV 12) (aCons (dV 6) (aCons (dV 13) (aCons (dV 7) aNil))))) (aCons (dV 9) aNil))) [12, 13, 9]))))
  (sRetO 5)))))))
theorem ln_tiles {C : Addr} {ds : List D} {P : D → Prop} (h : sp_tiles C ds P) : ds.length = 2 := by obtain ⟨_, _, _, rfl, _⟩ := h; rfl
theorem rd_tiles {C : Addr} {ds : List D} {P : D → Prop} (h : sp_tiles C ds P) : d_tiles C (fin true P) (st 14 ds) := by
  obtain ⟨us, d, zs, rfl, hd, hl, W, hp, q⟩ := h
  have zl : zs.length = us.length := by have := hp.length_eq; unfold nms at this; rwa [List.length_map] at this
  have hn : (("rectangle" : Str) == ("windows" : Str)) = false := by decide +kernel
  have hz : ∀ z ∈ zs, z ∈ nms us ∧ NameOk z := fun z h => ⟨hp.mem_iff.mp h, by
    obtain ⟨w, hw, rfl⟩ := List.mem_map.mp (hp.mem_iff.mp h)
    exact W.nm w hw⟩
  simp only [d_tiles, dC, dV, dB, dO2, ob_some, dT, dAndT, dOrT, dNotT, dIf, dAndV, dOrV, dNotV, dChain, aNil, aCons, dTup, dLst, dCut, oNone, oSome, dRev, dNeg, dTru, dCa, dIs, dIsA, dCall, dCallK, sNil, sSeq, sNever, sBrk, sCont, sIf, sRet, sRetO, sRetE, sSet, sSetO, sDrop, sPar, sPar3, kn, enOf, owD, sAsg, gNm, gsNil, gsCons, gTp, sApp, sIns, sExt, sClr, sRev, sPut, sFrz, owAt, fin, st, iRng, iRngB, iSeq, lstD, tupD, sFor, dLc, dDc, wipeE, tYesD, dIndex, dSort, dDictZip, dMeth, dFld, dMk, List.map_cons, List.map_nil, List.length_cons, List.length_nil, List.replicate_succ, List.replicate_zero, List.cons_append, List.nil_append, List.append_nil, List.getElem?_cons_zero, List.getElem?_cons_succ, List.set_cons_zero, List.set_cons_succ, Option.bind_some, Option.map_some, Nat.reduceSub, Nat.reduceAdd, kwP, List.getD_cons_zero, List.getD_cons_succ, dSS]
  refine ⟨us, d, zs, rfl, hd, hl, ord_of hp, ?_⟩
  refine seq_strs hd ?_
  refine comp_map D.str (fun z => rectD (rctO us z)) zs [] (fun z h Q Z hQ => ?_) (by simp; omega) ?_
  · obtain ⟨r, hr, _⟩ := look_ex W.nd (hz z h).1
    simp only [dC, dV, dB, dO2, ob_some, dT, dAndT, dOrT, dNotT, dIf, dAndV, dOrV, dNotV, dChain, aNil, aCons, dTup, dLst, dCut, oNone, oSome, dRev, dNeg, dTru, dCa, dIs, dIsA, dCall, dCallK, sNil, sSeq, sNever, sBrk, sCont, sIf, sRet, sRetO, sRetE, sSet, sSetO, sDrop, sPar, sPar3, kn, enOf, owD, sAsg, gNm, gsNil, gsCons, gTp, sApp, sIns, sExt, sClr, sRev, sPut, sFrz, owAt, fin, st, iRng, iRngB, iSeq, lstD, tupD, sFor, dLc, dDc, wipeE, tYesD, dIndex, dSort, dDictZip, dMeth, dFld, dMk, List.map_cons, List.map_nil, List.length_cons, List.length_nil, List.replicate_succ, List.replicate_zero, List.cons_append, List.nil_append, List.append_nil, List.getElem?_cons_zero, List.getElem?_cons_succ, List.set_cons_zero, List.set_cons_succ, Option.bind_some, Option.map_some, Nat.reduceSub, Nat.reduceAdd, kwP, List.getD_cons_zero, List.getD_cons_succ, deskD, no_m hn]
    refine ⟨trivial, trivial, us, z, r, rfl, hr, ?_⟩
    have e : rctO us z = r := by unfold rctO; rw [hr]; rfl
    rw [e] at hQ
    exact hQ
  rw [List.nil_append]
  have key : ∀ (f1 f2 : R → Int) (l : List Int) (pr : l = asc (zs.flatMap fun z => [f1 (rctO us z), f2 (rctO us z)])), (zs.flatMap fun z => [f1 (rctO us z), f2 (rctO us z)]).length < 64 := fun f1 f2 _ _ => by
    rw [flat2_len]
    omega
  refine .inl (sOut_two (fun z => rectD (rctO us z)) (fun z => (rctO us z).l) (fun z => (rctO us z).r) zs [] (fun z h ac K hk hK => ?_) (by simp only [List.length_nil]; unfold scanBound; omega) ⟨by rw [List.nil_append, flat2_len]; omega, fun cs a1 a2 => ?_⟩)
  · simp only [dC, dV, dB, dO2, ob_some, dT, dAndT, dOrT, dNotT, dIf, dAndV, dOrV, dNotV, dChain, aNil, aCons, dTup, dLst, dCut, oNone, oSome, dRev, dNeg, dTru, dCa, dIs, dIsA, dCall, dCallK, sNil, sSeq, sNever, sBrk, sCont, sIf, sRet, sRetO, sRetE, sSet, sSetO, sDrop, sPar, sPar3, kn, enOf, owD, sAsg, gNm, gsNil, gsCons, gTp, sApp, sIns, sExt, sClr, sRev, sPut, sFrz, owAt, fin, st, iRng, iRngB, iSeq, lstD, tupD, sFor, dLc, dDc, wipeE, tYesD, dIndex, dSort, dDictZip, dMeth, dFld, dMk, List.map_cons, List.map_nil, List.length_cons, List.length_nil, List.replicate_succ, List.replicate_zero, List.cons_append, List.nil_append, List.append_nil, List.getElem?_cons_zero, List.getElem?_cons_succ, List.set_cons_zero, List.set_cons_succ, Option.bind_some, Option.map_some, Nat.reduceSub, Nat.reduceAdd, kwP, List.getD_cons_zero, List.getD_cons_succ, rectD, sIn]
    refine .inr (.inl ?_)
    exact ⟨by decide, _, rfl, by omega, _, rfl, by simp; omega, by rw [List.append_assoc]; exact hK⟩
  have ec : cs = colsOf us zs := asc_one a1 (asc_asc _) fun k => by rw [a2 k, List.nil_append]; exact (asc_mem _ k).symm
  subst ec
  simp only [dC, dV, dB, dO2, ob_some, dT, dAndT, dOrT, dNotT, dIf, dAndV, dOrV, dNotV, dChain, aNil, aCons, dTup, dLst, dCut, oNone, oSome, dRev, dNeg, dTru, dCa, dIs, dIsA, dCall, dCallK, sNil, sSeq, sNever, sBrk, sCont, sIf, sRet, sRetO, sRetE, sSet, sSetO, sDrop, sPar, sPar3, kn, enOf, owD, sAsg, gNm, gsNil, gsCons, gTp, sApp, sIns, sExt, sClr, sRev, sPut, sFrz, owAt, fin, st, iRng, iRngB, iSeq, lstD, tupD, sFor, dLc, dDc, wipeE, tYesD, dIndex, dSort, dDictZip, dMeth, dFld, dMk, List.map_cons, List.map_nil, List.length_cons, List.length_nil, List.replicate_succ, List.replicate_zero, List.cons_append, List.nil_append, List.append_nil, List.getElem?_cons_zero, List.getElem?_cons_succ, List.set_cons_zero, List.set_cons_succ, Option.bind_some, Option.map_some, Nat.reduceSub, Nat.reduceAdd, kwP, List.getD_cons_zero, List.getD_cons_succ]
  refine .inl (sOut_two (fun z => rectD (rctO us z)) (fun z => (rctO us z).t) (fun z => (rctO us z).b) zs [] (fun z h ac K hk hK => ?_) (by simp only [List.length_nil]; unfold scanBound; omega) ⟨by rw [List.nil_append, flat2_len]; omega, fun rs b1 b2 => ?_⟩)
  · simp only [dC, dV, dB, dO2, ob_some, dT, dAndT, dOrT, dNotT, dIf, dAndV, dOrV, dNotV, dChain, aNil, aCons, dTup, dLst, dCut, oNone, oSome, dRev, dNeg, dTru, dCa, dIs, dIsA, dCall, dCallK, sNil, sSeq, sNever, sBrk, sCont, sIf, sRet, sRetO, sRetE, sSet, sSetO, sDrop, sPar, sPar3, kn, enOf, owD, sAsg, gNm, gsNil, gsCons, gTp, sApp, sIns, sExt, sClr, sRev, sPut, sFrz, owAt, fin, st, iRng, iRngB, iSeq, lstD, tupD, sFor, dLc, dDc, wipeE, tYesD, dIndex, dSort, dDictZip, dMeth, dFld, dMk, List.map_cons, List.map_nil, List.length_cons, List.length_nil, List.replicate_succ, List.replicate_zero, List.cons_append, List.nil_append, List.append_nil, List.getElem?_cons_zero, List.getElem?_cons_succ, List.set_cons_zero, List.set_cons_succ, Option.bind_some, Option.map_some, Nat.reduceSub, Nat.reduceAdd, kwP, List.getD_cons_zero, List.getD_cons_succ, rectD, sIn]
    refine .inr (.inl ?_)
    exact ⟨by decide, _, rfl, by omega, _, rfl, by simp; omega, by rw [List.append_assoc]; exact hK⟩
  have er : rs = rowsOf us zs := asc_one b1 (asc_asc _) fun k => by rw [b2 k, List.nil_append]; exact (asc_mem _ k).symm
  subst er
  have cl : (colsOf us zs).length ≤ 48 := by
    have := asc_len (zs.flatMap fun z => [(rctO us z).l, (rctO us z).r])
    rw [flat2_len] at this
    unfold colsOf
    omega
  have rl : (rowsOf us zs).length ≤ 48 := by
    have := asc_len (zs.flatMap fun z => [(rctO us z).t, (rctO us z).b])
    rw [flat2_len] at this
    unfold rowsOf
    omega
  refine ⟨by decide, ?_⟩
  refine zip_ints (l := rowsOf us zs) (fun _ => by simp only [dC, dV, dB, dO2, ob_some, dT, dAndT, dOrT, dNotT, dIf, dAndV, dOrV, dNotV, dChain, aNil, aCons, dTup, dLst, dCut, oNone, oSome, dRev, dNeg, dTru, dCa, dIs, dIsA, dCall, dCallK, sNil, sSeq, sNever, sBrk, sCont, sIf, sRet, sRetO, sRetE, sSet, sSetO, sDrop, sPar, sPar3, kn, enOf, owD, sAsg, gNm, gsNil, gsCons, gTp, sApp, sIns, sExt, sClr, sRev, sPut, sFrz, owAt, fin, st, iRng, iRngB, iSeq, lstD, tupD, sFor, dLc, dDc, wipeE, tYesD, dIndex, dSort, dDictZip, dMeth, dFld, dMk, List.map_cons, List.map_nil, List.length_cons, List.length_nil, List.replicate_succ, List.replicate_zero, List.cons_append, List.nil_append, List.append_nil, List.getElem?_cons_zero, List.getElem?_cons_succ, List.set_cons_zero, List.set_cons_succ, Option.bind_some, Option.map_some, Nat.reduceSub, Nat.reduceAdd, kwP, List.getD_cons_zero, List.getD_cons_succ]) (fun _ => by simp only [dC, dV, dB, dO2, ob_some, dT, dAndT, dOrT, dNotT, dIf, dAndV, dOrV, dNotV, dChain, aNil, aCons, dTup, dLst, dCut, oNone, oSome, dRev, dNeg, dTru, dCa, dIs, dIsA, dCall, dCallK, sNil, sSeq, sNever, sBrk, sCont, sIf, sRet, sRetO, sRetE, sSet, sSetO, sDrop, sPar, sPar3, kn, enOf, owD, sAsg, gNm, gsNil, gsCons, gTp, sApp, sIns, sExt, sClr, sRev, sPut, sFrz, owAt, fin, st, iRng, iRngB, iSeq, lstD, tupD, sFor, dLc, dDc, wipeE, tYesD, dIndex, dSort, dDictZip, dMeth, dFld, dMk, List.map_cons, List.map_nil, List.length_cons, List.length_nil, List.replicate_succ, List.replicate_zero, List.cons_append, List.nil_append, List.append_nil, List.getElem?_cons_zero, List.getElem?_cons_succ, List.set_cons_zero, List.set_cons_succ, Option.bind_some, Option.map_some, Nat.reduceSub, Nat.reduceAdd, kwP, List.getD_cons_zero, List.getD_cons_succ]) ?_
  refine loop_all pI (prI (rowsOf us zs)) (fun pre env => ∃ e6 e7 e8 e9 e10 e11 e12 e13, env = [.fz (deskD C us), .fz d, .fz (.lst (zs.map fun z => rectD (rctO us z))), .fz (.lst ((colsOf us zs).map D.int)), .fz (.lst ((rowsOf us zs).map D.int)), .ow ((pre.flatMap fun c => (runsT (fun x => topF us zs x c.1) (colsOf us zs)).map (bandT c)).map tileD), e6, e7, e8, e9, e10, e11, e12, e13]) ⟨_, _, _, _, _, _, _, _, rfl⟩ (fun pre c post env e h k hk => ?_) (fun env h => ?_)
  · obtain ⟨e6, e7, e8, e9, e10, e11, e12, e13, rfl⟩ := h
    have hpl : pre.length < 48 := by
      have := congrArg List.length e
      rw [prI_len] at this
      simp at this
      omega
    have bd : (pre.flatMap fun c => (runsT (fun x => topF us zs x c.1) (colsOf us zs)).map (bandT c)).length ≤ pre.length * 48 := flat_bd fun c => by
      rw [List.length_map]
      exact Nat.le_trans (runs_len _ _) cl
    have bd2 : pre.length * 48 ≤ 48 * 48 := Nat.mul_le_mul_right 48 (by omega)
    obtain ⟨c1, c2⟩ := c
    simp only [pI, dC, dV, dB, dO2, ob_some, dT, dAndT, dOrT, dNotT, dIf, dAndV, dOrV, dNotV, dChain, aNil, aCons, dTup, dLst, dCut, oNone, oSome, dRev, dNeg, dTru, dCa, dIs, dIsA, dCall, dCallK, sNil, sSeq, sNever, sBrk, sCont, sIf, sRet, sRetO, sRetE, sSet, sSetO, sDrop, sPar, sPar3, kn, enOf, owD, sAsg, gNm, gsNil, gsCons, gTp, sApp, sIns, sExt, sClr, sRev, sPut, sFrz, owAt, fin, st, iRng, iRngB, iSeq, lstD, tupD, sFor, dLc, dDc, wipeE, tYesD, dIndex, dSort, dDictZip, dMeth, dFld, dMk, List.map_cons, List.map_nil, List.length_cons, List.length_nil, List.replicate_succ, List.replicate_zero, List.cons_append, List.nil_append, List.append_nil, List.getElem?_cons_zero, List.getElem?_cons_succ, List.set_cons_zero, List.set_cons_succ, Option.bind_some, Option.map_some, Nat.reduceSub, Nat.reduceAdd, kwP, List.getD_cons_zero, List.getD_cons_succ]
    refine ⟨trivial, trivial, us, d, zs, _, c1, rfl, hd, by omega, W.nd, hz, by omega, ?_⟩
    have rn := runs_len (fun x => topF us zs x c1) (colsOf us zs)
    refine .inl (comp_map runD (fun u => tileD (bandT (c1, c2) u)) (runsT (fun x => topF us zs x c1) (colsOf us zs)) [] (fun u _ Q Z hQ => ?_) (by simp; omega) ?_)
    · simp only [runD, dC, dV, dB, dO2, ob_some, dT, dAndT, dOrT, dNotT, dIf, dAndV, dOrV, dNotV, dChain, aNil, aCons, dTup, dLst, dCut, oNone, oSome, dRev, dNeg, dTru, dCa, dIs, dIsA, dCall, dCallK, sNil, sSeq, sNever, sBrk, sCont, sIf, sRet, sRetO, sRetE, sSet, sSetO, sDrop, sPar, sPar3, kn, enOf, owD, sAsg, gNm, gsNil, gsCons, gTp, sApp, sIns, sExt, sClr, sRev, sPut, sFrz, owAt, fin, st, iRng, iRngB, iSeq, lstD, tupD, sFor, dLc, dDc, wipeE, tYesD, dIndex, dSort, dDictZip, dMeth, dFld, dMk, List.map_cons, List.map_nil, List.length_cons, List.length_nil, List.replicate_succ, List.replicate_zero, List.cons_append, List.nil_append, List.append_nil, List.getElem?_cons_zero, List.getElem?_cons_succ, List.set_cons_zero, List.set_cons_succ, Option.bind_some, Option.map_some, Nat.reduceSub, Nat.reduceAdd, kwP, List.getD_cons_zero, List.getD_cons_succ]
      exact ⟨trivial, trivial, by decide, by decide, hQ⟩
    · rw [List.nil_append]
      refine ⟨by simp only [List.length_map]; unfold sizeLine; omega, ?_⟩
      have e3 : (pre.flatMap fun c => (runsT (fun x => topF us zs x c.1) (colsOf us zs)).map (bandT c)).map tileD ++ (runsT (fun x => topF us zs x c1) (colsOf us zs)).map (fun u => tileD (bandT (c1, c2) u)) = ((pre ++ [(c1, c2)]).flatMap fun c => (runsT (fun x => topF us zs x c.1) (colsOf us zs)).map (bandT c)).map tileD := by
        rw [List.flatMap_append, List.map_append, List.flatMap_cons, List.flatMap_nil, List.append_nil, List.map_map]
        rfl
      rw [e3]
      exact hk _ ⟨_, _, _, _, _, _, _, _, rfl⟩
  · obtain ⟨e6, e7, e8, e9, e10, e11, e12, e13, rfl⟩ := h
    simp only [dC, dV, dB, dO2, ob_some, dT, dAndT, dOrT, dNotT, dIf, dAndV, dOrV, dNotV, dChain, aNil, aCons, dTup, dLst, dCut, oNone, oSome, dRev, dNeg, dTru, dCa, dIs, dIsA, dCall, dCallK, sNil, sSeq, sNever, sBrk, sCont, sIf, sRet, sRetO, sRetE, sSet, sSetO, sDrop, sPar, sPar3, kn, enOf, owD, sAsg, gNm, gsNil, gsCons, gTp, sApp, sIns, sExt, sClr, sRev, sPut, sFrz, owAt, fin, st, iRng, iRngB, iSeq, lstD, tupD, sFor, dLc, dDc, wipeE, tYesD, dIndex, dSort, dDictZip, dMeth, dFld, dMk, List.map_cons, List.map_nil, List.length_cons, List.length_nil, List.replicate_succ, List.replicate_zero, List.cons_append, List.nil_append, List.append_nil, List.getElem?_cons_zero, List.getElem?_cons_succ, List.set_cons_zero, List.set_cons_succ, Option.bind_some, Option.map_some, Nat.reduceSub, Nat.reduceAdd, kwP, List.getD_cons_zero, List.getD_cons_succ]
    exact q
end DL
namespace DL
open PySem PySem.Spec PyProof.Rows L2 RK
def ucs (a b : Int) : List (Int × Int) := (List.range (b - a).toNat).map fun i : Nat => (a + i, a + i + 1)
theorem ucs_len (a b : Int) : (ucs a b).length = (b - a).toNat := by simp [ucs]
theorem ucs_nil {a b : Int} (h : b ≤ a) : ucs a b = [] := by
  unfold ucs
  rw [show (b - a).toNat = 0 by omega]
  rfl
theorem ucs_app {a b c : Int} (h1 : a ≤ b) (h2 : b ≤ c) : ucs a c = ucs a b ++ ucs b c := by
  unfold ucs
  obtain ⟨m, rfl⟩ : ∃ m : Nat, b = a + m := ⟨(b - a).toNat, by omega⟩
  obtain ⟨n, rfl⟩ : ∃ n : Nat, c = a + m + n := ⟨(c - (a + m)).toNat, by omega⟩
  rw [show (a + m + n - a).toNat = m + n by omega, show (a + m - a).toNat = m by omega, show (a + m + n - (a + m)).toNat = n by omega, List.range_add, List.map_append, List.map_map]
  congr 1
  refine List.map_congr_left fun i _ => ?_
  simp only [Function.comp]
  rw [Prod.mk.injEq]
  omega
theorem ucs_one (a : Int) : ucs a (a + 1) = [(a, a + 1)] := by
  unfold ucs
  rw [show (a + 1 - a).toNat = 1 by omega]
  simp
theorem ucs_mem {a b : Int} {c : Int × Int} (h : c ∈ ucs a b) : a ≤ c.1 ∧ c.1 < b ∧ c.2 = c.1 + 1 := by
  obtain ⟨i, hi, rfl⟩ := List.mem_map.mp h
  have := List.mem_range.mp hi
  refine ⟨?_, ?_, rfl⟩ <;> (show _ ; omega)
theorem getLast_split {α : Type} {l : List α} {u : α} (h : l.getLast? = some u) : l = l.dropLast ++ [u] := by
  obtain ⟨r, rfl⟩ := List.getLast?_eq_some_iff.mp h
  simp
theorem step_join {tp : Int → Option Str} {rs : List Run} {a b c : Int} (h : tp a = tp b) : stepR tp (stepR tp rs (a, b)) (b, c) = stepR tp rs (a, c) := by
  cases e : tp a with
  | none =>
    have e' := h.symm.trans e
    simp only [stepR, e, e']
  | some n =>
    have e' := h.symm.trans e
    have gl : ∀ (xs : List Run) (u : Run), (xs ++ [u]).getLast? = some u := fun xs u => by simp
    have dl : ∀ (xs : List Run) (u : Run), (xs ++ [u]).dropLast = xs := fun xs u => by simp
    cases g : rs.getLast? with
    | none => simp only [stepR, e, e', g, gl, dl, and_self, if_true]
    | some u =>
      by_cases q : u.r = a ∧ u.n = n
      · simp only [stepR, e, e', g, if_pos q, gl, dl, and_self, if_true]
      · simp only [stepR, e, e', g, if_neg q, gl, dl, and_self, if_true]
theorem fold_none {tp : Int → Option Str} {a b : Int} (h : ∀ x, a ≤ x → x < b → tp x = none) (rs : List Run) : (ucs a b).foldl (stepR tp) rs = rs := by
  have key : ∀ (l : List (Int × Int)) (rs : List Run), (∀ c ∈ l, tp c.1 = none) → l.foldl (stepR tp) rs = rs := by
    intro l
    induction l with
    | nil => intro rs _; rfl
    | cons c l ih =>
      intro rs hc
      rw [List.foldl_cons]
      have : stepR tp rs c = rs := by simp only [stepR, hc c List.mem_cons_self]
      rw [this]
      exact ih rs fun d hd => hc d (List.mem_cons_of_mem _ hd)
  exact key _ rs fun c hc => h _ (ucs_mem hc).1 (ucs_mem hc).2.1
theorem fold_const {tp : Int → Option Str} {a : Int} (rs : List Run) : ∀ (n : Nat), (∀ i : Nat, i ≤ n → tp (a + i) = tp a) → (ucs a (a + (n + 1 : Nat))).foldl (stepR tp) rs = stepR tp rs (a, a + (n + 1 : Nat))
  | 0, _ => by
    rw [show a + ((0 + 1 : Nat) : Int) = a + 1 by omega, ucs_one]
    rfl
  | n + 1, h => by
    have ih := fold_const rs n fun i hi => h i (by omega)
    have e1 : a + ((n + 1 + 1 : Nat) : Int) = a + (n + 1 : Nat) + 1 := by omega
    rw [e1, ucs_app (b := a + (n + 1 : Nat)) (by omega) (by omega), List.foldl_append, ih, ucs_one, List.foldl_cons, List.foldl_nil]
    exact step_join (h (n + 1) (by omega)).symm
theorem fold_seg {tp : Int → Option Str} {a b : Int} (h : a < b) (hc : ∀ x, a ≤ x → x < b → tp x = tp a) (rs : List Run) : (ucs a b).foldl (stepR tp) rs = stepR tp rs (a, b) := by
  obtain ⟨n, rfl⟩ : ∃ n : Nat, b = a + (n + 1 : Nat) := ⟨(b - a).toNat - 1, by omega⟩
  exact fold_const rs n fun i hi => hc _ (by omega) (by omega)
def Cut {α : Type} (f : Int → α) (cs : List Int) : Prop := ∀ x, x + 1 ∉ cs → f (x + 1) = f x
theorem cut_const {α : Type} {f : Int → α} {cs : List Int} (h : Cut f cs) {a b : Int} (hn : ∀ c ∈ cs, ¬ (a < c ∧ c < b)) : ∀ x, a ≤ x → x < b → f x = f a := by
  have key : ∀ (n : Nat), a + n < b → f (a + n) = f a := by
    intro n
    induction n with
    | zero => intro _; simp
    | succ n ih =>
      intro hb
      have e : a + ((n + 1 : Nat) : Int) = a + n + 1 := by omega
      rw [e, h (a + n) fun hc => hn _ hc ⟨by omega, by omega⟩]
      exact ih (by omega)
  intro x h1 h2
  obtain ⟨n, rfl⟩ : ∃ n : Nat, x = a + n := ⟨(x - a).toNat, by omega⟩
  exact key n h2
def lastI (a : Int) (r : List Int) : Int := (a :: r).getLast (by simp)
theorem lastI_cons (a b : Int) (r : List Int) : lastI a (b :: r) = lastI b r := by simp [lastI]
theorem asc_last : ∀ {a : Int} {r : List Int}, (a :: r).Pairwise (· < ·) → a ≤ lastI a r ∧ ∀ c ∈ a :: r, c ≤ lastI a r
  | a, [], _ => ⟨Int.le_refl _, fun c hc => by rw [List.mem_singleton.mp hc]; exact Int.le_refl _⟩
  | a, b :: r, h => by
    have h' := List.pairwise_cons.mp h
    have ih := asc_last h'.2
    have ab := h'.1 b List.mem_cons_self
    rw [lastI_cons]
    refine ⟨by omega, fun c hc => ?_⟩
    rcases List.mem_cons.mp hc with rfl | hc
    · omega
    · exact ih.2 c hc
theorem lastI_mem (a : Int) (r : List Int) : lastI a r ∈ a :: r := List.getLast_mem _
theorem fold_secs {tp : Int → Option Str} {cs : List Int} (hc : Cut tp cs) : ∀ (a : Int) (r : List Int) (rs : List Run), (a :: r).Pairwise (· < ·) → (∀ c ∈ cs, c ∈ a :: r ∨ c < a) → (prI (a :: r)).foldl (stepR tp) rs = (ucs a (lastI a r)).foldl (stepR tp) rs
  | a, [], rs, _, _ => by
    rw [show lastI a [] = a from rfl, ucs_nil (Int.le_refl _)]
    rfl
  | a, b :: r, rs, h, hm => by
    have h' := List.pairwise_cons.mp h
    have ab := h'.1 b List.mem_cons_self
    have bl := (asc_last h'.2).1
    have h2 := List.pairwise_cons.mp h'.2
    rw [prI, List.foldl_cons, lastI_cons, ucs_app (b := b) (by omega) bl, List.foldl_append, fold_seg ab (cut_const hc fun c hcc => ?_)]
    · refine fold_secs hc b r _ h'.2 fun c hcc => ?_
      rcases hm c hcc with hh | hh
      · rcases List.mem_cons.mp hh with rfl | hh
        · exact .inr ab
        · exact .inl hh
      · exact .inr (by omega)
    · rintro ⟨z1, z2⟩
      rcases hm c hcc with hh | hh
      · rcases List.mem_cons.mp hh with rfl | hh
        · omega
        · rcases List.mem_cons.mp hh with rfl | hh
          · omega
          · have := h2.1 c hh
            omega
      · omega
structure Seen (tp : Int → Option Str) (cs : List Int) (lo hi : Int) : Prop where
  pw : cs.Pairwise (· < ·)
  cut : Cut tp cs
  bl : ∀ x, (∀ c ∈ cs, x < c) → tp x = none
  ab : ∀ x, (∀ c ∈ cs, c ≤ x) → tp x = none
  lo : ∀ c ∈ cs, lo ≤ c
  hi : ∀ c ∈ cs, c ≤ hi
theorem runs_cells {tp : Int → Option Str} {cs : List Int} {lo hi : Int} (S : Seen tp cs lo hi) (hl : lo ≤ hi) : runsT tp cs = (ucs lo hi).foldl (stepR tp) [] := by
  unfold runsT
  cases cs with
  | nil => rw [fold_none fun x _ _ => S.bl x fun c hc => nomatch hc]; rfl
  | cons a r =>
    have al := asc_last S.pw
    have la := S.lo a List.mem_cons_self
    have lh := S.hi _ (lastI_mem a r)
    rw [fold_secs S.cut a r [] S.pw fun c hc => .inl hc, ucs_app (b := a) (c := hi) la (by omega), ucs_app (a := a) (b := lastI a r) (c := hi) al.1 lh, List.foldl_append, List.foldl_append, fold_none (a := lo) fun x h1 h2 => S.bl x fun c hc => ?_, fold_none (a := lastI a r) fun x h1 h2 => S.ab x fun c hc => ?_]
    · have := al.2 c hc; omega
    · rcases List.mem_cons.mp hc with rfl | hc
      · exact h2
      · have := (List.pairwise_cons.mp S.pw).1 c hc
        omega
def wid (rs : List Run) : Int := (rs.map fun u => u.r - u.l).sum
theorem wid_app (a b : List Run) : wid (a ++ b) = wid a + wid b := by unfold wid; rw [List.map_append, List.sum_append]
def one (b : Bool) : Int := if b = true then 1 else 0
theorem wid_step (tp : Int → Option Str) (rs : List Run) (a : Int) : wid (stepR tp rs (a, a + 1)) = wid rs + one (tp a).isSome := by
  have w1 : ∀ u : Run, wid [u] = u.r - u.l := fun u => by simp [wid]
  cases e : tp a with
  | none => simp [stepR, e, one]
  | some n =>
    have o1 : one (some n).isSome = 1 := rfl
    rw [o1]
    cases g : rs.getLast? with
    | none => simp only [stepR, e, g, wid_app, w1]; omega
    | some u =>
      by_cases q : u.r = a ∧ u.n = n
      · have sp := getLast_split g
        simp only [stepR, e, g, if_pos q]
        rw [wid_app, w1]
        rw [congrArg wid sp, wid_app, w1]
        have := q.1
        show _ + (a + 1 - u.l) = _
        omega
      · simp only [stepR, e, g, if_neg q, wid_app, w1]; omega
def sumI (f : Int → Int) (a b : Int) : Int := ((ucs a b).map fun c => f c.1).sum
theorem sumI_app {f : Int → Int} {a b c : Int} (h1 : a ≤ b) (h2 : b ≤ c) : sumI f a c = sumI f a b + sumI f b c := by unfold sumI; rw [ucs_app h1 h2, List.map_append, List.sum_append]
theorem sumI_nil {f : Int → Int} (a : Int) : sumI f a a = 0 := by unfold sumI; rw [ucs_nil (Int.le_refl _)]; rfl
theorem sumI_one {f : Int → Int} (a : Int) : sumI f a (a + 1) = f a := by unfold sumI; rw [ucs_one]; simp
theorem sumI_ext {f g : Int → Int} {a b : Int} (h : ∀ x, a ≤ x → x < b → f x = g x) : sumI f a b = sumI g a b := by
  unfold sumI
  congr 1
  exact List.map_congr_left fun c hc => h _ (ucs_mem hc).1 (ucs_mem hc).2.1
theorem sumI_const {f : Int → Int} {a b : Int} (hab : a ≤ b) (h : ∀ x, a ≤ x → x < b → f x = f a) : sumI f a b = f a * (b - a) := by
  have key : ∀ n : Nat, (∀ x, a ≤ x → x < a + n → f x = f a) → sumI f a (a + n) = f a * n := by
    intro n
    induction n with
    | zero => intro _; rw [show a + ((0 : Nat) : Int) = a by omega, sumI_nil]; simp
    | succ n ih =>
      intro h
      rw [show a + ((n + 1 : Nat) : Int) = a + n + 1 by omega, sumI_app (b := a + n) (by omega) (by omega), sumI_one, ih fun x h1 h2 => h x h1 (by omega), h (a + n) (by omega) (by omega)]
      rw [show ((n + 1 : Nat) : Int) = n + 1 by omega, Int.mul_add, Int.mul_one]
  obtain ⟨n, rfl⟩ : ∃ n : Nat, b = a + n := ⟨(b - a).toNat, by omega⟩
  rw [key n h, show a + (n : Int) - a = n by omega]
theorem wid_fold (tp : Int → Option Str) (a b : Int) : wid ((ucs a b).foldl (stepR tp) []) = sumI (fun x => one (tp x).isSome) a b := by
  have key : ∀ (l : List (Int × Int)) (rs : List Run), (∀ c ∈ l, c.2 = c.1 + 1) → wid (l.foldl (stepR tp) rs) = wid rs + (l.map fun c => one (tp c.1).isSome).sum := by
    intro l
    induction l with
    | nil => intro rs _; simp
    | cons c l ih =>
      intro rs hc
      obtain ⟨x, y⟩ := c
      have : y = x + 1 := hc _ List.mem_cons_self
      subst this
      rw [List.foldl_cons, ih _ fun d hd => hc d (List.mem_cons_of_mem _ hd), wid_step, List.map_cons, List.sum_cons]
      exact Int.add_assoc _ _ _
  rw [key _ _ fun c hc => (ucs_mem hc).2.2]
  exact Int.zero_add _
theorem sumI_add {f g : Int → Int} {a b : Int} : sumI (fun x => f x + g x) a b = sumI f a b + sumI g a b := by
  unfold sumI
  induction ucs a b with
  | nil => rfl
  | cons c l ih =>
    simp only [List.map_cons, List.sum_cons] at ih ⊢
    omega
theorem sumI_zero {a b : Int} : sumI (fun _ => 0) a b = 0 := by
  unfold sumI
  induction ucs a b with
  | nil => rfl
  | cons c l ih =>
    simp only [List.map_cons, List.sum_cons] at ih ⊢
    omega
theorem sumI_swap (f : Int → Int → Int) (a b c d : Int) : sumI (fun y => sumI (fun x => f x y) a b) c d = sumI (fun x => sumI (fun y => f x y) c d) a b := by
  have key : ∀ l : List (Int × Int), (l.map fun q => sumI (fun x => f x q.1) a b).sum = sumI (fun x => (l.map fun q => f x q.1).sum) a b := by
    intro l
    induction l with
    | nil => exact sumI_zero.symm
    | cons q l ih =>
      simp only [List.map_cons, List.sum_cons]
      rw [ih, ← sumI_add]
  exact key _
def are (us : List Tile) : Int := (us.map fun u => (u.r - u.l) * (u.b - u.t)).sum
theorem are_app (a b : List Tile) : are (a ++ b) = are a + are b := by unfold are; rw [List.map_append, List.sum_append]
theorem are_band (c : Int × Int) (rs : List Run) : are (rs.map (bandT c)) = wid rs * (c.2 - c.1) := by
  unfold are wid
  induction rs with
  | nil => simp
  | cons u rs ih =>
    simp only [List.map_cons, List.sum_cons] at ih ⊢
    rw [ih, Int.add_mul]
    rfl
theorem are_secs {g : Int → Int} {f : Int × Int → List Tile} {cs : List Int} (hc : Cut g cs) (hf : ∀ c : Int × Int, are (f c) = g c.1 * (c.2 - c.1)) : ∀ (a : Int) (r : List Int), (a :: r).Pairwise (· < ·) → (∀ c ∈ cs, c ∈ a :: r ∨ c < a) → are ((prI (a :: r)).flatMap f) = sumI g a (lastI a r)
  | a, [], _, _ => by
    rw [show lastI a [] = a from rfl, sumI_nil]
    rfl
  | a, b :: r, h, hm => by
    have h' := List.pairwise_cons.mp h
    have ab := h'.1 b List.mem_cons_self
    have bl := (asc_last h'.2).1
    have h2 := List.pairwise_cons.mp h'.2
    rw [prI, List.flatMap_cons, are_app, lastI_cons, sumI_app (b := b) (by omega) bl, hf, sumI_const (by omega) (cut_const hc fun c hcc => ?_), are_secs hc hf b r h'.2 fun c hcc => ?_]
    · rcases hm c hcc with hh | hh
      · rcases List.mem_cons.mp hh with rfl | hh
        · exact .inr ab
        · exact .inl hh
      · exact .inr (by omega)
    · rintro ⟨z1, z2⟩
      rcases hm c hcc with hh | hh
      · rcases List.mem_cons.mp hh with rfl | hh
        · omega
        · rcases List.mem_cons.mp hh with rfl | hh
          · omega
          · have := h2.1 c hh
            omega
      · omega
theorem are_all {g : Int → Int} {f : Int × Int → List Tile} {cs : List Int} {lo hi : Int} (hl : lo ≤ hi) (pw : cs.Pairwise (· < ·)) (hc : Cut g cs) (bl : ∀ x, (∀ c ∈ cs, x < c) → g x = 0) (ab : ∀ x, (∀ c ∈ cs, c ≤ x) → g x = 0) (clo : ∀ c ∈ cs, lo ≤ c) (chi : ∀ c ∈ cs, c ≤ hi)
    (hf : ∀ c : Int × Int, are (f c) = g c.1 * (c.2 - c.1)) : are ((prI cs).flatMap f) = sumI g lo hi := by
  cases cs with
  | nil =>
    rw [sumI_ext (g := fun _ => 0) (fun x _ _ => bl x fun c hc => nomatch hc), sumI_zero]
    rfl
  | cons a r =>
    have al := asc_last pw
    have la := clo a List.mem_cons_self
    have lh := chi _ (lastI_mem a r)
    rw [are_secs hc hf a r pw fun c hc => .inl hc, sumI_app (b := a) (c := hi) la (by omega), sumI_app (a := a) (b := lastI a r) (c := hi) al.1 lh]
    rw [sumI_ext (a := lo) (g := fun _ => 0) fun x h1 h2 => bl x fun c hc => ?_, sumI_ext (a := lastI a r) (g := fun _ => 0) fun x h1 h2 => ab x fun c hc => ?_, sumI_zero, sumI_zero]
    · omega
    · have := al.2 c hc; omega
    · rcases List.mem_cons.mp hc with rfl | hc
      · exact h2
      · have := (List.pairwise_cons.mp pw).1 c hc
        omega
def Sml (us : List Win) : Prop := ∀ w ∈ us, -4 ≤ w.2.l ∧ w.2.l < w.2.r ∧ w.2.r ≤ 8 ∧ -4 ≤ w.2.t ∧ w.2.t < w.2.b ∧ w.2.b ≤ 8
theorem cov_has {us : List Win} (nd : (nms us).Nodup) {x y : Int} {z : Str} (h : z ∈ nms us) : cov us x y z = decide ((rctO us z).has x y) := by
  obtain ⟨r, hr, _⟩ := look_ex nd h
  unfold cov rctO
  rw [hr]
  rfl
theorem rct_sml {us : List Win} (nd : (nms us).Nodup) (S : Sml us) {z : Str} (h : z ∈ nms us) : -4 ≤ (rctO us z).l ∧ (rctO us z).l < (rctO us z).r ∧ (rctO us z).r ≤ 8 ∧ -4 ≤ (rctO us z).t ∧ (rctO us z).t < (rctO us z).b ∧ (rctO us z).b ≤ 8 := by
  obtain ⟨r, hr, hm⟩ := look_ex nd h
  unfold rctO
  rw [hr]
  exact S (z, r) hm
theorem cols_mem {us : List Win} {zs : List Str} {k : Int} : k ∈ colsOf us zs ↔ ∃ z ∈ zs, k = (rctO us z).l ∨ k = (rctO us z).r := by
  unfold colsOf
  rw [asc_mem, List.mem_flatMap]
  simp
theorem rows_mem {us : List Win} {zs : List Str} {k : Int} : k ∈ rowsOf us zs ↔ ∃ z ∈ zs, k = (rctO us z).t ∨ k = (rctO us z).b := by
  unfold rowsOf
  rw [asc_mem, List.mem_flatMap]
  simp
theorem has_iff (r : R) (x y : Int) : r.has x y ↔ r.l ≤ x ∧ x < r.r ∧ r.t ≤ y ∧ y < r.b := by
  unfold R.has
  constructor <;> (intro h; obtain ⟨a, b, c, d⟩ := h; refine ⟨?_, ?_, ?_, ?_⟩ <;> omega)
theorem seen_cols {us : List Win} {zs : List Str} (nd : (nms us).Nodup) (hz : ∀ z ∈ zs, z ∈ nms us) (S : Sml us) (y : Int) : Seen (fun x => topF us zs x y) (colsOf us zs) (-5) 10 where
  pw := asc_asc _
  cut := fun x hx => by
    show topF us zs (x + 1) y = topF us zs x y
    unfold topF
    congr 1
    refine List.filter_congr fun z hzz => ?_
    rw [cov_has nd (hz z hzz), cov_has nd (hz z hzz)]
    refine decide_eq_decide.mpr ?_
    rw [has_iff, has_iff]
    have h1 : x + 1 ≠ (rctO us z).l := fun e => hx (cols_mem.mpr ⟨z, hzz, .inl e⟩)
    have h2 : x + 1 ≠ (rctO us z).r := fun e => hx (cols_mem.mpr ⟨z, hzz, .inr e⟩)
    omega
  bl := fun x hx => by
    show topF us zs x y = none
    unfold topF
    rw [List.filter_eq_nil_iff.mpr fun z hzz => ?_]
    · rfl
    · rw [cov_has nd (hz z hzz)]
      have := hx _ (cols_mem.mpr ⟨z, hzz, .inl rfl⟩)
      simp only [decide_eq_true_eq, has_iff]
      omega
  ab := fun x hx => by
    show topF us zs x y = none
    unfold topF
    rw [List.filter_eq_nil_iff.mpr fun z hzz => ?_]
    · rfl
    · rw [cov_has nd (hz z hzz)]
      have := hx _ (cols_mem.mpr ⟨z, hzz, .inr rfl⟩)
      simp only [decide_eq_true_eq, has_iff]
      omega
  lo := fun c hc => by
    obtain ⟨z, hzz, e⟩ := cols_mem.mp hc
    have := rct_sml nd S (hz z hzz)
    omega
  hi := fun c hc => by
    obtain ⟨z, hzz, e⟩ := cols_mem.mp hc
    have := rct_sml nd S (hz z hzz)
    omega
theorem seen_rows {us : List Win} {zs : List Str} (nd : (nms us).Nodup) (hz : ∀ z ∈ zs, z ∈ nms us) (S : Sml us) (x : Int) : Seen (fun y => topF us zs x y) (rowsOf us zs) (-5) 10 where
  pw := asc_asc _
  cut := fun y hx => by
    show topF us zs x (y + 1) = topF us zs x y
    unfold topF
    congr 1
    refine List.filter_congr fun z hzz => ?_
    rw [cov_has nd (hz z hzz), cov_has nd (hz z hzz)]
    refine decide_eq_decide.mpr ?_
    rw [has_iff, has_iff]
    have h1 : y + 1 ≠ (rctO us z).t := fun e => hx (rows_mem.mpr ⟨z, hzz, .inl e⟩)
    have h2 : y + 1 ≠ (rctO us z).b := fun e => hx (rows_mem.mpr ⟨z, hzz, .inr e⟩)
    omega
  bl := fun y hx => by
    show topF us zs x y = none
    unfold topF
    rw [List.filter_eq_nil_iff.mpr fun z hzz => ?_]
    · rfl
    · rw [cov_has nd (hz z hzz)]
      have := hx _ (rows_mem.mpr ⟨z, hzz, .inl rfl⟩)
      simp only [decide_eq_true_eq, has_iff]
      omega
  ab := fun y hx => by
    show topF us zs x y = none
    unfold topF
    rw [List.filter_eq_nil_iff.mpr fun z hzz => ?_]
    · rfl
    · rw [cov_has nd (hz z hzz)]
      have := hx _ (rows_mem.mpr ⟨z, hzz, .inr rfl⟩)
      simp only [decide_eq_true_eq, has_iff]
      omega
  lo := fun c hc => by
    obtain ⟨z, hzz, e⟩ := rows_mem.mp hc
    have := rct_sml nd S (hz z hzz)
    omega
  hi := fun c hc => by
    obtain ⟨z, hzz, e⟩ := rows_mem.mp hc
    have := rct_sml nd S (hz z hzz)
    omega
def cellR (us : List Win) (zs : List Str) (y : Int) : List Run := (ucs (-5) 10).foldl (stepR fun x => topF us zs x y) []
theorem tls_cells {us : List Win} {zs : List Str} (nd : (nms us).Nodup) (hz : ∀ z ∈ zs, z ∈ nms us) (S : Sml us) : tls (topF us zs) (colsOf us zs) (rowsOf us zs) = (prI (rowsOf us zs)).flatMap fun c => (cellR us zs c.1).map (bandT c) := by
  unfold tls cellR
  congr 1
  funext c
  rw [runs_cells (seen_cols nd hz S c.1) (by decide)]
theorem are_tls {us : List Win} {zs : List Str} (nd : (nms us).Nodup) (hz : ∀ z ∈ zs, z ∈ nms us) (S : Sml us) : are ((prI (rowsOf us zs)).flatMap fun c => (cellR us zs c.1).map (bandT c)) = sumI (fun x => sumI (fun y => one (topF us zs x y).isSome) (-5) 10) (-5) 10 := by
  rw [← sumI_swap (fun x y => one (topF us zs x y).isSome)]
  have S0 := seen_rows nd hz S
  refine are_all (by decide) (asc_asc _) (fun y hy => ?_) (fun y hy => ?_) (fun y hy => ?_) (S0 0).lo (S0 0).hi fun c => ?_
  · exact sumI_ext fun x _ _ => by rw [show topF us zs x (y + 1) = topF us zs x y from (S0 x).cut y hy]
  · rw [sumI_ext (g := fun _ => 0) fun x _ _ => by rw [show topF us zs x y = none from (S0 x).bl y hy]; rfl, sumI_zero]
  · rw [sumI_ext (g := fun _ => 0) fun x _ _ => by rw [show topF us zs x y = none from (S0 x).ab y hy]; rfl, sumI_zero]
  · rw [are_band]
    unfold cellR
    rw [wid_fold]
end DL
namespace DL
open PySem PySem.Spec PyProof.Rows L2 RK
theorem put_len (kds : List (Key × D)) (k : Key) (y : D) : (putD kds k y).length ≤ kds.length + 1 := by
  unfold putD
  by_cases h : (kds.any fun kd => decide (kd.1 = k)) = true
  · rw [if_pos h, List.length_map]; omega
  · rw [if_neg h]; simp
end DL
namespace DL
open PySem PySem.Spec PyProof.Rows L2 RK
inductive Sc where
  | mv (up : Bool) (ns : List Str)
  | pl (n : Str) (r : R)
  | rp (c : Int) (ss : List Sc)
def Sc.word : Sc → Str
  | .mv true _ => "raise"
  | .mv false _ => "lower"
  | .pl _ _ => "place"
  | .rp _ _ => "repeat"
mutual
def Sc.d : Sc → D
  | .mv true ns => .tup [.str "raise", .lst (ns.map D.str)]
  | .mv false ns => .tup [.str "lower", .lst (ns.map D.str)]
  | .pl n r => .tup [.str "place", .str n, rectD r]
  | .rp c ss => .tup [.str "repeat", .int c, .lst (Sc.ds ss)]
def Sc.ds : List Sc → List D
  | [] => []
  | s :: ss => s.d :: Sc.ds ss
end
theorem Sc.items (s : Sc) : ∃ xs, s.d = .tup (.str s.word :: xs) := by
  cases s with
  | mv up ns => cases up <;> exact ⟨_, by rw [Sc.d]; rfl⟩
  | pl n r => exact ⟨_, by rw [Sc.d]; rfl⟩
  | rp c ss => exact ⟨_, by rw [Sc.d]; rfl⟩
def Sc.isRp : Sc → Bool
  | .rp _ _ => true
  | _ => false
end DL
namespace DL
open PySem PySem.Spec PyProof.Rows L2 RK
inductive Dp : Nat → Sc → Prop
  | mv {n : Nat} {up : Bool} {ns : List Str} : Dp n (.mv up ns)
  | pl {n : Nat} {x : Str} {r : R} : Dp n (.pl x r)
  | rp {n : Nat} {c : Int} {ss : List Sc} : (∀ s ∈ ss, Dp n s) → Dp (n + 1) (.rp c ss)
theorem Dp.up {n : Nat} {s : Sc} (h : Dp n s) : Dp (n + 1) s := by
  induction h with
  | mv => exact .mv
  | pl => exact .pl
  | rp _ ih => exact .rp ih
mutual
def Sc.sz : Sc → Nat
  | .mv _ _ => 1
  | .pl _ _ => 1
  | .rp _ ss => 1 + Sc.szs ss
def Sc.szs : List Sc → Nat
  | [] => 0
  | s :: ss => s.sz + Sc.szs ss
end
end DL
namespace DL
open PySem PySem.Spec PyProof.Rows L2 RK
def RtM (nm ns : List Str) : Prop := ns ≠ [] ∧ ns.Nodup ∧ (∀ n ∈ ns, n ∈ nm) ∧ ns.length ≤ 1000
inductive Rt (nm : List Str) : Sc → Prop
  | mv {up : Bool} {ns : List Str} : RtM nm ns → Rt nm (.mv up ns)
  | pl {n : Str} {r : R} : n ∈ nm → r.good → Rt nm (.pl n r)
  | rp {c : Int} {ss : List Sc} : 0 ≤ c → c ≤ 1000000000000000000 → ss.length ≤ 100000 → (∀ s ∈ ss, Rt nm s) → Rt nm (.rp c ss)
end DL
namespace DL
open PySem PySem.Spec PyProof.Rows L2 RK
mutual
def Sc.fl : Sc → List Sc
  | .mv up ns => [.mv up ns]
  | .pl n r => [.pl n r]
  | .rp c ss => if c = 0 then [] else Sc.fls ss
def Sc.fls : List Sc → List Sc
  | [] => []
  | s :: ss => s.fl ++ Sc.fls ss
end
mutual
theorem fl_len : ∀ s : Sc, s.fl.length ≤ s.sz
  | .mv up ns => by rw [Sc.fl, Sc.sz]; exact Nat.le_refl _
  | .pl n r => by rw [Sc.fl, Sc.sz]; exact Nat.le_refl _
  | .rp c ss => by
    rw [Sc.fl, Sc.sz]
    have := fls_len ss
    split
    · simp
    · omega
theorem fls_len : ∀ ss : List Sc, (Sc.fls ss).length ≤ Sc.szs ss
  | [] => by rw [Sc.fls, Sc.szs]; exact Nat.le_refl _
  | s :: ss => by
    rw [Sc.fls, Sc.szs, List.length_append]
    have := fl_len s
    have := fls_len ss
    omega
end
end DL
namespace DL
open PySem PySem.Spec PyProof.Rows L2 RK
def plW (us : List Win) (n : Str) (r : R) : List Win := us.map fun w => if w.1 = n then (n, r) else w
theorem nms_pl (us : List Win) (n : Str) (r : R) : nms (plW us n r) = nms us := by
  unfold nms plW
  rw [List.map_map]
  refine List.map_congr_left fun w _ => ?_
  show (if w.1 = n then (n, r) else w).1 = w.1
  by_cases h : w.1 = n
  · rw [if_pos h]; exact h.symm
  · rw [if_neg h]
theorem pl_ok {us : List Win} (W : WOk us) {n : Str} {r : R} (g : r.good) (hn : n ∈ nms us) : WOk (plW us n r) := by
  refine ⟨by rw [nms_pl]; exact W.nd, fun w hw => ?_, fun w hw => ?_⟩
  · obtain ⟨v, hv, rfl⟩ := List.mem_map.mp hw
    by_cases h : v.1 = n
    · rw [if_pos h]; rw [← h]; exact W.nm v hv
    · rw [if_neg h]; exact W.nm v hv
  · obtain ⟨v, hv, rfl⟩ := List.mem_map.mp hw
    by_cases h : v.1 = n
    · rw [if_pos h]; exact g
    · rw [if_neg h]; exact W.gd v hv
structure DkOk (us : List Win) : Prop where
  w : WOk us
  s : SortW us
  l1 : 1 ≤ us.length
  l2 : us.length ≤ 24
theorem DkOk.pl {us : List Win} (h : DkOk us) {n : Str} {r : R} (g : r.good) (hn : n ∈ nms us) : DkOk (plW us n r) :=
  ⟨pl_ok h.w g hn, by unfold SortW; rw [nms_pl]; exact h.s, by unfold plW; rw [List.length_map]; exact h.l1, by unfold plW; rw [List.length_map]; exact h.l2⟩
def stW (us : List Win) : Sc → List Win
  | .pl n r => plW us n r
  | _ => us
def aftW (us : List Win) (ps : List Sc) : List Win := ps.foldl stW us
def Plain (nm : List Str) (ps : List Sc) : Prop := ∀ s ∈ ps, s.isRp = false ∧ Rt nm s
theorem DkOk.st {us : List Win} (h : DkOk us) {s : Sc} (hp : s.isRp = false ∧ Rt (nms us) s) : DkOk (stW us s) := by
  obtain ⟨h1, h2⟩ := hp
  cases h2 with
  | mv _ => exact h
  | pl hn g => exact h.pl g hn
  | rp _ _ _ _ => cases h1
end DL
namespace DL
open PySem PySem.Spec PyProof.Rows L2 RK
def prt (s : Sc) (a b : Str) : Bool := match s with
  | .mv _ ns => decide (a ∈ ns) != decide (b ∈ ns)
  | _ => false
def pov (s : Sc) (a : Str) : Bool := match s with
  | .mv up ns => up == decide (a ∈ ns)
  | _ => false
def lastP (ps : List Sc) (a b : Str) : Option Sc := (ps.filter fun s => prt s a b).getLast?
def wordP (ps : List Sc) (a b : Str) : Str := match lastP ps a b with
  | none => "left"
  | some s => if pov s a = true then "over" else "under"
theorem plain_fl {nm : List Str} : ∀ {n : Nat} {s : Sc}, Dp n s → Rt nm s → Plain nm s.fl := by
  intro n s h
  induction h with
  | mv => intro rt t ht; rw [Sc.fl, List.mem_singleton] at ht; rw [ht]; exact ⟨rfl, rt⟩
  | pl => intro rt t ht; rw [Sc.fl, List.mem_singleton] at ht; rw [ht]; exact ⟨rfl, rt⟩
  | rp _ ih =>
    rename_i c ss _
    intro rt t ht
    rw [Sc.fl] at ht
    split at ht
    · cases ht
    · cases rt with
      | rp _ _ _ h4 =>
        have key : ∀ ts : List Sc, (∀ s ∈ ts, s ∈ ss) → t ∈ Sc.fls ts → t.isRp = false ∧ Rt nm t := by
          intro ts
          induction ts with
          | nil => intro _ h; rw [Sc.fls] at h; cases h
          | cons s ts ih2 =>
            intro hs h
            rw [Sc.fls] at h
            rcases List.mem_append.mp h with h | h
            · exact ih s (hs s List.mem_cons_self) (h4 s (hs s List.mem_cons_self)) t h
            · exact ih2 (fun x hx => hs x (List.mem_cons_of_mem _ hx)) h
        exact key ss (fun _ h => h) ht
theorem plain_fls {nm : List Str} {n : Nat} : ∀ {ss : List Sc}, (∀ s ∈ ss, Rt nm s ∧ Dp n s) → Plain nm (Sc.fls ss)
  | [], _ => fun t ht => by rw [Sc.fls] at ht; cases ht
  | s :: ss, h => fun t ht => by
    rw [Sc.fls] at ht
    rcases List.mem_append.mp ht with ht | ht
    · exact plain_fl (h s List.mem_cons_self).2 (h s List.mem_cons_self).1 t ht
    · exact plain_fls (fun x hx => h x (List.mem_cons_of_mem _ hx)) t ht
def RtS (nm : List Str) (ss : List Sc) : Prop := (∀ s ∈ ss, Rt nm s ∧ Dp 5 s) ∧ Sc.szs ss ≤ 400
theorem RtS.plain {nm : List Str} {ss : List Sc} (h : RtS nm ss) : Plain nm (Sc.fls ss) := plain_fls h.1
def effP (us : List Win) (ps : List Sc) : List SP := prs (ovl (aftW us ps)) (nms us)
end DL
namespace DL
open PySem PySem.Spec PyProof.Rows L2 RK
instance decR : DecidableEq R := fun a b => decidable_of_iff (a.l = b.l ∧ a.t = b.t ∧ a.r = b.r ∧ a.b = b.b) ⟨fun ⟨h1, h2, h3, h4⟩ => by cases a; cases b; cases h1; cases h2; cases h3; cases h4; rfl, fun h => by rw [h]; exact ⟨rfl, rfl, rfl, rfl⟩⟩
end DL
namespace DL
open PySem PySem.Spec PyProof.Rows L2 RK
def Alk (us : List Win) (a b : List Sc) : Prop := aftW us a = aftW us b ∧ ∀ p ∈ effP us a, wordP a p.1 p.2 = wordP b p.1 p.2
theorem Alk.refl (us : List Win) (a : List Sc) : Alk us a a := ⟨rfl, fun _ _ => rfl⟩
theorem Alk.trans {us : List Win} {a b c : List Sc} (h : Alk us a b) (g : Alk us b c) : Alk us a c := ⟨h.1.trans g.1, fun p hp => (h.2 p hp).trans (g.2 p (by unfold effP at hp ⊢; rw [← h.1]; exact hp))⟩
end DL
namespace DL
open PySem PySem.Spec PyProof.Rows L2 RK
end DL
namespace DL
open PySem PySem.Spec PyProof.Rows L2 RK
end DL
namespace DL
open PySem PySem.Spec PyProof.Rows L2 RK
end DL
namespace DL
open PySem PySem.Spec PyProof.Rows L2 RK
end DL
namespace DL
open PySem PySem.Spec PyProof.Rows L2 RK
end DL
namespace DL
open PySem PySem.Spec PyProof.Rows L2 RK
abbrev Fact := Int × Int × Option Str
def optD : Option Str → D
  | none => .non
  | some z => .str z
end DL
namespace DL
open PySem PySem.Spec PyProof.Rows L2 RK
structure WNm (ws : List Win) : Prop where
  nd : (nms ws).Nodup
  nm : ∀ w ∈ ws, NameOk w.1
  l1 : 1 ≤ ws.length
  l2 : ws.length ≤ 24
end DL
namespace DL
open PySem PySem.Spec PyProof.Rows L2 RK
end DL
namespace DL
open PySem PySem.Spec PyProof.Rows L2 RK
end DL
namespace DL
open PySem PySem.Spec PyProof.Rows L2 RK
theorem bAdd_lst {xs ys : List D} (h : xs.length + ys.length ≤ 1000000) : bAdd (.lst xs) (.lst ys) = some (.lst (xs ++ ys)) := if_pos (Nat.le_of_lt (szM h))
def sp_seenL : DSp := sp_l_seen
def d_seenL : TDS := (sSeq (sSet 4 (dLc (iSeq (dV 1)) (gNm 5) (dAndT (dT (dChain bLe (iI0 fun i j => .bl (decide (i < j))) (dO2 bIx (dO2 bIx (dV 0) (dV 5)) (dC (.int 0))) (dV 2) (dO2 bIx (dO2 bIx (dV 0) (dV 5)) (dC (.int 2))))) (dT (dChain bLe (iI0 fun i j => .bl (decide (i < j))) (dO2 bIx (dO2 bIx (dV 0) (dV 5)) (dC (.int 1))) (dV 3) (dO2 bIx (dO2 bIx (dV 0) (dV 5)) (dC (.int 3)))))) (dV 5) [5]))
  (sRet (dIf (dT (dO2 (bEqN true) (dV 4) (dLst aNil))) (dO2 bIx (dV 4) (dNeg (dC (.int 1)))) (dC .non))))
theorem ln_seenL {ds : List D} {P : D → Prop} (h : sp_seenL ds P) : ds.length = 4 := ln_l_seen h
theorem rd_seenL {ds : List D} {P : D → Prop} (h : sp_seenL ds P) : d_seenL (fin false P) (st 6 ds) := rd_l_seen h
end DL
namespace DL
open PySem PySem.Spec PyProof.Rows L2 RK
theorem opt_top (us : List Win) (zs : List Str) (x y : Int) : topD (zs.filter (cov us x y)) = optD (topF us zs x y) := by
  rw [topF_D]
  cases topF us zs x y <;> rfl
def InvB (rs : List Run) (b : Option Str) (p : Int) : Prop := (∀ n, b = some n → ∃ l xs, rs = xs ++ [⟨l, p, n⟩]) ∧ (b = none → ∀ xs u, rs = xs ++ [u] → u.r < p)
theorem invB_lt {rs : List Run} {b : Option Str} {p : Int} (h : InvB rs b p) {xs : List Run} {u : Run} (e : rs = xs ++ [u]) : u.r < p + 1 := by
  cases b with
  | none => have := h.2 rfl xs u e; omega
  | some n =>
    obtain ⟨l, ys, e2⟩ := h.1 n rfl
    rw [e2] at e
    have := (List.append_inj' e rfl).2
    injection this with this _
    rw [← this]
    show p < p + 1
    omega
theorem invB_none {tp : Int → Option Str} {rs : List Run} {b : Option Str} {p : Int} (h : InvB rs b p) (e : tp p = none) : stepR tp rs (p, p + 1) = rs ∧ InvB rs (tp p) (p + 1) := by
  refine ⟨by simp only [stepR, e], fun n hn => (by rw [e] at hn; cases hn), fun _ xs u hu => invB_lt h hu⟩
theorem invB_same {tp : Int → Option Str} {rs : List Run} {m : Str} {p : Int} (h : InvB rs (some m) p) (e : tp p = some m) : ∃ l xs, rs = xs ++ [⟨l, p, m⟩] ∧ stepR tp rs (p, p + 1) = xs ++ [⟨l, p + 1, m⟩] ∧ InvB (xs ++ [⟨l, p + 1, m⟩]) (tp p) (p + 1) := by
  obtain ⟨l, xs, rfl⟩ := h.1 m rfl
  refine ⟨l, xs, rfl, ?_, fun n hn => ?_, fun hn => (by rw [e] at hn; cases hn)⟩
  · have g : (xs ++ [(⟨l, p, m⟩ : Run)]).getLast? = some ⟨l, p, m⟩ := by simp
    have dl : (xs ++ [(⟨l, p, m⟩ : Run)]).dropLast = xs := by simp
    simp only [stepR, e, g, dl, and_self, if_true]
  · rw [e] at hn
    cases hn
    exact ⟨l, xs, rfl⟩
theorem invB_new {tp : Int → Option Str} {rs : List Run} {b : Option Str} {m : Str} {p : Int} (h : InvB rs b p) (e : tp p = some m) (ne : b ≠ some m) : stepR tp rs (p, p + 1) = rs ++ [⟨p, p + 1, m⟩] ∧ InvB (rs ++ [⟨p, p + 1, m⟩]) (tp p) (p + 1) := by
  refine ⟨?_, fun n hn => ?_, fun hn => (by rw [e] at hn; cases hn)⟩
  · cases g : rs.getLast? with
    | none => simp only [stepR, e, g]
    | some u =>
      have sp := getLast_split g
      have nq : ¬ (u.r = p ∧ u.n = m) := fun q => by
        cases b with
        | none => have := h.2 rfl _ _ sp; omega
        | some n =>
          obtain ⟨l, ys, e2⟩ := h.1 n rfl
          have e3 : ys ++ [(⟨l, p, n⟩ : Run)] = rs.dropLast ++ [u] := by rw [← e2]; exact sp
          have := (List.append_inj' e3 rfl).2
          injection this with this _
          rw [← this] at q
          exact ne (congrArg some q.2)
      simp only [stepR, e, g, if_neg nq]
  · rw [e] at hn
    cases hn
    exact ⟨p, rs, rfl⟩
theorem rng15 : (-(2 ^ 62) ≤ (-5 : Int) ∧ (-5 : Int) < 2 ^ 62 ∧ -(2 ^ 62) ≤ (10 : Int) ∧ (10 : Int) < 2 ^ 62) := by decide +kernel
theorem rngB_i {ds : TDA} {env : De} {P : List D → Prop} {m n : Int} (h : ∀ Q : List D → Prop, ds env Q = Q [.int m, .int n]) (r : -(2 ^ 62) ≤ m ∧ m < 2 ^ 62 ∧ -(2 ^ 62) ≤ n ∧ n < 2 ^ 62) (q : P (rngD m (n - m).toNat)) : iRngB ds env P := by
  unfold iRngB
  rw [h]
  exact ⟨r, q⟩
theorem par_nl {P : DEnds} {env : De} {i j : Nat} (h : P.nx ((env.set i (.ow [])).set j (.fz .non))) : sPar i j true false (dLst aNil) (dC .non) P env := by
  unfold sPar dLst aNil dC
  exact ⟨Nat.zero_le _, h⟩
def sp_band : DSp := fun ds P => ∃ ws zs t b, ds = [winD ws, .lst (zs.map D.str), .int t, .int b] ∧ zs.length ≤ 1000 ∧ WOk ws ∧ (∀ z ∈ zs, z ∈ nms ws ∧ NameOk z) ∧ P (.lst (((cellR ws zs t).map (bandT (t, b))).map tileD))
def d_band : TDS := (sSeq (sPar 4 5 true false (dLst aNil) (dC .non))
  (sSeq (sFor (iRngB (aCons (dNeg (dC (.int 5))) (aCons (dC (.int 10)) aNil))) (gNm 6) (sSeq (sSet 7 (dCall sp_seenL (aCons (dV 0) (aCons (dV 1) (aCons (dV 6) (aCons (dV 2) aNil))))))
  (sSeq (sIf (dAndT (dT (dO2 (bIsN true) (dV 7) (dC .non))) (dT (dO2 (bEqN false) (dV 7) (dV 5)))) (sSeq (sAsg (dO2 bIx (dO2 bIx (dB 4) (dNeg (dC (.int 1)))) (dC (.int 0))) (gTp 4 (gsCons (gNm 8) (gsCons (gNm 9) (gsCons (gNm 10) (gsCons (gNm 11) gsNil))))))
  (sPut 4 (dTup (aCons (dTup (aCons (dV 8) (aCons (dV 9) (aCons (dO2 bAdd (dV 6) (dC (.int 1))) (aCons (dV 11) aNil))))) (aCons (dV 7) aNil))) (dNeg (dC (.int 1))))) (sIf (dT (dO2 (bIsN true) (dV 7) (dC .non))) (sApp 4 (dTup (aCons (dTup (aCons (dV 6) (aCons (dV 2) (aCons (dO2 bAdd (dV 6) (dC (.int 1))) (aCons (dV 3) aNil))))) (aCons (dV 7) aNil)))) sNil))
  (sSet 5 (dV 7)))))
  (sRetO 4)))
def iR15 : TDI := (iRngB (aCons (dNeg (dC (.int 5))) (aCons (dC (.int 10)) aNil)))
def d_bandB : TDS := (sSeq (sSet 7 (dCall sp_seenL (aCons (dV 0) (aCons (dV 1) (aCons (dV 6) (aCons (dV 2) aNil))))))
  (sSeq (sIf (dAndT (dT (dO2 (bIsN true) (dV 7) (dC .non))) (dT (dO2 (bEqN false) (dV 7) (dV 5)))) (sSeq (sAsg (dO2 bIx (dO2 bIx (dB 4) (dNeg (dC (.int 1)))) (dC (.int 0))) (gTp 4 (gsCons (gNm 8) (gsCons (gNm 9) (gsCons (gNm 10) (gsCons (gNm 11) gsNil))))))
  (sPut 4 (dTup (aCons (dTup (aCons (dV 8) (aCons (dV 9) (aCons (dO2 bAdd (dV 6) (dC (.int 1))) (aCons (dV 11) aNil))))) (aCons (dV 7) aNil))) (dNeg (dC (.int 1))))) (sIf (dT (dO2 (bIsN true) (dV 7) (dC .non))) (sApp 4 (dTup (aCons (dTup (aCons (dV 6) (aCons (dV 2) (aCons (dO2 bAdd (dV 6) (dC (.int 1))) (aCons (dV 3) aNil))))) (aCons (dV 7) aNil)))) sNil))
  (sSet 5 (dV 7))))
def d_bandL : TDS := sSeq (sFor iR15 (gNm 6) d_bandB) (sRetO 4)
def d_bandR : TDS := sSeq (sPar 4 5 true false (dLst aNil) (dC .non)) d_bandL
theorem band_eq : d_band = d_bandR := rfl
theorem iR15_i {env : De} {P : List D → Prop} (q : P (rngD (-5) ((10 : Int) - -5).toNat)) : iR15 env P := rngB_i (fun _ => rfl) rng15 q
theorem ln_band {ds : List D} {P : D → Prop} (h : sp_band ds P) : ds.length = 4 := by obtain ⟨_, _, _, _, rfl, _⟩ := h; rfl
theorem last_tile {us : List Tile} {u : Tile} : bIx (.lst ((us ++ [u]).map tileD)) (.int (-1)) = some (tileD u) := by
  show (atI ((us ++ [u]).map tileD) (-1)).or _ = _
  rw [List.map_append, List.map_cons, List.map_nil, atI_last]
  rfl
theorem rd_band {ds : List D} {P : D → Prop} (h : sp_band ds P) : d_band (fin true P) (st 12 ds) := by
  obtain ⟨ws, zs, t, b, rfl, hl, W, hz, q⟩ := h
  rw [band_eq]
  refine par_nl ?_
  simp only [d_bandL, dC, dV, dB, dO2, ob_some, dT, dAndT, dOrT, dNotT, dIf, dAndV, dOrV, dNotV, dChain, aNil, aCons, dTup, dLst, dCut, oNone, oSome, dRev, dNeg, dTru, dCa, dIs, dIsA, dCall, dCallK, sNil, sSeq, sNever, sBrk, sCont, sIf, sRet, sRetO, sRetE, sSet, sSetO, sDrop, sPar, sPar3, kn, enOf, owD, sAsg, gNm, gsNil, gsCons, gTp, sApp, sIns, sExt, sClr, sRev, sPut, sFrz, owAt, fin, st, iRng, iRngB, iSeq, lstD, tupD, sFor, dLc, dDc, wipeE, tYesD, dIndex, dSort, dDictZip, dMeth, dFld, dMk, List.map_cons, List.map_nil, List.length_cons, List.length_nil, List.replicate_succ, List.replicate_zero, List.cons_append, List.nil_append, List.append_nil, List.getElem?_cons_zero, List.getElem?_cons_succ, List.set_cons_zero, List.set_cons_succ, Option.bind_some, Option.map_some, Nat.reduceSub, Nat.reduceAdd, kwP, List.getD_cons_zero, List.getD_cons_succ]
  refine iR15_i ?_
  refine loop_rng (lo := -5) (fun i env => ∃ rs bf e6 e7 e8 e9 e10 e11, rs = (ucs (-5) (-5 + (i : Nat))).foldl (stepR fun x => topF ws zs x t) [] ∧ InvB rs bf (-5 + (i : Nat)) ∧ (∀ z, bf = some z → NameOk z) ∧ rs.length ≤ i ∧ env = [.fz (winD ws), .fz (.lst (zs.map D.str)), .fz (.int t), .fz (.int b), .ow ((rs.map (bandT (t, b))).map tileD), .fz (optD bf), e6, e7, e8, e9, e10, e11]) ⟨[], none, _, _, _, _, _, _, (by rw [ucs_nil (by omega)]; rfl), ⟨fun n h => (by cases h), fun _ xs u h => (by simp at h)⟩, fun z h => (by cases h), Nat.le_refl _, rfl⟩ (fun i env hi h k hk => ?_) (fun env h => ?_)
  · obtain ⟨rs, bf, e6, e7, e8, e9, e10, e11, er, iv, nb, lr, rfl⟩ := h
    have i15 : i < 15 := hi
    have ef : (ucs (-5) (-5 + ((i + 1 : Nat) : Int))).foldl (stepR fun x => topF ws zs x t) [] = stepR (fun x => topF ws zs x t) rs (-5 + (i : Nat), -5 + (i : Nat) + 1) := by
      rw [show (-5 + ((i + 1 : Nat) : Int)) = -5 + (i : Nat) + 1 by omega, ucs_app (b := -5 + (i : Nat)) (by omega) (by omega), List.foldl_append, ← er, ucs_one]
      rfl
    have ei : (-5 + ((i + 1 : Nat) : Int)) = -5 + (i : Nat) + 1 := by omega
    rw [ef, ei] at hk
    generalize hp : (-5 + (i : Nat) : Int) = p at *
    have key : ∀ rs' e6 e7 e8 e9 e10 e11, rs' = stepR (fun x => topF ws zs x t) rs (p, p + 1) → InvB rs' (topF ws zs p t) (p + 1) → rs'.length ≤ i + 1 → k [.fz (winD ws), .fz (.lst (zs.map D.str)), .fz (.int t), .fz (.int b), .ow ((rs'.map (bandT (t, b))).map tileD), .fz (optD (topF ws zs p t)), e6, e7, e8, e9, e10, e11] := fun rs' e6 e7 e8 e9 e10 e11 h1 h2 h3 => hk _ ⟨rs', _, e6, e7, e8, e9, e10, e11, h1, h2, fun z hz' => (hz z (topF_mem hz')).2, h3, rfl⟩
    clear hk
    simp only [d_bandB, dC, dV, dB, dO2, ob_some, dT, dAndT, dOrT, dNotT, dIf, dAndV, dOrV, dNotV, dChain, aNil, aCons, dTup, dLst, dCut, oNone, oSome, dRev, dNeg, dTru, dCa, dIs, dIsA, dCall, dCallK, sNil, sSeq, sNever, sBrk, sCont, sIf, sRet, sRetO, sRetE, sSet, sSetO, sDrop, sPar, sPar3, kn, enOf, owD, sAsg, gNm, gsNil, gsCons, gTp, sApp, sIns, sExt, sClr, sRev, sPut, sFrz, owAt, fin, st, iRng, iRngB, iSeq, lstD, tupD, sFor, dLc, dDc, wipeE, tYesD, dIndex, dSort, dDictZip, dMeth, dFld, dMk, List.map_cons, List.map_nil, List.length_cons, List.length_nil, List.replicate_succ, List.replicate_zero, List.cons_append, List.nil_append, List.append_nil, List.getElem?_cons_zero, List.getElem?_cons_succ, List.set_cons_zero, List.set_cons_succ, Option.bind_some, Option.map_some, Nat.reduceSub, Nat.reduceAdd, kwP, List.getD_cons_zero, List.getD_cons_succ]
    refine ⟨ws, zs, p, t, rfl, hl, W, fun z h => (hz z h).1, ?_⟩
    rw [opt_top]
    have isn : ∀ z, (bIsN true (.str z) .non) = some (.bl true) := fun _ => rfl
    have iss : (bIsN true D.non .non) = some (.bl false) := rfl
    cases et : topF ws zs p t with
    | none =>
      rw [et] at key
      simp only [optD, iss, ob_some, Bool.false_eq_true, if_false, dC, dV, dB, dO2, ob_some, dT, dAndT, dOrT, dNotT, dIf, dAndV, dOrV, dNotV, dChain, aNil, aCons, dTup, dLst, dCut, oNone, oSome, dRev, dNeg, dTru, dCa, dIs, dIsA, dCall, dCallK, sNil, sSeq, sNever, sBrk, sCont, sIf, sRet, sRetO, sRetE, sSet, sSetO, sDrop, sPar, sPar3, kn, enOf, owD, sAsg, gNm, gsNil, gsCons, gTp, sApp, sIns, sExt, sClr, sRev, sPut, sFrz, owAt, fin, st, iRng, iRngB, iSeq, lstD, tupD, sFor, dLc, dDc, wipeE, tYesD, dIndex, dSort, dDictZip, dMeth, dFld, dMk, List.map_cons, List.map_nil, List.length_cons, List.length_nil, List.replicate_succ, List.replicate_zero, List.cons_append, List.nil_append, List.append_nil, List.getElem?_cons_zero, List.getElem?_cons_succ, List.set_cons_zero, List.set_cons_succ, Option.bind_some, Option.map_some, Nat.reduceSub, Nat.reduceAdd, kwP, List.getD_cons_zero, List.getD_cons_succ]
      obtain ⟨a1, a2⟩ := invB_none (tp := fun x => topF ws zs x t) iv et
      exact key _ _ _ _ _ _ _ a1.symm (by rw [← et]; exact a2) (by omega)
    | some m =>
      rw [et] at key
      have mo : NameOk m := (hz m (topF_mem et)).2
      simp only [optD, isn, ob_some, if_true, dC, dV, dB, dO2, ob_some, dT, dAndT, dOrT, dNotT, dIf, dAndV, dOrV, dNotV, dChain, aNil, aCons, dTup, dLst, dCut, oNone, oSome, dRev, dNeg, dTru, dCa, dIs, dIsA, dCall, dCallK, sNil, sSeq, sNever, sBrk, sCont, sIf, sRet, sRetO, sRetE, sSet, sSetO, sDrop, sPar, sPar3, kn, enOf, owD, sAsg, gNm, gsNil, gsCons, gTp, sApp, sIns, sExt, sClr, sRev, sPut, sFrz, owAt, fin, st, iRng, iRngB, iSeq, lstD, tupD, sFor, dLc, dDc, wipeE, tYesD, dIndex, dSort, dDictZip, dMeth, dFld, dMk, List.map_cons, List.map_nil, List.length_cons, List.length_nil, List.replicate_succ, List.replicate_zero, List.cons_append, List.nil_append, List.append_nil, List.getElem?_cons_zero, List.getElem?_cons_succ, List.set_cons_zero, List.set_cons_succ, Option.bind_some, Option.map_some, Nat.reduceSub, Nat.reduceAdd, kwP, List.getD_cons_zero, List.getD_cons_succ]
      have sb : sh 0 (optD bf) = true := by
        cases bf with
        | none => rfl
        | some z => exact name_ok (nb z rfl)
      refine beq_ob (n := 0) (by decide) (name_ok mo) sb (fun e1 => ?_) (fun e1 => ?_)
      · have eb : bf = some m := by
          cases bf with
          | none => cases e1
          | some z => injection e1 with e1; rw [e1]
        subst eb
        obtain ⟨l, xs, rfl, a1, a2⟩ := invB_same (tp := fun x => topF ws zs x t) iv et
        have mp : (xs ++ [(⟨l, p, m⟩ : Run)]).map (bandT (t, b)) = xs.map (bandT (t, b)) ++ [⟨l, t, p, b, m⟩] := by rw [List.map_append]; rfl
        have mp2 : (xs ++ [(⟨l, p + 1, m⟩ : Run)]).map (bandT (t, b)) = xs.map (bandT (t, b)) ++ [⟨l, t, p + 1, b, m⟩] := by rw [List.map_append]; rfl
        have il : ixN ((xs.map (bandT (t, b)) ++ [(⟨l, t, p, b, m⟩ : Tile)]).map tileD).length (-1) = some xs.length := by
          unfold ixN
          simp only [List.length_map, List.length_append, List.length_cons, List.length_nil]
          rw [if_neg (by omega), if_pos (by omega)]
          congr 1
          omega
        have st1 : ((xs.map (bandT (t, b)) ++ [(⟨l, t, p, b, m⟩ : Tile)]).map tileD).set xs.length (tileD ⟨l, t, p + 1, b, m⟩) = (xs.map (bandT (t, b)) ++ [(⟨l, t, p + 1, b, m⟩ : Tile)]).map tileD := by
          rw [List.map_append, List.map_append, List.set_append_right _ _ (by simp), List.length_map, List.length_map, Nat.sub_self]
          rfl
        rw [mp]
        have ix0 : bIx (tileD (⟨l, t, p, b, m⟩ : Tile)) (.int 0) = some (.tup [.int l, .int t, .int p, .int b]) := rfl
        simp only [Bool.not_false, last_tile, ix0, ob_some, if_true, dC, dV, dB, dO2, ob_some, dT, dAndT, dOrT, dNotT, dIf, dAndV, dOrV, dNotV, dChain, aNil, aCons, dTup, dLst, dCut, oNone, oSome, dRev, dNeg, dTru, dCa, dIs, dIsA, dCall, dCallK, sNil, sSeq, sNever, sBrk, sCont, sIf, sRet, sRetO, sRetE, sSet, sSetO, sDrop, sPar, sPar3, kn, enOf, owD, sAsg, gNm, gsNil, gsCons, gTp, sApp, sIns, sExt, sClr, sRev, sPut, sFrz, owAt, fin, st, iRng, iRngB, iSeq, lstD, tupD, sFor, dLc, dDc, wipeE, tYesD, dIndex, dSort, dDictZip, dMeth, dFld, dMk, List.map_cons, List.map_nil, List.length_cons, List.length_nil, List.replicate_succ, List.replicate_zero, List.cons_append, List.nil_append, List.append_nil, List.getElem?_cons_zero, List.getElem?_cons_succ, List.set_cons_zero, List.set_cons_succ, Option.bind_some, Option.map_some, Nat.reduceSub, Nat.reduceAdd, kwP, List.getD_cons_zero, List.getD_cons_succ]
        have ad : bAdd (.int p) (.int 1) = some (.int (p + 1)) := rfl
        have tl : D.tup [.tup [.int l, .int t, .int (p + 1), .int b], .str m] = tileD ⟨l, t, p + 1, b, m⟩ := rfl
        simp only [ad, ob_some, tl, il, st1]
        refine ⟨trivial, trivial, by decide, by decide, ?_⟩
        rw [← mp2]
        refine key _ _ _ _ _ _ _ a1.symm (by rw [← et]; exact a2) ?_
        rw [List.length_append] at lr ⊢
        exact Nat.le_trans lr (Nat.le_succ _)
      · have eb : bf ≠ some m := fun z => e1 (z ▸ rfl)
        obtain ⟨a1, a2⟩ := invB_new (tp := fun x => topF ws zs x t) iv et eb
        have ad : bAdd (.int p) (.int 1) = some (.int (p + 1)) := rfl
        have mp : rs.map (bandT (t, b)) ++ [⟨p, t, p + 1, b, m⟩] = (rs ++ [(⟨p, p + 1, m⟩ : Run)]).map (bandT (t, b)) := by rw [List.map_append]; rfl
        simp only [Bool.false_eq_true, if_false, optD, isn, ob_some, if_true, ad, dC, dV, dB, dO2, ob_some, dT, dAndT, dOrT, dNotT, dIf, dAndV, dOrV, dNotV, dChain, aNil, aCons, dTup, dLst, dCut, oNone, oSome, dRev, dNeg, dTru, dCa, dIs, dIsA, dCall, dCallK, sNil, sSeq, sNever, sBrk, sCont, sIf, sRet, sRetO, sRetE, sSet, sSetO, sDrop, sPar, sPar3, kn, enOf, owD, sAsg, gNm, gsNil, gsCons, gTp, sApp, sIns, sExt, sClr, sRev, sPut, sFrz, owAt, fin, st, iRng, iRngB, iSeq, lstD, tupD, sFor, dLc, dDc, wipeE, tYesD, dIndex, dSort, dDictZip, dMeth, dFld, dMk, List.map_cons, List.map_nil, List.length_cons, List.length_nil, List.replicate_succ, List.replicate_zero, List.cons_append, List.nil_append, List.append_nil, List.getElem?_cons_zero, List.getElem?_cons_succ, List.set_cons_zero, List.set_cons_succ, Option.bind_some, Option.map_some, Nat.reduceSub, Nat.reduceAdd, kwP, List.getD_cons_zero, List.getD_cons_succ]
        refine ⟨by decide, by decide, szM (by rw [List.length_map, List.length_map]; omega), ?_⟩
        have tl : ∀ us : List Tile, us.map tileD ++ [D.tup [.tup [.int p, .int t, .int (p + 1), .int b], .str m]] = (us ++ [(⟨p, t, p + 1, b, m⟩ : Tile)]).map tileD := fun us => by rw [List.map_append]; rfl
        rw [tl, mp]
        exact key _ _ _ _ _ _ _ a1.symm (by rw [← et]; exact a2) (by simp; omega)
  · obtain ⟨rs, bf, e6, e7, e8, e9, e10, e11, er, iv, nb, lr, rfl⟩ := h
    simp only [dC, dV, dB, dO2, ob_some, dT, dAndT, dOrT, dNotT, dIf, dAndV, dOrV, dNotV, dChain, aNil, aCons, dTup, dLst, dCut, oNone, oSome, dRev, dNeg, dTru, dCa, dIs, dIsA, dCall, dCallK, sNil, sSeq, sNever, sBrk, sCont, sIf, sRet, sRetO, sRetE, sSet, sSetO, sDrop, sPar, sPar3, kn, enOf, owD, sAsg, gNm, gsNil, gsCons, gTp, sApp, sIns, sExt, sClr, sRev, sPut, sFrz, owAt, fin, st, iRng, iRngB, iSeq, lstD, tupD, sFor, dLc, dDc, wipeE, tYesD, dIndex, dSort, dDictZip, dMeth, dFld, dMk, List.map_cons, List.map_nil, List.length_cons, List.length_nil, List.replicate_succ, List.replicate_zero, List.cons_append, List.nil_append, List.append_nil, List.getElem?_cons_zero, List.getElem?_cons_succ, List.set_cons_zero, List.set_cons_succ, Option.bind_some, Option.map_some, Nat.reduceSub, Nat.reduceAdd, kwP, List.getD_cons_zero, List.getD_cons_succ]
    have e15 : (-5 + (((10 : Int) - -5).toNat : Nat) : Int) = 10 := by decide
    rw [e15] at er
    subst er
    exact q
end DL
namespace DL
open PySem PySem.Spec PyProof.Rows L2 RK
theorem bneS2 {n : Nat} {x : D} (hn : n ≤ 64) (h : sh n x = true) : bEqN true x x = some (.bl false) := by
  obtain ⟨b, e, hb⟩ := beq_iff (neg := true) hn h h
  rw [e, hb.mpr rfl]
  rfl
def env12 (C : Addr) (ws us : List Win) (zs : List Str) (due : D) (e2 e3 e8 e9 e10 e11 e12 e13 e14 e15 e16 e17 e18 : En) : De := [.no, .fz .bag, e2, e3, .fz (winD ws), .fz (deskD C us), .fz (.lst (zs.map D.str)), .fz due, e8, e9, e10, e11, e12, e13, e14, e15, e16, e17, e18]
theorem prD_wins : ∀ (ns : List Str) (rs : List R), ns.length = rs.length → prD ((ns.zip rs).map fun w => D.tup [.str w.1, rectD w.2]) = some ((ns.zip rs).map wk)
  | [], rs, _ => by simp [prD]
  | n :: ns, [], h => by simp at h
  | n :: ns, r :: rs, h => by
    have ih := prD_wins ns rs (by simpa using h)
    rw [List.zip_cons_cons, List.map_cons, List.map_cons]
    show ((keyD (.str n)).bind fun k => (prD ((ns.zip rs).map fun w => D.tup [.str w.1, rectD w.2])).map fun l => (k, rectD r) :: l) = _
    rw [ih]
    rfl
theorem nms_zip {ns : List Str} {rs : List R} (h : ns.length = rs.length) : nms (ns.zip rs) = ns := by
  unfold nms
  exact List.map_fst_zip (by omega)
def Rc (z : Str) (y : D) : Prop := ∃ r : R, y = .tup [.str z, rectD r] ∧ -4 ≤ r.l ∧ r.l < r.r ∧ r.r ≤ 8 ∧ -4 ≤ r.t ∧ r.t < r.b ∧ r.b ≤ 8
theorem rc_zip : ∀ {ns : List Str} {ys : List D}, Paired Rc ns ys → ∃ rs : List R, ns.length = rs.length ∧ ys = (ns.zip rs).map (fun w => D.tup [.str w.1, rectD w.2]) ∧ ∀ r ∈ rs, -4 ≤ r.l ∧ r.l < r.r ∧ r.r ≤ 8 ∧ -4 ≤ r.t ∧ r.t < r.b ∧ r.b ≤ 8
  | _, _, .nil => ⟨[], rfl, rfl, fun r h => nomatch h⟩
  | _, _, .cons h t => by
    obtain ⟨r, rfl, g⟩ := h
    obtain ⟨rs, e1, rfl, g2⟩ := rc_zip t
    refine ⟨r :: rs, by simp [e1], rfl, fun q hq => ?_⟩
    rcases List.mem_cons.mp hq with rfl | hq
    · exact g
    · exact g2 q hq
def d_rc : TDS := (sSet 4 (dCa dictPD (aCons (dLc (iSeq (dV 3)) (gNm 16) tYesD (dTup (aCons (dV 16) (aCons (dCall sp_rectangle (aCons (dV 1) (aCons (dC (.int 1)) aNil))) aNil))) [16]) aNil)))
theorem rd_rc {ns : List Str} (nd : ns.Nodup) (nn : ∀ z ∈ ns, NameOk z) (ln : ns.length ≤ 6) {PP : DEnds} {e2 e4 e5 e6 e7 e8 e9 e10 e11 e12 e13 e14 e15 e16 e17 e18 : En}
    (hk : ∀ ws, nms ws = ns → WOk ws → Sml ws → PP.nx [.no, .fz .bag, e2, .fz (.lst (ns.map D.str)), .fz (winD ws), e5, e6, e7, e8, e9, e10, e11, e12, e13, e14, e15, e16, e17, e18]) :
    d_rc PP [.no, .fz .bag, e2, .fz (.lst (ns.map D.str)), e4, e5, e6, e7, e8, e9, e10, e11, e12, e13, e14, e15, e16, e17, e18] := by
  simp only [d_rc, dC, dV, dB, dO2, ob_some, dT, dAndT, dOrT, dNotT, dIf, dAndV, dOrV, dNotV, dChain, aNil, aCons, dTup, dLst, dCut, oNone, oSome, dRev, dNeg, dTru, dCa, dIs, dIsA, dCall, dCallK, sNil, sSeq, sNever, sBrk, sCont, sIf, sRet, sRetO, sRetE, sSet, sSetO, sDrop, sPar, sPar3, kn, enOf, owD, sAsg, gNm, gsNil, gsCons, gTp, sApp, sIns, sExt, sClr, sRev, sPut, sFrz, owAt, fin, st, iRng, iRngB, iSeq, lstD, tupD, sFor, dLc, dDc, wipeE, tYesD, dIndex, dSort, dDictZip, dMeth, dFld, dMk, List.map_cons, List.map_nil, List.length_cons, List.length_nil, List.replicate_succ, List.replicate_zero, List.cons_append, List.nil_append, List.append_nil, List.getElem?_cons_zero, List.getElem?_cons_succ, List.set_cons_zero, List.set_cons_succ, Option.bind_some, Option.map_some, Nat.reduceSub, Nat.reduceAdd, kwP, List.getD_cons_zero, List.getD_cons_succ]
  refine .inl (comp_all D.str Rc ns [] (fun z hz Q Z hQ => ?_) (by simp; omega) fun ys py => ?_)
  · simp only [dC, dV, dB, dO2, ob_some, dT, dAndT, dOrT, dNotT, dIf, dAndV, dOrV, dNotV, dChain, aNil, aCons, dTup, dLst, dCut, oNone, oSome, dRev, dNeg, dTru, dCa, dIs, dIsA, dCall, dCallK, sNil, sSeq, sNever, sBrk, sCont, sIf, sRet, sRetO, sRetE, sSet, sSetO, sDrop, sPar, sPar3, kn, enOf, owD, sAsg, gNm, gsNil, gsCons, gTp, sApp, sIns, sExt, sClr, sRev, sPut, sFrz, owAt, fin, st, iRng, iRngB, iSeq, lstD, tupD, sFor, dLc, dDc, wipeE, tYesD, dIndex, dSort, dDictZip, dMeth, dFld, dMk, List.map_cons, List.map_nil, List.length_cons, List.length_nil, List.replicate_succ, List.replicate_zero, List.cons_append, List.nil_append, List.append_nil, List.getElem?_cons_zero, List.getElem?_cons_succ, List.set_cons_zero, List.set_cons_succ, Option.bind_some, Option.map_some, Nat.reduceSub, Nat.reduceAdd, kwP, List.getD_cons_zero, List.getD_cons_succ]
    refine ⟨1, rfl, by decide, by decide, fun x y x2 y2 a1 a2 a3 a4 a5 a6 a7 a8 => ⟨by decide, hQ _ ⟨_, rfl, ?_⟩⟩⟩
    refine ⟨?_, ?_, ?_, ?_, ?_, ?_⟩ <;> (show _ ; simp only [Int.one_mul]; omega)
  · obtain ⟨rs, el, rfl, g⟩ := rc_zip py
    have nz := nms_zip el
    have dp : dictPD [.lst (([] : List D) ++ (ns.zip rs).map fun w => D.tup [.str w.1, rectD w.2])] = some (winD (ns.zip rs)) := by
      rw [List.nil_append]
      show (prD _).map _ = _
      rw [prD_wins ns rs el]
      show some (D.dic (mergeD [] ((ns.zip rs).map wk))) = _
      rw [mergeD_new _ [] ?_]
      · rfl
      · rw [List.nil_append, List.map_map]
        have : ((ns.zip rs).map (Prod.fst ∘ wk)) = (nms (ns.zip rs)).map Sum.inr := by
          unfold nms
          rw [List.map_map]
          rfl
        rw [this, nz]
        rw [List.nodup_iff_pairwise_ne, List.pairwise_map]
        exact (List.nodup_iff_pairwise_ne.mp nd).imp fun h e => h (by injection e)
    rw [dp, ob_some]
    have gd : ∀ w ∈ ns.zip rs, w.2 ∈ rs := fun w hw => (List.of_mem_zip hw).2
    refine hk _ nz ⟨by rw [nz]; exact nd, fun w hw => nn _ (List.of_mem_zip hw).1, fun w hw => ?_⟩ (fun w hw => g _ (gd w hw))
    have := g _ (gd w hw)
    unfold R.good
    omega
theorem rct_mem {us ws : List Win} (W : WOk ws) (pu : us.Perm ws) {w : Win} (h : w ∈ ws) : rctO us w.1 = w.2 := by
  unfold rctO
  rw [look_perm W.nd pu, look_mem W.nd h]
  rfl
theorem rows_of {us ws : List Win} {zs : List Str} (W : WOk ws) (pu : us.Perm ws) (pz : zs.Perm (nms us)) {ys : List Int} (pw : ys.Pairwise (· < ·)) (h : ∀ k, k ∈ ys ↔ k ∈ (ws.map fun w : Win => w.2.t) ++ ws.map fun w : Win => w.2.b) : ys = rowsOf us zs := by
  refine asc_one pw (asc_asc _) fun k => ?_
  show k ∈ ys ↔ k ∈ rowsOf us zs
  rw [h k, rows_mem, List.mem_append, List.mem_map, List.mem_map]
  have inz : ∀ w ∈ ws, w.1 ∈ zs := fun w hw => pz.mem_iff.mpr (List.mem_map.mpr ⟨w, pu.mem_iff.mpr hw, rfl⟩)
  constructor
  · rintro (⟨w, hw, rfl⟩ | ⟨w, hw, rfl⟩)
    · exact ⟨w.1, inz w hw, .inl (by rw [rct_mem W pu hw])⟩
    · exact ⟨w.1, inz w hw, .inr (by rw [rct_mem W pu hw])⟩
  · rintro ⟨z, hz, e⟩
    obtain ⟨w, hw, rfl⟩ := List.mem_map.mp (pz.mem_iff.mp hz)
    have hw := pu.mem_iff.mp hw
    rw [rct_mem W pu hw] at e
    rcases e with rfl | rfl
    · exact .inl ⟨w, hw, rfl⟩
    · exact .inr ⟨w, hw, rfl⟩
def d_rw : TDS := (sSet 8 (dSoSetI (dO2 bAdd (dLcV 4 (gNm 17) tYesD (dO2 bIx (dV 17) (dC (.int 1))) [17]) (dLcV 4 (gNm 17) tYesD (dO2 bIx (dV 17) (dC (.int 3))) [17]))))
theorem rd_rw {C : Addr} {us ws : List Win} {zs : List Str} (W : WOk ws) (pu : us.Perm ws) (pz : zs.Perm (nms us)) (l6 : ws.length ≤ 6) {due : D} {PP : DEnds} {e2 e3 e8 e9 e10 e11 e12 e13 e14 e15 e16 e17 e18 : En}
    (hk : PP.nx (env12 C ws us zs due e2 e3 (.fz (.lst ((rowsOf us zs).map D.int))) e9 e10 e11 e12 e13 e14 e15 e16 e17 e18)) :
    d_rw PP (env12 C ws us zs due e2 e3 e8 e9 e10 e11 e12 e13 e14 e15 e16 e17 e18) := by
  have wv : (ws.map wk).map (·.2) = ws.map fun w => rectD w.2 := by rw [List.map_map]; rfl
  simp only [d_rw, env12, dC, dV, dB, dO2, ob_some, dT, dAndT, dOrT, dNotT, dIf, dAndV, dOrV, dNotV, dChain, aNil, aCons, dTup, dLst, dCut, oNone, oSome, dRev, dNeg, dTru, dCa, dIs, dIsA, dCall, dCallK, sNil, sSeq, sNever, sBrk, sCont, sIf, sRet, sRetO, sRetE, sSet, sSetO, sDrop, sPar, sPar3, kn, enOf, owD, sAsg, gNm, gsNil, gsCons, gTp, sApp, sIns, sExt, sClr, sRev, sPut, sFrz, owAt, fin, st, iRng, iRngB, iSeq, lstD, tupD, sFor, dLc, dDc, wipeE, tYesD, dIndex, dSort, dDictZip, dMeth, dFld, dMk, List.map_cons, List.map_nil, List.length_cons, List.length_nil, List.replicate_succ, List.replicate_zero, List.cons_append, List.nil_append, List.append_nil, List.getElem?_cons_zero, List.getElem?_cons_succ, List.set_cons_zero, List.set_cons_succ, Option.bind_some, Option.map_some, Nat.reduceSub, Nat.reduceAdd, kwP, List.getD_cons_zero, List.getD_cons_succ, dSoSetI, dLcV, winD]
  refine ⟨_, rfl, ?_⟩
  rw [wv]
  refine comp_map (fun w : Win => rectD w.2) (fun w => .int w.2.t) ws [] (fun w hw Q Z hQ => ?_) (by simp; omega) ?_
  · simp only [dC, dV, dB, dO2, ob_some, dT, dAndT, dOrT, dNotT, dIf, dAndV, dOrV, dNotV, dChain, aNil, aCons, dTup, dLst, dCut, oNone, oSome, dRev, dNeg, dTru, dCa, dIs, dIsA, dCall, dCallK, sNil, sSeq, sNever, sBrk, sCont, sIf, sRet, sRetO, sRetE, sSet, sSetO, sDrop, sPar, sPar3, kn, enOf, owD, sAsg, gNm, gsNil, gsCons, gTp, sApp, sIns, sExt, sClr, sRev, sPut, sFrz, owAt, fin, st, iRng, iRngB, iSeq, lstD, tupD, sFor, dLc, dDc, wipeE, tYesD, dIndex, dSort, dDictZip, dMeth, dFld, dMk, List.map_cons, List.map_nil, List.length_cons, List.length_nil, List.replicate_succ, List.replicate_zero, List.cons_append, List.nil_append, List.append_nil, List.getElem?_cons_zero, List.getElem?_cons_succ, List.set_cons_zero, List.set_cons_succ, Option.bind_some, Option.map_some, Nat.reduceSub, Nat.reduceAdd, kwP, List.getD_cons_zero, List.getD_cons_succ, rectD]
    exact hQ
  refine ⟨_, rfl, ?_⟩
  rw [wv]
  refine comp_map (fun w : Win => rectD w.2) (fun w => .int w.2.b) ws [] (fun w hw Q Z hQ => ?_) (by simp; omega) ?_
  · simp only [dC, dV, dB, dO2, ob_some, dT, dAndT, dOrT, dNotT, dIf, dAndV, dOrV, dNotV, dChain, aNil, aCons, dTup, dLst, dCut, oNone, oSome, dRev, dNeg, dTru, dCa, dIs, dIsA, dCall, dCallK, sNil, sSeq, sNever, sBrk, sCont, sIf, sRet, sRetO, sRetE, sSet, sSetO, sDrop, sPar, sPar3, kn, enOf, owD, sAsg, gNm, gsNil, gsCons, gTp, sApp, sIns, sExt, sClr, sRev, sPut, sFrz, owAt, fin, st, iRng, iRngB, iSeq, lstD, tupD, sFor, dLc, dDc, wipeE, tYesD, dIndex, dSort, dDictZip, dMeth, dFld, dMk, List.map_cons, List.map_nil, List.length_cons, List.length_nil, List.replicate_succ, List.replicate_zero, List.cons_append, List.nil_append, List.append_nil, List.getElem?_cons_zero, List.getElem?_cons_succ, List.set_cons_zero, List.set_cons_succ, Option.bind_some, Option.map_some, Nat.reduceSub, Nat.reduceAdd, kwP, List.getD_cons_zero, List.getD_cons_succ, rectD]
    exact hQ
  rw [List.nil_append, List.nil_append, bAdd_lst (by simp; omega), ob_some]
  refine ⟨(ws.map fun w : Win => w.2.t) ++ ws.map fun w : Win => w.2.b, by rw [List.map_append, List.map_map, List.map_map]; rfl, by simp; omega, fun ys pw mm => ?_⟩
  rw [rows_of W pu pz pw mm]
  exact hk
theorem prI_at : ∀ (l : List Int) (k : Nat), k + 1 < l.length → ∃ a b, l[k]? = some a ∧ l[k + 1]? = some b ∧ (prI l)[k]? = some (a, b)
  | [], k, h => by simp at h
  | [_], k, h => by simp at h
  | a :: b :: r, 0, _ => ⟨a, b, rfl, rfl, rfl⟩
  | a :: b :: r, k + 1, h => by
    obtain ⟨x, y, h1, h2, h3⟩ := prI_at (b :: r) k (by simpa using h)
    exact ⟨x, y, by simpa using h1, by simpa using h2, by simpa [prI] using h3⟩
def bnd (us : List Win) (zs : List Str) (c : Int × Int) : List Tile := (cellR us zs c.1).map (bandT c)
theorem cellR_len (us : List Win) (zs : List Str) (y : Int) : (cellR us zs y).length ≤ 15 := by
  have := fold_len (fun x => topF us zs x y) (ucs (-5) 10) []
  rw [ucs_len] at this
  unfold cellR
  exact Nat.le_trans this (by decide)
theorem cellR_perm {us ws : List Win} (nd : (nms ws).Nodup) (pu : us.Perm ws) (zs : List Str) (y : Int) : cellR ws zs y = cellR us zs y := by
  unfold cellR topF
  congr 2
  funext x
  rw [cov_perm nd pu]
def d_bk : TDS := (sSet 7 (dO2 bAdd (dV 7) (dCall sp_band (aCons (dV 4) (aCons (dV 6) (aCons (dO2 bIx (dV 8) (dV 9)) (aCons (dO2 bIx (dV 8) (dO2 bAdd (dV 9) (dC (.int 1)))) aNil)))))))
theorem rd_bk {C : Addr} {us ws : List Win} {zs : List Str} (W : WOk ws) (pu : us.Perm ws) (pz : zs.Perm (nms us)) (l6 : ws.length ≤ 6) (lr : (rowsOf us zs).length ≤ 50) {k : Nat} (hkr : k + 1 < (rowsOf us zs).length) {PP : DEnds} {e2 e3 e10 e11 e12 e13 e14 e15 e16 e17 e18 : En}
    (hk : PP.nx (env12 C ws us zs (.lst ((((prI (rowsOf us zs)).take (k + 1)).flatMap (bnd us zs)).map tileD)) e2 e3 (.fz (.lst ((rowsOf us zs).map D.int))) (.fz (.int (0 + (k : Nat)))) e10 e11 e12 e13 e14 e15 e16 e17 e18)) :
    d_bk PP (env12 C ws us zs (.lst ((((prI (rowsOf us zs)).take k).flatMap (bnd us zs)).map tileD)) e2 e3 (.fz (.lst ((rowsOf us zs).map D.int))) (.fz (.int (0 + (k : Nat)))) e10 e11 e12 e13 e14 e15 e16 e17 e18) := by
  have lu : us.length = ws.length := pu.length_eq
  have nl : (nms us).length = us.length := List.length_map _
  have lz := pz.length_eq
  have Wu := W.perm pu
  have hz : ∀ z ∈ zs, z ∈ nms ws ∧ NameOk z := fun z h => by
    obtain ⟨w, hw, rfl⟩ := List.mem_map.mp (pz.mem_iff.mp h)
    exact ⟨List.mem_map.mpr ⟨w, pu.mem_iff.mp hw, rfl⟩, Wu.nm w hw⟩
  obtain ⟨a, b, h1, h2, h3⟩ := prI_at _ k hkr
  have tk : (prI (rowsOf us zs)).take (k + 1) = (prI (rowsOf us zs)).take k ++ [(a, b)] := by
    rw [List.take_succ, h3]
    rfl
  rw [tk, List.flatMap_append, List.flatMap_cons, List.flatMap_nil, List.append_nil, List.map_append] at hk
  have bd := flat_bd (l := (prI (rowsOf us zs)).take k) (f := bnd us zs) (m := 15) fun c => by unfold bnd; rw [List.length_map]; exact cellR_len us zs c.1
  have bl : (bnd us zs (a, b)).length ≤ 15 := by unfold bnd; rw [List.length_map]; exact cellR_len us zs a
  have l2 : ((prI (rowsOf us zs)).take k).length ≤ 50 := by rw [List.length_take]; omega
  have l3 : ((prI (rowsOf us zs)).take k).length * 15 ≤ 50 * 15 := Nat.mul_le_mul_right 15 l2
  have x1 : bIx (.lst ((rowsOf us zs).map D.int)) (.int (k : Nat)) = some (.int a) := bIx_l (by rw [List.getElem?_map, h1]; rfl)
  have x2 : bIx (.lst ((rowsOf us zs).map D.int)) (.int ((k + 1 : Nat) : Int)) = some (.int b) := bIx_l (by rw [List.getElem?_map, h2]; rfl)
  have ad : bAdd (.int (k : Nat)) (.int 1) = some (.int ((k + 1 : Nat) : Int)) := rfl
  rw [Int.zero_add] at hk ⊢
  simp only [d_bk, env12, dC, dV, dB, dO2, ob_some, dT, dAndT, dOrT, dNotT, dIf, dAndV, dOrV, dNotV, dChain, aNil, aCons, dTup, dLst, dCut, oNone, oSome, dRev, dNeg, dTru, dCa, dIs, dIsA, dCall, dCallK, sNil, sSeq, sNever, sBrk, sCont, sIf, sRet, sRetO, sRetE, sSet, sSetO, sDrop, sPar, sPar3, kn, enOf, owD, sAsg, gNm, gsNil, gsCons, gTp, sApp, sIns, sExt, sClr, sRev, sPut, sFrz, owAt, fin, st, iRng, iRngB, iSeq, lstD, tupD, sFor, dLc, dDc, wipeE, tYesD, dIndex, dSort, dDictZip, dMeth, dFld, dMk, List.map_cons, List.map_nil, List.length_cons, List.length_nil, List.replicate_succ, List.replicate_zero, List.cons_append, List.nil_append, List.append_nil, List.getElem?_cons_zero, List.getElem?_cons_succ, List.set_cons_zero, List.set_cons_succ, Option.bind_some, Option.map_some, Nat.reduceSub, Nat.reduceAdd, kwP, List.getD_cons_zero, List.getD_cons_succ]
  rw [x1, ob_some, ad, ob_some, x2, ob_some]
  refine ⟨ws, zs, a, b, rfl, by omega, W, hz, ?_⟩
  rw [cellR_perm W.nd pu]
  show ob (bAdd (.lst _) (.lst ((bnd us zs (a, b)).map tileD))) _
  rw [bAdd_lst (by rw [List.length_map, List.length_map]; omega), ob_some]
  exact hk
theorem sh_tl {us : List Tile} (h : ∀ u ∈ us, NameOk u.n) : likeD 6 (.lst (us.map tileD)) = (decide (us.length ≤ 100000)) := by
  rw [likeD, List.length_map]
  cases decide (us.length ≤ 100000) with
  | false => rfl
  | true =>
    rw [Bool.true_and, List.all_eq_true]
    intro d hd
    obtain ⟨u, hu, rfl⟩ := List.mem_map.mp hd
    have e1 : likeD 4 (.str u.n) = true := name_ok (h u hu)
    show ((decide (([.tup [.int u.l, .int u.t, .int u.r, .int u.b], .str u.n] : List D).length ≤ 100000)) && ([.tup [.int u.l, .int u.t, .int u.r, .int u.b], .str u.n] : List D).all (likeD 4)) = true
    rw [List.all_cons, List.all_cons, e1]
    rfl
def d_ba (C_Desk : Addr) : TDS := (sSeq (sSetO 12 (dCall (sp_tiles C_Desk) (aCons (dV 5) (aCons (dV 10) aNil))))
  (sSeq (sIf (dOrT (dNotT (dT (dLend 12 (dCall (sp_like 7) (aCons (dV 12) (aCons (dV 7) aNil)))))) (dT (dO2 (bEqN true) (dV 10) (dV 6)))) (sRet (dC (.bl false))) sNil)
  (sClr 12)))
def tlsA (us : List Win) (zs : List Str) : List Tile := (prI (rowsOf us zs)).flatMap (bnd us zs)
theorem rd_ba {C : Addr} {us ws : List Win} {zs : List Str} (W : WOk ws) (Sm : Sml us) (pu : us.Perm ws) (pz : zs.Perm (nms us)) (l6 : ws.length ≤ 6) (lk : likeD 6 (.lst ((tlsA us zs).map tileD)) = true) {PP : DEnds} {e2 e3 e8 e9 e11 e12 e13 e14 e15 e16 e17 e18 : En}
    (hk : ∀ e12, PP.nx (env12 C ws us zs (.lst ((tlsA us zs).map tileD)) e2 e3 e8 e9 (.fz (.lst (zs.map D.str))) e11 e12 e13 e14 e15 e16 e17 e18)) :
    d_ba C PP (env12 C ws us zs (.lst ((tlsA us zs).map tileD)) e2 e3 e8 e9 (.fz (.lst (zs.map D.str))) e11 e12 e13 e14 e15 e16 e17 e18) := by
  have lu : us.length = ws.length := pu.length_eq
  have Wu := W.perm pu
  have hz : ∀ z ∈ zs, z ∈ nms us := fun z h => pz.mem_iff.mp h
  have nz : ∀ z ∈ zs, NameOk z := fun z h => by
    obtain ⟨w, hw, rfl⟩ := List.mem_map.mp (hz z h)
    exact Wu.nm w hw
  have tt : tls (topF us zs) (colsOf us zs) (rowsOf us zs) = tlsA us zs := tls_cells Wu.nd hz Sm
  have q3 : bEqN true (.lst (zs.map D.str)) (.lst (zs.map D.str)) = some (.bl false) := bneS2 (n := 1) (by decide) (sh_names nz)
  simp only [d_ba, env12, dC, dV, dB, dO2, ob_some, dT, dAndT, dOrT, dNotT, dIf, dAndV, dOrV, dNotV, dChain, aNil, aCons, dTup, dLst, dCut, oNone, oSome, dRev, dNeg, dTru, dCa, dIs, dIsA, dCall, dCallK, sNil, sSeq, sNever, sBrk, sCont, sIf, sRet, sRetO, sRetE, sSet, sSetO, sDrop, sPar, sPar3, kn, enOf, owD, sAsg, gNm, gsNil, gsCons, gTp, sApp, sIns, sExt, sClr, sRev, sPut, sFrz, owAt, fin, st, iRng, iRngB, iSeq, lstD, tupD, sFor, dLc, dDc, wipeE, tYesD, dIndex, dSort, dDictZip, dMeth, dFld, dMk, List.map_cons, List.map_nil, List.length_cons, List.length_nil, List.replicate_succ, List.replicate_zero, List.cons_append, List.nil_append, List.append_nil, List.getElem?_cons_zero, List.getElem?_cons_succ, List.set_cons_zero, List.set_cons_succ, Option.bind_some, Option.map_some, Nat.reduceSub, Nat.reduceAdd, kwP, List.getD_cons_zero, List.getD_cons_succ]
  refine ⟨us, _, zs, rfl, .inl rfl, by omega, Wu, pz, ?_⟩
  rw [tt]
  simp only [dC, dV, dB, dO2, ob_some, dT, dAndT, dOrT, dNotT, dIf, dAndV, dOrV, dNotV, dChain, aNil, aCons, dTup, dLst, dCut, oNone, oSome, dRev, dNeg, dTru, dCa, dIs, dIsA, dCall, dCallK, sNil, sSeq, sNever, sBrk, sCont, sIf, sRet, sRetO, sRetE, sSet, sSetO, sDrop, sPar, sPar3, kn, enOf, owD, sAsg, gNm, gsNil, gsCons, gTp, sApp, sIns, sExt, sClr, sRev, sPut, sFrz, owAt, fin, st, iRng, iRngB, iSeq, lstD, tupD, sFor, dLc, dDc, wipeE, tYesD, dIndex, dSort, dDictZip, dMeth, dFld, dMk, List.map_cons, List.map_nil, List.length_cons, List.length_nil, List.replicate_succ, List.replicate_zero, List.cons_append, List.nil_append, List.append_nil, List.getElem?_cons_zero, List.getElem?_cons_succ, List.set_cons_zero, List.set_cons_succ, Option.bind_some, Option.map_some, Nat.reduceSub, Nat.reduceAdd, kwP, List.getD_cons_zero, List.getD_cons_succ, dLend, frz]
  refine ⟨_, rfl, lk, rfl, ?_⟩
  simp only [Bool.not_true, Bool.false_eq_true, if_false, q3, ob_some]
  exact hk (.ow [])
def d_sz : TDS := (sSet 13 (dCa sumD (aCons (dLc (iSeq (dV 7)) (gTp 2 (gsCons (gNm 17) (gsCons (gNm 16) gsNil))) tYesD (dO2 bMul (dO2 bSub (dO2 bIx (dV 17) (dC (.int 2))) (dO2 bIx (dV 17) (dC (.int 0)))) (dO2 bSub (dO2 bIx (dV 17) (dC (.int 3))) (dO2 bIx (dV 17) (dC (.int 1))))) [17, 16]) aNil)))
theorem rd_sz {C : Addr} {us ws : List Win} {zs : List Str} {ts : List Tile} (lt : ts.length ≤ 1000) (sm : ∀ u ∈ ts, -100 ≤ u.l ∧ u.l ≤ 100 ∧ -100 ≤ u.r ∧ u.r ≤ 100) {PP : DEnds} {e2 e3 e8 e9 e10 e11 e12 e13 e14 e15 e16 e17 e18 : En}
    (hk : PP.nx (env12 C ws us zs (.lst (ts.map tileD)) e2 e3 e8 e9 e10 e11 e12 (.fz (.int (are ts))) e14 e15 e16 e17 e18)) :
    d_sz PP (env12 C ws us zs (.lst (ts.map tileD)) e2 e3 e8 e9 e10 e11 e12 e13 e14 e15 e16 e17 e18) := by
  simp only [d_sz, env12, dC, dV, dB, dO2, ob_some, dT, dAndT, dOrT, dNotT, dIf, dAndV, dOrV, dNotV, dChain, aNil, aCons, dTup, dLst, dCut, oNone, oSome, dRev, dNeg, dTru, dCa, dIs, dIsA, dCall, dCallK, sNil, sSeq, sNever, sBrk, sCont, sIf, sRet, sRetO, sRetE, sSet, sSetO, sDrop, sPar, sPar3, kn, enOf, owD, sAsg, gNm, gsNil, gsCons, gTp, sApp, sIns, sExt, sClr, sRev, sPut, sFrz, owAt, fin, st, iRng, iRngB, iSeq, lstD, tupD, sFor, dLc, dDc, wipeE, tYesD, dIndex, dSort, dDictZip, dMeth, dFld, dMk, List.map_cons, List.map_nil, List.length_cons, List.length_nil, List.replicate_succ, List.replicate_zero, List.cons_append, List.nil_append, List.append_nil, List.getElem?_cons_zero, List.getElem?_cons_succ, List.set_cons_zero, List.set_cons_succ, Option.bind_some, Option.map_some, Nat.reduceSub, Nat.reduceAdd, kwP, List.getD_cons_zero, List.getD_cons_succ]
  refine .inl (comp_map tileD (fun u => .int ((u.r - u.l) * (u.b - u.t))) ts [] (fun u hu Q Z hQ => ?_) (by simp; omega) ?_)
  · have b1 : ∀ i j : Int, bSub (.int i) (.int j) = some (.int (i - j)) := fun _ _ => rfl
    have := sm u hu
    simp only [tileD, dC, dV, dB, dO2, ob_some, dT, dAndT, dOrT, dNotT, dIf, dAndV, dOrV, dNotV, dChain, aNil, aCons, dTup, dLst, dCut, oNone, oSome, dRev, dNeg, dTru, dCa, dIs, dIsA, dCall, dCallK, sNil, sSeq, sNever, sBrk, sCont, sIf, sRet, sRetO, sRetE, sSet, sSetO, sDrop, sPar, sPar3, kn, enOf, owD, sAsg, gNm, gsNil, gsCons, gTp, sApp, sIns, sExt, sClr, sRev, sPut, sFrz, owAt, fin, st, iRng, iRngB, iSeq, lstD, tupD, sFor, dLc, dDc, wipeE, tYesD, dIndex, dSort, dDictZip, dMeth, dFld, dMk, List.map_cons, List.map_nil, List.length_cons, List.length_nil, List.replicate_succ, List.replicate_zero, List.cons_append, List.nil_append, List.append_nil, List.getElem?_cons_zero, List.getElem?_cons_succ, List.set_cons_zero, List.set_cons_succ, Option.bind_some, Option.map_some, Nat.reduceSub, Nat.reduceAdd, kwP, List.getD_cons_zero, List.getD_cons_succ]
    have x2 : bIx (.tup [.int u.l, .int u.t, .int u.r, .int u.b]) (.int 2) = some (.int u.r) := rfl
    have x0 : bIx (.tup [.int u.l, .int u.t, .int u.r, .int u.b]) (.int 0) = some (.int u.l) := rfl
    have x3 : bIx (.tup [.int u.l, .int u.t, .int u.r, .int u.b]) (.int 3) = some (.int u.b) := rfl
    have x1 : bIx (.tup [.int u.l, .int u.t, .int u.r, .int u.b]) (.int 1) = some (.int u.t) := rfl
    refine ⟨trivial, trivial, ?_⟩
    simp only [x0, x1, x2, x3, b1, ob_some, if_true]
    rw [bMul_i (by omega) (by omega), ob_some]
    exact hQ
  · rw [List.nil_append]
    have e : sumD [.lst (ts.map fun u => D.int ((u.r - u.l) * (u.b - u.t)))] = some (.int (are ts)) := by
      have ii : ∀ l : List Int, intsD (l.map D.int) = some l := fun l => by
        induction l with
        | nil => rfl
        | cons a l ih => simp [intsD, ih]
      show (intsD _).map _ = _
      rw [show (ts.map fun u => D.int ((u.r - u.l) * (u.b - u.t))) = (ts.map fun u : Tile => (u.r - u.l) * (u.b - u.t)).map D.int by rw [List.map_map]; rfl, ii]
      rfl
    rw [e, ob_some]
    exact hk
theorem cnt_sumI (p : Int → Bool) : ∀ n : Nat, (((List.range n).filter fun k : Nat => p (-5 + k)).length : Int) = sumI (fun x => one (p x)) (-5) (-5 + n)
  | 0 => by rw [show (-5 : Int) + ((0 : Nat) : Int) = -5 by omega, sumI_nil]; rfl
  | n + 1 => by
    have ih := cnt_sumI p n
    rw [show (-5 : Int) + ((n + 1 : Nat) : Int) = -5 + n + 1 by omega, sumI_app (b := -5 + (n : Int)) (by omega) (by omega), sumI_one, ← ih, List.range_succ, List.filter_append, List.length_append]
    unfold one
    cases h : p (-5 + (n : Int)) <;> simp [h]
def d_bx : TDS := (sSet 14 (dO2 bAdd (dV 14) (dCa lenD (aCons (dLc (iRngB (aCons (dNeg (dC (.int 5))) (aCons (dC (.int 10)) aNil))) (gNm 18) (dT (dO2 (bIsN true) (dCall sp_seenL (aCons (dV 4) (aCons (dV 6) (aCons (dV 15) (aCons (dV 18) aNil))))) (dC .non))) (dV 18) [18]) aNil))))
def d_bxR : TDS := (sSet 14 (dO2 bAdd (dV 14) (dCa lenD (aCons (dLc iR15 (gNm 18) (dT (dO2 (bIsN true) (dCall sp_seenL (aCons (dV 4) (aCons (dV 6) (aCons (dV 15) (aCons (dV 18) aNil))))) (dC .non))) (dV 18) [18]) aNil))))
theorem bx_eq : d_bx = d_bxR := rfl
def cntX (us : List Win) (zs : List Str) (x : Int) : Int := sumI (fun y => one (topF us zs x y).isSome) (-5) 10
theorem rd_bx {C : Addr} {us ws : List Win} {zs : List Str} {due : D} (W : WOk ws) (pu : us.Perm ws) (pz : zs.Perm (nms us)) (l6 : ws.length ≤ 6) {x c : Int} {PP : DEnds} {e2 e3 e8 e9 e10 e11 e12 e13 e16 e17 e18 : En}
    (hk : ∀ e18, PP.nx (env12 C ws us zs due e2 e3 e8 e9 e10 e11 e12 e13 (.fz (.int (c + cntX us zs x))) (.fz (.int x)) e16 e17 e18)) :
    d_bx PP (env12 C ws us zs due e2 e3 e8 e9 e10 e11 e12 e13 (.fz (.int c)) (.fz (.int x)) e16 e17 e18) := by
  have lu : us.length = ws.length := pu.length_eq
  have nl : (nms us).length = us.length := List.length_map _
  have lz := pz.length_eq
  have hz : ∀ z ∈ zs, z ∈ nms ws := fun z h => by
    obtain ⟨w, hw, rfl⟩ := List.mem_map.mp (pz.mem_iff.mp h)
    exact List.mem_map.mpr ⟨w, pu.mem_iff.mp hw, rfl⟩
  have et : ∀ x y, topF ws zs x y = topF us zs x y := fun x y => by unfold topF; rw [cov_perm W.nd pu]
  have hk := hk e18
  rw [env12] at hk ⊢
  rw [bx_eq]
  simp only [d_bxR, dC, dV, dB, dO2, ob_some, dT, dAndT, dOrT, dNotT, dIf, dAndV, dOrV, dNotV, dChain, aNil, aCons, dTup, dLst, dCut, oNone, oSome, dRev, dNeg, dTru, dCa, dIs, dIsA, dCall, dCallK, sNil, sSeq, sNever, sBrk, sCont, sIf, sRet, sRetO, sRetE, sSet, sSetO, sDrop, sPar, sPar3, kn, enOf, owD, sAsg, gNm, gsNil, gsCons, gTp, sApp, sIns, sExt, sClr, sRev, sPut, sFrz, owAt, fin, st, iRng, iRngB, iSeq, lstD, tupD, sFor, dLc, dDc, wipeE, tYesD, dIndex, dSort, dDictZip, dMeth, dFld, dMk, List.map_cons, List.map_nil, List.length_cons, List.length_nil, List.replicate_succ, List.replicate_zero, List.cons_append, List.nil_append, List.append_nil, List.getElem?_cons_zero, List.getElem?_cons_succ, List.set_cons_zero, List.set_cons_succ, Option.bind_some, Option.map_some, Nat.reduceSub, Nat.reduceAdd, kwP, List.getD_cons_zero, List.getD_cons_succ]
  refine iR15_i ?_
  refine comp_filter (fun k : Nat => D.int (-5 + (k : Nat))) (fun k : Nat => D.int (-5 + (k : Nat))) (fun k : Nat => (topF us zs x (-5 + (k : Nat))).isSome) (List.range 15) [] (fun k _ Q Z h1 h2 => ?_) (by simp) ?_
  · simp only [dC, dV, dB, dO2, ob_some, dT, dAndT, dOrT, dNotT, dIf, dAndV, dOrV, dNotV, dChain, aNil, aCons, dTup, dLst, dCut, oNone, oSome, dRev, dNeg, dTru, dCa, dIs, dIsA, dCall, dCallK, sNil, sSeq, sNever, sBrk, sCont, sIf, sRet, sRetO, sRetE, sSet, sSetO, sDrop, sPar, sPar3, kn, enOf, owD, sAsg, gNm, gsNil, gsCons, gTp, sApp, sIns, sExt, sClr, sRev, sPut, sFrz, owAt, fin, st, iRng, iRngB, iSeq, lstD, tupD, sFor, dLc, dDc, wipeE, tYesD, dIndex, dSort, dDictZip, dMeth, dFld, dMk, List.map_cons, List.map_nil, List.length_cons, List.length_nil, List.replicate_succ, List.replicate_zero, List.cons_append, List.nil_append, List.append_nil, List.getElem?_cons_zero, List.getElem?_cons_succ, List.set_cons_zero, List.set_cons_succ, Option.bind_some, Option.map_some, Nat.reduceSub, Nat.reduceAdd, kwP, List.getD_cons_zero, List.getD_cons_succ]
    refine ⟨ws, zs, x, _, rfl, by omega, W, hz, ?_⟩
    rw [opt_top, et]
    cases e : topF us zs x (-5 + (k : Nat)) with
    | none =>
      have i0 : bIsN true (optD none) .non = some (.bl false) := rfl
      rw [i0, ob_some]
      exact h2 (by rw [e]; rfl)
    | some z =>
      have i0 : bIsN true (optD (some z)) .non = some (.bl true) := rfl
      rw [i0, ob_some]
      exact h1 (by rw [e]; rfl)
  · rw [List.nil_append]
    have e : lenD [.lst ((((List.range 15).filter fun k : Nat => (topF us zs x (-5 + (k : Nat))).isSome)).map fun k : Nat => D.int (-5 + (k : Nat)))] = some (.int (cntX us zs x)) := by
      show some (D.int (List.length _ : Int)) = _
      rw [List.length_map, cnt_sumI (fun y => (topF us zs x y).isSome) 15]
      rfl
    have ad : ∀ i j : Int, bAdd (.int i) (.int j) = some (.int (i + j)) := fun _ _ => rfl
    rw [e, ob_some, ad, ob_some]
    exact hk
end DL
namespace DL
open PySem PySem.Spec PyProof.Rows L2 RK
def d_lf (C_Desk : Addr) : TDS := (sIf (dOrT (dT (dO2 (bEqN true) (dV 13) (dV 14))) (dNotT (dT (dCall (sp_like 7) (aCons (dCallK (sp_tiles C_Desk) [1, 0] (aCons (dCa tupleD (aCons (dV 6) aNil)) (aCons (dV 5) aNil))) (aCons (dV 7) aNil)))))) (sRet (dC (.bl false))) sNil)
theorem rd_lf {C : Addr} {us ws : List Win} {zs : List Str} (W : WOk ws) (Sm : Sml us) (pu : us.Perm ws) (pz : zs.Perm (nms us)) (l6 : ws.length ≤ 6) (lk : likeD 6 (.lst ((tlsA us zs).map tileD)) = true) {n : Int} {PP : DEnds} {e2 e3 e8 e9 e10 e11 e12 e15 e16 e17 e18 : En}
    (hk : PP.nx (env12 C ws us zs (.lst ((tlsA us zs).map tileD)) e2 e3 e8 e9 e10 e11 e12 (.fz (.int n)) (.fz (.int n)) e15 e16 e17 e18)) :
    d_lf C PP (env12 C ws us zs (.lst ((tlsA us zs).map tileD)) e2 e3 e8 e9 e10 e11 e12 (.fz (.int n)) (.fz (.int n)) e15 e16 e17 e18) := by
  have lu : us.length = ws.length := pu.length_eq
  have Wu := W.perm pu
  have hz : ∀ z ∈ zs, z ∈ nms us := fun z h => pz.mem_iff.mp h
  have tt : tls (topF us zs) (colsOf us zs) (rowsOf us zs) = tlsA us zs := tls_cells Wu.nd hz Sm
  have nx : bEqN true (.int n) (.int n) = some (.bl false) := bneS2 (n := 0) (by decide) rfl
  have tp : tupleD [.lst (zs.map D.str)] = some (.tup (zs.map D.str)) := rfl
  rw [env12] at hk ⊢
  simp only [d_lf, dC, dV, dB, dO2, ob_some, dT, dAndT, dOrT, dNotT, dIf, dAndV, dOrV, dNotV, dChain, aNil, aCons, dTup, dLst, dCut, oNone, oSome, dRev, dNeg, dTru, dCa, dIs, dIsA, dCall, dCallK, sNil, sSeq, sNever, sBrk, sCont, sIf, sRet, sRetO, sRetE, sSet, sSetO, sDrop, sPar, sPar3, kn, enOf, owD, sAsg, gNm, gsNil, gsCons, gTp, sApp, sIns, sExt, sClr, sRev, sPut, sFrz, owAt, fin, st, iRng, iRngB, iSeq, lstD, tupD, sFor, dLc, dDc, wipeE, tYesD, dIndex, dSort, dDictZip, dMeth, dFld, dMk, List.map_cons, List.map_nil, List.length_cons, List.length_nil, List.replicate_succ, List.replicate_zero, List.cons_append, List.nil_append, List.append_nil, List.getElem?_cons_zero, List.getElem?_cons_succ, List.set_cons_zero, List.set_cons_succ, Option.bind_some, Option.map_some, Nat.reduceSub, Nat.reduceAdd, kwP, List.getD_cons_zero, List.getD_cons_succ]
  show ob (bEqN true (.int n) (.int n)) _
  simp only [nx, ob_some, Bool.false_eq_true, if_false, tp, dC, dV, dB, dO2, ob_some, dT, dAndT, dOrT, dNotT, dIf, dAndV, dOrV, dNotV, dChain, aNil, aCons, dTup, dLst, dCut, oNone, oSome, dRev, dNeg, dTru, dCa, dIs, dIsA, dCall, dCallK, sNil, sSeq, sNever, sBrk, sCont, sIf, sRet, sRetO, sRetE, sSet, sSetO, sDrop, sPar, sPar3, kn, enOf, owD, sAsg, gNm, gsNil, gsCons, gTp, sApp, sIns, sExt, sClr, sRev, sPut, sFrz, owAt, fin, st, iRng, iRngB, iSeq, lstD, tupD, sFor, dLc, dDc, wipeE, tYesD, dIndex, dSort, dDictZip, dMeth, dFld, dMk, List.map_cons, List.map_nil, List.length_cons, List.length_nil, List.replicate_succ, List.replicate_zero, List.cons_append, List.nil_append, List.append_nil, List.getElem?_cons_zero, List.getElem?_cons_succ, List.set_cons_zero, List.set_cons_succ, Option.bind_some, Option.map_some, Nat.reduceSub, Nat.reduceAdd, kwP, List.getD_cons_zero, List.getD_cons_succ]
  refine ⟨trivial, us, _, zs, rfl, .inr rfl, by omega, Wu, pz, ?_⟩
  rw [tt]
  refine ⟨_, rfl, lk, ?_⟩
  exact hk
def d_lk : TDS := (sFor (iRng (aCons (dO2 bSub (dCa lenD (aCons (dV 8) aNil)) (dC (.int 1))) aNil)) (gNm 9) (sSet 7 (dO2 bAdd (dV 7) (dCall sp_band (aCons (dV 4) (aCons (dV 6) (aCons (dO2 bIx (dV 8) (dV 9)) (aCons (dO2 bIx (dV 8) (dO2 bAdd (dV 9) (dC (.int 1)))) aNil))))))))
theorem lk_eq : d_lk = sFor (iRng (aCons (dO2 bSub (dCa lenD (aCons (dV 8) aNil)) (dC (.int 1))) aNil)) (gNm 9) d_bk := rfl
theorem rd_lk {C : Addr} {us ws : List Win} {zs : List Str} (W : WOk ws) (pu : us.Perm ws) (pz : zs.Perm (nms us)) (l6 : ws.length ≤ 6) (lr : (rowsOf us zs).length ≤ 50) {PP : DEnds} {e2 e3 e9 e10 e11 e12 e13 e14 e15 e16 e17 e18 : En}
    (hk : ∀ e9, PP.nx (env12 C ws us zs (.lst ((tlsA us zs).map tileD)) e2 e3 (.fz (.lst ((rowsOf us zs).map D.int))) e9 e10 e11 e12 e13 e14 e15 e16 e17 e18)) :
    d_lk PP (env12 C ws us zs (.lst []) e2 e3 (.fz (.lst ((rowsOf us zs).map D.int))) e9 e10 e11 e12 e13 e14 e15 e16 e17 e18) := by
  rw [lk_eq]
  have hB := fun k (h : k + 1 < (rowsOf us zs).length) PP (e10 e11 e12 e13 e14 e15 e16 e17 e18 : En) hk => rd_bk (C := C) (e2 := e2) (e3 := e3) (e10 := e10) (e11 := e11) (e12 := e12) (e13 := e13) (e14 := e14) (e15 := e15) (e16 := e16) (e17 := e17) (e18 := e18) (PP := PP) W pu pz l6 lr h hk
  have pl := prI_len (rowsOf us zs)
  generalize d_bk = RB at hB ⊢
  rw [env12]
  simp only [dC, dV, dB, dO2, ob_some, dT, dAndT, dOrT, dNotT, dIf, dAndV, dOrV, dNotV, dChain, aNil, aCons, dTup, dLst, dCut, oNone, oSome, dRev, dNeg, dTru, dCa, dIs, dIsA, dCall, dCallK, sNil, sSeq, sNever, sBrk, sCont, sIf, sRet, sRetO, sRetE, sSet, sSetO, sDrop, sPar, sPar3, kn, enOf, owD, sAsg, gNm, gsNil, gsCons, gTp, sApp, sIns, sExt, sClr, sRev, sPut, sFrz, owAt, fin, st, iRng, iRngB, iSeq, lstD, tupD, sFor, dLc, dDc, wipeE, tYesD, dIndex, dSort, dDictZip, dMeth, dFld, dMk, List.map_cons, List.map_nil, List.length_cons, List.length_nil, List.replicate_succ, List.replicate_zero, List.cons_append, List.nil_append, List.append_nil, List.getElem?_cons_zero, List.getElem?_cons_succ, List.set_cons_zero, List.set_cons_succ, Option.bind_some, Option.map_some, Nat.reduceSub, Nat.reduceAdd, kwP, List.getD_cons_zero, List.getD_cons_succ]
  rw [show lenD [.lst ((rowsOf us zs).map D.int)] = some (.int (((rowsOf us zs).map D.int).length : Nat)) from rfl, ob_some, List.length_map, show bSub (.int ((rowsOf us zs).length : Nat)) (.int 1) = some (.int (((rowsOf us zs).length : Nat) - 1)) from rfl, ob_some]
  refine ⟨by omega, by omega, ?_⟩
  have en : (((rowsOf us zs).length : Nat) - 1 : Int).toNat = (prI (rowsOf us zs)).length := by omega
  rw [en]
  refine loop_rng (fun i env => ∃ e9, env = env12 C ws us zs (.lst ((((prI (rowsOf us zs)).take i).flatMap (bnd us zs)).map tileD)) e2 e3 (.fz (.lst ((rowsOf us zs).map D.int))) e9 e10 e11 e12 e13 e14 e15 e16 e17 e18) ⟨_, rfl⟩ (fun i env hi h k hk2 => ?_) (fun env h => ?_)
  · obtain ⟨f9, rfl⟩ := h
    rw [env12]
    simp only [dC, dV, dB, dO2, ob_some, dT, dAndT, dOrT, dNotT, dIf, dAndV, dOrV, dNotV, dChain, aNil, aCons, dTup, dLst, dCut, oNone, oSome, dRev, dNeg, dTru, dCa, dIs, dIsA, dCall, dCallK, sNil, sSeq, sNever, sBrk, sCont, sIf, sRet, sRetO, sRetE, sSet, sSetO, sDrop, sPar, sPar3, kn, enOf, owD, sAsg, gNm, gsNil, gsCons, gTp, sApp, sIns, sExt, sClr, sRev, sPut, sFrz, owAt, fin, st, iRng, iRngB, iSeq, lstD, tupD, sFor, dLc, dDc, wipeE, tYesD, dIndex, dSort, dDictZip, dMeth, dFld, dMk, List.map_cons, List.map_nil, List.length_cons, List.length_nil, List.replicate_succ, List.replicate_zero, List.cons_append, List.nil_append, List.append_nil, List.getElem?_cons_zero, List.getElem?_cons_succ, List.set_cons_zero, List.set_cons_succ, Option.bind_some, Option.map_some, Nat.reduceSub, Nat.reduceAdd, kwP, List.getD_cons_zero, List.getD_cons_succ]
    exact hB i (by omega) _ _ _ _ _ _ _ _ _ _ (hk2 _ ⟨_, rfl⟩)
  · obtain ⟨f9, rfl⟩ := h
    rw [List.take_length]
    exact hk f9
def d_lx : TDS := (sFor (iRngB (aCons (dNeg (dC (.int 5))) (aCons (dC (.int 10)) aNil))) (gNm 15) (sSet 14 (dO2 bAdd (dV 14) (dCa lenD (aCons (dLc (iRngB (aCons (dNeg (dC (.int 5))) (aCons (dC (.int 10)) aNil))) (gNm 18) (dT (dO2 (bIsN true) (dCall sp_seenL (aCons (dV 4) (aCons (dV 6) (aCons (dV 15) (aCons (dV 18) aNil))))) (dC .non))) (dV 18) [18]) aNil)))))
theorem lx_eq : d_lx = sFor iR15 (gNm 15) d_bx := rfl
theorem rd_lx {C : Addr} {us ws : List Win} {zs : List Str} {due : D} (W : WOk ws) (pu : us.Perm ws) (pz : zs.Perm (nms us)) (l6 : ws.length ≤ 6) {PP : DEnds} {e2 e3 e8 e9 e10 e11 e12 e13 e15 e16 e17 e18 : En}
    (hk' : ∀ e15 e18, PP.nx (env12 C ws us zs due e2 e3 e8 e9 e10 e11 e12 e13 (.fz (.int (sumI (cntX us zs) (-5) 10))) e15 e16 e17 e18)) :
    d_lx PP (env12 C ws us zs due e2 e3 e8 e9 e10 e11 e12 e13 (.fz (.int 0)) e15 e16 e17 e18) := by
  rw [lx_eq]
  have hB := fun (x c : Int) PP (e18 : En) hk => rd_bx (C := C) (due := due) (x := x) (c := c) (e2 := e2) (e3 := e3) (e8 := e8) (e9 := e9) (e10 := e10) (e11 := e11) (e12 := e12) (e13 := e13) (e16 := e16) (e17 := e17) (e18 := e18) (PP := PP) W pu pz l6 hk
  generalize d_bx = RB at hB ⊢
  simp only [sFor]
  refine iR15_i ?_
  refine loop_rng (lo := -5) (fun i env => ∃ e15 e18, env = env12 C ws us zs due e2 e3 e8 e9 e10 e11 e12 e13 (.fz (.int (sumI (cntX us zs) (-5) (-5 + (i : Nat))))) e15 e16 e17 e18) ⟨_, _, by rw [show (-5 : Int) + ((0 : Nat) : Int) = -5 by omega, sumI_nil]⟩ (fun i env hi h k hk2 => ?_) (fun env h => ?_)
  · obtain ⟨f15, f18, rfl⟩ := h
    have es : sumI (cntX us zs) (-5) (-5 + ((i + 1 : Nat) : Int)) = sumI (cntX us zs) (-5) (-5 + (i : Nat)) + cntX us zs (-5 + (i : Nat)) := by
      rw [show (-5 : Int) + ((i + 1 : Nat) : Int) = -5 + (i : Nat) + 1 by omega, sumI_app (b := -5 + (i : Nat)) (by omega) (by omega), sumI_one]
    rw [es] at hk2
    show RB _ (env12 C ws us zs due e2 e3 e8 e9 e10 e11 e12 e13 (.fz (.int (sumI (cntX us zs) (-5) (-5 + (i : Nat))))) (.fz (.int (-5 + (i : Nat)))) e16 e17 f18)
    exact hB _ _ _ _ fun e => hk2 _ ⟨_, _, rfl⟩
  · obtain ⟨f15, f18, rfl⟩ := h
    exact hk' f15 f18
theorem tls_nn {tp : Int → Int → Option Str} {ns : List Str} (h : ∀ x y n, tp x y = some n → n ∈ ns) {cols rows : List Int} {u : Tile} (hu : u ∈ tls tp cols rows) : u.n ∈ ns := by
  obtain ⟨c, _, hc⟩ := List.mem_flatMap.mp hu
  obtain ⟨r, hr, rfl⟩ := List.mem_map.mp hc
  exact fold_n (tp := fun x => tp x c.1) (fun x n e => h x c.1 n e) (prI cols) [] (fun _ z => nomatch z) r hr
theorem cell_in (us : List Win) (zs : List Str) (y : Int) : ∀ r ∈ cellR us zs y, -5 ≤ r.l ∧ r.l ≤ 10 ∧ -5 ≤ r.r ∧ r.r ≤ 10 := by
  have key : ∀ (l : List (Int × Int)) (rs : List Run), (∀ c ∈ l, -5 ≤ c.1 ∧ c.1 < 10 ∧ c.2 = c.1 + 1) → (∀ r ∈ rs, -5 ≤ r.l ∧ r.l ≤ 10 ∧ -5 ≤ r.r ∧ r.r ≤ 10) → ∀ r ∈ l.foldl (stepR fun x => topF us zs x y) rs, -5 ≤ r.l ∧ r.l ≤ 10 ∧ -5 ≤ r.r ∧ r.r ≤ 10 := by
    intro l
    induction l with
    | nil => intro rs _ h; exact h
    | cons c l ih =>
      intro rs hc h
      have h1 := hc c List.mem_cons_self
      rw [List.foldl_cons]
      refine ih _ (fun d hd => hc d (List.mem_cons_of_mem _ hd)) fun r hr => ?_
      unfold stepR at hr
      dsimp only at hr
      cases e : topF us zs c.1 y with
      | none => rw [e] at hr; exact h r hr
      | some n =>
        rw [e] at hr
        have two : ∀ {xs : List Run} {v : Run}, (∀ w ∈ xs, w ∈ rs) → (-5 ≤ v.l ∧ v.l ≤ 10 ∧ -5 ≤ v.r ∧ v.r ≤ 10) → r ∈ xs ++ [v] → -5 ≤ r.l ∧ r.l ≤ 10 ∧ -5 ≤ r.r ∧ r.r ≤ 10 := fun {xs v} k ev hu => by
          rcases List.mem_append.mp hu with z | z
          · exact h r (k r z)
          · rw [List.mem_singleton.mp z]; exact ev
        cases g : rs.getLast? with
        | none => rw [g] at hr; exact two (fun _ z => z) (by show -5 ≤ c.1 ∧ c.1 ≤ 10 ∧ -5 ≤ c.2 ∧ c.2 ≤ 10; omega) hr
        | some w =>
          rw [g] at hr
          have hw := h w (List.mem_of_getLast? g)
          by_cases q : w.r = c.1 ∧ w.n = n
          · simp only [if_pos q] at hr
            exact two (fun x hx => (List.dropLast_sublist rs).subset hx) (by show -5 ≤ w.l ∧ w.l ≤ 10 ∧ -5 ≤ c.2 ∧ c.2 ≤ 10; omega) hr
          · simp only [if_neg q] at hr
            exact two (fun _ z => z) (by show -5 ≤ c.1 ∧ c.1 ≤ 10 ∧ -5 ≤ c.2 ∧ c.2 ≤ 10; omega) hr
  exact key _ _ (fun c hc => ucs_mem hc) fun r h => nomatch h
def d_law (C_Desk : Addr) : TDS := (sSeq (sFor (iRng (aCons (dC (.int 2)) aNil)) (gNm 2) (sSeq (sSet 3 (dCall sp_mixed (aCons (dV 1) (aCons (dCall sp_names (aCons (dV 1) (aCons (dO2 bAdd (dC (.int 1)) (dCall sp_pull (aCons (dV 1) (aCons (dC (.int 6)) aNil)))) aNil))) aNil))))
  (sSeq (d_rc)
  (sSeq (sAsg (dTup (aCons (dMk C_Desk "windows" sp_Desk___init (aCons (dV 4) aNil)) (aCons (dCall sp_mixed (aCons (dV 1) (aCons (dV 3) aNil))) (aCons (dLst aNil) aNil)))) (gTp 3 (gsCons (gNm 5) (gsCons (gNm 6) (gsCons (gNm 7) gsNil)))))
  (sSeq (d_rw)
  (sSeq (d_lk)
  (sSeq (sSet 10 (dCa listD (aCons (dV 6) aNil)))
  (sSeq (sFor (iRng (aCons (dC (.int 2)) aNil)) (gNm 11) (d_ba C_Desk))
  (sSeq (d_sz)
  (sSeq (sSet 14 (dC (.int 0)))
  (sSeq (d_lx)
  (d_lf C_Desk))))))))))))
  (sRet (dC (.bl true))))
theorem rows_le {us : List Win} {zs : List Str} : (rowsOf us zs).length ≤ 2 * zs.length := by
  have := asc_len (zs.flatMap fun z => [(rctO us z).t, (rctO us z).b])
  rw [flat2_len] at this
  exact this
theorem rd_law (C : Addr) : d_law C { nx := fun _ => False, rt := fun x => x = .bl true } (.no :: .fz .bag :: List.replicate 17 .no) := by
  have hRC := fun (ns : List Str) nd nn ln PP (e2 e4 e5 e6 e7 e8 e9 e10 e11 e12 e13 e14 e15 e16 e17 e18 : En) hk => rd_rc (ns := ns) (e2 := e2) (e4 := e4) (e5 := e5) (e6 := e6) (e7 := e7) (e8 := e8) (e9 := e9) (e10 := e10) (e11 := e11) (e12 := e12) (e13 := e13) (e14 := e14) (e15 := e15) (e16 := e16) (e17 := e17) (e18 := e18) (PP := PP) nd nn ln hk
  have hRW := fun (us ws : List Win) (zs : List Str) (due : D) W pu pz l6 PP (e2 e3 e8 e9 e10 e11 e12 e13 e14 e15 e16 e17 e18 : En) hk => rd_rw (C := C) (us := us) (ws := ws) (zs := zs) (due := due) (e2 := e2) (e3 := e3) (e8 := e8) (e9 := e9) (e10 := e10) (e11 := e11) (e12 := e12) (e13 := e13) (e14 := e14) (e15 := e15) (e16 := e16) (e17 := e17) (e18 := e18) (PP := PP) W pu pz l6 hk
  have hLK := fun (us ws : List Win) (zs : List Str) W pu pz l6 lr PP (e2 e3 e9 e10 e11 e12 e13 e14 e15 e16 e17 e18 : En) hk => rd_lk (C := C) (us := us) (ws := ws) (zs := zs) (e2 := e2) (e3 := e3) (e9 := e9) (e10 := e10) (e11 := e11) (e12 := e12) (e13 := e13) (e14 := e14) (e15 := e15) (e16 := e16) (e17 := e17) (e18 := e18) (PP := PP) W pu pz l6 lr hk
  have hBA := fun (us ws : List Win) (zs : List Str) W Sm pu pz l6 lk PP (e2 e3 e8 e9 e11 e12 e13 e14 e15 e16 e17 e18 : En) hk => rd_ba (C := C) (us := us) (ws := ws) (zs := zs) (e2 := e2) (e3 := e3) (e8 := e8) (e9 := e9) (e11 := e11) (e12 := e12) (e13 := e13) (e14 := e14) (e15 := e15) (e16 := e16) (e17 := e17) (e18 := e18) (PP := PP) W Sm pu pz l6 lk hk
  have hSZ := fun (us ws : List Win) (zs : List Str) (ts : List Tile) lt sm PP (e2 e3 e8 e9 e10 e11 e12 e13 e14 e15 e16 e17 e18 : En) hk => rd_sz (C := C) (us := us) (ws := ws) (zs := zs) (ts := ts) (e2 := e2) (e3 := e3) (e8 := e8) (e9 := e9) (e10 := e10) (e11 := e11) (e12 := e12) (e13 := e13) (e14 := e14) (e15 := e15) (e16 := e16) (e17 := e17) (e18 := e18) (PP := PP) lt sm hk
  have hLX := fun (us ws : List Win) (zs : List Str) (due : D) W pu pz l6 PP (e2 e3 e8 e9 e10 e11 e12 e13 e15 e16 e17 e18 : En) hk => rd_lx (C := C) (us := us) (ws := ws) (zs := zs) (due := due) (e2 := e2) (e3 := e3) (e8 := e8) (e9 := e9) (e10 := e10) (e11 := e11) (e12 := e12) (e13 := e13) (e15 := e15) (e16 := e16) (e17 := e17) (e18 := e18) (PP := PP) W pu pz l6 hk
  have hLF := fun (us ws : List Win) (zs : List Str) W Sm pu pz l6 lk (n : Int) PP (e2 e3 e8 e9 e10 e11 e12 e15 e16 e17 e18 : En) hk => rd_lf (C := C) (us := us) (ws := ws) (zs := zs) (n := n) (e2 := e2) (e3 := e3) (e8 := e8) (e9 := e9) (e10 := e10) (e11 := e11) (e12 := e12) (e15 := e15) (e16 := e16) (e17 := e17) (e18 := e18) (PP := PP) W Sm pu pz l6 lk hk
  rw [d_law]
  generalize d_rc = R1 at hRC ⊢
  generalize d_rw = R2 at hRW ⊢
  generalize d_lk = R3 at hLK ⊢
  generalize d_ba C = R4 at hBA ⊢
  generalize d_sz = R5 at hSZ ⊢
  generalize d_lx = R6 at hLX ⊢
  generalize d_lf C = R7 at hLF ⊢
  simp only [dC, dV, dB, dO2, ob_some, dT, dAndT, dOrT, dNotT, dIf, dAndV, dOrV, dNotV, dChain, aNil, aCons, dTup, dLst, dCut, oNone, oSome, dRev, dNeg, dTru, dCa, dIs, dIsA, dCall, dCallK, sNil, sSeq, sNever, sBrk, sCont, sIf, sRet, sRetO, sRetE, sSet, sSetO, sDrop, sPar, sPar3, kn, enOf, owD, sAsg, gNm, gsNil, gsCons, gTp, sApp, sIns, sExt, sClr, sRev, sPut, sFrz, owAt, fin, st, iRng, iRngB, iSeq, lstD, tupD, sFor, dLc, dDc, wipeE, tYesD, dIndex, dSort, dDictZip, dMeth, dFld, dMk, List.map_cons, List.map_nil, List.length_cons, List.length_nil, List.replicate_succ, List.replicate_zero, List.cons_append, List.nil_append, List.append_nil, List.getElem?_cons_zero, List.getElem?_cons_succ, List.set_cons_zero, List.set_cons_succ, Option.bind_some, Option.map_some, Nat.reduceSub, Nat.reduceAdd, kwP, List.getD_cons_zero, List.getD_cons_succ]
  refine ⟨by decide, by decide, ?_⟩
  refine loop_rng (fun _ env => ∃ e2 e3 e4 e5 e6 e7 e8 e9 e10 e11 e12 e13 e14 e15 e16 e17 e18, env = [.no, .fz .bag, e2, e3, e4, e5, e6, e7, e8, e9, e10, e11, e12, e13, e14, e15, e16, e17, e18]) ⟨_, _, _, _, _, _, _, _, _, _, _, _, _, _, _, _, _, rfl⟩ (fun turn env _ h k hk => ?_) (fun env h => ?_)
  · obtain ⟨e2, e3, e4, e5, e6, e7, e8, e9, e10, e11, e12, e13, e14, e15, e16, e17, e18, rfl⟩ := h
    simp only [dC, dV, dB, dO2, ob_some, dT, dAndT, dOrT, dNotT, dIf, dAndV, dOrV, dNotV, dChain, aNil, aCons, dTup, dLst, dCut, oNone, oSome, dRev, dNeg, dTru, dCa, dIs, dIsA, dCall, dCallK, sNil, sSeq, sNever, sBrk, sCont, sIf, sRet, sRetO, sRetE, sSet, sSetO, sDrop, sPar, sPar3, kn, enOf, owD, sAsg, gNm, gsNil, gsCons, gTp, sApp, sIns, sExt, sClr, sRev, sPut, sFrz, owAt, fin, st, iRng, iRngB, iSeq, lstD, tupD, sFor, dLc, dDc, wipeE, tYesD, dIndex, dSort, dDictZip, dMeth, dFld, dMk, List.map_cons, List.map_nil, List.length_cons, List.length_nil, List.replicate_succ, List.replicate_zero, List.cons_append, List.nil_append, List.append_nil, List.getElem?_cons_zero, List.getElem?_cons_succ, List.set_cons_zero, List.set_cons_succ, Option.bind_some, Option.map_some, Nat.reduceSub, Nat.reduceAdd, kwP, List.getD_cons_zero, List.getD_cons_succ]
    refine ⟨_, rfl, by decide, by decide, fun r r0 r1 => ?_⟩
    have ad : ∀ i j : Int, bAdd (.int i) (.int j) = some (.int (i + j)) := fun _ _ => rfl
    show ob (bAdd (.int 1) (.int r)) _
    rw [ad, ob_some]
    refine ⟨_, rfl, by omega, by omega, fun ns ln nn nd => ?_⟩
    refine ⟨_, .inl rfl, by rw [List.length_map]; omega, fun os ho => ?_⟩
    obtain ⟨ns', rfl, pn⟩ := perm_str ho
    have ln' := pn.length_eq
    refine hRC ns' (pn.nodup_iff.mpr nd) (fun z hz => nn z (pn.mem_iff.mp hz)) (by omega) _ _ _ _ _ _ _ _ _ _ _ _ _ _ _ _ _ fun ws enw W S => ?_
    have lw : ws.length = ns'.length := by rw [← enw]; unfold nms; rw [List.length_map]
    refine ⟨ws, rfl, W, by omega, by omega, fun us pu su => ?_⟩
    simp only [dC, dV, dB, dO2, ob_some, dT, dAndT, dOrT, dNotT, dIf, dAndV, dOrV, dNotV, dChain, aNil, aCons, dTup, dLst, dCut, oNone, oSome, dRev, dNeg, dTru, dCa, dIs, dIsA, dCall, dCallK, sNil, sSeq, sNever, sBrk, sCont, sIf, sRet, sRetO, sRetE, sSet, sSetO, sDrop, sPar, sPar3, kn, enOf, owD, sAsg, gNm, gsNil, gsCons, gTp, sApp, sIns, sExt, sClr, sRev, sPut, sFrz, owAt, fin, st, iRng, iRngB, iSeq, lstD, tupD, sFor, dLc, dDc, wipeE, tYesD, dIndex, dSort, dDictZip, dMeth, dFld, dMk, List.map_cons, List.map_nil, List.length_cons, List.length_nil, List.replicate_succ, List.replicate_zero, List.cons_append, List.nil_append, List.append_nil, List.getElem?_cons_zero, List.getElem?_cons_succ, List.set_cons_zero, List.set_cons_succ, Option.bind_some, Option.map_some, Nat.reduceSub, Nat.reduceAdd, kwP, List.getD_cons_zero, List.getD_cons_succ]
    refine ⟨_, .inl rfl, by rw [List.length_map]; omega, fun os2 h2 => ?_⟩
    obtain ⟨zs, rfl, pz0⟩ := perm_str h2
    have pz : zs.Perm (nms us) := pz0.trans (by rw [← enw]; exact (pu.map _).symm)
    have Wu := W.perm pu
    have Su : Sml us := fun w hw => S w (pu.mem_iff.mp hw)
    have lu : us.length = ws.length := pu.length_eq
    have nl : (nms us).length = us.length := List.length_map _
    have lz := pz.length_eq
    have hz : ∀ z ∈ zs, z ∈ nms us := fun z h => pz.mem_iff.mp h
    have lr : (rowsOf us zs).length ≤ 12 := by have := rows_le (us := us) (zs := zs); omega
    have bd := flat_bd (l := prI (rowsOf us zs)) (f := bnd us zs) (m := 15) fun c => by unfold bnd; rw [List.length_map]; exact cellR_len us zs c.1
    have pl := prI_len (rowsOf us zs)
    have l3 : (prI (rowsOf us zs)).length * 15 ≤ 12 * 15 := Nat.mul_le_mul_right 15 (by omega)
    have lt : (tlsA us zs).length ≤ 1000 := by unfold tlsA; omega
    have tn : ∀ u ∈ tlsA us zs, NameOk u.n := fun u hu => by
      rw [show tlsA us zs = tls (topF us zs) (colsOf us zs) (rowsOf us zs) from (tls_cells Wu.nd hz Su).symm] at hu
      obtain ⟨w, hw, e⟩ := List.mem_map.mp (hz _ (tls_nn (tp := topF us zs) (fun x y n e => topF_mem e) hu))
      rw [← e]
      exact Wu.nm w hw
    have lk : likeD 6 (.lst ((tlsA us zs).map tileD)) = true := by rw [sh_tl tn]; exact decide_eq_true (by omega)
    have sm : ∀ u ∈ tlsA us zs, -100 ≤ u.l ∧ u.l ≤ 100 ∧ -100 ≤ u.r ∧ u.r ≤ 100 := fun u hu => by
      obtain ⟨c, _, hc⟩ := List.mem_flatMap.mp hu
      obtain ⟨r, hr, rfl⟩ := List.mem_map.mp hc
      have := cell_in us zs c.1 r hr
      show -100 ≤ r.l ∧ r.l ≤ 100 ∧ -100 ≤ r.r ∧ r.r ≤ 100
      omega
    have ea : are (tlsA us zs) = sumI (cntX us zs) (-5) 10 := are_tls Wu.nd hz Su
    refine ⟨by decide, by decide, trivial, trivial, ?_⟩
    refine hRW us ws zs (.lst []) W pu pz (by omega) _ _ _ _ _ _ _ _ _ _ _ _ _ _ ?_
    simp only [sSeq]
    refine hLK us ws zs W pu pz (by omega) (by omega) _ _ _ _ _ _ _ _ _ _ _ _ _ fun e9 => ?_
    rw [env12]
    have ls : listD [.lst (zs.map D.str)] = some (.lst (zs.map D.str)) := rfl
    simp only [dC, dV, dB, dO2, ob_some, dT, dAndT, dOrT, dNotT, dIf, dAndV, dOrV, dNotV, dChain, aNil, aCons, dTup, dLst, dCut, oNone, oSome, dRev, dNeg, dTru, dCa, dIs, dIsA, dCall, dCallK, sNil, sSeq, sNever, sBrk, sCont, sIf, sRet, sRetO, sRetE, sSet, sSetO, sDrop, sPar, sPar3, kn, enOf, owD, sAsg, gNm, gsNil, gsCons, gTp, sApp, sIns, sExt, sClr, sRev, sPut, sFrz, owAt, fin, st, iRng, iRngB, iSeq, lstD, tupD, sFor, dLc, dDc, wipeE, tYesD, dIndex, dSort, dDictZip, dMeth, dFld, dMk, List.map_cons, List.map_nil, List.length_cons, List.length_nil, List.replicate_succ, List.replicate_zero, List.cons_append, List.nil_append, List.append_nil, List.getElem?_cons_zero, List.getElem?_cons_succ, List.set_cons_zero, List.set_cons_succ, Option.bind_some, Option.map_some, Nat.reduceSub, Nat.reduceAdd, kwP, List.getD_cons_zero, List.getD_cons_succ, ls]
    refine ⟨by decide, by decide, ?_⟩
    refine loop_rng (fun _ env => ∃ f11 f12, env = env12 C ws us zs (.lst ((tlsA us zs).map tileD)) (.fz (.int (0 + (turn : Nat)))) (.fz (.lst (ns'.map D.str))) (.fz (.lst ((rowsOf us zs).map D.int))) e9 (.fz (.lst (zs.map D.str))) f11 f12 e13 e14 e15 e16 e17 e18) ⟨_, _, rfl⟩ (fun again env _ h k2 hk2 => ?_) (fun env h => ?_)
    · obtain ⟨f11, f12, rfl⟩ := h
      exact hBA us ws zs W Su pu pz (by omega) lk _ _ _ _ _ _ _ _ _ _ _ _ _ fun e => hk2 _ ⟨_, _, rfl⟩
    · obtain ⟨f11, f12, rfl⟩ := h
      simp only [sSeq]
      refine hSZ us ws zs _ lt sm _ _ _ _ _ _ _ _ _ _ _ _ _ _ ?_
      rw [env12]
      simp only [dC, dV, dB, dO2, ob_some, dT, dAndT, dOrT, dNotT, dIf, dAndV, dOrV, dNotV, dChain, aNil, aCons, dTup, dLst, dCut, oNone, oSome, dRev, dNeg, dTru, dCa, dIs, dIsA, dCall, dCallK, sNil, sSeq, sNever, sBrk, sCont, sIf, sRet, sRetO, sRetE, sSet, sSetO, sDrop, sPar, sPar3, kn, enOf, owD, sAsg, gNm, gsNil, gsCons, gTp, sApp, sIns, sExt, sClr, sRev, sPut, sFrz, owAt, fin, st, iRng, iRngB, iSeq, lstD, tupD, sFor, dLc, dDc, wipeE, tYesD, dIndex, dSort, dDictZip, dMeth, dFld, dMk, List.map_cons, List.map_nil, List.length_cons, List.length_nil, List.replicate_succ, List.replicate_zero, List.cons_append, List.nil_append, List.append_nil, List.getElem?_cons_zero, List.getElem?_cons_succ, List.set_cons_zero, List.set_cons_succ, Option.bind_some, Option.map_some, Nat.reduceSub, Nat.reduceAdd, kwP, List.getD_cons_zero, List.getD_cons_succ]
      refine hLX us ws zs _ W pu pz (by omega) _ _ _ _ _ _ _ _ _ _ _ _ _ fun f15 f18 => ?_
      rw [ea]
      refine hLF us ws zs W Su pu pz (by omega) lk _ _ _ _ _ _ _ _ _ _ _ _ _ ?_
      exact hk _ ⟨_, _, _, _, _, _, _, _, _, _, _, _, _, _, _, _, _, rfl⟩
  · obtain ⟨e2, e3, e4, e5, e6, e7, e8, e9, e10, e11, e12, e13, e14, e15, e16, e17, e18, rfl⟩ := h
    exact rfl
end DL
namespace RK
open PySem PySem.Spec PyProof.Rows L2 DL
def topS (i : Nat) : Stmt := PySem.Challenge.pw_raisekeys_k12_tiles_of_orders.main.body.getD i (.Pass ⟨0, 0, 0, 0⟩)
abbrev s_wall : Stmt := topS 0
abbrev s_DeskError___init : Stmt := inClass (topS 2) 0
abbrev s_BadName___init : Stmt := inClass (topS 3) 0
abbrev s_BadRectangle___init : Stmt := inClass (topS 4) 0
abbrev s_BadSize___init : Stmt := inClass (topS 5) 0
abbrev s_BadOrder___init : Stmt := inClass (topS 6) 0
abbrev s_Missing___init : Stmt := inClass (topS 7) 0
abbrev s_Unknown___init : Stmt := inClass (topS 8) 0
abbrev s_check_order : Stmt := topS 10
abbrev s_is_order : Stmt := topS 11
abbrev s_is_rectangle : Stmt := topS 14
abbrev s_has_four_numbers : Stmt := topS 15
abbrev s_covers : Stmt := topS 16
abbrev s_covering : Stmt := topS 18
abbrev s_top_window : Stmt := topS 19
abbrev s_tiles : Stmt := topS 20
abbrev s_band_runs : Stmt := topS 21
abbrev s_is_name : Stmt := topS 26
abbrev s_check_windows : Stmt := topS 27
abbrev s_Desk___init : Stmt := inClass (topS 28) 0
abbrev s_Desk_names : Stmt := inClass (topS 28) 1
abbrev s_Desk_rectangle : Stmt := inClass (topS 28) 2
abbrev s_Desk_overlap : Stmt := inClass (topS 28) 3
abbrev s_Desk_pairs : Stmt := inClass (topS 28) 4
abbrev s_Desk_placed : Stmt := inClass (topS 28) 5
abbrev s_Desk___eq : Stmt := inClass (topS 28) 6
abbrev s_Desk___len : Stmt := inClass (topS 28) 7
abbrev s_Desk___repr : Stmt := inClass (topS 28) 8
abbrev s_bag : Stmt := topS 30
abbrev s_pull : Stmt := topS 31
abbrev s_of : Stmt := topS 32
abbrev s_like : Stmt := topS 33
abbrev s_mixed : Stmt := topS 34
abbrev s_names : Stmt := topS 35
abbrev s_rectangle : Stmt := topS 36
abbrev s_seen : Stmt := topS 37
abbrev s_band : Stmt := topS 38
abbrev s_law : Stmt := topS 39
theorem sc_check_order : FnScope ["desk", "order"] ["desk", "order"] (defScope s_check_order) := ⟨rfl, rfl, rfl, by decide +kernel, rfl, by decide +kernel, by decide +kernel⟩
theorem sc_is_order : FnScope ["desk", "order", "names", "name"] ["desk", "order"] (defScope s_is_order) := ⟨rfl, rfl, rfl, by decide +kernel, rfl, by decide +kernel, by decide +kernel⟩
theorem sc_is_rectangle : FnScope ["rectangle", "left", "top", "right", "bottom", "side"] ["rectangle"] (defScope s_is_rectangle) := ⟨rfl, rfl, rfl, by decide +kernel, rfl, by decide +kernel, by decide +kernel⟩
theorem sc_has_four_numbers : FnScope ["value", "side"] ["value"] (defScope s_has_four_numbers) := ⟨rfl, rfl, rfl, by decide +kernel, rfl, by decide +kernel, by decide +kernel⟩
theorem sc_covers : FnScope ["rectangle", "x", "y", "left", "top", "right", "bottom"] ["rectangle", "x", "y"] (defScope s_covers) := ⟨rfl, rfl, rfl, by decide +kernel, rfl, by decide +kernel, by decide +kernel⟩
theorem sc_covering : FnScope ["desk", "names", "x", "y", "name"] ["desk", "names", "x", "y"] (defScope s_covering) := ⟨rfl, rfl, rfl, by decide +kernel, rfl, by decide +kernel, by decide +kernel⟩
theorem sc_top_window : FnScope ["desk", "order", "x", "y", "found"] ["desk", "order", "x", "y"] (defScope s_top_window) := ⟨rfl, rfl, rfl, by decide +kernel, rfl, by decide +kernel, by decide +kernel⟩
theorem sc_tiles : FnScope ["desk", "order", "rectangles", "columns", "rows", "found", "top", "bottom", "runs", "name", "rectangle", "side", "left", "right"] ["desk", "order"] (defScope s_tiles) := ⟨rfl, rfl, rfl, by decide +kernel, rfl, by decide +kernel, by decide +kernel⟩
theorem sc_band_runs : FnScope ["desk", "order", "columns", "y", "runs", "left", "right", "name"] ["desk", "order", "columns", "y"] (defScope s_band_runs) := ⟨rfl, rfl, rfl, by decide +kernel, rfl, by decide +kernel, by decide +kernel⟩
theorem sc_is_name : FnScope ["text", "letter"] ["text"] (defScope s_is_name) := ⟨rfl, rfl, rfl, by decide +kernel, rfl, by decide +kernel, by decide +kernel⟩
theorem sc_check_windows : FnScope ["windows", "names", "name"] ["windows"] (defScope s_check_windows) := ⟨rfl, rfl, rfl, by decide +kernel, rfl, by decide +kernel, by decide +kernel⟩
theorem sc_Desk___init : FnScope ["self", "windows", "name"] ["self", "windows"] (defScope s_Desk___init) := ⟨rfl, rfl, rfl, by decide +kernel, rfl, by decide +kernel, by decide +kernel⟩
theorem sc_Desk_names : FnScope ["self"] ["self"] (defScope s_Desk_names) := ⟨rfl, rfl, rfl, by decide +kernel, rfl, by decide +kernel, by decide +kernel⟩
theorem sc_Desk_rectangle : FnScope ["self", "name"] ["self", "name"] (defScope s_Desk_rectangle) := ⟨rfl, rfl, rfl, by decide +kernel, rfl, by decide +kernel, by decide +kernel⟩
theorem sc_bag : FnScope ["_law_script", "_law_salt", "_law_cell"] ["_law_script"] (defScope s_bag) := ⟨rfl, rfl, rfl, by decide +kernel, rfl, by decide +kernel, by decide +kernel⟩
theorem sc_pull : FnScope ["_law_bag_here", "_law_amount", "_law_cell", "_law_got", "_law_seed"] ["_law_bag_here", "_law_amount"] (defScope s_pull) := ⟨rfl, rfl, rfl, by decide +kernel, rfl, by decide +kernel, by decide +kernel⟩
theorem sc_of : FnScope ["_law_bag_here", "_law_things"] ["_law_bag_here", "_law_things"] (defScope s_of) := ⟨rfl, rfl, rfl, by decide +kernel, rfl, by decide +kernel, by decide +kernel⟩
theorem sc_like : FnScope ["_law_found", "_law_due", "_law_k"] ["_law_found", "_law_due"] (defScope s_like) := ⟨rfl, rfl, rfl, by decide +kernel, rfl, by decide +kernel, by decide +kernel⟩
theorem sc_mixed : FnScope ["_law_bag_here", "_law_things", "_law_found", "_law_thing"] ["_law_bag_here", "_law_things"] (defScope s_mixed) := ⟨rfl, rfl, rfl, by decide +kernel, rfl, by decide +kernel, by decide +kernel⟩
theorem sc_names : FnScope ["_law_bag_here", "_law_count", "_law_letters", "_law_base", "_law_k", "_law_spot", "_law_first", "_law_step"] ["_law_bag_here", "_law_count"] (defScope s_names) := ⟨rfl, rfl, rfl, by decide +kernel, rfl, by decide +kernel, by decide +kernel⟩
theorem sc_rectangle : FnScope ["_law_bag_here", "_law_scale", "_law_left", "_law_top", "_law_right", "_law_bottom"] ["_law_bag_here", "_law_scale"] (defScope s_rectangle) := ⟨rfl, rfl, rfl, by decide +kernel, rfl, by decide +kernel, by decide +kernel⟩
theorem sc_seen : FnScope ["_law_rects", "_law_order_z", "_law_x", "_law_y", "_law_here", "_law_name"] ["_law_rects", "_law_order_z", "_law_x", "_law_y"] (defScope s_seen) := ⟨rfl, rfl, rfl, by decide +kernel, rfl, by decide +kernel, by decide +kernel⟩
theorem sc_band : FnScope ["_law_rects", "_law_order_z", "_law_top", "_law_bottom", "_law_found", "_law_before", "_law_x", "_law_name", "_law_left", "_law_high", "_law_right", "_law_low"] ["_law_rects", "_law_order_z", "_law_top", "_law_bottom"] (defScope s_band) := ⟨rfl, rfl, rfl, by decide +kernel, rfl, by decide +kernel, by decide +kernel⟩
theorem sc_law : FnScope ["_law_script", "_law_bag_here", "_law_turn", "_law_names_here", "_law_rects", "_law_desk_z", "_law_order_z", "_law_due", "_law_rows", "_law_k", "_law_handed", "_law_again", "_law_found", "_law_size", "_law_cells", "_law_x", "_law_name", "_law_rect", "_law_y"] ["_law_script"] (defScope s_law) := ⟨rfl, rfl, rfl, by decide +kernel, rfl, by decide +kernel, by decide +kernel⟩
def kwG_kb_tiles_0_order_desk {α : Type} : List α → List α → List α
  | [], [c0, c1] => [c1, c0]
  | _, _ => []
structure Txt (K : PySem.W.Frag) (mg : Str → Option Value) where
  f_check_order : Addr
  fd_check_order : FuncData
  F_check_order : Fun K "check_order" "check_order" s_check_order f_check_order fd_check_order
  g_check_order : mg "check_order" = some (.ref f_check_order)
  b_check_order : Binds K fd_check_order ["desk", "order"] []
  f_is_order : Addr
  fd_is_order : FuncData
  F_is_order : Fun K "is_order" "is_order" s_is_order f_is_order fd_is_order
  g_is_order : mg "is_order" = some (.ref f_is_order)
  b_is_order : Binds K fd_is_order ["desk", "order"] []
  f_is_rectangle : Addr
  fd_is_rectangle : FuncData
  F_is_rectangle : Fun K "is_rectangle" "is_rectangle" s_is_rectangle f_is_rectangle fd_is_rectangle
  g_is_rectangle : mg "is_rectangle" = some (.ref f_is_rectangle)
  b_is_rectangle : Binds K fd_is_rectangle ["rectangle"] []
  f_has_four_numbers : Addr
  fd_has_four_numbers : FuncData
  F_has_four_numbers : Fun K "has_four_numbers" "has_four_numbers" s_has_four_numbers f_has_four_numbers fd_has_four_numbers
  g_has_four_numbers : mg "has_four_numbers" = some (.ref f_has_four_numbers)
  b_has_four_numbers : Binds K fd_has_four_numbers ["value"] []
  f_covers : Addr
  fd_covers : FuncData
  F_covers : Fun K "covers" "covers" s_covers f_covers fd_covers
  g_covers : mg "covers" = some (.ref f_covers)
  b_covers : Binds K fd_covers ["rectangle", "x", "y"] []
  f_covering : Addr
  fd_covering : FuncData
  F_covering : Fun K "covering" "covering" s_covering f_covering fd_covering
  g_covering : mg "covering" = some (.ref f_covering)
  b_covering : Binds K fd_covering ["desk", "names", "x", "y"] []
  f_top_window : Addr
  fd_top_window : FuncData
  F_top_window : Fun K "top_window" "top_window" s_top_window f_top_window fd_top_window
  g_top_window : mg "top_window" = some (.ref f_top_window)
  b_top_window : Binds K fd_top_window ["desk", "order", "x", "y"] []
  f_tiles : Addr
  fd_tiles : FuncData
  F_tiles : Fun K "tiles" "tiles" s_tiles f_tiles fd_tiles
  g_tiles : mg "tiles" = some (.ref f_tiles)
  b_tiles : Binds K fd_tiles ["desk", "order"] []
  f_band_runs : Addr
  fd_band_runs : FuncData
  F_band_runs : Fun K "band_runs" "band_runs" s_band_runs f_band_runs fd_band_runs
  g_band_runs : mg "band_runs" = some (.ref f_band_runs)
  b_band_runs : Binds K fd_band_runs ["desk", "order", "columns", "y"] []
  f_is_name : Addr
  fd_is_name : FuncData
  F_is_name : Fun K "is_name" "is_name" s_is_name f_is_name fd_is_name
  g_is_name : mg "is_name" = some (.ref f_is_name)
  b_is_name : Binds K fd_is_name ["text"] []
  f_check_windows : Addr
  fd_check_windows : FuncData
  F_check_windows : Fun K "check_windows" "check_windows" s_check_windows f_check_windows fd_check_windows
  g_check_windows : mg "check_windows" = some (.ref f_check_windows)
  b_check_windows : Binds K fd_check_windows ["windows"] []
  f_bag : Addr
  fd_bag : FuncData
  F_bag : Fun K "_law_bag" "_law_bag" s_bag f_bag fd_bag
  g_bag : mg "_law_bag" = some (.ref f_bag)
  b_bag : Binds K fd_bag ["_law_script"] []
  f_pull : Addr
  fd_pull : FuncData
  F_pull : Fun K "_law_pull" "_law_pull" s_pull f_pull fd_pull
  g_pull : mg "_law_pull" = some (.ref f_pull)
  b_pull : Binds K fd_pull ["_law_bag_here", "_law_amount"] []
  f_of : Addr
  fd_of : FuncData
  F_of : Fun K "_law_of" "_law_of" s_of f_of fd_of
  g_of : mg "_law_of" = some (.ref f_of)
  b_of : Binds K fd_of ["_law_bag_here", "_law_things"] []
  f_like : Addr
  fd_like : FuncData
  F_like : Fun K "_law_like" "_law_like" s_like f_like fd_like
  g_like : mg "_law_like" = some (.ref f_like)
  b_like : Binds K fd_like ["_law_found", "_law_due"] []
  f_mixed : Addr
  fd_mixed : FuncData
  F_mixed : Fun K "_law_mixed" "_law_mixed" s_mixed f_mixed fd_mixed
  g_mixed : mg "_law_mixed" = some (.ref f_mixed)
  b_mixed : Binds K fd_mixed ["_law_bag_here", "_law_things"] []
  f_names : Addr
  fd_names : FuncData
  F_names : Fun K "_law_names" "_law_names" s_names f_names fd_names
  g_names : mg "_law_names" = some (.ref f_names)
  b_names : Binds K fd_names ["_law_bag_here", "_law_count"] []
  f_rectangle : Addr
  fd_rectangle : FuncData
  F_rectangle : Fun K "_law_rectangle" "_law_rectangle" s_rectangle f_rectangle fd_rectangle
  g_rectangle : mg "_law_rectangle" = some (.ref f_rectangle)
  b_rectangle : Binds K fd_rectangle ["_law_bag_here", "_law_scale"] []
  f_seen : Addr
  fd_seen : FuncData
  F_seen : Fun K "_law_seen" "_law_seen" s_seen f_seen fd_seen
  g_seen : mg "_law_seen" = some (.ref f_seen)
  b_seen : Binds K fd_seen ["_law_rects", "_law_order_z", "_law_x", "_law_y"] []
  f_band : Addr
  fd_band : FuncData
  F_band : Fun K "_law_band" "_law_band" s_band f_band fd_band
  g_band : mg "_law_band" = some (.ref f_band)
  b_band : Binds K fd_band ["_law_rects", "_law_order_z", "_law_top", "_law_bottom"] []
  f_law : Addr
  fd_law : FuncData
  F_law : Fun K "law" "law" s_law f_law fd_law
  g_law : mg "law" = some (.ref f_law)
  b_law : Binds K fd_law ["_law_script"] []
  f_Desk___init : Addr
  fd_Desk___init : FuncData
  F_Desk___init : Fun K "__init__" "Desk.__init__" s_Desk___init f_Desk___init fd_Desk___init
  b_Desk___init : Binds K fd_Desk___init ["self", "windows"] []
  f_Desk_names : Addr
  fd_Desk_names : FuncData
  F_Desk_names : Fun K "names" "Desk.names" s_Desk_names f_Desk_names fd_Desk_names
  b_Desk_names : Binds K fd_Desk_names ["self"] []
  f_Desk_rectangle : Addr
  fd_Desk_rectangle : FuncData
  F_Desk_rectangle : Fun K "rectangle" "Desk.rectangle" s_Desk_rectangle f_Desk_rectangle fd_Desk_rectangle
  b_Desk_rectangle : Binds K fd_Desk_rectangle ["self", "name"] []
  C_Desk : Addr
  cl_Desk : Cls K C_Desk
  M_Desk : Mk K C_Desk f_Desk___init
  g_Desk : mg "Desk" = some (.ref C_Desk)
  n_Desk_windows : NoAttr K C_Desk "windows"
  ic_Desk : C8.InsC K C_Desk
  ne_Desk : PySem.W.findIn K (.ref C_Desk) "__ne__" = some (some (.builtin "object.__ne__"))
  mo_Desk : PySem.W.mroIn K C_Desk (.type "object") = some true
  sub_dict_Desk : PySem.W.subIn K (.type "dict") (.ref C_Desk) = some false
  kit_dict_Desk : PySem.W.kitOne K (.type "dict") (.ref C_Desk) = some false
  sub_list_Desk : PySem.W.subIn K (.type "list") (.ref C_Desk) = some false
  kit_list_Desk : PySem.W.kitOne K (.type "list") (.ref C_Desk) = some false
  s_Desk___init : PySem.W.findIn K (.ref C_Desk) "__init__" = some (some (.ref f_Desk___init))
  i_Desk___init : PySem.W.isFn K (.ref f_Desk___init) = true
  M_Desk___init : Meth K C_Desk "__init__" f_Desk___init
  s_Desk_names : PySem.W.findIn K (.ref C_Desk) "names" = some (some (.ref f_Desk_names))
  i_Desk_names : PySem.W.isFn K (.ref f_Desk_names) = true
  M_Desk_names : Meth K C_Desk "names" f_Desk_names
  s_Desk_rectangle : PySem.W.findIn K (.ref C_Desk) "rectangle" = some (some (.ref f_Desk_rectangle))
  i_Desk_rectangle : PySem.W.isFn K (.ref f_Desk_rectangle) = true
  M_Desk_rectangle : Meth K C_Desk "rectangle" f_Desk_rectangle
  kb_tiles_0_order_desk : KBinds K fd_tiles ["desk", "order"] ["order", "desk"] (kwG_kb_tiles_0_order_desk (α := Value)) (kwG_kb_tiles_0_order_desk (α := V))
  t_MOST_COORDINATE : Tok
  c_MOST_COORDINATE : mg "MOST_COORDINATE" = some (.int 1000000000 t_MOST_COORDINATE)
  t_MOST_WINDOWS : Tok
  c_MOST_WINDOWS : mg "MOST_WINDOWS" = some (.int 24 t_MOST_WINDOWS)
  t_MOST_LETTERS : Tok
  c_MOST_LETTERS : mg "MOST_LETTERS" = some (.int 6 t_MOST_LETTERS)
  t_LETTERS : Tok
  c_LETTERS : mg "LETTERS" = some (.str "abcdefghijklmnopqrstuvwxyz" t_LETTERS)
  m_all : mg "all" = none
  m_bool : mg "bool" = none
  m_dict : mg "dict" = none
  m_int : mg "int" = none
  m_isinstance : mg "isinstance" = none
  m_len : mg "len" = none
  m_list : mg "list" = none
  m_range : mg "range" = none
  m_set : mg "set" = none
  m_sorted : mg "sorted" = none
  m_str : mg "str" = none
  m_sum : mg "sum" = none
  m_tuple : mg "tuple" = none
  m_zip : mg "zip" = none
theorem kd_kb_tiles_0_order_desk {K : PySem.W.Frag} {N : Addr → Prop} {W : Wd} {H : Hp} {zs : List V} {es : List D} (h : DdAll K N W H zs es) (hl : es.length = 2) : DdAll K N W H (kwG_kb_tiles_0_order_desk [] zs) (kwP [1, 0] es) := by
  cases h with
  | nil => simp at hl
  | cons h0 h =>
    cases h with
    | nil => simp at hl
    | cons h1 h =>
      cases h with
      | cons _ _ => simp at hl
      | nil => exact (.cons h1 (.cons h0 .nil))
section
variable {P : Program} {w : World} {K : PySem.W.Frag} {mg : Str → Option Value} {base : Heap}
theorem ok_Desk_names (T : Txt K mg) {k : Nat} : FnOk P w K mg base CX0 (k + 1) T.f_Desk_names T.fd_Desk_names ["self"] (lSp K true (sp_Desk_names T.C_Desk)) := by
  refine T.F_Desk_names.ok sc_Desk_names (fun vs H Q E h => ?_) (fun cdv A outer s H vs Q E hr h => ?_)
  · obtain ⟨W, N0, ds, Pd, _, _, _, dd, sp, _⟩ := h
    rw [dd.len]
    exact ln_Desk_names sp
  · obtain ⟨W, N0, ds, Pd, al, wn, ok, dd, sp, q⟩ := h
    have tm : PSs (cxOf CX0 P w K mg base ["self"] "Desk.names" (defScope s_Desk_names) T.f_Desk_names cdv A outer s H E).nox (defBody s_Desk_names) (lS ⟨K, W, N0, H, true⟩ (d_Desk_names T.C_Desk)) := ((ss_one (ds_retN (dn_list (by rfl) T.m_list (c_b (PE.mono (pe_fld (dd_v (pv 0)) rfl) (l_fld T.cl_Desk T.n_Desk_windows)))))))
    exact ⟨_, tm, fn_d al wn ok dd q (rd_Desk_names sp)⟩
theorem ok_is_order (T : Txt K mg) {k : Nat} : FnOk P w K mg base CX0 (k + 2) T.f_is_order T.fd_is_order ["desk", "order"] (lSp K false (sp_is_order T.C_Desk)) := by
  refine T.F_is_order.ok sc_is_order (fun vs H Q E h => ?_) (fun cdv A outer s H vs Q E hr h => ?_)
  · obtain ⟨W, N0, ds, Pd, _, _, _, dd, sp, _⟩ := h
    rw [dd.len]
    exact ln_is_order sp
  · obtain ⟨W, N0, ds, Pd, al, wn, ok, dd, sp, q⟩ := h
    have tm : PSs (cxOf CX0 P w K mg base ["desk", "order", "names", "name"] "is_order" (defScope s_is_order) T.f_is_order cdv A outer s H E).nox (defBody s_is_order) (lS ⟨K, W, N0, H, false⟩ (d_is_order T.C_Desk)) := ((ss_cons (ds_set (i := 2) sc_is_order.nd rfl (.inl rfl) (PE.mono (pe_meth0 (dd_v (pv 0)) T.cl_Desk T.M_Desk_names (ok_Desk_names T) hr T.b_Desk_names .nil pass0) (l_meth0 rfl)))
      (ss_one (ds_ret (by rfl) (dd_and (dd_eq hr (c_b (dd_len (by rfl) T.m_len (c_b (dd_v (pv 1))))) (c_b (dd_len (by rfl) T.m_len (c_b (dd_v (pv 2)))))) (dd_one (dd_all (by rfl) T.m_all (c_b (n_c (PE.mono (pe_lc (own := [("name", 3)]) (by rfl) sc_is_order.nd (db_seq (c_b (dd_v (pv 2)))) (blkOk_by (own := [("name", 3)]) (N := ["desk", "order", "names", "name"]) (sc := defScope s_is_order) (by decide +kernel)) (fun _ _ _ _ _ => (dg_name (i := 3) sc_is_order.nd rfl (Or.inl rfl))) (fun _ _ _ _ _ => ts_nil) (fun _ _ _ _ _ => (dd_in hr (c_b (dd_v (pv 3))) (c_b (dd_v (pv 1)))))) (l_lc (by simp))))))))))))
    exact ⟨_, tm, fn_d al wn ok dd q (rd_is_order sp)⟩
theorem ok_check_order (T : Txt K mg) {k : Nat} : FnOk P w K mg base CX0 (k + 3) T.f_check_order T.fd_check_order ["desk", "order"] (lSp K false (sp_check_order T.C_Desk)) := by
  refine T.F_check_order.ok sc_check_order (fun vs H Q E h => ?_) (fun cdv A outer s H vs Q E hr h => ?_)
  · obtain ⟨W, N0, ds, Pd, _, _, _, dd, sp, _⟩ := h
    rw [dd.len]
    exact ln_check_order sp
  · obtain ⟨W, N0, ds, Pd, al, wn, ok, dd, sp, q⟩ := h
    have tm : PSs (cxOf CX0 P w K mg base ["desk", "order"] "check_order" (defScope s_check_order) T.f_check_order cdv A outer s H E).nox (defBody s_check_order) (lS ⟨K, W, N0, H, false⟩ (d_check_order T.C_Desk)) := ((ss_one (ds_if (dt_not (dt_val (dd_call (ok_is_order T) hr (by rfl) T.g_is_order T.F_is_order.kp T.b_is_order pass0 (da_cons (dd_v (pv 0)) (da_cons (dd_v (pv 1)) da_nil))))) (ss_one ds_never) ss_nil)))
    exact ⟨_, tm, fn_d al wn ok dd q (rd_check_order sp)⟩
theorem ok_has_four_numbers (T : Txt K mg) {k : Nat} : FnOk P w K mg base CX0 (k + 1) T.f_has_four_numbers T.fd_has_four_numbers ["value"] (lSp K false sp_has_four_numbers) := by
  refine T.F_has_four_numbers.ok sc_has_four_numbers (fun vs H Q E h => ?_) (fun cdv A outer s H vs Q E hr h => ?_)
  · obtain ⟨W, N0, ds, Pd, _, _, _, dd, sp, _⟩ := h
    rw [dd.len]
    exact ln_has_four_numbers sp
  · obtain ⟨W, N0, ds, Pd, al, wn, ok, dd, sp, q⟩ := h
    have tm : PSs (cxOf CX0 P w K mg base ["value", "side"] "has_four_numbers" (defScope s_has_four_numbers) T.f_has_four_numbers cdv A outer s H E).nox (defBody s_has_four_numbers) (lS ⟨K, W, N0, H, false⟩ (d_has_four_numbers)) := ((ss_cons (ds_if (PW.pt (wt_or (dt_not (dt_val (dd_isi (by rfl) T.m_isinstance (c_b (dd_v (pv 0))) (pe_bltn (v := .ty "tuple") (by rfl) T.m_tuple (by decide +kernel) rfl)))) (wt_or1 (dt_ne hr (c_b (dd_len (by rfl) T.m_len (c_b (dd_v (pv 0))))) (c_b dd_int))))) (ss_one (ds_ret (by rfl) dd_bl)) ss_nil)
      (ss_one (ds_ret (by rfl) (dd_all (by rfl) T.m_all (c_b (n_c (PE.mono (pe_lc (own := [("side", 1)]) (by rfl) sc_has_four_numbers.nd (db_seq (c_b (dd_v (pv 0)))) (blkOk_by (own := [("side", 1)]) (N := ["value", "side"]) (sc := defScope s_has_four_numbers) (by decide +kernel)) (fun _ _ _ _ _ => (dg_name (i := 1) sc_has_four_numbers.nd rfl (Or.inl rfl))) (fun _ _ _ _ _ => ts_nil) (fun _ _ _ _ _ => (dd_isi (by rfl) T.m_isinstance (c_b (dd_v (pv 1))) (pe_bltn (v := .ty "int") (by rfl) T.m_int (by decide +kernel) rfl)))) (l_lc (by simp))))))))))
    exact ⟨_, tm, fn_d al wn ok dd q (rd_has_four_numbers sp)⟩
theorem ok_is_rectangle (T : Txt K mg) {k : Nat} : FnOk P w K mg base CX0 (k + 2) T.f_is_rectangle T.fd_is_rectangle ["rectangle"] (lSp K false sp_is_rectangle) := by
  refine T.F_is_rectangle.ok sc_is_rectangle (fun vs H Q E h => ?_) (fun cdv A outer s H vs Q E hr h => ?_)
  · obtain ⟨W, N0, ds, Pd, _, _, _, dd, sp, _⟩ := h
    rw [dd.len]
    exact ln_is_rectangle sp
  · obtain ⟨W, N0, ds, Pd, al, wn, ok, dd, sp, q⟩ := h
    have tm : PSs (cxOf CX0 P w K mg base ["rectangle", "left", "top", "right", "bottom", "side"] "is_rectangle" (defScope s_is_rectangle) T.f_is_rectangle cdv A outer s H E).nox (defBody s_is_rectangle) (lS ⟨K, W, N0, H, false⟩ (d_is_rectangle)) := ((ss_cons (ds_if (dt_not (dt_val (dd_call (ok_has_four_numbers T) hr (by rfl) T.g_has_four_numbers T.F_has_four_numbers.kp T.b_has_four_numbers pass0 (da_cons (dd_v (pv 0)) da_nil)))) (ss_one (ds_ret (by rfl) dd_bl)) ss_nil)
      (ss_cons (PS.mono (ps_asg (dd_v (pv 0)) (PG.mono (pg_tup (by rfl) (PGs.mono (pgs_cons (dg_name (i := 1) sc_is_rectangle.nd rfl (Or.inl rfl)) (PGs.mono (pgs_cons (dg_name (i := 2) sc_is_rectangle.nd rfl (Or.inl rfl)) (PGs.mono (pgs_cons (dg_name (i := 3) sc_is_rectangle.nd rfl (Or.inl rfl)) (PGs.mono (pgs_cons (dg_name (i := 4) sc_is_rectangle.nd rfl (Or.inl rfl)) dgs_nil) l_gcons)) l_gcons)) l_gcons)) l_gcons)) (l_gtup rfl))) l_asg)
      (ss_cons (ds_if (dt_not (dt_val (dd_all (by rfl) T.m_all (c_b (n_c (PE.mono (pe_lc (own := [("side", 5)]) (by rfl) sc_is_rectangle.nd (db_seq (c_b (dd_v (pv 0)))) (blkOk_by (own := [("side", 5)]) (N := ["rectangle", "left", "top", "right", "bottom", "side"]) (sc := defScope s_is_rectangle) (by decide +kernel)) (fun _ _ _ _ _ => (dg_name (i := 5) sc_is_rectangle.nd rfl (Or.inl rfl))) (fun _ _ _ _ _ => ts_nil) (fun _ _ _ _ _ => (dd_lele (c_b (dd_neg (c_lift (x := .int 1000000000) (pe_glob (v := .int 1000000000) (by rfl) T.c_MOST_COORDINATE ⟨_, rfl⟩) (fun _ _ _ _ => .int _)))) (c_b (dd_v (pv 5))) (c_b (c_lift (x := .int 1000000000) (pe_glob (v := .int 1000000000) (by rfl) T.c_MOST_COORDINATE ⟨_, rfl⟩) (fun _ _ _ _ => .int _)))))) (l_lc (by simp)))))))) (ss_one (ds_ret (by rfl) dd_bl)) ss_nil)
      (ss_one (ds_ret (by rfl) (dd_and (dd_lt (c_b (dd_v (pv 1))) (c_b (dd_v (pv 3)))) (dd_one (dd_lt (c_b (dd_v (pv 2))) (c_b (dd_v (pv 4))))))))))))
    exact ⟨_, tm, fn_d al wn ok dd q (rd_is_rectangle sp)⟩
theorem ok_covers (T : Txt K mg) {k : Nat} : FnOk P w K mg base CX0 (k + 1) T.f_covers T.fd_covers ["rectangle", "x", "y"] (lSp K false sp_covers) := by
  refine T.F_covers.ok sc_covers (fun vs H Q E h => ?_) (fun cdv A outer s H vs Q E hr h => ?_)
  · obtain ⟨W, N0, ds, Pd, _, _, _, dd, sp, _⟩ := h
    rw [dd.len]
    exact ln_covers sp
  · obtain ⟨W, N0, ds, Pd, al, wn, ok, dd, sp, q⟩ := h
    have tm : PSs (cxOf CX0 P w K mg base ["rectangle", "x", "y", "left", "top", "right", "bottom"] "covers" (defScope s_covers) T.f_covers cdv A outer s H E).nox (defBody s_covers) (lS ⟨K, W, N0, H, false⟩ (d_covers)) := ((ss_cons (PS.mono (ps_asg (dd_v (pv 0)) (PG.mono (pg_tup (by rfl) (PGs.mono (pgs_cons (dg_name (i := 3) sc_covers.nd rfl (Or.inl rfl)) (PGs.mono (pgs_cons (dg_name (i := 4) sc_covers.nd rfl (Or.inl rfl)) (PGs.mono (pgs_cons (dg_name (i := 5) sc_covers.nd rfl (Or.inl rfl)) (PGs.mono (pgs_cons (dg_name (i := 6) sc_covers.nd rfl (Or.inl rfl)) dgs_nil) l_gcons)) l_gcons)) l_gcons)) l_gcons)) (l_gtup rfl))) l_asg)
      (ss_one (ds_ret (by rfl) (dd_and (dd_lelt (c_b (dd_v (pv 3))) (c_b (dd_v (pv 1))) (c_b (dd_v (pv 5)))) (dd_one (dd_lelt (c_b (dd_v (pv 4))) (c_b (dd_v (pv 2))) (c_b (dd_v (pv 6))))))))))
    exact ⟨_, tm, fn_d al wn ok dd q (rd_covers sp)⟩
theorem ok_Desk_rectangle (T : Txt K mg) {k : Nat} : FnOk P w K mg base CX0 (k + 1) T.f_Desk_rectangle T.fd_Desk_rectangle ["self", "name"] (lSp K false (sp_Desk_rectangle T.C_Desk)) := by
  refine T.F_Desk_rectangle.ok sc_Desk_rectangle (fun vs H Q E h => ?_) (fun cdv A outer s H vs Q E hr h => ?_)
  · obtain ⟨W, N0, ds, Pd, _, _, _, dd, sp, _⟩ := h
    rw [dd.len]
    exact ln_Desk_rectangle sp
  · obtain ⟨W, N0, ds, Pd, al, wn, ok, dd, sp, q⟩ := h
    have tm : PSs (cxOf CX0 P w K mg base ["self", "name"] "Desk.rectangle" (defScope s_Desk_rectangle) T.f_Desk_rectangle cdv A outer s H E).nox (defBody s_Desk_rectangle) (lS ⟨K, W, N0, H, false⟩ (d_Desk_rectangle T.C_Desk)) := ((ss_cons (ds_if (dt_notin hr (c_b (dd_v (pv 1))) (c_b (PE.mono (pe_fld (dd_v (pv 0)) rfl) (l_fld T.cl_Desk T.n_Desk_windows)))) (ss_one ds_never) ss_nil)
      (ss_one (ds_ret (by rfl) (dd_ix hr (c_b (PE.mono (pe_fld (dd_v (pv 0)) rfl) (l_fld T.cl_Desk T.n_Desk_windows))) (c_b (dd_v (pv 1))))))))
    exact ⟨_, tm, fn_d al wn ok dd q (rd_Desk_rectangle sp)⟩
theorem ok_covering (T : Txt K mg) {k : Nat} : FnOk P w K mg base CX0 (k + 2) T.f_covering T.fd_covering ["desk", "names", "x", "y"] (lSp K true (sp_covering T.C_Desk)) := by
  refine T.F_covering.ok sc_covering (fun vs H Q E h => ?_) (fun cdv A outer s H vs Q E hr h => ?_)
  · obtain ⟨W, N0, ds, Pd, _, _, _, dd, sp, _⟩ := h
    rw [dd.len]
    exact ln_covering sp
  · obtain ⟨W, N0, ds, Pd, al, wn, ok, dd, sp, q⟩ := h
    have tm : PSs (cxOf CX0 P w K mg base ["desk", "names", "x", "y", "name"] "covering" (defScope s_covering) T.f_covering cdv A outer s H E).nox (defBody s_covering) (lS ⟨K, W, N0, H, true⟩ (d_covering T.C_Desk)) := ((ss_one (ds_retN (PE.mono (pe_lc (own := [("name", 4)]) (by rfl) sc_covering.nd (db_seq (c_b (dd_v (pv 1)))) (blkOk_by (own := [("name", 4)]) (N := ["desk", "names", "x", "y", "name"]) (sc := defScope s_covering) (by decide +kernel)) (fun _ _ _ _ _ => (dg_name (i := 4) sc_covering.nd rfl (Or.inl rfl))) (fun _ _ _ _ _ => (ts_one (dt_val (dd_call (ok_covers T) hr (by rfl) T.g_covers T.F_covers.kp T.b_covers pass0 (da_cons (PE.mono (pe_meth (dd_v (pv 0)) T.cl_Desk T.M_Desk_rectangle (ok_Desk_rectangle T) hr T.b_Desk_rectangle .nil pass0 (da_cons (dd_v (pv 4)) da_nil)) (l_meth rfl)) (da_cons (dd_v (pv 2)) (da_cons (dd_v (pv 3)) da_nil))))))) (fun _ _ _ _ _ => (dd_v (pv 4)))) (l_lc (by simp))))))
    exact ⟨_, tm, fn_d al wn ok dd q (rd_covering sp)⟩
theorem ok_top_window (T : Txt K mg) {k : Nat} : FnOk P w K mg base CX0 (k + 3) T.f_top_window T.fd_top_window ["desk", "order", "x", "y"] (lSp K false (sp_top_window T.C_Desk)) := by
  refine T.F_top_window.ok sc_top_window (fun vs H Q E h => ?_) (fun cdv A outer s H vs Q E hr h => ?_)
  · obtain ⟨W, N0, ds, Pd, _, _, _, dd, sp, _⟩ := h
    rw [dd.len]
    exact ln_top_window sp
  · obtain ⟨W, N0, ds, Pd, al, wn, ok, dd, sp, q⟩ := h
    have tm : PSs (cxOf CX0 P w K mg base ["desk", "order", "x", "y", "found"] "top_window" (defScope s_top_window) T.f_top_window cdv A outer s H E).nox (defBody s_top_window) (lS ⟨K, W, N0, H, false⟩ (d_top_window T.C_Desk)) := ((ss_cons (ds_set (i := 4) sc_top_window.nd rfl (.inl rfl) (n_c (dn_call (ok_covering T) hr (by rfl) T.g_covering T.F_covering.kp T.b_covering pass0 (da_cons (dd_v (pv 0)) (da_cons (dd_v (pv 1)) (da_cons (dd_v (pv 2)) (da_cons (dd_v (pv 3)) da_nil)))))))
      (ss_one (ds_ret (by rfl) (dd_if (dt_tru (c_b (dd_v (pv 4)))) (dd_ix hr (c_b (dd_v (pv 4))) (c_b (dd_neg dd_int))) dd_non)))))
    exact ⟨_, tm, fn_d al wn ok dd q (rd_top_window sp)⟩
theorem ok_band_runs (T : Txt K mg) {k : Nat} : FnOk P w K mg base CX0 (k + 4) T.f_band_runs T.fd_band_runs ["desk", "order", "columns", "y"] (lSp K true (sp_band_runs T.C_Desk)) := by
  refine T.F_band_runs.ok sc_band_runs (fun vs H Q E h => ?_) (fun cdv A outer s H vs Q E hr h => ?_)
  · obtain ⟨W, N0, ds, Pd, _, _, _, dd, sp, _⟩ := h
    rw [dd.len]
    exact ln_band_runs sp
  · obtain ⟨W, N0, ds, Pd, al, wn, ok, dd, sp, q⟩ := h
    have tm : PSs (cxOf CX0 P w K mg base ["desk", "order", "columns", "y", "runs", "left", "right", "name"] "band_runs" (defScope s_band_runs) T.f_band_runs cdv A outer s H E).nox (defBody s_band_runs) (lS ⟨K, W, N0, H, true⟩ (d_band_runs T.C_Desk)) := ((ss_cons (ds_setO (i := 4) sc_band_runs.nd rfl (.inl rfl) (dn_lst da_nil))
      (ss_cons (ds_for PassesOwn.never rfl (di_zip (by rfl) T.m_zip (dd_v (pv 2)) (dd_cut (c_b (dd_v (pv 2))) (do_some dd_int) do_none)) (PG.mono (pg_tup (by rfl) (PGs.mono (pgs_cons (dg_name (i := 5) sc_band_runs.nd rfl (Or.inl rfl)) (PGs.mono (pgs_cons (dg_name (i := 6) sc_band_runs.nd rfl (Or.inl rfl)) dgs_nil) l_gcons)) l_gcons)) (l_gtup rfl)) (ss_cons (ds_set (i := 7) sc_band_runs.nd rfl (.inl rfl) (dd_call (ok_top_window T) hr (by rfl) T.g_top_window T.F_top_window.kp T.b_top_window pass0 (da_cons (dd_v (pv 0)) (da_cons (dd_v (pv 1)) (da_cons (dd_v (pv 5)) (da_cons (dd_v (pv 3)) da_nil))))))
      (ss_cons (ds_if (dt_is (c_b (dd_v (pv 7))) (c_b dd_non)) (ss_one ds_cont) ss_nil)
      (ss_one (ds_if (PW.pt (wt_and (dt_tru (dd_b (pv 4))) (wt_and1 (dt_eq hr (c_b (dd_cut (c_b (dd_ix hr (dd_b (pv 4)) (c_b (dd_neg dd_int)))) (do_some dd_int) do_none)) (c_b (n_c (dn_tup (da_cons (dd_v (pv 5)) (da_cons (dd_v (pv 7)) da_nil))))))))) (ss_one (PS.mono (ps_asg (n_c (dn_tup (da_cons (dd_ix hr (c_b (dd_ix hr (dd_b (pv 4)) (c_b (dd_neg dd_int)))) (c_b dd_int)) (da_cons (dd_v (pv 6)) (da_cons (dd_v (pv 7)) da_nil))))) (pg_sub (pv 4) (dd_neg dd_int) L2.set_list)) l_put)) (ss_one (ds_app (pv 4) (n_c (dn_tup (da_cons (dd_v (pv 5)) (da_cons (dd_v (pv 6)) (da_cons (dd_v (pv 7)) da_nil))))))))))))
      (ss_one (ds_retO (pv 4))))))
    exact ⟨_, tm, fn_d al wn ok dd q (rd_band_runs sp)⟩
theorem ok_tiles (T : Txt K mg) {k : Nat} : FnOk P w K mg base CX0 (k + 5) T.f_tiles T.fd_tiles ["desk", "order"] (lSp K true (sp_tiles T.C_Desk)) := by
  refine T.F_tiles.ok sc_tiles (fun vs H Q E h => ?_) (fun cdv A outer s H vs Q E hr h => ?_)
  · obtain ⟨W, N0, ds, Pd, _, _, _, dd, sp, _⟩ := h
    rw [dd.len]
    exact ln_tiles sp
  · obtain ⟨W, N0, ds, Pd, al, wn, ok, dd, sp, q⟩ := h
    have tm : PSs (cxOf CX0 P w K mg base ["desk", "order", "rectangles", "columns", "rows", "found", "top", "bottom", "runs", "name", "rectangle", "side", "left", "right"] "tiles" (defScope s_tiles) T.f_tiles cdv A outer s H E).nox (defBody s_tiles) (lS ⟨K, W, N0, H, true⟩ (d_tiles T.C_Desk)) := ((ss_cons (ds_expr (dd_call (ok_check_order T) hr (by rfl) T.g_check_order T.F_check_order.kp T.b_check_order pass0 (da_cons (dd_v (pv 0)) (da_cons (dd_v (pv 1)) da_nil))))
      (ss_cons (PS.mono (ps_setLc (i := 2) (own := [("name", 9)]) (by rfl) sc_tiles.nd rfl rfl (sw_true rfl rfl rfl (by decide +kernel)) (db_seq (c_b (dd_v (pv 1)))) (blkOk_by (own := [("name", 9)]) (N := ["desk", "order", "rectangles", "columns", "rows", "found", "top", "bottom", "runs", "name", "rectangle", "side", "left", "right"]) (sc := defScope s_tiles) (by decide +kernel)) (fun _ _ _ _ _ => (dg_name (i := 9) sc_tiles.nd rfl (Or.inl rfl))) (fun _ _ _ _ _ => ts_nil) (fun _ _ _ _ _ => (PE.mono (pe_meth (dd_v (pv 0)) T.cl_Desk T.M_Desk_rectangle (ok_Desk_rectangle T) hr T.b_Desk_rectangle .nil pass0 (da_cons (dd_v (pv 9)) da_nil)) (l_meth rfl)))) (l_setF_n (l_lc (by simp))))
      (ss_cons (ds_set (i := 3) sc_tiles.nd rfl (.inl rfl) (n_c (PE.mono (RK.pe_sortSc2 (own := [("rectangle", 10), ("side", 11)]) (vs1 := [11]) (by rfl) (by rfl) T.m_sorted sc_tiles.nd (db_seq (c_b (dd_v (pv 2)))) (blkOk_by (own := [("rectangle", 10), ("side", 11)]) (N := ["desk", "order", "rectangles", "columns", "rows", "found", "top", "bottom", "runs", "name", "rectangle", "side", "left", "right"]) (sc := defScope s_tiles) (by decide +kernel)) (by simp) (fun _ _ _ _ _ => (dg_name (i := 10) sc_tiles.nd rfl (Or.inl rfl))) (fun _ _ _ _ _ => ts_nil) (fun _ _ _ _ _ => (di_seq (n_c (dn_tup (da_cons (dd_ix hr (c_b (dd_v (pv 10))) (c_b dd_int)) (da_cons (dd_ix hr (c_b (dd_v (pv 10))) (c_b dd_int)) da_nil)))))) (fun _ _ _ _ _ => (dg_name (i := 11) sc_tiles.nd rfl (Or.inl rfl))) (fun _ _ _ _ _ => ts_nil) (fun _ _ _ _ _ => (dd_v (pv 11)))) (l_ss (by simp) (by simp)))))
      (ss_cons (ds_set (i := 4) sc_tiles.nd rfl (.inl rfl) (n_c (PE.mono (RK.pe_sortSc2 (own := [("rectangle", 10), ("side", 11)]) (vs1 := [11]) (by rfl) (by rfl) T.m_sorted sc_tiles.nd (db_seq (c_b (dd_v (pv 2)))) (blkOk_by (own := [("rectangle", 10), ("side", 11)]) (N := ["desk", "order", "rectangles", "columns", "rows", "found", "top", "bottom", "runs", "name", "rectangle", "side", "left", "right"]) (sc := defScope s_tiles) (by decide +kernel)) (by simp) (fun _ _ _ _ _ => (dg_name (i := 10) sc_tiles.nd rfl (Or.inl rfl))) (fun _ _ _ _ _ => ts_nil) (fun _ _ _ _ _ => (di_seq (n_c (dn_tup (da_cons (dd_ix hr (c_b (dd_v (pv 10))) (c_b dd_int)) (da_cons (dd_ix hr (c_b (dd_v (pv 10))) (c_b dd_int)) da_nil)))))) (fun _ _ _ _ _ => (dg_name (i := 11) sc_tiles.nd rfl (Or.inl rfl))) (fun _ _ _ _ _ => ts_nil) (fun _ _ _ _ _ => (dd_v (pv 11)))) (l_ss (by simp) (by simp)))))
      (ss_cons (ds_setO (i := 5) sc_tiles.nd rfl (.inl rfl) (dn_lst da_nil))
      (ss_cons (ds_for PassesOwn.never rfl (di_zip (by rfl) T.m_zip (dd_v (pv 4)) (dd_cut (c_b (dd_v (pv 4))) (do_some dd_int) do_none)) (PG.mono (pg_tup (by rfl) (PGs.mono (pgs_cons (dg_name (i := 6) sc_tiles.nd rfl (Or.inr rfl)) (PGs.mono (pgs_cons (dg_name (i := 7) sc_tiles.nd rfl (Or.inr rfl)) dgs_nil) l_gcons)) l_gcons)) (l_gtup rfl)) (ss_cons (ds_set (i := 8) sc_tiles.nd rfl (.inl rfl) (n_c (dn_call (ok_band_runs T) hr (by rfl) T.g_band_runs T.F_band_runs.kp T.b_band_runs pass0 (da_cons (dd_v (pv 0)) (da_cons (dd_v (pv 1)) (da_cons (dd_v (pv 3)) (da_cons (dd_v (pv 6)) da_nil)))))))
      (ss_one (ds_ext (pv 5) (c_b (n_c (PE.mono (pe_lc (own := [("left", 12), ("right", 13), ("name", 9)]) (by rfl) sc_tiles.nd (db_seq (c_b (dd_v (pv 8)))) (blkOk_by (own := [("left", 12), ("right", 13), ("name", 9)]) (N := ["desk", "order", "rectangles", "columns", "rows", "found", "top", "bottom", "runs", "name", "rectangle", "side", "left", "right"]) (sc := defScope s_tiles) (by decide +kernel)) (fun _ _ _ _ _ => (PG.mono (pg_tup (by rfl) (PGs.mono (pgs_cons (dg_name (i := 12) sc_tiles.nd rfl (Or.inl rfl)) (PGs.mono (pgs_cons (dg_name (i := 13) sc_tiles.nd rfl (Or.inl rfl)) (PGs.mono (pgs_cons (dg_name (i := 9) sc_tiles.nd rfl (Or.inl rfl)) dgs_nil) l_gcons)) l_gcons)) l_gcons)) (l_gtup rfl))) (fun _ _ _ _ _ => ts_nil) (fun _ _ _ _ _ => (n_c (dn_tup (da_cons (n_c (dn_tup (da_cons (dd_v (pv 12)) (da_cons (dd_v (pv 6)) (da_cons (dd_v (pv 13)) (da_cons (dd_v (pv 7)) da_nil)))))) (da_cons (dd_v (pv 9)) da_nil)))))) (l_lc (by simp)))))))))
      (ss_one (ds_retO (pv 5))))))))))
    exact ⟨_, tm, fn_d al wn ok dd q (rd_tiles sp)⟩
theorem ok_is_name (T : Txt K mg) {k : Nat} : FnOk P w K mg base CX0 (k + 1) T.f_is_name T.fd_is_name ["text"] (lSp K false sp_is_name) := by
  refine T.F_is_name.ok sc_is_name (fun vs H Q E h => ?_) (fun cdv A outer s H vs Q E hr h => ?_)
  · obtain ⟨W, N0, ds, Pd, _, _, _, dd, sp, _⟩ := h
    rw [dd.len]
    exact ln_is_name sp
  · obtain ⟨W, N0, ds, Pd, al, wn, ok, dd, sp, q⟩ := h
    have tm : PSs (cxOf CX0 P w K mg base ["text", "letter"] "is_name" (defScope s_is_name) T.f_is_name cdv A outer s H E).nox (defBody s_is_name) (lS ⟨K, W, N0, H, false⟩ (d_is_name)) := ((ss_cons (ds_if (PW.pt (wt_or (dt_not (dt_val (dd_isi (by rfl) T.m_isinstance (c_b (dd_v (pv 0))) (pe_bltn (v := .ty "str") (by rfl) T.m_str (by decide +kernel) rfl)))) (wt_or1 (dt_not (dt_lele (c_b dd_int) (c_b (dd_len (by rfl) T.m_len (c_b (dd_v (pv 0))))) (c_b (c_lift (x := .int 6) (pe_glob (v := .int 6) (by rfl) T.c_MOST_LETTERS ⟨_, rfl⟩) (fun _ _ _ _ => .int _)))))))) (ss_one (ds_ret (by rfl) dd_bl)) ss_nil)
      (ss_one (ds_ret (by rfl) (dd_all (by rfl) T.m_all (c_b (n_c (PE.mono (pe_lc (own := [("letter", 1)]) (by rfl) sc_is_name.nd (db_seq (c_b (dd_v (pv 0)))) (blkOk_by (own := [("letter", 1)]) (N := ["text", "letter"]) (sc := defScope s_is_name) (by decide +kernel)) (fun _ _ _ _ _ => (dg_name (i := 1) sc_is_name.nd rfl (Or.inl rfl))) (fun _ _ _ _ _ => ts_nil) (fun _ _ _ _ _ => (dd_in hr (c_b (dd_v (pv 1))) (c_b (c_lift (x := .str "abcdefghijklmnopqrstuvwxyz") (pe_glob (v := .str "abcdefghijklmnopqrstuvwxyz") (by rfl) T.c_LETTERS ⟨_, rfl⟩) (fun _ _ _ _ => .str _)))))) (l_lc (by simp))))))))))
    exact ⟨_, tm, fn_d al wn ok dd q (rd_is_name sp)⟩
theorem ok_check_windows (T : Txt K mg) {k : Nat} : FnOk P w K mg base CX0 (k + 3) T.f_check_windows T.fd_check_windows ["windows"] (lSp K false sp_check_windows) := by
  refine T.F_check_windows.ok sc_check_windows (fun vs H Q E h => ?_) (fun cdv A outer s H vs Q E hr h => ?_)
  · obtain ⟨W, N0, ds, Pd, _, _, _, dd, sp, _⟩ := h
    rw [dd.len]
    exact ln_check_windows sp
  · obtain ⟨W, N0, ds, Pd, al, wn, ok, dd, sp, q⟩ := h
    have tm : PSs (cxOf CX0 P w K mg base ["windows", "names", "name"] "check_windows" (defScope s_check_windows) T.f_check_windows cdv A outer s H E).nox (defBody s_check_windows) (lS ⟨K, W, N0, H, false⟩ (d_check_windows)) := ((ss_cons (ds_if (dt_not (dt_lele (c_b dd_int) (c_b (dd_len (by rfl) T.m_len (c_b (dd_v (pv 0))))) (c_b (c_lift (x := .int 24) (pe_glob (v := .int 24) (by rfl) T.c_MOST_WINDOWS ⟨_, rfl⟩) (fun _ _ _ _ => .int _))))) (ss_one ds_never) ss_nil)
      (ss_cons (ds_set (i := 1) sc_check_windows.nd rfl (.inl rfl) (n_c (dn_sort (by rfl) T.m_sorted (c_b (dd_v (pv 0))))))
      (ss_cons (ds_for PassesOwn.never rfl (di_seq (dd_v (pv 1))) (dg_name (i := 2) sc_check_windows.nd rfl (Or.inl rfl)) (ss_one (ds_if (dt_not (dt_val (dd_call (ok_is_name T) hr (by rfl) T.g_is_name T.F_is_name.kp T.b_is_name pass0 (da_cons (dd_v (pv 2)) da_nil)))) (ss_one ds_never) ss_nil)))
      (ss_one (ds_for PassesOwn.never rfl (di_seq (dd_v (pv 1))) (dg_name (i := 2) sc_check_windows.nd rfl (Or.inl rfl)) (ss_one (ds_if (dt_not (dt_val (dd_call (ok_is_rectangle T) hr (by rfl) T.g_is_rectangle T.F_is_rectangle.kp T.b_is_rectangle pass0 (da_cons (dd_ix hr (c_b (dd_v (pv 0))) (c_b (dd_v (pv 2)))) da_nil)))) (ss_one ds_never) ss_nil))))))))
    exact ⟨_, tm, fn_d al wn ok dd q (rd_check_windows sp)⟩
theorem ok_Desk___init (T : Txt K mg) {k : Nat} : FnOk P w K mg base CX0 (k + 4) T.f_Desk___init T.fd_Desk___init ["self", "windows"] (lInit K T.C_Desk "windows" sp_Desk___init) := by
  refine T.F_Desk___init.ok sc_Desk___init (fun vs H Q E h => ?_) (fun cdv A outer s H vs Q E hr h => ?_)
  · obtain ⟨W, N0, x, dx, us, ds, Pd, H1, rfl, _, _, _, _, _, _, _, dd, ⟨ws, rfl, _⟩, _⟩ := h
    rw [List.length_cons, dd.len]
    rfl
  · obtain ⟨W, N0, x, dx, us, ds, Pd, H1, rfl, nx, nd, ne, rfl, al, wn, ok, dd, sp, q⟩ := h
    have hl : us.length = 1 := by
      obtain ⟨ws, rfl, _⟩ := sp
      exact dd.len
    have tm : PSs (cxOf CX0 P w K mg base ["self", "windows", "name"] "Desk.__init__" (defScope s_Desk___init) T.f_Desk___init cdv A outer s (upd (upd H1 dx (.own x)) x (.ins T.C_Desk dx [])) E).nox (defBody s_Desk___init) (tSeq (tDrop (lC ⟨K, W, N0, H1, false⟩ (dCall sp_check_windows (aCons (dV 1) aNil)))) (sFld K (tVar 0) (lN ⟨K, W, N0, H1, false⟩ (dDc (iSeq (dSort (dV 1))) (gNm 2) tYesD (dV 2) (dO2 bIx (dV 1) (dV 2)) [2])) "windows")) := pss_cons (ps_expr (dd_call (ok_check_windows T) hr (by rfl) T.g_check_windows T.F_check_windows.kp T.b_check_windows pass0 (da_cons (dd_v (pv 1)) da_nil))) (pss_one (ps_fld (pv 0) (PE.mono (pe_dc (own := [("name", 2)]) (by rfl) sc_Desk___init.nd (db_seq (c_b (n_c (dn_sort (by rfl) T.m_sorted (c_b (dd_v (pv 1))))))) (blkOk_by (own := [("name", 2)]) (N := ["self", "windows", "name"]) (sc := defScope s_Desk___init) (by decide +kernel)) (fun _ _ _ _ _ => (dg_name (i := 2) sc_Desk___init.nd rfl (Or.inl rfl))) (fun _ _ _ _ _ => ts_nil) (fun _ _ _ _ _ => (dd_v (pv 2))) (fun _ _ _ _ _ => (dd_ix hr (c_b (dd_v (pv 1))) (c_b (dd_v (pv 2)))))) (l_dc (by simp))) rfl))
    exact ⟨_, tm, init1 T.cl_Desk T.n_Desk_windows nx nd ne al wn ok dd (by rw [hl]; decide) q (rd_Desk___init sp)⟩
theorem okb_bag (T : Txt K mg) {k : Nat} : FnOk P w K mg base CX0 (k + 1) T.f_bag T.fd_bag ["_law_script"] (spBag K) := by
  refine T.F_bag.ok sc_bag (fun vs H Q E h => ?_) (fun cdv A outer s H vs Q E hr h => ?_)
  · obtain ⟨a, ns, rfl, _⟩ := h
    rfl
  · obtain ⟨a, ns, rfl, hS, hlen, q⟩ := h
    refine ⟨_, (pss_cons (ps_set (i := 1) sc_bag.nd rfl (.inl rfl) pe_int)
      (pss_cons (ps_for PassesOwn.never rfl (pi_list (pe_slice (r := rSlL K) sl_list (pv 0) po_none (po_some pe_int))) (pg_name (i := 2) sc_bag.nd rfl (.inl rfl)) (pss_one (ps_set (i := 1) sc_bag.nd rfl (.inl rfl) (pe_op op_mod (pe_op op_add (pe_op op_add (pe_op op_mul (pv 1) pe_int) (pe_op op_mod (pv 2) pe_int)) pe_int) pe_int))))
      (pss_one (ps_ret (pe_lst (pa_cons (pe_callTy (T := "list") (r := RK.rListQ K) RK.call_listQ (by rfl) T.m_list (by decide +kernel) (pa_cons (pe_slice (r := rSlL K) sl_list (pv 0) po_none (po_some pe_int)) pa_nil)) (pa_cons pe_int (pa_cons pe_int (pa_cons (pv 1) pa_nil))))))))), ?_⟩
    refine ⟨.ref a, rfl, 63, rfl, a, _, rfl, hS, fun p np => ?_⟩
    rw [cut63 ns hlen]
    have s1 : Same H (upd H p (.lst (ns.map V.int))) := same_new np _
    refine ⟨p, rfl, ⟨_, .inl (.inl upd_same)⟩, for_list (xs := ns.map V.int) (fun _ σ H' => ∃ z y2, σ = [some (.ref a), some (.int z), y2] ∧ 0 ≤ z ∧ z < 2147483647 ∧ H' = upd H p (.lst (ns.map V.int))) ⟨9489, none, rfl, by decide, by decide, rfl⟩ ?_ ?_ ?_⟩
    · rintro i σ H' _ ⟨z, y2, rfl, _, _, rfl⟩
      exact .inl (.inl upd_same)
    · rintro i x σ H' hx ⟨z, y2, rfl, z0, z1, rfl⟩
      rw [List.getElem?_map] at hx
      obtain ⟨c, hc, rfl⟩ := Option.map_eq_some_iff.mp hx
      refine ⟨.int z, rfl, _, _, rfl, rfl, .inl ⟨by omega, by omega⟩, .int c, rfl, _, _, rfl, rfl, (show (0 : Int) < 2147483587 by decide), _, _, rfl, rfl, _, _, rfl, rfl, _, _, rfl, rfl, (show (0 : Int) < 2147483647 by decide), _, _, rfl, Int.emod_nonneg _ (by decide), Int.emod_lt_of_pos _ (by decide), rfl⟩
    · rintro σ H' ⟨z, y2, rfl, z0, z1, rfl⟩
      refine ⟨.ref a, rfl, 63, rfl, a, _, rfl, s1.seq hS, fun p2 np2 => ?_⟩
      rw [cut63 ns hlen]
      have s2 := same_new np2 (.lst (ns.map V.int))
      refine ⟨p2, _, rfl, .inl (.inl (.inl upd_same)), fun l nl => ?_⟩
      have s3 := same_new nl (.lst (ns.map V.int))
      refine ⟨.int z, rfl, (by show 4 ≤ sizeLine; decide), fun b nb => ?_⟩
      have s4 := same_new nb (.lst [.ref l, .int 0, .int 0, .int z])
      have st : Same H _ := ((s1.trans s2).trans s3).trans s4
      refine q _ b l st (((s1.trans s2).trans s3).free nb) ((s1.trans s2).free nl) ⟨ns, 0, 0, z, upd_same, s4 _ _ upd_same, ne_of_none upd_same nb, Nat.zero_le _, hlen, by decide, z0, z1⟩
theorem okb_pull (T : Txt K mg) {k : Nat} : FnOk P w K mg base CX0 (k + 1) T.f_pull T.fd_pull ["_law_bag_here", "_law_amount"] spPull := by
  refine T.F_pull.ok sc_pull (fun vs H Q E h => ?_) (fun cdv A outer s H vs Q E hr h => ?_)
  · obtain ⟨b, s, n, rfl, _⟩ := h
    rfl
  · obtain ⟨b, s, n, rfl, B, n1, n2, q⟩ := h
    obtain ⟨ns, i, big, salt, B⟩ := B
    refine ⟨_, (C8.pss_cut (ps_if (PW.pt (pw_and (pt_cmpR op_eq (pe_ix (r := rIxL K) ix_list (pv 0) pe_int (fun _ _ => rfl)) pe_int (nomark _)) (pw_and1 (pt_cmpR op_lt (pe_ix (r := rIxL K) ix_list (pv 0) pe_int (fun _ _ => rfl)) (pe_callB (id := "len") (r := RK.rLenQ K) RK.call_lenQ (by rfl) T.m_len (by decide +kernel) (pa_cons (pe_ix (r := rIxL K) ix_list (pv 0) pe_int (fun _ _ => rfl)) pa_nil)) (nomark _))))) (pss_cons (ps_set (i := 2) sc_pull.nd rfl (.inl rfl) (pe_ix (r := rIxL K) ix_list (pe_ix (r := rIxL K) ix_list (pv 0) pe_int (fun _ _ => rfl)) (pe_ix (r := rIxL K) ix_list (pv 0) pe_int (fun _ _ => rfl)) (fun _ _ => rfl)))
      (pss_cons (ps_asg (pe_op op_add (pe_ix (r := rIxL K) ix_list (pv 0) pe_int (fun _ _ => rfl)) pe_int) (pg_sub (pv 0) pe_int L2.set_list))
      (pss_one (ps_if (pt_cmpR op_ge (pv 2) (pe_op op_pow pe_int pe_int) (nomark _)) (pss_one (ps_asg (pv 2) (pg_sub (pv 0) pe_int L2.set_list))) (pss_one (ps_asg (pe_op op_mod (pe_op op_add (pe_op op_add (pe_op op_mul (pe_ix (r := rIxL K) ix_list (pv 0) pe_int (fun _ _ => rfl)) pe_int) (pe_op op_mul (pe_op op_mod (pv 2) pe_int) pe_int)) pe_int) pe_int) (pg_sub (pv 0) pe_int L2.set_list))))))) pss_nil)
      (pss_cons (ps_if (pt_cmpR op_gt (pe_ix (r := rIxL K) ix_list (pv 0) pe_int (fun _ _ => rfl)) pe_int (nomark _)) (pss_cons (ps_set (i := 3) sc_pull.nd rfl (.inl rfl) (pe_op op_mod (pe_ix (r := rIxL K) ix_list (pv 0) pe_int (fun _ _ => rfl)) (pv 1)))
      (pss_cons (ps_asg (pe_op op_fdivW (pe_ix (r := rIxL K) ix_list (pv 0) pe_int (fun _ _ => rfl)) (pv 1)) (pg_sub (pv 0) pe_int L2.set_list))
      (pss_one (ps_ret (pv 3))))) pss_nil)
      (pss_cons (ps_set (i := 4) sc_pull.nd rfl (.inl rfl) (pe_ix (r := rIxL K) ix_list (pv 0) pe_int (fun _ _ => rfl)))
      (pss_cons (ps_asg (pe_op op_mod (pe_op op_add (pe_op op_add (pe_op op_mul (pv 4) (pv 4)) (pe_op op_mul (pv 4) pe_int)) pe_int) pe_int) (pg_sub (pv 0) pe_int L2.set_list))
      (pss_one (ps_ret (pe_op op_mod (pe_op op_add (pe_op op_fdivW (pe_ix (r := rIxL K) ix_list (pv 0) pe_int (fun _ _ => rfl)) pe_int) (pe_op op_mul (pe_op op_mod (pe_ix (r := rIxL K) ix_list (pv 0) pe_int (fun _ _ => rfl)) pe_int) pe_int)) (pv 1)))))))), ?_⟩
    refine ⟨fun σ H' => ∃ y2, σ = [some (.ref b), some (.int n), y2, none, none] ∧ KeepT b H H' ∧ ∃ i big salt, BagC H' b s ns i big salt, ?_, ?_⟩
    · -- the first if
      refine ⟨.ref b, rfl, b, _, 2, _, rfl, rfl, SqL.of B.hb, at2, rfl, _, rfl, ite2 (fun c => ?_) (fun c => ?_)⟩
      · refine ⟨.ref b, rfl, b, _, 1, _, rfl, rfl, SqL.of B.hb, at1, .ref b, rfl, b, _, 0, _, rfl, rfl, SqL.of B.hb, at0, s, _, rfl, .inl (SqL.of B.hs), _, _, rfl, rfl, _, rfl, ite2 (fun c2 => ?_) (fun c2 => ?_)⟩
        · have hi : i < ns.length := by
            have := of_decide_eq_true c2
            rw [List.length_map] at this
            omega
          have g : (ns.map V.int)[i]? = some (.int ns[i]) := by
            rw [List.getElem?_map, List.getElem?_eq_getElem hi]
            rfl
          refine ⟨.ref b, rfl, b, _, 0, _, rfl, rfl, SqL.of B.hb, at0, .ref b, rfl, b, _, 1, _, rfl, rfl, SqL.of B.hb, at1, s, _, _, _, rfl, rfl, SqL.of B.hs, atI_nat g, ?_⟩
          refine ⟨.ref b, rfl, b, _, 1, _, rfl, rfl, SqL.of B.hb, at1, _, _, rfl, rfl, .ref b, rfl, b, _, 1, 1, rfl, rfl, B.hb, rfl, ?_⟩
          have k1 : KeepT b H (upd H b (.lst [.ref s, .int (↑i + 1), .int big, .int salt])) := (KeepT.refl b H).upd
          have hs1 : (upd H b (.lst [.ref s, .int (↑i + 1), .int big, .int salt])) s = some (.lst (ns.map V.int)) := by rw [upd_ne B.ne]; exact B.hs
          refine ⟨.int ns[i], rfl, _, _, rfl, rfl, ⟨by decide, by decide, by decide⟩, _, _, rfl, rfl, _, rfl, ite2 (fun c3 => ?_) (fun c3 => ?_)⟩
          · have hc : 0 ≤ ns[i] := by
              have h3 := of_decide_eq_true c3
              have h4 : ((10 : Int) ^ (18 : Int).toNat) = 1000000000000000000 := by decide
              rw [h4] at h3
              omega
            refine ⟨.int ns[i], rfl, .ref b, rfl, b, _, 2, 2, rfl, rfl, upd_same, rfl, ?_⟩
            refine ⟨_, rfl, k1.upd, i + 1, ns[i], salt, ⟨?_, ?_, B.ne, hi, B.hn, hc, B.h1, B.h2⟩⟩
            · rw [upd_same]; rfl
            · rw [upd_ne B.ne]; exact hs1
          · refine ⟨.ref b, rfl, b, _, 3, _, rfl, rfl, SqL.of upd_same, at3, _, _, rfl, rfl, .inr ⟨by decide, by decide⟩, .int ns[i], rfl, _, _, rfl, rfl, (show (0 : Int) < 2147483587 by decide), _, _, rfl, rfl, .inr ⟨by decide, by decide⟩, _, _, rfl, rfl, _, _, rfl, rfl, _, _, rfl, rfl, (show (0 : Int) < 2147483647 by decide), .ref b, rfl, b, _, 3, 3, rfl, rfl, upd_same, rfl, ?_⟩
            refine ⟨_, rfl, k1.upd, i + 1, big, (salt * 40692 + ns[i] % 2147483587 * 48271 + 7) % 2147483647, ⟨?_, ?_, B.ne, hi, B.hn, B.h0, Int.emod_nonneg _ (show (2147483647 : Int) ≠ 0 by decide), Int.emod_lt_of_pos _ (show (0 : Int) < 2147483647 by decide)⟩⟩
            · rw [upd_same]; rfl
            · rw [upd_ne B.ne]; exact hs1
        · exact ⟨_, rfl, KeepT.refl b H, i, big, salt, B⟩
      · exact ⟨_, rfl, KeepT.refl b H, i, big, salt, B⟩
    · rintro σ H1 ⟨y2, rfl, k1, i, big, salt, B⟩
      refine ⟨.ref b, rfl, b, _, 2, _, rfl, rfl, SqL.of B.hb, at2, _, _, rfl, rfl, _, rfl, ite2 (fun c => ?_) (fun c => ?_)⟩
      · refine ⟨.ref b, rfl, b, _, 2, _, rfl, rfl, SqL.of B.hb, at2, .int n, rfl, _, _, rfl, rfl, (show (0 : Int) < n by omega), .ref b, rfl, b, _, 2, _, rfl, rfl, SqL.of B.hb, at2, .int n, rfl, _, _, rfl, rfl, cdivw n1 n2, .ref b, rfl, b, _, 2, 2, rfl, rfl, B.hb, rfl, .int (big % n), rfl, ?_⟩
        refine q _ _ (Int.emod_nonneg _ (by omega)) (Int.emod_lt_of_pos _ (by omega)) k1.upd ⟨ns, i, big / n, salt, ?_, ?_, B.ne, B.hi, B.hn, Int.ediv_nonneg B.h0 (by omega), B.h1, B.h2⟩
        · rw [upd_same]; rfl
        · rw [upd_ne B.ne]; exact B.hs
      · have h1 := B.h1
        have h2 := B.h2
        refine ⟨.ref b, rfl, b, _, 3, _, rfl, rfl, SqL.of B.hb, at3, .int salt, rfl, .int salt, rfl, _, _, rfl, rfl, .inl ⟨by omega, by omega⟩, .int salt, rfl, _, _, rfl, rfl, .inl ⟨by omega, by omega⟩, _, _, rfl, rfl, _, _, rfl, rfl, _, _, rfl, rfl, (show (0 : Int) < 2147483647 by decide), .ref b, rfl, b, _, 3, 3, rfl, rfl, B.hb, rfl, ?_⟩
        refine ⟨.ref b, rfl, b, _, 3, _, rfl, rfl, SqL.of upd_same, at3, _, _, rfl, rfl, cdivw (n := 89) (by decide) (by decide), .ref b, rfl, b, _, 3, _, rfl, rfl, SqL.of upd_same, at3, _, _, rfl, rfl, (show (0 : Int) < 8191 by decide), _, _, rfl, rfl, .inr ⟨by decide, by decide⟩, _, _, rfl, rfl, .int n, rfl, _, _, rfl, rfl, (show (0 : Int) < n by omega), ?_⟩
        refine q _ _ (Int.emod_nonneg _ (by omega)) (Int.emod_lt_of_pos _ (by omega)) k1.upd ⟨ns, i, big, (salt * salt + salt * 69621 + 1013904223) % 2147483647, ?_, ?_, B.ne, B.hi, B.hn, B.h0, Int.emod_nonneg _ (show (2147483647 : Int) ≠ 0 by decide), Int.emod_lt_of_pos _ (show (0 : Int) < 2147483647 by decide)⟩
        · rw [upd_same]; rfl
        · rw [upd_ne B.ne]; exact B.hs
theorem ok_pull (T : Txt K mg) {k : Nat} : FnOk P w K mg base CX0 (k + 1) T.f_pull T.fd_pull ["_law_bag_here", "_law_amount"] (lSp K false sp_pull) := pull_d (okb_pull T)
theorem ok_of (T : Txt K mg) {k : Nat} : FnOk P w K mg base CX0 (k + 2) T.f_of T.fd_of ["_law_bag_here", "_law_things"] (lSp K false sp_of) := by
  refine T.F_of.ok sc_of (fun vs H Q E h => ?_) (fun cdv A outer s H vs Q E hr h => ?_)
  · obtain ⟨W, N0, ds, Pd, _, _, _, dd, sp, _⟩ := h
    rw [dd.len]
    exact ln_of sp
  · obtain ⟨W, N0, ds, Pd, al, wn, ok, dd, sp, q⟩ := h
    have tm : PSs (cxOf CX0 P w K mg base ["_law_bag_here", "_law_things"] "_law_of" (defScope s_of) T.f_of cdv A outer s H E).nox (defBody s_of) (lS ⟨K, W, N0, H, false⟩ (d_of)) := ((ss_one (ds_ret (by rfl) (dd_ix hr (c_b (dd_v (pv 1))) (c_b (dd_call (ok_pull T) hr (by rfl) T.g_pull T.F_pull.kp T.b_pull pass0 (da_cons (dd_v (pv 0)) (da_cons (dd_len (by rfl) T.m_len (c_b (dd_v (pv 1)))) da_nil))))))))
    exact ⟨_, tm, fn_d al wn ok dd q (rd_of sp)⟩
theorem like_all (T : Txt K mg) {k : Nat} : ∀ n : Nat, FnOk P w K mg base CX0 (k + n) T.f_like T.fd_like ["_law_found", "_law_due"] (lSp K false (sp_like n)) := by
  intro n
  induction n with
  | zero => exact ⟨fun _ _ _ _ h => (let ⟨_, _, _, _, _, _, _, _, sp, _⟩ := h; sp.elim), fun _ _ _ _ _ _ _ _ _ _ _ _ _ h => (let ⟨_, _, _, _, _, _, _, _, sp, _⟩ := h; sp.elim)⟩
  | succ n G =>
    refine T.F_like.ok sc_like (fun vs H Q E h => ?_) (fun cdv A outer s H vs Q E hr h => ?_)
    · obtain ⟨W, N0, ds, Pd, _, _, _, dd, sp, _⟩ := h
      rw [dd.len]
      obtain ⟨x, rfl, _⟩ := sp
      rfl
    · obtain ⟨W, N0, ds, Pd, al, wn, ok, dd, sp, q⟩ := h
      have tm : PSs (cxOf CX0 P w K mg base ["_law_found", "_law_due", "_law_k"] "_law_like" (defScope s_like) T.f_like cdv A outer s H E).nox (defBody s_like) (lS ⟨K, W, N0, H, false⟩ (d_like (sp_like n))) := ((ss_cons (ds_if (PW.pt (wt_or (dt_ne hr (c_b (dd_isi (by rfl) T.m_isinstance (c_b (dd_v (pv 1))) (pe_bltn (v := .ty "tuple") (by rfl) T.m_tuple (by decide +kernel) rfl))) (c_b (dd_isi (by rfl) T.m_isinstance (c_b (dd_v (pv 0))) (pe_bltn (v := .ty "tuple") (by rfl) T.m_tuple (by decide +kernel) rfl)))) (wt_or1 (dt_ne hr (c_b (dd_isi (by rfl) T.m_isinstance (c_b (dd_v (pv 1))) (pe_bltn (v := .ty "list") (by rfl) T.m_list (by decide +kernel) rfl))) (c_b (dd_isi (by rfl) T.m_isinstance (c_b (dd_v (pv 0))) (pe_bltn (v := .ty "list") (by rfl) T.m_list (by decide +kernel) rfl))))))) (ss_one (ds_ret (by rfl) dd_bl)) ss_nil)
      (ss_cons (ds_if (dt_not (dt_val (dd_isiT (by rfl) T.m_isinstance (c_b (dd_v (pv 1))) (pe_bltn (v := .ty "tuple") (by rfl) T.m_tuple (by decide +kernel) rfl) (pe_bltn (v := .ty "list") (by rfl) T.m_list (by decide +kernel) rfl)))) (ss_one (ds_ret (by rfl) (dd_and (dd_eq hr (c_b (dd_isi (by rfl) T.m_isinstance (c_b (dd_v (pv 0))) (pe_bltn (v := .ty "bool") (by rfl) T.m_bool (by decide +kernel) rfl))) (c_b (dd_isi (by rfl) T.m_isinstance (c_b (dd_v (pv 1))) (pe_bltn (v := .ty "bool") (by rfl) T.m_bool (by decide +kernel) rfl)))) (dd_one (dd_eq hr (c_b (dd_v (pv 0))) (c_b (dd_v (pv 1)))))))) ss_nil)
      (ss_one (ds_ret (by rfl) (dd_and (dd_eq hr (c_b (dd_len (by rfl) T.m_len (c_b (dd_v (pv 0))))) (c_b (dd_len (by rfl) T.m_len (c_b (dd_v (pv 1)))))) (dd_one (dd_all (by rfl) T.m_all (c_b (n_c (PE.mono (pe_lc (own := [("_law_k", 2)]) (by rfl) sc_like.nd (db_rng (by rfl) T.m_range (da_cons (dd_len (by rfl) T.m_len (c_b (dd_v (pv 1)))) da_nil)) (blkOk_by (own := [("_law_k", 2)]) (N := ["_law_found", "_law_due", "_law_k"]) (sc := defScope s_like) (by decide +kernel)) (fun _ _ _ _ _ => (dg_name (i := 2) sc_like.nd rfl (Or.inl rfl))) (fun _ _ _ _ _ => ts_nil) (fun _ _ _ _ _ => (dd_call G hr (by rfl) T.g_like T.F_like.kp T.b_like pass0 (da_cons (dd_ix hr (c_b (dd_v (pv 0))) (c_b (dd_v (pv 2)))) (da_cons (dd_ix hr (c_b (dd_v (pv 1))) (c_b (dd_v (pv 2)))) da_nil))))) (l_lc (by simp)))))))))))))
      exact ⟨_, tm, fn_d al wn ok dd q (rd_like sp)⟩
theorem ok_like (T : Txt K mg) {k : Nat} : FnOk P w K mg base CX0 (k + 7) T.f_like T.fd_like ["_law_found", "_law_due"] (lSp K false (sp_like 7)) := like_all T 7
theorem ok_mixed (T : Txt K mg) {k : Nat} : FnOk P w K mg base CX0 (k + 2) T.f_mixed T.fd_mixed ["_law_bag_here", "_law_things"] (lSp K true sp_mixed) := by
  refine T.F_mixed.ok sc_mixed (fun vs H Q E h => ?_) (fun cdv A outer s H vs Q E hr h => ?_)
  · obtain ⟨W, N0, ds, Pd, _, _, _, dd, sp, _⟩ := h
    rw [dd.len]
    exact ln_mixed sp
  · obtain ⟨W, N0, ds, Pd, al, wn, ok, dd, sp, q⟩ := h
    have tm : PSs (cxOf CX0 P w K mg base ["_law_bag_here", "_law_things", "_law_found", "_law_thing"] "_law_mixed" (defScope s_mixed) T.f_mixed cdv A outer s H E).nox (defBody s_mixed) (lS ⟨K, W, N0, H, true⟩ (d_mixed)) := ((ss_cons (ds_setO (i := 2) sc_mixed.nd rfl (.inl rfl) (dn_lst da_nil))
      (ss_cons (ds_for PassesOwn.never rfl (di_seq (dd_v (pv 1))) (dg_name (i := 3) sc_mixed.nd rfl (Or.inl rfl)) (ss_one (ds_ins (pv 2) (dd_call (ok_pull T) hr (by rfl) T.g_pull T.F_pull.kp T.b_pull pass0 (da_cons (dd_v (pv 0)) (da_cons (dd_add (c_b (dd_len (by rfl) T.m_len (dd_b (pv 2)))) (c_b dd_int)) da_nil))) (dd_v (pv 3)))))
      (ss_one (ds_retO (pv 2))))))
    exact ⟨_, tm, fn_d al wn ok dd q (rd_mixed sp)⟩
theorem ok_names (T : Txt K mg) {k : Nat} : FnOk P w K mg base CX0 (k + 3) T.f_names T.fd_names ["_law_bag_here", "_law_count"] (lSp K true sp_names) := by
  refine T.F_names.ok sc_names (fun vs H Q E h => ?_) (fun cdv A outer s H vs Q E hr h => ?_)
  · obtain ⟨W, N0, ds, Pd, _, _, _, dd, sp, _⟩ := h
    rw [dd.len]
    exact ln_names sp
  · obtain ⟨W, N0, ds, Pd, al, wn, ok, dd, sp, q⟩ := h
    have tm : PSs (cxOf CX0 P w K mg base ["_law_bag_here", "_law_count", "_law_letters", "_law_base", "_law_k", "_law_spot", "_law_first", "_law_step"] "_law_names" (defScope s_names) T.f_names cdv A outer s H E).nox (defBody s_names) (lS ⟨K, W, N0, H, true⟩ (d_names)) := ((ss_cons (PS.mono (ps_asg (n_c (dn_tup (da_cons dd_str (da_cons dd_str da_nil)))) (PG.mono (pg_tup (by rfl) (PGs.mono (pgs_cons (dg_name (i := 2) sc_names.nd rfl (Or.inr rfl)) (PGs.mono (pgs_cons (dg_name (i := 3) sc_names.nd rfl (Or.inr rfl)) dgs_nil) l_gcons)) l_gcons)) (l_gtup rfl))) l_asg)
      (ss_cons (ds_for PassesOwn.never rfl (di_rng (by rfl) T.m_range (da_cons (dd_call (ok_pull T) hr (by rfl) T.g_pull T.F_pull.kp T.b_pull pass0 (da_cons (dd_v (pv 0)) (da_cons dd_int da_nil))) da_nil)) (dg_name (i := 4) sc_names.nd rfl (Or.inl rfl)) (ss_one (ds_set (i := 3) sc_names.nd rfl (.inr rfl) (dd_add (c_b (dd_v (pv 3))) (c_b (dd_call (ok_of T) hr (by rfl) T.g_of T.F_of.kp T.b_of pass0 (da_cons (dd_v (pv 0)) (da_cons (dd_v (pv 2)) da_nil))))))))
      (ss_cons (ds_if (dt_eq hr (c_b (dd_call (ok_pull T) hr (by rfl) T.g_pull T.F_pull.kp T.b_pull pass0 (da_cons (dd_v (pv 0)) (da_cons dd_int da_nil)))) (c_b dd_int)) (ss_one (ds_retN (PE.mono (pe_lc (own := [("_law_k", 4)]) (by rfl) sc_names.nd (db_rng (by rfl) T.m_range (da_cons (dd_v (pv 1)) da_nil)) (blkOk_by (own := [("_law_k", 4)]) (N := ["_law_bag_here", "_law_count", "_law_letters", "_law_base", "_law_k", "_law_spot", "_law_first", "_law_step"]) (sc := defScope s_names) (by decide +kernel)) (fun _ _ _ _ _ => (dg_name (i := 4) sc_names.nd rfl (Or.inl rfl))) (fun _ _ _ _ _ => ts_nil) (fun _ _ _ _ _ => (dd_mul (c_b (dd_ix hr (c_b (dd_v (pv 2))) (c_b (dd_mod (c_b (dd_add (c_b (dd_len (by rfl) T.m_len (c_b (dd_v (pv 3))))) (c_b (dd_mul (c_b dd_int) (c_b (dd_v (pv 4))))))) (c_b dd_int))))) (c_b (dd_add (c_b dd_int) (c_b (dd_mod (c_b (dd_add (c_b (dd_len (by rfl) T.m_len (c_b (dd_v (pv 3))))) (c_b (dd_mul (c_b dd_int) (c_b (dd_v (pv 4))))))) (c_b dd_int)))))))) (l_lc (by simp))))) ss_nil)
      (ss_cons (PS.mono (ps_asg (n_c (dn_tup (da_cons (dd_call (ok_pull T) hr (by rfl) T.g_pull T.F_pull.kp T.b_pull pass0 (da_cons (dd_v (pv 0)) (da_cons (dd_add (c_b (dd_len (by rfl) T.m_len (c_b (dd_v (pv 3))))) (c_b dd_int)) da_nil))) (da_cons (dd_call (ok_pull T) hr (by rfl) T.g_pull T.F_pull.kp T.b_pull pass0 (da_cons (dd_v (pv 0)) (da_cons dd_int da_nil))) (da_cons (dd_call (ok_of T) hr (by rfl) T.g_of T.F_of.kp T.b_of pass0 (da_cons (dd_v (pv 0)) (da_cons (n_c (dn_lst (da_cons dd_int (da_cons dd_int (da_cons dd_int (da_cons dd_int (da_cons dd_int da_nil))))))) da_nil))) da_nil))))) (PG.mono (pg_tup (by rfl) (PGs.mono (pgs_cons (dg_name (i := 5) sc_names.nd rfl (Or.inr rfl)) (PGs.mono (pgs_cons (dg_name (i := 6) sc_names.nd rfl (Or.inr rfl)) (PGs.mono (pgs_cons (dg_name (i := 7) sc_names.nd rfl (Or.inr rfl)) dgs_nil) l_gcons)) l_gcons)) l_gcons)) (l_gtup rfl))) l_asg)
      (ss_one (ds_retN (PE.mono (pe_lc (own := [("_law_k", 4)]) (by rfl) sc_names.nd (db_rng (by rfl) T.m_range (da_cons (dd_v (pv 1)) da_nil)) (blkOk_by (own := [("_law_k", 4)]) (N := ["_law_bag_here", "_law_count", "_law_letters", "_law_base", "_law_k", "_law_spot", "_law_first", "_law_step"]) (sc := defScope s_names) (by decide +kernel)) (fun _ _ _ _ _ => (dg_name (i := 4) sc_names.nd rfl (Or.inl rfl))) (fun _ _ _ _ _ => ts_nil) (fun _ _ _ _ _ => (dd_add (c_b (dd_add (c_b (dd_cut (c_b (dd_v (pv 3))) do_none (do_some (dd_v (pv 5))))) (c_b (dd_ix hr (c_b (dd_v (pv 2))) (c_b (dd_mod (c_b (dd_add (c_b (dd_v (pv 6))) (c_b (dd_mul (c_b (dd_v (pv 7))) (c_b (dd_v (pv 4))))))) (c_b dd_int))))))) (c_b (dd_cut (c_b (dd_v (pv 3))) (do_some (dd_v (pv 5))) do_none))))) (l_lc (by simp))))))))))
    exact ⟨_, tm, fn_d al wn ok dd q (rd_names sp)⟩
theorem ok_rectangle (T : Txt K mg) {k : Nat} : FnOk P w K mg base CX0 (k + 2) T.f_rectangle T.fd_rectangle ["_law_bag_here", "_law_scale"] (lSp K true sp_rectangle) := by
  refine T.F_rectangle.ok sc_rectangle (fun vs H Q E h => ?_) (fun cdv A outer s H vs Q E hr h => ?_)
  · obtain ⟨W, N0, ds, Pd, _, _, _, dd, sp, _⟩ := h
    rw [dd.len]
    exact ln_rectangle sp
  · obtain ⟨W, N0, ds, Pd, al, wn, ok, dd, sp, q⟩ := h
    have tm : PSs (cxOf CX0 P w K mg base ["_law_bag_here", "_law_scale", "_law_left", "_law_top", "_law_right", "_law_bottom"] "_law_rectangle" (defScope s_rectangle) T.f_rectangle cdv A outer s H E).nox (defBody s_rectangle) (lS ⟨K, W, N0, H, true⟩ (d_rectangle)) := ((ss_cons (PS.mono (ps_par (i := 2) (j := 3) (by rfl) sc_rectangle.nd rfl rfl (by decide) rfl rfl (pa_cons (dd_sub (c_b (dd_call (ok_pull T) hr (by rfl) T.g_pull T.F_pull.kp T.b_pull pass0 (da_cons (dd_v (pv 0)) (da_cons dd_int da_nil)))) (c_b dd_int)) (pa_cons (dd_sub (c_b (dd_call (ok_pull T) hr (by rfl) T.g_pull T.F_pull.kp T.b_pull pass0 (da_cons (dd_v (pv 0)) (da_cons dd_int da_nil)))) (c_b dd_int)) pa_nil)) (by rfl)) l_par)
      (ss_cons (PS.mono (ps_par (i := 4) (j := 5) (by rfl) sc_rectangle.nd rfl rfl (by decide) rfl rfl (pa_cons (dd_add (c_b (dd_add (c_b (dd_v (pv 2))) (c_b dd_int))) (c_b (dd_call (ok_pull T) hr (by rfl) T.g_pull T.F_pull.kp T.b_pull pass0 (da_cons (dd_v (pv 0)) (da_cons dd_int da_nil))))) (pa_cons (dd_add (c_b (dd_add (c_b (dd_v (pv 3))) (c_b dd_int))) (c_b (dd_call (ok_pull T) hr (by rfl) T.g_pull T.F_pull.kp T.b_pull pass0 (da_cons (dd_v (pv 0)) (da_cons dd_int da_nil))))) pa_nil)) (by rfl)) l_par)
      (ss_one (ds_retN (dn_tup (da_cons (dd_mul (c_b (dd_v (pv 1))) (c_b (dd_v (pv 2)))) (da_cons (dd_mul (c_b (dd_v (pv 1))) (c_b (dd_v (pv 3)))) (da_cons (dd_mul (c_b (dd_v (pv 1))) (c_b (dd_v (pv 4)))) (da_cons (dd_mul (c_b (dd_v (pv 1))) (c_b (dd_v (pv 5)))) da_nil))))))))))
    exact ⟨_, tm, fn_d al wn ok dd q (rd_rectangle sp)⟩
theorem ok_seen (T : Txt K mg) {k : Nat} : FnOk P w K mg base CX0 (k + 1) T.f_seen T.fd_seen ["_law_rects", "_law_order_z", "_law_x", "_law_y"] (lSp K false sp_seenL) := by
  refine T.F_seen.ok sc_seen (fun vs H Q E h => ?_) (fun cdv A outer s H vs Q E hr h => ?_)
  · obtain ⟨W, N0, ds, Pd, _, _, _, dd, sp, _⟩ := h
    rw [dd.len]
    exact ln_seenL sp
  · obtain ⟨W, N0, ds, Pd, al, wn, ok, dd, sp, q⟩ := h
    have tm : PSs (cxOf CX0 P w K mg base ["_law_rects", "_law_order_z", "_law_x", "_law_y", "_law_here", "_law_name"] "_law_seen" (defScope s_seen) T.f_seen cdv A outer s H E).nox (defBody s_seen) (lS ⟨K, W, N0, H, false⟩ (d_seenL)) := ((ss_cons (PS.mono (ps_setLc (i := 4) (own := [("_law_name", 5)]) (by rfl) sc_seen.nd rfl rfl (sw_true rfl rfl rfl (by decide +kernel)) (db_seq (c_b (dd_v (pv 1)))) (blkOk_by (own := [("_law_name", 5)]) (N := ["_law_rects", "_law_order_z", "_law_x", "_law_y", "_law_here", "_law_name"]) (sc := defScope s_seen) (by decide +kernel)) (fun _ _ _ _ _ => (dg_name (i := 5) sc_seen.nd rfl (Or.inl rfl))) (fun _ _ _ _ _ => (ts_one (PW.pt (wt_and (dt_lelt (c_b (dd_ix hr (c_b (dd_ix hr (c_b (dd_v (pv 0))) (c_b (dd_v (pv 5))))) (c_b dd_int))) (c_b (dd_v (pv 2))) (c_b (dd_ix hr (c_b (dd_ix hr (c_b (dd_v (pv 0))) (c_b (dd_v (pv 5))))) (c_b dd_int)))) (wt_and1 (dt_lelt (c_b (dd_ix hr (c_b (dd_ix hr (c_b (dd_v (pv 0))) (c_b (dd_v (pv 5))))) (c_b dd_int))) (c_b (dd_v (pv 3))) (c_b (dd_ix hr (c_b (dd_ix hr (c_b (dd_v (pv 0))) (c_b (dd_v (pv 5))))) (c_b dd_int))))))))) (fun _ _ _ _ _ => (dd_v (pv 5)))) (l_setF_n (l_lc (by simp))))
      (ss_one (ds_ret (by rfl) (dd_if (dt_ne hr (c_b (dd_v (pv 4))) (c_b (n_c (dn_lst da_nil)))) (dd_ix hr (c_b (dd_v (pv 4))) (c_b (dd_neg dd_int))) dd_non)))))
    exact ⟨_, tm, fn_d al wn ok dd q (rd_seenL sp)⟩
theorem ok_band (T : Txt K mg) {k : Nat} : FnOk P w K mg base CX0 (k + 2) T.f_band T.fd_band ["_law_rects", "_law_order_z", "_law_top", "_law_bottom"] (lSp K true sp_band) := by
  refine T.F_band.ok sc_band (fun vs H Q E h => ?_) (fun cdv A outer s H vs Q E hr h => ?_)
  · obtain ⟨W, N0, ds, Pd, _, _, _, dd, sp, _⟩ := h
    rw [dd.len]
    exact ln_band sp
  · obtain ⟨W, N0, ds, Pd, al, wn, ok, dd, sp, q⟩ := h
    have tm : PSs (cxOf CX0 P w K mg base ["_law_rects", "_law_order_z", "_law_top", "_law_bottom", "_law_found", "_law_before", "_law_x", "_law_name", "_law_left", "_law_high", "_law_right", "_law_low"] "_law_band" (defScope s_band) T.f_band cdv A outer s H E).nox (defBody s_band) (lS ⟨K, W, N0, H, true⟩ (d_band)) := ((ss_cons (PS.mono (ps_par (i := 4) (j := 5) (by rfl) sc_band.nd rfl rfl (by decide) rfl rfl (pa_cons (dn_lst da_nil) (pa_cons dd_non pa_nil)) (by rfl)) l_parL)
      (ss_cons (ds_for PassesOwn.never rfl (di_rngB (by rfl) T.m_range (da_cons (dd_neg dd_int) (da_cons dd_int da_nil))) (dg_name (i := 6) sc_band.nd rfl (Or.inl rfl)) (ss_cons (ds_set (i := 7) sc_band.nd rfl (.inl rfl) (dd_call (ok_seen T) hr (by rfl) T.g_seen T.F_seen.kp T.b_seen pass0 (da_cons (dd_v (pv 0)) (da_cons (dd_v (pv 1)) (da_cons (dd_v (pv 6)) (da_cons (dd_v (pv 2)) da_nil))))))
      (ss_cons (ds_if (PW.pt (wt_and (dt_isnot (c_b (dd_v (pv 7))) (c_b dd_non)) (wt_and1 (dt_eq hr (c_b (dd_v (pv 7))) (c_b (dd_v (pv 5))))))) (ss_cons (PS.mono (ps_asg (dd_ix hr (c_b (dd_ix hr (dd_b (pv 4)) (c_b (dd_neg dd_int)))) (c_b dd_int)) (PG.mono (pg_tup (by rfl) (PGs.mono (pgs_cons (dg_name (i := 8) sc_band.nd rfl (Or.inl rfl)) (PGs.mono (pgs_cons (dg_name (i := 9) sc_band.nd rfl (Or.inl rfl)) (PGs.mono (pgs_cons (dg_name (i := 10) sc_band.nd rfl (Or.inl rfl)) (PGs.mono (pgs_cons (dg_name (i := 11) sc_band.nd rfl (Or.inl rfl)) dgs_nil) l_gcons)) l_gcons)) l_gcons)) l_gcons)) (l_gtup rfl))) l_asg)
      (ss_one (PS.mono (ps_asg (n_c (dn_tup (da_cons (n_c (dn_tup (da_cons (dd_v (pv 8)) (da_cons (dd_v (pv 9)) (da_cons (dd_add (c_b (dd_v (pv 6))) (c_b dd_int)) (da_cons (dd_v (pv 11)) da_nil)))))) (da_cons (dd_v (pv 7)) da_nil)))) (pg_sub (pv 4) (dd_neg dd_int) L2.set_list)) l_put))) (ss_one (ds_if (dt_isnot (c_b (dd_v (pv 7))) (c_b dd_non)) (ss_one (ds_app (pv 4) (n_c (dn_tup (da_cons (n_c (dn_tup (da_cons (dd_v (pv 6)) (da_cons (dd_v (pv 2)) (da_cons (dd_add (c_b (dd_v (pv 6))) (c_b dd_int)) (da_cons (dd_v (pv 3)) da_nil)))))) (da_cons (dd_v (pv 7)) da_nil)))))) ss_nil)))
      (ss_one (ds_set (i := 5) sc_band.nd rfl (.inl rfl) (dd_v (pv 7)))))))
      (ss_one (ds_retO (pv 4))))))
    exact ⟨_, tm, fn_d al wn ok dd q (rd_band sp)⟩
theorem ok_law (T : Txt K mg) : FnOk P w K mg base CX0 8 T.f_law T.fd_law ["_law_script"] (spLaw K) := by
  refine T.F_law.ok sc_law (fun vs H Q E h => ?_) (fun cdv A outer s H vs Q E hr h => ?_)
  · obtain ⟨a, ns, rfl, _⟩ := h
    rfl
  · obtain ⟨a, ns, rfl, hS, hlen, q⟩ := h
    have tm : ∀ W N0 H0, PSs (cxOf CX0 P w K mg base ["_law_script", "_law_bag_here", "_law_turn", "_law_names_here", "_law_rects", "_law_desk_z", "_law_order_z", "_law_due", "_law_rows", "_law_k", "_law_handed", "_law_again", "_law_found", "_law_size", "_law_cells", "_law_x", "_law_name", "_law_rect", "_law_y"] "law" (defScope s_law) T.f_law cdv A outer s H E).nox ((defBody s_law).drop 1) (lS ⟨K, W, N0, H0, false⟩ (d_law T.C_Desk)) := fun W N0 H0 => ((ss_cons (ds_for PassesOwn.never rfl (di_rng (by rfl) T.m_range (da_cons dd_int da_nil)) (dg_name (i := 2) sc_law.nd rfl (Or.inl rfl)) (ss_cons (ds_set (i := 3) sc_law.nd rfl (.inl rfl) (n_c (dn_call (ok_mixed T) hr (by rfl) T.g_mixed T.F_mixed.kp T.b_mixed pass0 (da_cons (dd_v (pv 1)) (da_cons (n_c (dn_call (ok_names T) hr (by rfl) T.g_names T.F_names.kp T.b_names pass0 (da_cons (dd_v (pv 1)) (da_cons (dd_add (c_b dd_int) (c_b (dd_call (ok_pull T) hr (by rfl) T.g_pull T.F_pull.kp T.b_pull pass0 (da_cons (dd_v (pv 1)) (da_cons dd_int da_nil))))) da_nil)))) da_nil)))))
      (ss_cons (ds_set (i := 4) sc_law.nd rfl (.inr rfl) (n_c (dn_dictP (by rfl) (by rfl) T.m_dict (c_b (n_c (PE.mono (pe_lc (own := [("_law_name", 16)]) (by rfl) sc_law.nd (db_seq (c_b (dd_v (pv 3)))) (blkOk_by (own := [("_law_name", 16)]) (N := ["_law_script", "_law_bag_here", "_law_turn", "_law_names_here", "_law_rects", "_law_desk_z", "_law_order_z", "_law_due", "_law_rows", "_law_k", "_law_handed", "_law_again", "_law_found", "_law_size", "_law_cells", "_law_x", "_law_name", "_law_rect", "_law_y"]) (sc := defScope s_law) (by decide +kernel)) (fun _ _ _ _ _ => (dg_name (i := 16) sc_law.nd rfl (Or.inl rfl))) (fun _ _ _ _ _ => ts_nil) (fun _ _ _ _ _ => (n_c (dn_tup (da_cons (dd_v (pv 16)) (da_cons (n_c (dn_call (ok_rectangle T) hr (by rfl) T.g_rectangle T.F_rectangle.kp T.b_rectangle pass0 (da_cons (dd_v (pv 1)) (da_cons dd_int da_nil)))) da_nil)))))) (l_lc (by simp))))))))
      (ss_cons (PS.mono (ps_asg (n_c (dn_tup (da_cons (PE.mono (pe_make T.M_Desk (ok_Desk___init T) hr (by rfl) T.g_Desk T.b_Desk___init .nil pass0 (da_cons (dd_v (pv 4)) da_nil)) (l_make rfl)) (da_cons (n_c (dn_call (ok_mixed T) hr (by rfl) T.g_mixed T.F_mixed.kp T.b_mixed pass0 (da_cons (dd_v (pv 1)) (da_cons (dd_v (pv 3)) da_nil)))) (da_cons (n_c (dn_lst da_nil)) da_nil))))) (PG.mono (pg_tup (by rfl) (PGs.mono (pgs_cons (dg_name (i := 5) sc_law.nd rfl (Or.inl rfl)) (PGs.mono (pgs_cons (dg_name (i := 6) sc_law.nd rfl (Or.inr rfl)) (PGs.mono (pgs_cons (dg_name (i := 7) sc_law.nd rfl (Or.inl rfl)) dgs_nil) l_gcons)) l_gcons)) l_gcons)) (l_gtup rfl))) l_asg)
      (ss_cons (ds_set (i := 8) sc_law.nd rfl (.inl rfl) (n_c (dn_soSetI (by rfl) T.m_sorted (by rfl) T.m_set (c_b (dd_add (c_b (n_c (dn_lcV (own := [("_law_rect", 17)]) (pv 4) (by simp) (fun N0 H0 wi hi => pe_lc (own := [("_law_rect", 17)]) (by rfl) sc_law.nd hi (blkOk_by (own := [("_law_rect", 17)]) (N := ["_law_script", "_law_bag_here", "_law_turn", "_law_names_here", "_law_rects", "_law_desk_z", "_law_order_z", "_law_due", "_law_rows", "_law_k", "_law_handed", "_law_again", "_law_found", "_law_size", "_law_cells", "_law_x", "_law_name", "_law_rect", "_law_y"]) (sc := defScope s_law) (by decide +kernel)) (fun _ _ _ _ _ => (dg_name (i := 17) sc_law.nd rfl (Or.inl rfl))) (fun _ _ _ _ _ => ts_nil) (fun _ _ _ _ _ => (dd_ix hr (c_b (dd_v (pv 17))) (c_b dd_int))))))) (c_b (n_c (dn_lcV (own := [("_law_rect", 17)]) (pv 4) (by simp) (fun N0 H0 wi hi => pe_lc (own := [("_law_rect", 17)]) (by rfl) sc_law.nd hi (blkOk_by (own := [("_law_rect", 17)]) (N := ["_law_script", "_law_bag_here", "_law_turn", "_law_names_here", "_law_rects", "_law_desk_z", "_law_order_z", "_law_due", "_law_rows", "_law_k", "_law_handed", "_law_again", "_law_found", "_law_size", "_law_cells", "_law_x", "_law_name", "_law_rect", "_law_y"]) (sc := defScope s_law) (by decide +kernel)) (fun _ _ _ _ _ => (dg_name (i := 17) sc_law.nd rfl (Or.inl rfl))) (fun _ _ _ _ _ => ts_nil) (fun _ _ _ _ _ => (dd_ix hr (c_b (dd_v (pv 17))) (c_b dd_int))))))))))))
      (ss_cons (ds_for PassesOwn.never rfl (di_rng (by rfl) T.m_range (da_cons (dd_sub (c_b (dd_len (by rfl) T.m_len (c_b (dd_v (pv 8))))) (c_b dd_int)) da_nil)) (dg_name (i := 9) sc_law.nd rfl (Or.inl rfl)) (ss_one (ds_set (i := 7) sc_law.nd rfl (.inl rfl) (dd_add (c_b (dd_v (pv 7))) (c_b (n_c (dn_call (ok_band T) hr (by rfl) T.g_band T.F_band.kp T.b_band pass0 (da_cons (dd_v (pv 4)) (da_cons (dd_v (pv 6)) (da_cons (dd_ix hr (c_b (dd_v (pv 8))) (c_b (dd_v (pv 9)))) (da_cons (dd_ix hr (c_b (dd_v (pv 8))) (c_b (dd_add (c_b (dd_v (pv 9))) (c_b dd_int)))) da_nil)))))))))))
      (ss_cons (ds_set (i := 10) sc_law.nd rfl (.inl rfl) (n_c (dn_list (by rfl) T.m_list (c_b (dd_v (pv 6))))))
      (ss_cons (ds_for PassesOwn.never rfl (di_rng (by rfl) T.m_range (da_cons dd_int da_nil)) (dg_name (i := 11) sc_law.nd rfl (Or.inl rfl)) (ss_cons (ds_setO (i := 12) sc_law.nd rfl (.inl rfl) (dn_call (ok_tiles T) hr (by rfl) T.g_tiles T.F_tiles.kp T.b_tiles pass0 (da_cons (dd_v (pv 5)) (da_cons (dd_v (pv 10)) da_nil))))
      (ss_cons (ds_if (PW.pt (wt_or (dt_not (dt_val (dd_lend (i := 12) (dd_call (ok_like T) hr (by rfl) T.g_like T.F_like.kp T.b_like pass0 (da_cons (dd_v (pv 12)) (da_cons (dd_v (pv 7)) da_nil)))))) (wt_or1 (dt_ne hr (c_b (dd_v (pv 10))) (c_b (dd_v (pv 6))))))) (ss_one (ds_ret (by rfl) dd_bl)) ss_nil)
      (ss_one (ds_clr (pv 12))))))
      (ss_cons (ds_set (i := 13) sc_law.nd rfl (.inl rfl) (dd_sum (by rfl) T.m_sum (c_b (n_c (PE.mono (pe_lc (own := [("_law_rect", 17), ("_law_name", 16)]) (by rfl) sc_law.nd (db_seq (c_b (dd_v (pv 7)))) (blkOk_by (own := [("_law_rect", 17), ("_law_name", 16)]) (N := ["_law_script", "_law_bag_here", "_law_turn", "_law_names_here", "_law_rects", "_law_desk_z", "_law_order_z", "_law_due", "_law_rows", "_law_k", "_law_handed", "_law_again", "_law_found", "_law_size", "_law_cells", "_law_x", "_law_name", "_law_rect", "_law_y"]) (sc := defScope s_law) (by decide +kernel)) (fun _ _ _ _ _ => (PG.mono (pg_tup (by rfl) (PGs.mono (pgs_cons (dg_name (i := 17) sc_law.nd rfl (Or.inl rfl)) (PGs.mono (pgs_cons (dg_name (i := 16) sc_law.nd rfl (Or.inl rfl)) dgs_nil) l_gcons)) l_gcons)) (l_gtup rfl))) (fun _ _ _ _ _ => ts_nil) (fun _ _ _ _ _ => (dd_mul (c_b (dd_sub (c_b (dd_ix hr (c_b (dd_v (pv 17))) (c_b dd_int))) (c_b (dd_ix hr (c_b (dd_v (pv 17))) (c_b dd_int))))) (c_b (dd_sub (c_b (dd_ix hr (c_b (dd_v (pv 17))) (c_b dd_int))) (c_b (dd_ix hr (c_b (dd_v (pv 17))) (c_b dd_int)))))))) (l_lc (by simp)))))))
      (ss_cons (ds_set (i := 14) sc_law.nd rfl (.inl rfl) dd_int)
      (ss_cons (ds_for PassesOwn.never rfl (di_rngB (by rfl) T.m_range (da_cons (dd_neg dd_int) (da_cons dd_int da_nil))) (dg_name (i := 15) sc_law.nd rfl (Or.inr rfl)) (ss_one (ds_set (i := 14) sc_law.nd rfl (.inl rfl) (dd_add (c_b (dd_v (pv 14))) (c_b (dd_len (by rfl) T.m_len (c_b (n_c (PE.mono (pe_lc (own := [("_law_y", 18)]) (by rfl) sc_law.nd (db_rngB (by rfl) T.m_range (da_cons (dd_neg dd_int) (da_cons dd_int da_nil))) (blkOk_by (own := [("_law_y", 18)]) (N := ["_law_script", "_law_bag_here", "_law_turn", "_law_names_here", "_law_rects", "_law_desk_z", "_law_order_z", "_law_due", "_law_rows", "_law_k", "_law_handed", "_law_again", "_law_found", "_law_size", "_law_cells", "_law_x", "_law_name", "_law_rect", "_law_y"]) (sc := defScope s_law) (by decide +kernel)) (fun _ _ _ _ _ => (dg_name (i := 18) sc_law.nd rfl (Or.inl rfl))) (fun _ _ _ _ _ => (ts_one (dt_isnot (c_b (dd_call (ok_seen T) hr (by rfl) T.g_seen T.F_seen.kp T.b_seen pass0 (da_cons (dd_v (pv 4)) (da_cons (dd_v (pv 6)) (da_cons (dd_v (pv 15)) (da_cons (dd_v (pv 18)) da_nil)))))) (c_b dd_non)))) (fun _ _ _ _ _ => (dd_v (pv 18)))) (l_lc (by simp)))))))))))
      (ss_one (ds_if (PW.pt (wt_or (dt_ne hr (c_b (dd_v (pv 13))) (c_b (dd_v (pv 14)))) (wt_or1 (dt_not (dt_val (dd_call (ok_like T) hr (by rfl) T.g_like T.F_like.kp T.b_like pass0 (da_cons (dd_callKP (ok_tiles T) hr (by rfl) T.g_tiles T.F_tiles.kp T.kb_tiles_0_order_desk pass0 (dk_cons (n_c (dn_tuple (by rfl) T.m_tuple (c_b (dd_v (pv 6))))) (dk_cons (dd_v (pv 5)) dk_nil)) (fun h hl => kd_kb_tiles_0_order_desk h hl)) (da_cons (dd_v (pv 7)) da_nil)))))))) (ss_one (ds_ret (by rfl) dd_bl)) ss_nil)))))))))))))
      (ss_one (ds_ret (by rfl) dd_bl))))
    refine ⟨_, pss_cons (ps_set (i := 1) sc_law.nd rfl (.inr rfl) (pe_call (okb_bag T) hr (by rfl) T.g_bag T.F_bag.kp T.b_bag .nil pass0 (pa_cons (pv 0) pa_nil))) (pss_ex tm), ?_⟩
    refine ⟨.ref a, rfl, a, ns, rfl, hS, hlen, fun H0 b s0 e0 nb ns0 B0 => law_bag (n := 17) e0 nb B0 q ?_⟩
    exact rd_law T.C_Desk
end
theorem all_mk {l : PySem.W.OpenLaw} {w : World} {K : PySem.W.Frag} {h : Heap} {mg : Str → Option Value} {fa : Addr} (X : K.In h) (G : h.Ns mainGlobals mg) (hfa : mg "law" = some (.ref fa))
    {C_Desk : Addr} (aC_Desk : PySem.W.nsIn K mainGlobals "Desk" = some (some (.ref C_Desk)))
    {f0 : Addr} {od0 an0 : Option Addr} {sl0 : Array (Option Value)} {oc0 kV0 dc0 pm0 cd0 ct0 : Value}
    (a0 : PySem.W.nsIn K mainGlobals "check_order" = some (some (.ref f0)))
    (l0 : K.lookup f0 = some ⟨oc0, od0, .func (PySem.W.fnOf "check_order" "check_order" (defArgs s_check_order) (defBody s_check_order) (defScope s_check_order) .none kV0 dc0 pm0 an0 cd0 ct0), sl0⟩) (c0 : PySem.W.codeIn K cd0 "check_order" = true) (k0 : PySem.W.keepIn K (.ref f0) = true)
    {f1 : Addr} {od1 an1 : Option Addr} {sl1 : Array (Option Value)} {oc1 kV1 dc1 pm1 cd1 ct1 : Value}
    (a1 : PySem.W.nsIn K mainGlobals "is_order" = some (some (.ref f1)))
    (l1 : K.lookup f1 = some ⟨oc1, od1, .func (PySem.W.fnOf "is_order" "is_order" (defArgs s_is_order) (defBody s_is_order) (defScope s_is_order) .none kV1 dc1 pm1 an1 cd1 ct1), sl1⟩) (c1 : PySem.W.codeIn K cd1 "is_order" = true) (k1 : PySem.W.keepIn K (.ref f1) = true)
    {f2 : Addr} {od2 an2 : Option Addr} {sl2 : Array (Option Value)} {oc2 kV2 dc2 pm2 cd2 ct2 : Value}
    (a2 : PySem.W.nsIn K mainGlobals "is_rectangle" = some (some (.ref f2)))
    (l2 : K.lookup f2 = some ⟨oc2, od2, .func (PySem.W.fnOf "is_rectangle" "is_rectangle" (defArgs s_is_rectangle) (defBody s_is_rectangle) (defScope s_is_rectangle) .none kV2 dc2 pm2 an2 cd2 ct2), sl2⟩) (c2 : PySem.W.codeIn K cd2 "is_rectangle" = true) (k2 : PySem.W.keepIn K (.ref f2) = true)
    {f3 : Addr} {od3 an3 : Option Addr} {sl3 : Array (Option Value)} {oc3 kV3 dc3 pm3 cd3 ct3 : Value}
    (a3 : PySem.W.nsIn K mainGlobals "has_four_numbers" = some (some (.ref f3)))
    (l3 : K.lookup f3 = some ⟨oc3, od3, .func (PySem.W.fnOf "has_four_numbers" "has_four_numbers" (defArgs s_has_four_numbers) (defBody s_has_four_numbers) (defScope s_has_four_numbers) .none kV3 dc3 pm3 an3 cd3 ct3), sl3⟩) (c3 : PySem.W.codeIn K cd3 "has_four_numbers" = true) (k3 : PySem.W.keepIn K (.ref f3) = true)
    {f4 : Addr} {od4 an4 : Option Addr} {sl4 : Array (Option Value)} {oc4 kV4 dc4 pm4 cd4 ct4 : Value}
    (a4 : PySem.W.nsIn K mainGlobals "covers" = some (some (.ref f4)))
    (l4 : K.lookup f4 = some ⟨oc4, od4, .func (PySem.W.fnOf "covers" "covers" (defArgs s_covers) (defBody s_covers) (defScope s_covers) .none kV4 dc4 pm4 an4 cd4 ct4), sl4⟩) (c4 : PySem.W.codeIn K cd4 "covers" = true) (k4 : PySem.W.keepIn K (.ref f4) = true)
    {f5 : Addr} {od5 an5 : Option Addr} {sl5 : Array (Option Value)} {oc5 kV5 dc5 pm5 cd5 ct5 : Value}
    (a5 : PySem.W.nsIn K mainGlobals "covering" = some (some (.ref f5)))
    (l5 : K.lookup f5 = some ⟨oc5, od5, .func (PySem.W.fnOf "covering" "covering" (defArgs s_covering) (defBody s_covering) (defScope s_covering) .none kV5 dc5 pm5 an5 cd5 ct5), sl5⟩) (c5 : PySem.W.codeIn K cd5 "covering" = true) (k5 : PySem.W.keepIn K (.ref f5) = true)
    {f6 : Addr} {od6 an6 : Option Addr} {sl6 : Array (Option Value)} {oc6 kV6 dc6 pm6 cd6 ct6 : Value}
    (a6 : PySem.W.nsIn K mainGlobals "top_window" = some (some (.ref f6)))
    (l6 : K.lookup f6 = some ⟨oc6, od6, .func (PySem.W.fnOf "top_window" "top_window" (defArgs s_top_window) (defBody s_top_window) (defScope s_top_window) .none kV6 dc6 pm6 an6 cd6 ct6), sl6⟩) (c6 : PySem.W.codeIn K cd6 "top_window" = true) (k6 : PySem.W.keepIn K (.ref f6) = true)
    {f7 : Addr} {od7 an7 : Option Addr} {sl7 : Array (Option Value)} {oc7 kV7 dc7 pm7 cd7 ct7 : Value}
    (a7 : PySem.W.nsIn K mainGlobals "tiles" = some (some (.ref f7)))
    (l7 : K.lookup f7 = some ⟨oc7, od7, .func (PySem.W.fnOf "tiles" "tiles" (defArgs s_tiles) (defBody s_tiles) (defScope s_tiles) .none kV7 dc7 pm7 an7 cd7 ct7), sl7⟩) (c7 : PySem.W.codeIn K cd7 "tiles" = true) (k7 : PySem.W.keepIn K (.ref f7) = true)
    {f8 : Addr} {od8 an8 : Option Addr} {sl8 : Array (Option Value)} {oc8 kV8 dc8 pm8 cd8 ct8 : Value}
    (a8 : PySem.W.nsIn K mainGlobals "band_runs" = some (some (.ref f8)))
    (l8 : K.lookup f8 = some ⟨oc8, od8, .func (PySem.W.fnOf "band_runs" "band_runs" (defArgs s_band_runs) (defBody s_band_runs) (defScope s_band_runs) .none kV8 dc8 pm8 an8 cd8 ct8), sl8⟩) (c8 : PySem.W.codeIn K cd8 "band_runs" = true) (k8 : PySem.W.keepIn K (.ref f8) = true)
    {f9 : Addr} {od9 an9 : Option Addr} {sl9 : Array (Option Value)} {oc9 kV9 dc9 pm9 cd9 ct9 : Value}
    (a9 : PySem.W.nsIn K mainGlobals "is_name" = some (some (.ref f9)))
    (l9 : K.lookup f9 = some ⟨oc9, od9, .func (PySem.W.fnOf "is_name" "is_name" (defArgs s_is_name) (defBody s_is_name) (defScope s_is_name) .none kV9 dc9 pm9 an9 cd9 ct9), sl9⟩) (c9 : PySem.W.codeIn K cd9 "is_name" = true) (k9 : PySem.W.keepIn K (.ref f9) = true)
    {f10 : Addr} {od10 an10 : Option Addr} {sl10 : Array (Option Value)} {oc10 kV10 dc10 pm10 cd10 ct10 : Value}
    (a10 : PySem.W.nsIn K mainGlobals "check_windows" = some (some (.ref f10)))
    (l10 : K.lookup f10 = some ⟨oc10, od10, .func (PySem.W.fnOf "check_windows" "check_windows" (defArgs s_check_windows) (defBody s_check_windows) (defScope s_check_windows) .none kV10 dc10 pm10 an10 cd10 ct10), sl10⟩) (c10 : PySem.W.codeIn K cd10 "check_windows" = true) (k10 : PySem.W.keepIn K (.ref f10) = true)
    {f11 : Addr} {od11 an11 : Option Addr} {sl11 : Array (Option Value)} {oc11 kV11 dc11 pm11 cd11 ct11 : Value}
    (a11 : PySem.W.nsIn K mainGlobals "_law_bag" = some (some (.ref f11)))
    (l11 : K.lookup f11 = some ⟨oc11, od11, .func (PySem.W.fnOf "_law_bag" "_law_bag" (defArgs s_bag) (defBody s_bag) (defScope s_bag) .none kV11 dc11 pm11 an11 cd11 ct11), sl11⟩) (c11 : PySem.W.codeIn K cd11 "_law_bag" = true) (k11 : PySem.W.keepIn K (.ref f11) = true)
    {f12 : Addr} {od12 an12 : Option Addr} {sl12 : Array (Option Value)} {oc12 kV12 dc12 pm12 cd12 ct12 : Value}
    (a12 : PySem.W.nsIn K mainGlobals "_law_pull" = some (some (.ref f12)))
    (l12 : K.lookup f12 = some ⟨oc12, od12, .func (PySem.W.fnOf "_law_pull" "_law_pull" (defArgs s_pull) (defBody s_pull) (defScope s_pull) .none kV12 dc12 pm12 an12 cd12 ct12), sl12⟩) (c12 : PySem.W.codeIn K cd12 "_law_pull" = true) (k12 : PySem.W.keepIn K (.ref f12) = true)
    {f13 : Addr} {od13 an13 : Option Addr} {sl13 : Array (Option Value)} {oc13 kV13 dc13 pm13 cd13 ct13 : Value}
    (a13 : PySem.W.nsIn K mainGlobals "_law_of" = some (some (.ref f13)))
    (l13 : K.lookup f13 = some ⟨oc13, od13, .func (PySem.W.fnOf "_law_of" "_law_of" (defArgs s_of) (defBody s_of) (defScope s_of) .none kV13 dc13 pm13 an13 cd13 ct13), sl13⟩) (c13 : PySem.W.codeIn K cd13 "_law_of" = true) (k13 : PySem.W.keepIn K (.ref f13) = true)
    {f14 : Addr} {od14 an14 : Option Addr} {sl14 : Array (Option Value)} {oc14 kV14 dc14 pm14 cd14 ct14 : Value}
    (a14 : PySem.W.nsIn K mainGlobals "_law_like" = some (some (.ref f14)))
    (l14 : K.lookup f14 = some ⟨oc14, od14, .func (PySem.W.fnOf "_law_like" "_law_like" (defArgs s_like) (defBody s_like) (defScope s_like) .none kV14 dc14 pm14 an14 cd14 ct14), sl14⟩) (c14 : PySem.W.codeIn K cd14 "_law_like" = true) (k14 : PySem.W.keepIn K (.ref f14) = true)
    {f15 : Addr} {od15 an15 : Option Addr} {sl15 : Array (Option Value)} {oc15 kV15 dc15 pm15 cd15 ct15 : Value}
    (a15 : PySem.W.nsIn K mainGlobals "_law_mixed" = some (some (.ref f15)))
    (l15 : K.lookup f15 = some ⟨oc15, od15, .func (PySem.W.fnOf "_law_mixed" "_law_mixed" (defArgs s_mixed) (defBody s_mixed) (defScope s_mixed) .none kV15 dc15 pm15 an15 cd15 ct15), sl15⟩) (c15 : PySem.W.codeIn K cd15 "_law_mixed" = true) (k15 : PySem.W.keepIn K (.ref f15) = true)
    {f16 : Addr} {od16 an16 : Option Addr} {sl16 : Array (Option Value)} {oc16 kV16 dc16 pm16 cd16 ct16 : Value}
    (a16 : PySem.W.nsIn K mainGlobals "_law_names" = some (some (.ref f16)))
    (l16 : K.lookup f16 = some ⟨oc16, od16, .func (PySem.W.fnOf "_law_names" "_law_names" (defArgs s_names) (defBody s_names) (defScope s_names) .none kV16 dc16 pm16 an16 cd16 ct16), sl16⟩) (c16 : PySem.W.codeIn K cd16 "_law_names" = true) (k16 : PySem.W.keepIn K (.ref f16) = true)
    {f17 : Addr} {od17 an17 : Option Addr} {sl17 : Array (Option Value)} {oc17 kV17 dc17 pm17 cd17 ct17 : Value}
    (a17 : PySem.W.nsIn K mainGlobals "_law_rectangle" = some (some (.ref f17)))
    (l17 : K.lookup f17 = some ⟨oc17, od17, .func (PySem.W.fnOf "_law_rectangle" "_law_rectangle" (defArgs s_rectangle) (defBody s_rectangle) (defScope s_rectangle) .none kV17 dc17 pm17 an17 cd17 ct17), sl17⟩) (c17 : PySem.W.codeIn K cd17 "_law_rectangle" = true) (k17 : PySem.W.keepIn K (.ref f17) = true)
    {f18 : Addr} {od18 an18 : Option Addr} {sl18 : Array (Option Value)} {oc18 kV18 dc18 pm18 cd18 ct18 : Value}
    (a18 : PySem.W.nsIn K mainGlobals "_law_seen" = some (some (.ref f18)))
    (l18 : K.lookup f18 = some ⟨oc18, od18, .func (PySem.W.fnOf "_law_seen" "_law_seen" (defArgs s_seen) (defBody s_seen) (defScope s_seen) .none kV18 dc18 pm18 an18 cd18 ct18), sl18⟩) (c18 : PySem.W.codeIn K cd18 "_law_seen" = true) (k18 : PySem.W.keepIn K (.ref f18) = true)
    {f19 : Addr} {od19 an19 : Option Addr} {sl19 : Array (Option Value)} {oc19 kV19 dc19 pm19 cd19 ct19 : Value}
    (a19 : PySem.W.nsIn K mainGlobals "_law_band" = some (some (.ref f19)))
    (l19 : K.lookup f19 = some ⟨oc19, od19, .func (PySem.W.fnOf "_law_band" "_law_band" (defArgs s_band) (defBody s_band) (defScope s_band) .none kV19 dc19 pm19 an19 cd19 ct19), sl19⟩) (c19 : PySem.W.codeIn K cd19 "_law_band" = true) (k19 : PySem.W.keepIn K (.ref f19) = true)
    {f20 : Addr} {od20 an20 : Option Addr} {sl20 : Array (Option Value)} {oc20 kV20 dc20 pm20 cd20 ct20 : Value}
    (a20 : PySem.W.nsIn K mainGlobals "law" = some (some (.ref f20)))
    (l20 : K.lookup f20 = some ⟨oc20, od20, .func (PySem.W.fnOf "law" "law" (defArgs s_law) (defBody s_law) (defScope s_law) .none kV20 dc20 pm20 an20 cd20 ct20), sl20⟩) (c20 : PySem.W.codeIn K cd20 "law" = true) (k20 : PySem.W.keepIn K (.ref f20) = true)
    {f21 : Addr} {od21 an21 : Option Addr} {sl21 : Array (Option Value)} {oc21 kV21 dc21 pm21 cd21 ct21 : Value}
    (a21 : PySem.W.findIn K (.ref C_Desk) "__init__" = some (some (.ref f21))) (i21 : PySem.W.isFn K (.ref f21) = true)
    (l21 : K.lookup f21 = some ⟨oc21, od21, .func (PySem.W.fnOf "__init__" "Desk.__init__" (defArgs s_Desk___init) (defBody s_Desk___init) (defScope s_Desk___init) .none kV21 dc21 pm21 an21 cd21 ct21), sl21⟩) (c21 : PySem.W.codeIn K cd21 "Desk.__init__" = true) (k21 : PySem.W.keepIn K (.ref f21) = true)
    {f22 : Addr} {od22 an22 : Option Addr} {sl22 : Array (Option Value)} {oc22 kV22 dc22 pm22 cd22 ct22 : Value}
    (a22 : PySem.W.findIn K (.ref C_Desk) "names" = some (some (.ref f22))) (i22 : PySem.W.isFn K (.ref f22) = true)
    (l22 : K.lookup f22 = some ⟨oc22, od22, .func (PySem.W.fnOf "names" "Desk.names" (defArgs s_Desk_names) (defBody s_Desk_names) (defScope s_Desk_names) .none kV22 dc22 pm22 an22 cd22 ct22), sl22⟩) (c22 : PySem.W.codeIn K cd22 "Desk.names" = true) (k22 : PySem.W.keepIn K (.ref f22) = true)
    {f23 : Addr} {od23 an23 : Option Addr} {sl23 : Array (Option Value)} {oc23 kV23 dc23 pm23 cd23 ct23 : Value}
    (a23 : PySem.W.findIn K (.ref C_Desk) "rectangle" = some (some (.ref f23))) (i23 : PySem.W.isFn K (.ref f23) = true)
    (l23 : K.lookup f23 = some ⟨oc23, od23, .func (PySem.W.fnOf "rectangle" "Desk.rectangle" (defArgs s_Desk_rectangle) (defBody s_Desk_rectangle) (defScope s_Desk_rectangle) .none kV23 dc23 pm23 an23 cd23 ct23), sl23⟩) (c23 : PySem.W.codeIn K cd23 "Desk.rectangle" = true) (k23 : PySem.W.keepIn K (.ref f23) = true)
    (pg_Desk : PySem.W.plainGet K C_Desk Str.empty = true) (hd_Desk : PySem.W.hasDictIn K C_Desk = true) (po_Desk : PySem.W.plainOver K C_Desk = true) (sa_Desk : PySem.W.findIn K (.ref C_Desk) "__setattr__" = some (some (.builtin "object.__setattr__"))) (mk_Desk : PySem.W.makesIn K C_Desk = true) (kc_Desk : PySem.W.keepIn K (.ref C_Desk) = true)
    (nf_Desk_windows : PySem.W.findIn K (.ref C_Desk) "windows" = some none)
    (ic1_Desk : PySem.W.findIn K (.ref C_Desk) "__class__" = some (some (.builtin "object.__class__"))) (ic2_Desk : PySem.W.specialIn K (.builtin "object.__class__") "__get__" = some (some (.builtin "getset_descriptor.__get__"))) (ic3_Desk : PySem.W.takesIn K (.builtin "object.__class__") = some true) (ic4_Desk : PySem.W.mroIn K C_Desk (.type "object") = some true) (ic5_Desk : PySem.W.isClsIn K C_Desk = true) (ic6_Desk : PySem.W.typeIn K (.ref C_Desk) = some (.type "type"))
    (ne_Desk : PySem.W.findIn K (.ref C_Desk) "__ne__" = some (some (.builtin "object.__ne__")))
    (sub_dict_Desk : PySem.W.subIn K (.type "dict") (.ref C_Desk) = some false)
    (sub_list_Desk : PySem.W.subIn K (.type "list") (.ref C_Desk) = some false)
    {t_MOST_COORDINATE : Tok} (n_MOST_COORDINATE : PySem.W.nsIn K mainGlobals "MOST_COORDINATE" = some (some (.int 1000000000 t_MOST_COORDINATE)))
    {t_MOST_WINDOWS : Tok} (n_MOST_WINDOWS : PySem.W.nsIn K mainGlobals "MOST_WINDOWS" = some (some (.int 24 t_MOST_WINDOWS)))
    {t_MOST_LETTERS : Tok} (n_MOST_LETTERS : PySem.W.nsIn K mainGlobals "MOST_LETTERS" = some (some (.int 6 t_MOST_LETTERS)))
    {t_LETTERS : Tok} (n_LETTERS : PySem.W.nsIn K mainGlobals "LETTERS" = some (some (.str "abcdefghijklmnopqrstuvwxyz" t_LETTERS)))
    (z_all : PySem.W.nsIn K mainGlobals "all" = some none)
    (z_bool : PySem.W.nsIn K mainGlobals "bool" = some none)
    (z_dict : PySem.W.nsIn K mainGlobals "dict" = some none)
    (z_int : PySem.W.nsIn K mainGlobals "int" = some none)
    (z_isinstance : PySem.W.nsIn K mainGlobals "isinstance" = some none)
    (z_len : PySem.W.nsIn K mainGlobals "len" = some none)
    (z_list : PySem.W.nsIn K mainGlobals "list" = some none)
    (z_range : PySem.W.nsIn K mainGlobals "range" = some none)
    (z_set : PySem.W.nsIn K mainGlobals "set" = some none)
    (z_sorted : PySem.W.nsIn K mainGlobals "sorted" = some none)
    (z_str : PySem.W.nsIn K mainGlobals "str" = some none)
    (z_sum : PySem.W.nsIn K mainGlobals "sum" = some none)
    (z_tuple : PySem.W.nsIn K mainGlobals "tuple" = some none)
    (z_zip : PySem.W.nsIn K mainGlobals "zip" = some none)
    : ∃ fd : FuncData, (∀ (s : Shared) (v : Value), BindsTo s fd ⟨[v], []⟩ [("_law_script", v)]) ∧ ∀ base : Heap, K.In base → base.Ns mainGlobals mg → FnOk l.prog w K mg base CX0 8 fa fd ["_law_script"] (DL.spLaw K) := by
  have e := hfa.symm.trans (PySem.W.mg_of X G a20)
  cases e
  have F0 := fun_mk (st := s_check_order) l0 c0 k0
  have b0 := F0.binds (ps := ["desk", "order"]) fun _ _ _ _ _ _ us hl => match us, hl with | [_, _], _ => rfl
  have F1 := fun_mk (st := s_is_order) l1 c1 k1
  have b1 := F1.binds (ps := ["desk", "order"]) fun _ _ _ _ _ _ us hl => match us, hl with | [_, _], _ => rfl
  have F2 := fun_mk (st := s_is_rectangle) l2 c2 k2
  have b2 := F2.binds (ps := ["rectangle"]) fun _ _ _ _ _ _ us hl => match us, hl with | [_], _ => rfl
  have F3 := fun_mk (st := s_has_four_numbers) l3 c3 k3
  have b3 := F3.binds (ps := ["value"]) fun _ _ _ _ _ _ us hl => match us, hl with | [_], _ => rfl
  have F4 := fun_mk (st := s_covers) l4 c4 k4
  have b4 := F4.binds (ps := ["rectangle", "x", "y"]) fun _ _ _ _ _ _ us hl => match us, hl with | [_, _, _], _ => rfl
  have F5 := fun_mk (st := s_covering) l5 c5 k5
  have b5 := F5.binds (ps := ["desk", "names", "x", "y"]) fun _ _ _ _ _ _ us hl => match us, hl with | [_, _, _, _], _ => rfl
  have F6 := fun_mk (st := s_top_window) l6 c6 k6
  have b6 := F6.binds (ps := ["desk", "order", "x", "y"]) fun _ _ _ _ _ _ us hl => match us, hl with | [_, _, _, _], _ => rfl
  have F7 := fun_mk (st := s_tiles) l7 c7 k7
  have b7 := F7.binds (ps := ["desk", "order"]) fun _ _ _ _ _ _ us hl => match us, hl with | [_, _], _ => rfl
  have F8 := fun_mk (st := s_band_runs) l8 c8 k8
  have b8 := F8.binds (ps := ["desk", "order", "columns", "y"]) fun _ _ _ _ _ _ us hl => match us, hl with | [_, _, _, _], _ => rfl
  have F9 := fun_mk (st := s_is_name) l9 c9 k9
  have b9 := F9.binds (ps := ["text"]) fun _ _ _ _ _ _ us hl => match us, hl with | [_], _ => rfl
  have F10 := fun_mk (st := s_check_windows) l10 c10 k10
  have b10 := F10.binds (ps := ["windows"]) fun _ _ _ _ _ _ us hl => match us, hl with | [_], _ => rfl
  have F11 := fun_mk (st := s_bag) l11 c11 k11
  have b11 := F11.binds (ps := ["_law_script"]) fun _ _ _ _ _ _ us hl => match us, hl with | [_], _ => rfl
  have F12 := fun_mk (st := s_pull) l12 c12 k12
  have b12 := F12.binds (ps := ["_law_bag_here", "_law_amount"]) fun _ _ _ _ _ _ us hl => match us, hl with | [_, _], _ => rfl
  have F13 := fun_mk (st := s_of) l13 c13 k13
  have b13 := F13.binds (ps := ["_law_bag_here", "_law_things"]) fun _ _ _ _ _ _ us hl => match us, hl with | [_, _], _ => rfl
  have F14 := fun_mk (st := s_like) l14 c14 k14
  have b14 := F14.binds (ps := ["_law_found", "_law_due"]) fun _ _ _ _ _ _ us hl => match us, hl with | [_, _], _ => rfl
  have F15 := fun_mk (st := s_mixed) l15 c15 k15
  have b15 := F15.binds (ps := ["_law_bag_here", "_law_things"]) fun _ _ _ _ _ _ us hl => match us, hl with | [_, _], _ => rfl
  have F16 := fun_mk (st := s_names) l16 c16 k16
  have b16 := F16.binds (ps := ["_law_bag_here", "_law_count"]) fun _ _ _ _ _ _ us hl => match us, hl with | [_, _], _ => rfl
  have F17 := fun_mk (st := s_rectangle) l17 c17 k17
  have b17 := F17.binds (ps := ["_law_bag_here", "_law_scale"]) fun _ _ _ _ _ _ us hl => match us, hl with | [_, _], _ => rfl
  have F18 := fun_mk (st := s_seen) l18 c18 k18
  have b18 := F18.binds (ps := ["_law_rects", "_law_order_z", "_law_x", "_law_y"]) fun _ _ _ _ _ _ us hl => match us, hl with | [_, _, _, _], _ => rfl
  have F19 := fun_mk (st := s_band) l19 c19 k19
  have b19 := F19.binds (ps := ["_law_rects", "_law_order_z", "_law_top", "_law_bottom"]) fun _ _ _ _ _ _ us hl => match us, hl with | [_, _, _, _], _ => rfl
  have F20 := fun_mk (st := s_law) l20 c20 k20
  have b20 := F20.binds (ps := ["_law_script"]) fun _ _ _ _ _ _ us hl => match us, hl with | [_], _ => rfl
  have F21 := fun_mk (st := s_Desk___init) l21 c21 k21
  have b21 := F21.binds (ps := ["self", "windows"]) fun _ _ _ _ _ _ us hl => match us, hl with | [_, _], _ => rfl
  have F22 := fun_mk (st := s_Desk_names) l22 c22 k22
  have b22 := F22.binds (ps := ["self"]) fun _ _ _ _ _ _ us hl => match us, hl with | [_], _ => rfl
  have F23 := fun_mk (st := s_Desk_rectangle) l23 c23 k23
  have b23 := F23.binds (ps := ["self", "name"]) fun _ _ _ _ _ _ us hl => match us, hl with | [_, _], _ => rfl
  have kb_tiles_0_order_desk : KBinds K (PySem.W.fnOf "tiles" "tiles" (defArgs s_tiles) (defBody s_tiles) (defScope s_tiles) .none kV7 dc7 pm7 an7 cd7 ct7) ["desk", "order"] ["order", "desk"] (kwG_kb_tiles_0_order_desk (α := Value)) (kwG_kb_tiles_0_order_desk (α := V)) := by
    refine ⟨fun s us ws _ hl => ?_, fun {vs us zs ws} r1 r2 => ?_⟩
    · match us, ws, hl with
      | [], [c0, c1], _ => exact BindsTo.of_eq (fd := (PySem.W.fnOf "tiles" "tiles" (defArgs s_tiles) (defBody s_tiles) (defScope s_tiles) .none kV7 dc7 pm7 an7 cd7 ct7)) rfl
    · cases r1 with
      | nil =>
        cases r2 with
        | nil => exact .nil
        | cons q0 r2 =>
          cases r2 with
          | nil => exact .nil
          | cons q1 r2 =>
            cases r2 with
            | nil =>
              exact (.cons q1 (.cons q0 .nil))
            | cons _ _ => exact .nil
      | cons _ _ => (cases r2 <;> exact .nil)
  let T : Txt K mg := { f_check_order := _, fd_check_order := _, F_check_order := F0, b_check_order := b0, g_check_order := PySem.W.mg_of X G a0, f_is_order := _, fd_is_order := _, F_is_order := F1, b_is_order := b1, g_is_order := PySem.W.mg_of X G a1, f_is_rectangle := _, fd_is_rectangle := _, F_is_rectangle := F2, b_is_rectangle := b2, g_is_rectangle := PySem.W.mg_of X G a2, f_has_four_numbers := _, fd_has_four_numbers := _, F_has_four_numbers := F3, b_has_four_numbers := b3, g_has_four_numbers := PySem.W.mg_of X G a3, f_covers := _, fd_covers := _, F_covers := F4, b_covers := b4, g_covers := PySem.W.mg_of X G a4, f_covering := _, fd_covering := _, F_covering := F5, b_covering := b5, g_covering := PySem.W.mg_of X G a5, f_top_window := _, fd_top_window := _, F_top_window := F6, b_top_window := b6, g_top_window := PySem.W.mg_of X G a6, f_tiles := _, fd_tiles := _, F_tiles := F7, b_tiles := b7, g_tiles := PySem.W.mg_of X G a7, f_band_runs := _, fd_band_runs := _, F_band_runs := F8, b_band_runs := b8, g_band_runs := PySem.W.mg_of X G a8, f_is_name := _, fd_is_name := _, F_is_name := F9, b_is_name := b9, g_is_name := PySem.W.mg_of X G a9, f_check_windows := _, fd_check_windows := _, F_check_windows := F10, b_check_windows := b10, g_check_windows := PySem.W.mg_of X G a10, f_bag := _, fd_bag := _, F_bag := F11, b_bag := b11, g_bag := PySem.W.mg_of X G a11, f_pull := _, fd_pull := _, F_pull := F12, b_pull := b12, g_pull := PySem.W.mg_of X G a12, f_of := _, fd_of := _, F_of := F13, b_of := b13, g_of := PySem.W.mg_of X G a13, f_like := _, fd_like := _, F_like := F14, b_like := b14, g_like := PySem.W.mg_of X G a14, f_mixed := _, fd_mixed := _, F_mixed := F15, b_mixed := b15, g_mixed := PySem.W.mg_of X G a15, f_names := _, fd_names := _, F_names := F16, b_names := b16, g_names := PySem.W.mg_of X G a16, f_rectangle := _, fd_rectangle := _, F_rectangle := F17, b_rectangle := b17, g_rectangle := PySem.W.mg_of X G a17, f_seen := _, fd_seen := _, F_seen := F18, b_seen := b18, g_seen := PySem.W.mg_of X G a18, f_band := _, fd_band := _, F_band := F19, b_band := b19, g_band := PySem.W.mg_of X G a19, f_law := _, fd_law := _, F_law := F20, b_law := b20, g_law := PySem.W.mg_of X G a20, f_Desk___init := _, fd_Desk___init := _, F_Desk___init := F21, b_Desk___init := b21, s_Desk___init := a21, i_Desk___init := i21, M_Desk___init := ⟨a21, i21, k21⟩, f_Desk_names := _, fd_Desk_names := _, F_Desk_names := F22, b_Desk_names := b22, s_Desk_names := a22, i_Desk_names := i22, M_Desk_names := ⟨a22, i22, k22⟩, f_Desk_rectangle := _, fd_Desk_rectangle := _, F_Desk_rectangle := F23, b_Desk_rectangle := b23, s_Desk_rectangle := a23, i_Desk_rectangle := i23, M_Desk_rectangle := ⟨a23, i23, k23⟩, C_Desk := C_Desk, cl_Desk := ⟨pg_Desk, hd_Desk, po_Desk, sa_Desk⟩, M_Desk := ⟨mk_Desk, a21, i21, kc_Desk⟩, g_Desk := PySem.W.mg_of X G aC_Desk, n_Desk_windows := nf_Desk_windows, ic_Desk := ⟨⟨pg_Desk, hd_Desk, po_Desk, sa_Desk⟩, ic1_Desk, ic2_Desk, ic3_Desk, ic4_Desk, kit_me _ _⟩, ne_Desk := ne_Desk, mo_Desk := ic4_Desk, sub_dict_Desk := sub_dict_Desk, kit_dict_Desk := kit_sub ic5_Desk ic6_Desk sub_dict_Desk, sub_list_Desk := sub_list_Desk, kit_list_Desk := kit_sub ic5_Desk ic6_Desk sub_list_Desk, kb_tiles_0_order_desk := kb_tiles_0_order_desk, t_MOST_COORDINATE := t_MOST_COORDINATE, c_MOST_COORDINATE := PySem.W.mg_of X G n_MOST_COORDINATE, t_MOST_WINDOWS := t_MOST_WINDOWS, c_MOST_WINDOWS := PySem.W.mg_of X G n_MOST_WINDOWS, t_MOST_LETTERS := t_MOST_LETTERS, c_MOST_LETTERS := PySem.W.mg_of X G n_MOST_LETTERS, t_LETTERS := t_LETTERS, c_LETTERS := PySem.W.mg_of X G n_LETTERS, m_all := PySem.W.mg_none_of X G z_all, m_bool := PySem.W.mg_none_of X G z_bool, m_dict := PySem.W.mg_none_of X G z_dict, m_int := PySem.W.mg_none_of X G z_int, m_isinstance := PySem.W.mg_none_of X G z_isinstance, m_len := PySem.W.mg_none_of X G z_len, m_list := PySem.W.mg_none_of X G z_list, m_range := PySem.W.mg_none_of X G z_range, m_set := PySem.W.mg_none_of X G z_set, m_sorted := PySem.W.mg_none_of X G z_sorted, m_str := PySem.W.mg_none_of X G z_str, m_sum := PySem.W.mg_none_of X G z_sum, m_tuple := PySem.W.mg_none_of X G z_tuple, m_zip := PySem.W.mg_none_of X G z_zip }
  exact ⟨(PySem.W.fnOf "law" "law" (defArgs s_law) (defBody s_law) (defScope s_law) .none kV20 dc20 pm20 an20 cd20 ct20), fun s v => .of_eq rfl, fun base _ _ => ok_law T⟩
end RK
open PySem PySem.W PyProof.Rows
set_option maxHeartbeats 0 in
theorem PySem.Challenge.cw_raisekeys_k12_tiles_of_orders_holds : PySem.Challenge.rw_raisekeys_k12_tiles_of_orders.Holds := by
  w_on; o_law; k_head; (case hw => w_witness2)
  k_fill
  refine L2.walk_of (l := PySem.Challenge.rw_raisekeys_k12_tiles_of_orders) (n := 63) (k := 8) (x := "_law_script") (CX := fun _ => L2.CX0) (sp := fun w => DL.spLaw _) rfl (by decide) rfl ⟨rfl, by decide, by decide⟩ (fun w h Y => PySem.W.kIn_of Y) ?F (fun _ _ a ns hl _ hS => ⟨a, ns, rfl, hS, hl, fun _ => rfl⟩) (fun _ _ _ _ _ h => h)
  case F =>
    intro w mg fa h KX G hmg
    refine' RK.all_mk KX G hmg ?aC_Desk ?a0 ?l0 ?c0 ?k0 ?a1 ?l1 ?c1 ?k1 ?a2 ?l2 ?c2 ?k2 ?a3 ?l3 ?c3 ?k3 ?a4 ?l4 ?c4 ?k4 ?a5 ?l5 ?c5 ?k5 ?a6 ?l6 ?c6 ?k6 ?a7 ?l7 ?c7 ?k7 ?a8 ?l8 ?c8 ?k8 ?a9 ?l9 ?c9 ?k9 ?a10 ?l10 ?c10 ?k10 ?a11 ?l11 ?c11 ?k11 ?a12 ?l12 ?c12 ?k12 ?a13 ?l13 ?c13 ?k13 ?a14 ?l14 ?c14 ?k14 ?a15 ?l15 ?c15 ?k15 ?a16 ?l16 ?c16 ?k16 ?a17 ?l17 ?c17 ?k17 ?a18 ?l18 ?c18 ?k18 ?a19 ?l19 ?c19 ?k19 ?a20 ?l20 ?c20 ?k20 ?a21 ?i21 ?l21 ?c21 ?k21 ?a22 ?i22 ?l22 ?c22 ?k22 ?a23 ?i23 ?l23 ?c23 ?k23 ?pg_Desk ?hd_Desk ?po_Desk ?sa_Desk ?mk_Desk ?kc_Desk ?nf_Desk_windows ?ic1_Desk ?ic2_Desk ?ic3_Desk ?ic4_Desk ?ic5_Desk ?ic6_Desk ?ne_Desk ?sub_dict_Desk ?sub_list_Desk ?n_MOST_COORDINATE ?n_MOST_WINDOWS ?n_MOST_LETTERS ?n_LETTERS ?z_all ?z_bool ?z_dict ?z_int ?z_isinstance ?z_len ?z_list ?z_range ?z_set ?z_sorted ?z_str ?z_sum ?z_tuple ?z_zip
    (case aC_Desk => k_is)
    (case a0 => k_is)
    (case l0 => k_is)
    (case c0 => k_is)
    (case k0 => k_is)
    (case a1 => k_is)
    (case l1 => k_is)
    (case c1 => k_is)
    (case k1 => k_is)
    (case a2 => k_is)
    (case l2 => k_is)
    (case c2 => k_is)
    (case k2 => k_is)
    (case a3 => k_is)
    (case l3 => k_is)
    (case c3 => k_is)
    (case k3 => k_is)
    (case a4 => k_is)
    (case l4 => k_is)
    (case c4 => k_is)
    (case k4 => k_is)
    (case a5 => k_is)
    (case l5 => k_is)
    (case c5 => k_is)
    (case k5 => k_is)
    (case a6 => k_is)
    (case l6 => k_is)
    (case c6 => k_is)
    (case k6 => k_is)
    (case a7 => k_is)
    (case l7 => k_is)
    (case c7 => k_is)
    (case k7 => k_is)
    (case a8 => k_is)
    (case l8 => k_is)
    (case c8 => k_is)
    (case k8 => k_is)
    (case a9 => k_is)
    (case l9 => k_is)
    (case c9 => k_is)
    (case k9 => k_is)
    (case a10 => k_is)
    (case l10 => k_is)
    (case c10 => k_is)
    (case k10 => k_is)
    (case a11 => k_is)
    (case l11 => k_is)
    (case c11 => k_is)
    (case k11 => k_is)
    (case a12 => k_is)
    (case l12 => k_is)
    (case c12 => k_is)
    (case k12 => k_is)
    (case a13 => k_is)
    (case l13 => k_is)
    (case c13 => k_is)
    (case k13 => k_is)
    (case a14 => k_is)
    (case l14 => k_is)
    (case c14 => k_is)
    (case k14 => k_is)
    (case a15 => k_is)
    (case l15 => k_is)
    (case c15 => k_is)
    (case k15 => k_is)
    (case a16 => k_is)
    (case l16 => k_is)
    (case c16 => k_is)
    (case k16 => k_is)
    (case a17 => k_is)
    (case l17 => k_is)
    (case c17 => k_is)
    (case k17 => k_is)
    (case a18 => k_is)
    (case l18 => k_is)
    (case c18 => k_is)
    (case k18 => k_is)
    (case a19 => k_is)
    (case l19 => k_is)
    (case c19 => k_is)
    (case k19 => k_is)
    (case a20 => k_is)
    (case l20 => k_is)
    (case c20 => k_is)
    (case k20 => k_is)
    (case a21 => k_is)
    (case i21 => k_is)
    (case l21 => k_is)
    (case c21 => k_is)
    (case k21 => k_is)
    (case a22 => k_is)
    (case i22 => k_is)
    (case l22 => k_is)
    (case c22 => k_is)
    (case k22 => k_is)
    (case a23 => k_is)
    (case i23 => k_is)
    (case l23 => k_is)
    (case c23 => k_is)
    (case k23 => k_is)
    (case pg_Desk => k_is)
    (case hd_Desk => k_is)
    (case po_Desk => k_is)
    (case sa_Desk => k_is)
    (case mk_Desk => k_is)
    (case kc_Desk => k_is)
    (case nf_Desk_windows => k_is)
    (case ic1_Desk => k_is)
    (case ic2_Desk => k_is)
    (case ic3_Desk => k_is)
    (case ic4_Desk => k_is)
    (case ic5_Desk => k_is)
    (case ic6_Desk => k_is)
    (case ne_Desk => k_is)
    (case sub_dict_Desk => k_is)
    (case sub_list_Desk => k_is)
    (case n_MOST_COORDINATE => k_is)
    (case n_MOST_WINDOWS => k_is)
    (case n_MOST_LETTERS => k_is)
    (case n_LETTERS => k_is)
    (case z_all => k_is)
    (case z_bool => k_is)
    (case z_dict => k_is)
    (case z_int => k_is)
    (case z_isinstance => k_is)
    (case z_len => k_is)
    (case z_list => k_is)
    (case z_range => k_is)
    (case z_set => k_is)
    (case z_sorted => k_is)
    (case z_str => k_is)
    (case z_sum => k_is)
    (case z_tuple => k_is)
    (case z_zip => k_is)
