import PyProof.Rows.All
import Wide.All
import OpenK.AllK
import Wide.FinOn
import HandS.Wide
import HandS.Base
import HandS.Call
import HandS.List
import HandS.Comp
import HandS.Ends
import HandS.Dict
import HandS.Iter
import HandS.Text
import HandS.Words
import HandS.Codes
import HandS.Defaults
import HandS.IsInst
import HandS.MakeKwOnly
import HandS.DictComp
import HandS.DictEq
import HandS.More
import HandS.Conv
import HandS.FStr
import HandS.Style
import KE.KDictZip
import KE.KFmtOwn
import HandS.Walk
import HandS.Lambda
import HandS.Nested
import HandS.Deep
import HandS.WordsDict
import KE.GoesMore
import PyProof.EnumMake
import KE.SortData
import HandS.Zip
import HandS.WideBits
import HandS.TupLe
import KE.DataMinMax
import HandS.SetKeys
import HandS.Strs
import HandS.SetFor
import PyProof.Rows.SetFrom
import PyProof.DictUpdate
import PyProof.DictDisplay
import PyProof.ReprRoads
import HandS.Exc
import HandS.ExcOwn
import HandS.TryMany
import HandS.ExcCtx
import HandS.ExcField
import HandS.HotCalls
import HandS.ClsMeth
import HandS.ExcInit
import KE.KExcInit
import PyProof.ExcFactsAll.LookupError
import PyProof.ExcFactsAll.IndexError
import HandS.WordsExc
import PyProof.StrLawsRepr
import HandS.EndTab
import HandS.NestedK
import KE.GoesZip
import HandS.Star
import HandS.SortKw
import HandS.ListItems
import HandS.Flow
import KE.KExcLine
import PySem.Challenge.RW_raisekeys_k18_wrong_wishes
set_option Elab.async false
set_option linter.all false
set_option maxRecDepth 100000
set_option maxHeartbeats 4000000
namespace RK
open PySem PySem.Spec PyProof.Rows L2
theorem same_new {H : Hp} {p : Addr} (h : H p = none) (o : HO) : Same H (upd H p o) := fun b u q => by rw [upd_ne (ne_of_none q h)]; exact q
def Keep (b : Addr) (H H' : Hp) : Prop := ∀ a o, a ≠ b → H a = some o → H' a = some o
theorem Keep.refl (b : Addr) (H : Hp) : Keep b H H := fun _ _ _ h => h
theorem Keep.trans {b : Addr} {H H1 H2 : Hp} (a : Keep b H H1) (c : Keep b H1 H2) : Keep b H H2 := fun x o n h => c x o n (a x o n h)
theorem Keep.of {b : Addr} {H H1 : Hp} (a : Same H H1) : Keep b H H1 := fun x o _ h => a x o h
theorem Keep.upd {b : Addr} {H H1 : Hp} {o : HO} (a : Keep b H H1) : Keep b H (upd H1 b o) := fun x u n h => by rw [upd_ne n]; exact a x u n h
theorem Keep.tup {b t : Addr} {H H1 : Hp} {xs ys : List V} (k : Keep b H H1) (hb : H b = some (.lst ys)) (h : H t = some (.tup xs)) : H1 t = some (.tup xs) := k t _ (ne_of h hb (by intro z; cases z)) h
theorem Keep.dK {b t : Addr} {H H1 : Hp} {xs : List (Key × V)} {ys : List V} (k : Keep b H H1) (hb : H b = some (.lst ys)) (h : H t = some (.dK xs)) : H1 t = some (.dK xs) := k t _ (ne_of h hb (by intro z; cases z)) h
theorem Keep.free {b l : Addr} {H H1 : Hp} (k : Keep b H H1) (n : l ≠ b) (h : H1 l = none) : H l = none := by
  cases q : H l with
  | none => rfl
  | some o =>
    rw [k l o n q] at h
    cases h
structure BagC (H : Hp) (b s : Addr) (ns : List Int) (i : Nat) (big salt : Int) : Prop where
  hb : H b = some (.lst [.ref s, .int i, .int big, .int salt])
  hs : H s = some (.lst (ns.map V.int))
  ne : s ≠ b
  hi : i ≤ ns.length
  hn : ns.length ≤ 63
  h0 : 0 ≤ big
  h1 : 0 ≤ salt
  h2 : salt < 2147483647
def Bag (b s : Addr) (H : Hp) : Prop := ∃ ns i big salt, BagC H b s ns i big salt
theorem Bag.hb {b s : Addr} {H : Hp} (B : Bag b s H) : ∃ ys, H b = some (.lst ys) := by
  obtain ⟨ns, i, big, salt, B⟩ := B
  exact ⟨_, B.hb⟩
theorem Bag.hs {b s : Addr} {H : Hp} (B : Bag b s H) : ∃ ys, H s = some (.lst ys) := by
  obtain ⟨ns, i, big, salt, B⟩ := B
  exact ⟨_, B.hs⟩
theorem Bag.ne {b s : Addr} {H : Hp} (B : Bag b s H) : s ≠ b := by
  obtain ⟨ns, i, big, salt, B⟩ := B
  exact B.ne
theorem Bag.same {b s : Addr} {H H1 : Hp} (B : Bag b s H) (e : Same H H1) : Bag b s H1 := by
  obtain ⟨ns, i, big, salt, B⟩ := B
  exact ⟨ns, i, big, salt, e _ _ B.hb, e _ _ B.hs, B.ne, B.hi, B.hn, B.h0, B.h1, B.h2⟩
theorem Bag.new {b s p : Addr} {H : Hp} {o : HO} (B : Bag b s H) (h : H p = none) : Bag b s (upd H p o) := B.same (same_new h o)
theorem Bag.upd {b s p : Addr} {H : Hp} {o : HO} (B : Bag b s H) (h1 : p ≠ b) (h2 : p ≠ s) : Bag b s (upd H p o) := by
  obtain ⟨ns, i, big, salt, B⟩ := B
  exact ⟨ns, i, big, salt, by rw [upd_ne h1.symm]; exact B.hb, by rw [upd_ne h2.symm]; exact B.hs, B.ne, B.hi, B.hn, B.h0, B.h1, B.h2⟩
theorem Keep.of_tup {b s t : Addr} {H H1 : Hp} {xs : List V} (k : Keep b H H1) (B : Bag b s H) (h : H t = some (.tup xs)) : H1 t = some (.tup xs) := by
  obtain ⟨ys, hb⟩ := B.hb
  exact k.tup hb h
theorem sz {n : Nat} (h : n ≤ 1000) : n ≤ sizeLine := Nat.le_of_lt (small1000 h)
theorem cdivw {n : Int} (h1 : 1 ≤ n) (h2 : n ≤ 10000000000000000000000000000000000000000) : CDivW 0 n := by
  refine ⟨by omega, ?_⟩
  have h3 : n.natAbs < 2 ^ 200 := by
    have e : (2 : Nat) ^ 200 = 1606938044258990275541962092341162602522202993782792835301376 := by decide +kernel
    rw [e]
    omega
  have := (Nat.log2_lt (by omega)).mpr h3
  omega
def NoT (H H' : Hp) : Prop := ∀ a ps, H' a = some (.tbl ps) → ∃ qs, H a = some (.tbl qs)
def Ntb : HO → Prop
  | .tbl _ => False
  | _ => True
theorem noT_upd {H : Hp} {p : Addr} {o : HO} (n : Ntb o) : NoT H (upd H p o) := fun a ps h => by
  by_cases e : a = p
  · rw [e, upd_same] at h
    cases h
    exact n.elim
  · rw [upd_ne e] at h
    exact ⟨_, h⟩
structure KeepT (b : Addr) (H H' : Hp) : Prop where
  f : Keep b H H'
  n : NoT H H'
theorem KeepT.refl (b : Addr) (H : Hp) : KeepT b H H := ⟨Keep.refl b H, fun _ _ z => ⟨_, z⟩⟩
theorem KeepT.upd {b : Addr} {H H1 : Hp} {xs : List V} (k : KeepT b H H1) : KeepT b H (upd H1 b (.lst xs)) := ⟨k.f.upd, fun a ps h => let ⟨qs, q⟩ := noT_upd (o := .lst xs) True.intro a ps h; k.n a qs q⟩
def spPull : Sp := fun vs H Q _ => ∃ (b s : Addr) (n : Int), vs = [.ref b, .int n] ∧ Bag b s H ∧ 1 ≤ n ∧ n ≤ 10000000000000000000000000000000000000000 ∧ ∀ r H', 0 ≤ r → r < n → KeepT b H H' → Bag b s H' → Q (.int r) H'
theorem cut63 (ns : List Int) (h : ns.length ≤ 63) : cutV (ns.map V.int) none (some 63) = ns.map V.int := by
  unfold cutV
  rw [HT.sIx_none, show HT.sIx (ns.map V.int).length (ns.map V.int).length (some 63) = min 63 (ns.map V.int).length from HT.sIx_nat _ _ 63]
  rw [List.drop_zero, List.length_map]
  exact List.take_of_length_le (by rw [List.length_map]; omega)
theorem at0 {α : Type} {x : α} {xs : List α} : atI (x :: xs) 0 = some x := atI_nat (j := 0) rfl
theorem at1 {α : Type} {x y : α} {xs : List α} : atI (x :: y :: xs) 1 = some y := atI_nat (j := 1) rfl
theorem at2 {α : Type} {x y z : α} {xs : List α} : atI (x :: y :: z :: xs) 2 = some z := atI_nat (j := 2) rfl
theorem at3 {α : Type} {x y z w : α} {xs : List α} : atI (x :: y :: z :: w :: xs) 3 = some w := atI_nat (j := 3) rfl
section
variable {X : Cx} {CX : CXT} {k : Nat} {f : Addr} {fd : FuncData} {ps ks : List Str} {sp : Sp} {E : XK} {x : Str} {p pos : Pos} {kws : List Keyword} {tk : TA} {g : List Value → List Value → List Value} {gV : List V → List V → List V}
end
def rLenQ (K : PySem.W.Frag) : List V → Hp → VK → Prop := fun xs H Q => ∃ p ys, xs = [.ref p] ∧ (SqL K H p ys ∨ SqT K H p ys) ∧ Q (.int ys.length) H
theorem call_lenQ {X : Cx} : CallR X (.builtin "len") (rLenQ X.K) := call_len_seq
def rListQ (K : PySem.W.Frag) : List V → Hp → VK → Prop := fun xs H Q => ∃ p ys, xs = [.ref p] ∧ (SqL K H p ys ∨ SqT K H p ys) ∧ ∀ l, H l = none → Q (.ref l) (upd H l (.lst ys))
theorem call_listQ {X : Cx} : CallR X (.type "list") (rListQ X.K) := call_list_of
section
variable {K : PySem.W.Frag} {H H' : Hp}
theorem same_tup {a : Addr} {xs : List V} (e : Same H H') (h : SqT K H a xs) : SqT K H' a xs := by
  rcases h with (h | ⟨o, h⟩) | h
  · exact .inl (.inl (e _ _ h))
  · exact .inl (.inr ⟨o, e _ _ h⟩)
  · exact .inr h
mutual
theorem dp_same (e : Same H H') : ∀ {v : V} {d : PyData}, Dp K H v d → Dp K H' v d
  | _, _, .non => .non
  | _, _, .bl b => .bl b
  | _, _, .int i => .int i
  | _, _, .str x => .str x
  | _, _, .lst h a => .lst (e.seq h) (dpAll_same e a)
  | _, _, .tup h a => .tup (same_tup e h) (dpAll_same e a)
theorem dpAll_same (e : Same H H') : ∀ {vs : List V} {ds : List PyData}, DpAll K H vs ds → DpAll K H' vs ds
  | _, _, .nil => .nil
  | _, _, .cons h a => .cons (dp_same e h) (dpAll_same e a)
end
def tyN : PyData → String
  | .none => "NoneType" | .bool _ => "bool" | .int _ => "int" | .str _ => "str" | .list _ => "list" | .tuple _ => "tuple" | .dict _ => "dict"
def isT : PyData → Bool
  | .tuple _ => true | _ => false
theorem kT : ∀ d : PyData, PySem.W.kitOne K (.type (tyN d)) (.type "tuple") = some (isT d)
  | .none => kit_ty (by decide +kernel : kitB "NoneType" "tuple" = some false)
  | .bool _ => kit_ty (by decide +kernel : kitB "bool" "tuple" = some false)
  | .int _ => kit_ty (by decide +kernel : kitB "int" "tuple" = some false)
  | .str _ => kit_ty (by decide +kernel : kitB "str" "tuple" = some false)
  | .list _ => kit_ty (by decide +kernel : kitB "list" "tuple" = some false)
  | .tuple _ => kit_ty (by decide +kernel : kitB "tuple" "tuple" = some true)
  | .dict _ => kit_ty (by decide +kernel : kitB "dict" "tuple" = some false)
end
structure R where
  l : Int
  t : Int
  r : Int
  b : Int
def R.vs (p : R) : List V := [.int p.l, .int p.t, .int p.r, .int p.b]
def R.ds (p : R) : List PyData := [.int p.l, .int p.t, .int p.r, .int p.b]
def R.good (p : R) : Prop := -1000000000 ≤ p.l ∧ p.l ≤ 1000000000 ∧ -1000000000 ≤ p.t ∧ p.t ≤ 1000000000 ∧ -1000000000 ≤ p.r ∧ p.r ≤ 1000000000 ∧ -1000000000 ≤ p.b ∧ p.b ≤ 1000000000 ∧ p.l < p.r ∧ p.t < p.b
def R.has (p : R) (x y : Int) : Prop := p.l ≤ x ∧ x < p.r ∧ p.t ≤ y ∧ y < p.b
theorem R.dp {K : PySem.W.Frag} {H : Hp} (p : R) : DpAll K H p.vs p.ds := .cons (.int _) (.cons (.int _) (.cons (.int _) (.cons (.int _) .nil)))
end RK
namespace RK
open PySem PySem.Spec PyProof.Rows L2
section
variable {X : Cx}
inductive NotSub (K : PySem.W.Frag) (C : Addr) (H : Hp) : V → Prop
  | ins {a dx : Addr} {fs : List (Str × V)} : H a = some (.ins C dx fs) → NotSub K C H (.ref a)
  | dK {a : Addr} {kvs : List (Key × V)} : H a = some (.dK kvs) → PySem.W.subIn K (.type "dict") (.ref C) = some false → NotSub K C H (.ref a)
  | lst {a : Addr} {xs : List V} : H a = some (.lst xs) → PySem.W.subIn K (.type "list") (.ref C) = some false → NotSub K C H (.ref a)
end
end RK
namespace RK
open PySem PySem.Spec PyProof.Rows L2
section
open PySem.W
variable {prog : Program} {w : World} {K : PySem.W.Frag} {A : Around} {E : Value → Shared → Prop} {s : Shared} {x C f : Addr} {ox : Obj} {od : Option Obj}
open Builtin in
end
section
variable {X : Cx}
end
section
variable {X : Cx} {CX : CXT} {k : Nat} {f C : Addr} {fd : FuncData} {ps ks : List Str} {sp : Sp} {E : XK} {m : Str} {pos apos : Pos} {o : Expr} {kws : List Keyword} {ta : TE} {tk : TA} {g : List Value → List Value → List Value} {gV : List V → List V → List V}
end
end RK
namespace RK
open PySem PySem.Spec PyProof.Rows L2
theorem str_len (z : Str) : z.length = z.cps.toList.length := by
  show z.cps.size = _
  simp
theorem app_codes (a b : Str) : (a ++ b).cps.toList = a.cps.toList ++ b.cps.toList := by
  show (a.cps ++ b.cps).toList = _
  simp
theorem cut_codes (z : Str) (lo hi : Option Int) : (cutS z lo hi).cps.toList = (z.cps.toList.drop (HT.sIx z.length 0 lo)).take (HT.sIx z.length z.length hi - HT.sIx z.length 0 lo) := by
  unfold cutS
  simp
def Low (c : Nat) : Prop := 97 ≤ c ∧ c ≤ 122
def NameOk (z : Str) : Prop := 1 ≤ z.length ∧ z.length ≤ 6 ∧ ∀ c ∈ z.cps.toList, Low c
abbrev abc : Str := "abcdefghijklmnopqrstuvwxyz"
theorem abc_codes : abc.cps.toList = List.range' 97 26 := by decide +kernel
theorem abc_len : abc.length = 26 := by rw [str_len, abc_codes]; rfl
theorem abc_mem {c : Nat} : c ∈ abc.cps.toList ↔ Low c := by
  rw [abc_codes, List.mem_range'_1]
  unfold Low
  omega
theorem one_len (c : Nat) : (⟨#[c]⟩ : Str).length = 1 := rfl
theorem mul_codes (c : Nat) : ∀ n : Nat, 1 ≤ n → ∃ k, (Txt.mul ⟨#[c]⟩ (n : Int)).cps.toList = List.replicate k c ∧ k = n := by
  intro n hn
  refine ⟨n, ?_, rfl⟩
  unfold Txt.mul
  rw [if_neg (by omega)]
  by_cases h1 : n = 1
  · subst h1
    rfl
  · have e1 : (((n : Int) == 1) || (⟨#[c]⟩ : Str).length == 0) = false := by
      have : ((n : Int) == 1) = false := by simp; omega
      rw [this]
      rfl
    rw [e1, if_neg (by decide)]
    show ((List.replicate (n : Int).toNat #[c]).foldl (· ++ ·) #[]).toList = _
    rw [Int.toNat_natCast]
    have key : ∀ (m : Nat) (acc : Array Nat), ((List.replicate m #[c]).foldl (· ++ ·) acc).toList = acc.toList ++ List.replicate m c := by
      intro m
      induction m with
      | zero => intro acc; simp
      | succ m ih =>
        intro acc
        rw [List.replicate_succ, List.foldl_cons, ih]
        simp [List.replicate_succ]
    rw [key]
    rfl
section
variable {X : Cx}
theorem op_mul_str : OpR X (binaryOp .Mult) (fun x y H Q => ∃ (c : Nat) (n : Int), x = .str ⟨#[c]⟩ ∧ y = .int n ∧ 1 ≤ n ∧ n ≤ 1000 ∧ Q (.str (Txt.mul ⟨#[c]⟩ n)) H) := by
  intro pins s σ H x y u v Q I rx ry h
  obtain ⟨c, n, rfl, rfl, h1, h2, q⟩ := h
  obtain ⟨t, rfl⟩ := rx
  obtain ⟨k, rfl⟩ := ry
  refine PySem.SB.mul (x := ⟨#[c]⟩) ⟨?_, ?_, ?_⟩ (fun t' k' => ⟨.str _, H, I.tok _, ⟨_, rfl⟩, q⟩)
  · rw [decide_eq_false (by omega), decide_eq_false (by omega)]
    rfl
  · intro _ _
    have : (1 : Int) ≤ (2 ^ 63 - 1) / n := by
      rw [Int.le_ediv_iff_mul_le (by omega)]
      omega
    show ¬ ((1 : Int) > _)
    omega
  · intro _ _
    show Builtin.Str.tooLong (1 * n.toNat) = false
    rw [Nat.one_mul]
    have hn : n.toNat ≤ 1000 := by omega
    unfold Builtin.Str.tooLong
    exact decide_eq_false (by
      have : (1000 : Nat) ≤ sizeLine := by decide
      omega)
end
def leS (a b : Str) : Prop := ¬ b.cps.toList < a.cps.toList
end RK
namespace RK
open PySem PySem.Spec PyProof.Rows L2
abbrev W3 := Str × Addr × R
def kvOf (w : W3) : Key × V := (Sum.inr w.1, .ref w.2.1)
def putW (ws : List W3) (w : W3) : List W3 := if (ws.any fun v => decide (v.1 = w.1)) = true then ws.map (fun v => if v.1 = w.1 then w else v) else ws ++ [w]
def Names (ws : List W3) : List Str := ws.map (·.1)
theorem put_len (ws : List W3) (w : W3) : ws.length ≤ (putW ws w).length ∧ (putW ws w).length ≤ ws.length + 1 ∧ 1 ≤ (putW ws w).length := by
  unfold putW
  by_cases e : (ws.any fun v => decide (v.1 = w.1)) = true
  · rw [if_pos e, List.length_map]
    obtain ⟨v, hv, _⟩ := List.any_eq_true.mp e
    have := List.length_pos_of_mem hv
    omega
  · rw [if_neg e, List.length_append]
    show ws.length ≤ ws.length + 1 ∧ ws.length + 1 ≤ ws.length + 1 ∧ 1 ≤ ws.length + 1
    omega
structure Wins (H : Hp) (ws : List W3) : Prop where
  nd : (Names ws).Nodup
  nm : ∀ w ∈ ws, NameOk w.1
  at_ : ∀ w ∈ ws, H w.2.1 = some (.tup w.2.2.vs)
  gd : ∀ w ∈ ws, w.2.2.good
theorem Wins.same {H H' : Hp} {ws : List W3} (W : Wins H ws) (e : Same H H') : Wins H' ws := ⟨W.nd, W.nm, fun w hw => e _ _ (W.at_ w hw), W.gd⟩
theorem Wins.keep {b s : Addr} {H H' : Hp} {ws : List W3} (W : Wins H ws) (k : Keep b H H') (B : Bag b s H) : Wins H' ws := ⟨W.nd, W.nm, fun w hw => k.of_tup B (W.at_ w hw), W.gd⟩
theorem Wins.perm {H : Hp} {ws us : List W3} (W : Wins H ws) (p : us.Perm ws) : Wins H us := ⟨(List.Perm.map (fun x : W3 => x.1) p).nodup_iff.mpr W.nd, fun w hw => W.nm w (p.mem_iff.mp hw), fun w hw => W.at_ w (p.mem_iff.mp hw), fun w hw => W.gd w (p.mem_iff.mp hw)⟩
theorem Wins.sub {H : Hp} {ws us : List W3} (W : Wins H ws) (n : (Names us).Nodup) (h : ∀ w ∈ us, w ∈ ws) : Wins H us := ⟨n, fun w hw => W.nm w (h w hw), fun w hw => W.at_ w (h w hw), fun w hw => W.gd w (h w hw)⟩
def fldW (d : Addr) : List (Str × V) := [("windows", .ref d)]
structure DeskAt (C : Addr) (H : Hp) (p : Addr) (ws : List W3) : Prop where
  ex : ∃ dx d, H p = some (.ins C dx (fldW d)) ∧ H d = some (.dK (ws.map kvOf))
  win : Wins H ws
  so : (Names ws).Pairwise leS
theorem DeskAt.same {C : Addr} {H H' : Hp} {p : Addr} {ws : List W3} (D : DeskAt C H p ws) (e : Same H H') : DeskAt C H' p ws := by
  obtain ⟨⟨dx, d, h1, h2⟩, h3, h4⟩ := D
  exact ⟨⟨dx, d, e _ _ h1, e _ _ h2⟩, h3.same e, h4⟩
theorem DeskAt.keep {C b s : Addr} {H H' : Hp} {p : Addr} {ws : List W3} (D : DeskAt C H p ws) (k : Keep b H H') (B : Bag b s H) : DeskAt C H' p ws := by
  obtain ⟨⟨dx, d, h1, h2⟩, h3, h4⟩ := D
  obtain ⟨ys, hb⟩ := B.hb
  exact ⟨⟨dx, d, k _ _ (ne_of h1 hb (by intro z; cases z)) h1, k.dK hb h2⟩, h3.keep k B, h4⟩
end RK
namespace PySem.W
open PySem PySem.Spec PySem.Calls PyProof.Rows
abbrev kld_fn (name qual : Str) (params : Arguments) (body : Expr) (scope : Scope) (cl : List (Str × Addr)) (dV pm cdv ct : Value) : FuncData := { kla_fn name qual params body scope cl pm cdv ct with defaults := dV }
abbrev kld_obj (name qual : Str) (params : Arguments) (body : Expr) (scope : Scope) (clos : List (Str × Addr)) (dV pm cdv ctv : Value) : Obj :=
  { cls := .type "function", data := .func (kld_fn name qual params body scope clos dV pm cdv ctv) }
section
variable {M : Model} {A : Around} {E : Value → Shared → Prop} {s : Shared} {name qual : Str} {params : Arguments} {body : Expr} {scope : Scope} {env : Env} {c P : Addr} {ps : Array Value} {pos : Pos} {firstLine : Nat} {mg : Str → Option Value}
  {clos : List (Str × Addr)} {Q : Value → Shared → Prop} {dV : Value}
theorem kld_tail (hcl : closureFor scope env = pure clos) (hge0 : env.globals = mainGlobals) (hg : s.heap.Ns mainGlobals mg) (hcode : env.code = .ref c) (C : CodeHd s.heap c P) (hP : s.heap.get? P = some (tabObj ps)) (ht : TriplesOk ps.toList)
    (hnf : codeAmong pos ps.toList = none) (hgP : mainGlobals ≠ P) (hb : s.heap.BuiltinsAt mg P)
    (h : ∀ c' ctv h' tk, Heap.ExtBut P s.heap h' → s.heap.objs.size ≤ c' → c' < h'.objs.size → h'.CodeRec (.ref c') qual → h'.get? P = some (tabObj (ps ++ #[rawInt pos.line, rawInt pos.col, .ref c'])) →
      Q (.ref h'.objs.size) { s with heap := h'.push (kld_obj name qual params body scope clos dV ((mg "__name__").getD .none) (.ref c') ctv), toks := tk }) :
    wpAny M A (makeTail name qual params (.expr body) scope env dV .none none pos firstLine) Q E s := by
  obtain ⟨bm, ob, hbm, hne0, _, hneP, hbo, hcls, hdict, hdata⟩ := hb
  unfold makeTail
  rw [hcl, hge0]
  refine wpAny_bind (wpAny_pure ?_)
  cases clos with
  | nil =>
    simp only [List.isEmpty_nil, if_true]
    refine wpAny_bind (wpAny_pure ?_)
    refine wpAny_bind (wpAny_functionCodeX hcode (C.code hP ht) (C.tab hP) hnf fun c' h' tk hx hge hlt _ hrec htb _ => ?_)
    have hg' := hg.extBut hx hgP
    refine wpAny_bind (wpAny_builtinsFor hg' hbm hne0 (hx _ _ hneP hbo) hcls hdict hdata ?_)
    refine wpAny_bind (wpAny_nsGet hg' ?_)
    exact wpAny_bind (wpAny_pure (wpAny_newObj_type (h c' .none h' tk hx hge hlt hrec htb.2) (by size_fits)))
  | cons q r =>
    simp only [List.isEmpty_cons, Bool.false_eq_true, if_false]
    refine wpAny_bind (wpAny_newTextTuple ?_)
    refine wpAny_bind (wpAny_functionCodeX hcode ((C.keeps fun b o e => Heap.get?_push_of_some _ e).code (Heap.get?_push_of_some _ hP) ht) ((C.keeps fun b o e => Heap.get?_push_of_some _ e).tab (Heap.get?_push_of_some _ hP)) hnf fun c' h' tk hx hge hlt _ hrec htb _ => ?_)
    have hg' := (hg.push _).extBut hx hgP
    have hx' : Heap.ExtBut P s.heap h' := fun b o hb' e => hx b o hb' (Heap.get?_push_of_some _ e)
    have hge' : s.heap.objs.size ≤ c' := Nat.le_trans (by rw [Heap.size_push]; omega) hge
    refine wpAny_bind (wpAny_builtinsFor hg' hbm hne0 (hx' _ _ hneP hbo) hcls hdict hdata ?_)
    refine wpAny_bind (wpAny_nsGet hg' ?_)
    exact wpAny_bind (wpAny_pure (wpAny_newObj_type (h c' _ h' tk hx' hge' hlt hrec htb.2) (by size_fits)))
theorem kld_tailHit {cv : Value} (hcl : closureFor scope env = pure clos) (hge0 : env.globals = mainGlobals) (hg : s.heap.Ns mainGlobals mg) (hcode : env.code = .ref c) (C : CodeHd s.heap c P) (hP : s.heap.get? P = some (tabObj ps)) (ht : TriplesOk ps.toList)
    (hf : codeAmong pos ps.toList = some cv) (hb : s.heap.BuiltinsAt mg P)
    (h : ∀ (ctv : Value) (h' : Heap) (tk : Tok), (∀ b o, s.heap.get? b = some o → h'.get? b = some o) → s.heap.objs.size ≤ h'.objs.size →
      Q (.ref h'.objs.size) { s with heap := h'.push (kld_obj name qual params body scope clos dV ((mg "__name__").getD .none) cv ctv), toks := tk }) :
    wpAny M A (makeTail name qual params (.expr body) scope env dV .none none pos firstLine) Q E s := by
  obtain ⟨bm, ob, hbm, hne0, _, hneP, hbo, hcls, hdict, hdata⟩ := hb
  unfold makeTail
  rw [hcl, hge0]
  refine wpAny_bind (wpAny_pure ?_)
  cases clos with
  | nil =>
    simp only [List.isEmpty_nil, if_true]
    refine wpAny_bind (wpAny_pure ?_)
    refine wpAny_bind (wpAny_functionCode_hit hcode (C.code hP ht) hf ?_)
    refine wpAny_bind (wpAny_builtinsFor hg hbm hne0 hbo hcls hdict hdata ?_)
    refine wpAny_bind (wpAny_nsGet hg ?_)
    exact wpAny_bind (wpAny_pure (wpAny_newObj_type (h .none s.heap s.toks (fun _ _ e => e) (Nat.le_refl _)) (by size_fits)))
  | cons q r =>
    simp only [List.isEmpty_cons, Bool.false_eq_true, if_false]
    refine wpAny_bind (wpAny_newTextTuple ?_)
    refine wpAny_bind (wpAny_functionCode_hit hcode ((C.keeps fun b o e => Heap.get?_push_of_some _ e).code (Heap.get?_push_of_some _ hP) ht) hf ?_)
    refine wpAny_bind (wpAny_builtinsFor (hg.push _) hbm hne0 (Heap.get?_push_of_some _ hbo) hcls hdict hdata ?_)
    refine wpAny_bind (wpAny_nsGet (hg.push _) ?_)
    have hsz : ∀ oT : Obj, s.heap.objs.size ≤ (s.heap.push oT).objs.size := fun oT => by rw [Heap.size_push]; omega
    exact wpAny_bind (wpAny_pure (wpAny_newObj_type (h _ _ s.toks (fun b o e => Heap.get?_push_of_some _ e) (hsz _)) (by size_fits)))
theorem kld_eval {d : Sem Value} (hdef : defaultsOf params env = ([d], []))
    (h : wpAny M A d (fun v s1 => wpAny M A (makeTail "<lambda>" (env.qual ++ "<lambda>") params (.expr body) scope env (.ref s1.heap.objs.size) .none none pos pos.line) Q E { s1 with heap := s1.heap.push { cls := .type "tuple", data := .seq [v].toArray } }) E s) :
    wpAny M A (eval (.Lambda params body scope pos) env) Q E s := by
  rw [arm_eval_Lambda, hdef]
  show wpAny M A (do let dv ← evalAll [d]; let kdv ← holding dv (evalAllOpt []); makeFunction "<lambda>" (env.qual ++ "<lambda>") params (.expr body) scope env dv kdv [] pos pos.line) Q E s
  refine wpAny_bind ?_
  rw [evalAll]
  refine wpAny_bind (wpAny_mono h (fun v s1 h1 => ?_) fun _ _ e => e)
  refine wpAny_bind (wpAny_holding (wpAny_pure (wpAny_pure (wpAny_bind (wpAny_holding (wpAny_pure ?_))))))
  rw [makeFunction_eq]
  simp only [List.zip_nil_right, List.filterMap_nil, List.isEmpty_nil, if_true, pure_bind, List.isEmpty_cons, Bool.false_eq_true, if_false]
  exact wpAny_bind (wpAny_newTextTuple h1)
end
end PySem.W
namespace RK
open PySem PySem.Spec PyProof.Rows L2 LamX
structure LamD (N : List Str) (sc scope : Scope) : Prop where
  kind : scope.kind = .function
  co : scope.isCoroutine = false
  gen : scope.isGenerator = false
  own : ∀ y ∈ scope.names, y.2 ≠ .cell ∧ (y.2 = .local → y.1 ∉ N)
  free : ∀ y ∈ scope.names, y.2 = .free → sc.names.lookup y.1 = some .cell ∨ sc.names.lookup y.1 = some .free
def lamDB (N : List Str) (sc scope : Scope) : Bool :=
  decide (scope.kind = .function) && !scope.isCoroutine && !scope.isGenerator && scope.names.all fun y => !decide (y.2 = .cell) && (!decide (y.2 = .local) || !decide (y.1 ∈ N)) && (!decide (y.2 = .free) || decide (sc.names.lookup y.1 = some .cell) || decide (sc.names.lookup y.1 = some .free))
theorem lamD_by {N : List Str} {sc scope : Scope} (h : lamDB N sc scope = true) : LamD N sc scope := by
  unfold lamDB at h
  simp only [Bool.and_eq_true, Bool.or_eq_true, Bool.not_eq_true', decide_eq_true_eq, decide_eq_false_iff_not, List.all_eq_true] at h
  obtain ⟨⟨⟨h1, h2⟩, h3⟩, h4⟩ := h
  refine ⟨h1, h2, h3, fun y hy => ⟨(h4 y hy).1.1, fun e => ?_⟩, fun y hy e => ?_⟩
  · rcases (h4 y hy).1.2 with z | z
    · exact absurd e z
    · exact z
  · rcases (h4 y hy).2 with (z | z) | z
    · exact absurd e z
    · exact .inl z
    · exact .inr z
theorem LamD.has {X : Cx} {N : List Str} {scope : Scope} (L : LamD N X.env.scope scope) (ok : X.Ok) : ∀ y ∈ scope.names, y.2 = .free → ∃ c, X.env.cells.lookup y.1 = some c := fun y hy e => by
  rcases L.free y hy e with k | k
  · exact ok.has _ (.inl k)
  · exact ok.has _ (.inr k)
section
variable {X : Cx} {pins : List (Addr × Obj)} {σ : L2.St} {H HZ : Hp} {s s1 : Shared}
end
end RK
namespace RK
open PySem PySem.Spec PyProof.Rows L2 LamX
section
variable {X : Cx} {pins : List (Addr × Obj)} {σ : L2.St} {H HZ : Hp} {s s1 : Shared}
end
end RK
namespace RK
open PySem PySem.Spec PyProof.Rows L2 LamX
structure LF where
  q : Str
  params : Arguments
  body : Expr
  scope : Scope
  cl : List (Str × Addr)
  c : Addr
  td : Option Addr
  dead : Bool
def LF.ob (F : LF) (pm ctv : Value) : Obj := match F.td with
  | none => PySem.W.kla_obj "<lambda>" F.q F.params F.body F.scope F.cl pm F.c ctv
  | some td => PySem.W.kld_obj "<lambda>" F.q F.params F.body F.scope F.cl (.ref td) pm (.ref F.c) ctv
def FnL (f : Addr) (F : LF) : HO := .ext fun h => ∃ pm ctv : Value, h.get? f = some (F.ob pm ctv)
def CellO (c : Addr) (v : V) : HO := .ext fun h => ∃ u : Value, RelV v u ∧ h.IsCell c (some u)
def CellsH (N : Addr → Prop) (H : Hp) : List (Str × Addr) → List V → Prop
  | [], [] => True
  | p :: ps, v :: vs => H p.2 = some (CellO p.2 v) ∧ ¬ N p.2 ∧ CellsH N H ps vs
  | _, _ => False
theorem CellsH.pres {N N' : Addr → Prop} {H H' : Hp} (k : ∀ a o, ¬ N a → H a = some o → ¬ N' a ∧ H' a = some o) : ∀ {ps : List (Str × Addr)} {vs : List V}, CellsH N H ps vs → CellsH N' H' ps vs
  | [], [], _ => True.intro
  | p :: ps, v :: vs, ⟨h, n, r⟩ => ⟨(k _ _ n h).2, (k _ _ n h).1, CellsH.pres k r⟩
  | [], _ :: _, h => h.elim
  | _ :: _, [], h => h.elim
structure FnH (N : Addr → Prop) (H : Hp) (f : Addr) (F : LF) (vs : List V) : Prop where
  at_ : H f = some (FnL f F)
  nf : ¬ N f
  code : H F.c = some (CodeO F.c F.q)
  nc : ¬ N F.c
  td : ∀ t, F.td = some t → H t = some (.tup [.int 0]) ∧ ¬ N t
  cells : F.dead = true → CellsH N H F.cl vs
theorem FnH.pres {N N' : Addr → Prop} {H H' : Hp} {f : Addr} {F : LF} {vs : List V} (k : ∀ a o, ¬ N a → H a = some o → ¬ N' a ∧ H' a = some o) (h : FnH N H f F vs) : FnH N' H' f F vs where
  at_ := (k _ _ h.nf h.at_).2
  nf := (k _ _ h.nf h.at_).1
  code := (k _ _ h.nc h.code).2
  nc := (k _ _ h.nc h.code).1
  td := fun t e => ⟨(k _ _ (h.td t e).2 (h.td t e).1).2, (k _ _ (h.td t e).2 (h.td t e).1).1⟩
  cells := fun d => (h.cells d).pres k
theorem fnL_at {P : Program} {w : World} {H : Hp} {h : Heap} {f : Addr} {F : LF} (hok : HOk P w H h) (e : H f = some (FnL f F)) : ∃ pm ctv : Value, h.get? f = some (F.ob pm ctv) := by
  obtain ⟨z, _, _⟩ := hok f _ e
  exact z
end RK
namespace DL
open PySem PySem.Spec PyProof.Rows L2 RK
inductive D where
  | non | bl (b : Bool) | int (i : Int) | str (x : Str)
  | lst (xs : List D) | tup (xs : List D) | ktp (xs : List D)
  | dic (kvs : List (Key × D)) | dct (kvs : List (List Key × D))
  | obj (C : Addr) (fs : List (Str × D))
  | bag
  | fn (F : LF) (ds : List D)
instance : Inhabited D := ⟨.non⟩
abbrev Wd := Option (Addr × Addr × List (Addr × Str))
def Wd.own : Wd → Addr → Prop
  | none, _ => False
  | some (b, s, T), a => a = b ∨ a = s ∨ ∃ p ∈ T, p.1 = a
def Wd.ok : Wd → Hp → Prop
  | none, _ => True
  | some (b, s, T), H => Bag b s H ∧ LamX.Tabs T H ∧ (T ≠ [] → ∀ a ps, H a = some (.tbl ps) → ∃ p ∈ T, p.1 = a)
def Nt : HO → Prop
  | .tup _ => False
  | .ext _ => False
  | _ => True
abbrev HoN := {o : HO // Nt o}
def Plo : HO → Prop
  | .tup _ => False
  | .ext _ => False
  | .tbl _ => False
  | _ => True
theorem Plo.nt : ∀ {o : HO}, Plo o → Nt o := fun {o} h => by cases o <;> first | exact True.intro | exact h
theorem Plo.ntb : ∀ {o : HO}, Plo o → Ntb o := fun {o} h => by cases o <;> first | exact True.intro | exact h
theorem Wd.al : ∀ {W : Wd} {H : Hp} {a : Addr}, W.ok H → W.own a → ∃ o : HoN, H a = some o.1
  | some (b, s, T), H, a, h, .inl e => by
    obtain ⟨ys, hb⟩ := Bag.hb h.1
    exact ⟨⟨.lst _, True.intro⟩, e ▸ hb⟩
  | some (b, s, T), H, a, h, .inr (.inl e) => by
    obtain ⟨ys, hb⟩ := Bag.hs h.1
    exact ⟨⟨.lst _, True.intro⟩, e ▸ hb⟩
  | some (b, s, T), H, a, h, .inr (.inr ⟨p, hp, e⟩) => by
    obtain ⟨ps, h1, _⟩ := h.2.1 p hp
    exact ⟨⟨.tbl ps, True.intro⟩, e ▸ h1⟩
theorem Wd.st0 : ∀ {W : Wd} {H H' : Hp}, W.ok H → (∀ a o, H a = some o → (W.own a ∨ ¬ Plo o) → H' a = some o) → NoT H H' → W.ok H'
  | none, _, _, _, _, _ => trivial
  | some (b, s, T), H, H', h, k, n => by
    obtain ⟨⟨ns, i, big, salt, B⟩, tb, nt⟩ := h
    refine ⟨⟨ns, i, big, salt, k _ _ B.hb (.inl (.inl rfl)), k _ _ B.hs (.inl (.inr (.inl rfl))), B.ne, B.hi, B.hn, B.h0, B.h1, B.h2⟩, fun p hp => ?_, fun ne a ps h => let ⟨qs, q⟩ := n a ps h; nt ne a qs q⟩
    obtain ⟨ps, h1, h2, h3⟩ := tb p hp
    refine ⟨ps, k _ _ h1 (.inl (.inr (.inr ⟨p, hp, rfl⟩))), h2, fun pos cv hc => ?_⟩
    obtain ⟨c, e, hcd⟩ := h3 pos cv hc
    exact ⟨c, e, k _ _ hcd (.inr id)⟩
theorem Wd.st {W : Wd} {H H' : Hp} (h : W.ok H) (k : ∀ a o, H a = some o → (W.own a ∨ ¬ Plo o) → H' a = some o) (n : NoT H H') : W.ok H' := Wd.st0 h k n
mutual
inductive Dd (K : PySem.W.Frag) (N : Addr → Prop) (W : Wd) (H : Hp) : V → D → Prop
  | non : Dd K N W H .non .non
  | bl (b : Bool) : Dd K N W H (.bl b) (.bl b)
  | int (i : Int) : Dd K N W H (.int i) (.int i)
  | str (x : Str) : Dd K N W H (.str x) (.str x)
  | lst {a : Addr} {vs : List V} {ds : List D} : H a = some (.lst vs) → ¬ N a → DdAll K N W H vs ds → Dd K N W H (.ref a) (.lst ds)
  | tup {a : Addr} {vs : List V} {ds : List D} : H a = some (.tup vs) → ¬ N a → DdAll K N W H vs ds → Dd K N W H (.ref a) (.tup ds)
  | dic {a : Addr} {kvs : List (Key × V)} {kds : List (Key × D)} : Rd H a (.dK kvs) → ¬ N a → kvs.map (·.1) = kds.map (·.1) → DdAll K N W H (kvs.map (·.2)) (kds.map (·.2)) → Dd K N W H (.ref a) (.dic kds)
  | dct {a : Addr} {kvs : List (List Key × V)} {kds : List (List Key × D)} : Rd H a (.dT kvs) → ¬ N a → kvs.map (·.1) = kds.map (·.1) → DdAll K N W H (kvs.map (·.2)) (kds.map (·.2)) → Dd K N W H (.ref a) (.dct kds)
  | obj {a C dx : Addr} {fs : List (Str × V)} {fds : List (Str × D)} : H a = some (.ins C dx fs) → ¬ N a → fs.map (·.1) = fds.map (·.1) → DdAll K N W H (fs.map (·.2)) (fds.map (·.2)) → Dd K N W H (.ref a) (.obj C fds)
  | ktp {a : Addr} {o : Obj} {its : Array Value} {n : Nat} {vs : List V} {ds : List D} : K.lookup a = some o → o.cls = .type "tuple" → o.data = .seq its n → its.size ≤ sizeLine → Vals vs its.toList → DdAll K N W H vs ds → Dd K N W H (.ref a) (.ktp ds)
  | bag {b s : Addr} {T : List (Addr × Str)} : W = some (b, s, T) → Dd K N W H (.ref b) .bag
  | fn {f : Addr} {F : LF} {vs : List V} {ds : List D} : FnH N H f F vs → DdAll K N W H vs ds → Dd K N W H (.ref f) (.fn F ds)
inductive DdAll (K : PySem.W.Frag) (N : Addr → Prop) (W : Wd) (H : Hp) : List V → List D → Prop
  | nil : DdAll K N W H [] []
  | cons {v : V} {d : D} {vs : List V} {ds : List D} : Dd K N W H v d → DdAll K N W H vs ds → DdAll K N W H (v :: vs) (d :: ds)
end
section
variable {K : PySem.W.Frag} {N N' : Addr → Prop} {W : Wd} {H H' : Hp}
theorem rd_keep {a : Addr} {o : HO} (k : ∀ o, H a = some o → H' a = some o) (h : Rd H a o) : Rd H' a o := by
  rcases h with h | ⟨u, h⟩
  · exact .inl (k _ h)
  · exact .inr ⟨u, k _ h⟩
mutual
theorem Dd.pres (k : ∀ a o, ¬ N a → H a = some o → ¬ N' a ∧ H' a = some o) : ∀ {v : V} {d : D}, Dd K N W H v d → Dd K N' W H' v d
  | _, _, .non => .non
  | _, _, .bl b => .bl b
  | _, _, .int i => .int i
  | _, _, .str x => .str x
  | _, _, .lst h q a => .lst (k _ _ q h).2 (k _ _ q h).1 (DdAll.pres k a)
  | _, _, .tup h q a => .tup (k _ _ q h).2 (k _ _ q h).1 (DdAll.pres k a)
  | _, _, .ktp h1 h2 h3 h4 h5 a => .ktp h1 h2 h3 h4 h5 (DdAll.pres k a)
  | _, _, .dic h q e a => .dic (rd_keep (fun o g => (k _ o q g).2) h) (by rcases h with h | ⟨u, h⟩ <;> exact (k _ _ q h).1) e (DdAll.pres k a)
  | _, _, .dct h q e a => .dct (rd_keep (fun o g => (k _ o q g).2) h) (by rcases h with h | ⟨u, h⟩ <;> exact (k _ _ q h).1) e (DdAll.pres k a)
  | _, _, .obj h q e a => .obj (k _ _ q h).2 (k _ _ q h).1 e (DdAll.pres k a)
  | _, _, .bag e => .bag e
  | _, _, .fn h a => .fn (h.pres k) (DdAll.pres k a)
theorem DdAll.pres (k : ∀ a o, ¬ N a → H a = some o → ¬ N' a ∧ H' a = some o) : ∀ {vs : List V} {ds : List D}, DdAll K N W H vs ds → DdAll K N' W H' vs ds
  | _, _, .nil => .nil
  | _, _, .cons h a => .cons (Dd.pres k h) (DdAll.pres k a)
end
theorem Dd.keep (k : ∀ a o, ¬ N a → H a = some o → H' a = some o) (n : ∀ a, N' a → N a) {v : V} {d : D} (h : Dd K N W H v d) : Dd K N' W H' v d := h.pres fun a o q g => ⟨fun z => q (n a z), k a o q g⟩
theorem DdAll.keep (k : ∀ a o, ¬ N a → H a = some o → H' a = some o) (n : ∀ a, N' a → N a) {v : List V} {d : List D} (h : DdAll K N W H v d) : DdAll K N' W H' v d := h.pres fun a o q g => ⟨fun z => q (n a z), k a o q g⟩
theorem DdAll.len : ∀ {vs : List V} {ds : List D}, DdAll K N W H vs ds → vs.length = ds.length
  | _, _, .nil => rfl
  | _, _, .cons _ a => congrArg Nat.succ (DdAll.len a)
theorem DdAll.get : ∀ {vs : List V} {ds : List D} {i : Nat} {d : D}, DdAll K N W H vs ds → ds[i]? = some d → ∃ v, vs[i]? = some v ∧ Dd K N W H v d
  | _, _, _, _, .nil, h => by simp at h
  | _, _, 0, _, .cons (v := v) q _, h => by
    have e := Option.some.inj h
    exact ⟨v, rfl, e ▸ q⟩
  | _, _, i + 1, _, .cons _ a, h => DdAll.get (i := i) a h
theorem DdAll.getV : ∀ {vs : List V} {ds : List D} {i : Nat} {v : V}, DdAll K N W H vs ds → vs[i]? = some v → ∃ d, ds[i]? = some d ∧ Dd K N W H v d
  | _, _, _, _, .nil, h => by simp at h
  | _, _, 0, _, .cons (d := d) q _, h => by
    have e := Option.some.inj h
    exact ⟨d, rfl, e ▸ q⟩
  | _, _, i + 1, _, .cons _ a, h => DdAll.getV (i := i) a h
theorem DdAll.app : ∀ {vs us : List V} {ds es : List D}, DdAll K N W H vs ds → DdAll K N W H us es → DdAll K N W H (vs ++ us) (ds ++ es)
  | _, _, _, _, .nil, b => b
  | _, _, _, _, .cons h a, b => .cons h (DdAll.app a b)
theorem DdAll.drop : ∀ {vs : List V} {ds : List D} (n : Nat), DdAll K N W H vs ds → DdAll K N W H (vs.drop n) (ds.drop n)
  | _, _, 0, a => a
  | _, _, _ + 1, .nil => .nil
  | _, _, n + 1, .cons _ a => DdAll.drop n a
theorem DdAll.take : ∀ {vs : List V} {ds : List D} (n : Nat), DdAll K N W H vs ds → DdAll K N W H (vs.take n) (ds.take n)
  | _, _, 0, _ => .nil
  | _, _, _ + 1, .nil => .nil
  | _, _, n + 1, .cons h a => .cons h (DdAll.take n a)
theorem DdAll.set : ∀ {vs : List V} {ds : List D} (i : Nat) {v : V} {d : D}, DdAll K N W H vs ds → Dd K N W H v d → DdAll K N W H (vs.set i v) (ds.set i d)
  | _, _, _, _, _, .nil, _ => .nil
  | _, _, 0, _, _, .cons _ a, q => .cons q a
  | _, _, i + 1, _, _, .cons h a, q => .cons h (DdAll.set i a q)
end
inductive Ic where
  | fz (d : D) | lst (a : Addr) (ds : List D) | dic (a : Addr) (kvs : List (Key × D)) | dct (a : Addr) (kvs : List (List Key × D))
def Ic.d : Ic → D
  | .fz d => d
  | .lst _ ds => .lst ds
  | .dic _ kvs => .dic kvs
  | .dct _ kvs => .dct kvs
def Ic.ad : Ic → List Addr
  | .fz _ => []
  | .lst a _ => [a]
  | .dic a _ => [a]
  | .dct a _ => [a]
inductive Fe where
  | fz (d : D) | ow (b : Addr) (ds : List D) | od (b : Addr) (kvs : List (Key × D)) | ot (b : Addr) (kvs : List (List Key × D)) | on (b : Addr) (kvs : List (Key × Ic))
def Fe.ad : Fe → List Addr
  | .fz _ => []
  | .on b kvs => b :: kvs.flatMap (·.2.ad)
  | .ow b _ => [b]
  | .od b _ => [b]
  | .ot b _ => [b]
def fsAd (fs : List (Str × Fe)) : List Addr := fs.flatMap fun p => p.2.ad
inductive En where
  | no | fz (d : D) | ow (ds : List D) | od (kvs : List (Key × D)) | ot (kvs : List (List Key × D)) | oo (C a : Addr) (fs : List (Str × Fe)) | fe (e : Fe)
def En.ad : En → List Addr
  | .oo _ a fs => a :: fsAd fs
  | .fe e => e.ad
  | _ => []
def En.isOw : En → Bool
  | .ow _ => true | .od _ => true | .ot _ => true | _ => false
abbrev De := List En
def KeepW (W : Wd) (H H' : Hp) : Prop := ∀ a o, ¬ W.own a → H a = some o → H' a = some o
theorem KeepW.refl (W : Wd) (H : Hp) : KeepW W H H := fun _ _ _ h => h
theorem KeepW.trans {W : Wd} {H H1 H2 : Hp} (a : KeepW W H H1) (b : KeepW W H1 H2) : KeepW W H H2 := fun x o n h => b x o n (a x o n h)
theorem KeepW.new {W : Wd} {H : Hp} {p : Addr} {o : HO} (h : H p = none) : KeepW W H (upd H p o) := fun b u _ q => by rw [upd_ne (ne_of_none q h)]; exact q
theorem ok_new {W : Wd} {H : Hp} {p : Addr} {o : HO} (k : W.ok H) (h : H p = none) (n : Ntb o := by exact True.intro) : W.ok (upd H p o) := Wd.st k (fun b u q _ => by rw [upd_ne (ne_of_none q h)]; exact q) (noT_upd n)
inductive Fr where
  | b (x : Bool) | ch (j : Nat) | ob (R : Hp → Prop)
instance : Coe Bool Fr := ⟨Fr.b⟩
def Ch (j : Nat) (H H' : Hp) (v : V) (x : D) : Prop := ∀ xs ys, x = .tup xs → xs[j]? = some (.lst ys) → ∃ t vs c us, v = .ref t ∧ H' t = some (.tup vs) ∧ vs[j]? = some (.ref c) ∧ H c = none ∧ H' c = some (.lst us)
structure Fx where
  K : PySem.W.Frag
  W : Wd
  N0 : Addr → Prop
  H0 : Hp
  fr : Fr
def Fx.N (F : Fx) (L : List Addr) : Addr → Prop := fun a => F.N0 a ∨ a ∈ L
def IcOk (F : Fx) (L : List Addr) (H : Hp) : Ic → V → Prop
  | .fz d, v => Dd F.K (F.N L) F.W H v d
  | .lst a ds, v => v = .ref a ∧ ∃ vs, H a = some (.lst vs) ∧ DdAll F.K (F.N L) F.W H vs ds
  | .dic a kds, v => v = .ref a ∧ ∃ kvs, H a = some (.dK kvs) ∧ kvs.map (·.1) = kds.map (·.1) ∧ DdAll F.K (F.N L) F.W H (kvs.map (·.2)) (kds.map (·.2))
  | .dct a kds, v => v = .ref a ∧ ∃ kvs, H a = some (.dT kvs) ∧ kvs.map (·.1) = kds.map (·.1) ∧ DdAll F.K (F.N L) F.W H (kvs.map (·.2)) (kds.map (·.2))
def IcAll (F : Fx) (L : List Addr) (H : Hp) : List (Key × V) → List (Key × Ic) → Prop
  | [], [] => True
  | (k, v) :: vs, (k', c) :: cs => k = k' ∧ IcOk F L H c v ∧ IcAll F L H vs cs
  | _, _ => False
def FeOk (F : Fx) (L : List Addr) (H : Hp) : Fe → V → Prop
  | .on b kvs, v => v = .ref b ∧ ∃ vs, H b = some (.dK vs) ∧ IcAll F L H vs kvs
  | .fz d, v => Dd F.K (F.N L) F.W H v d
  | .ow b ds, v => v = .ref b ∧ ∃ vs, H b = some (.lst vs) ∧ DdAll F.K (F.N L) F.W H vs ds
  | .od b kds, v => v = .ref b ∧ ∃ kvs, H b = some (.dK kvs) ∧ kvs.map (·.1) = kds.map (·.1) ∧ DdAll F.K (F.N L) F.W H (kvs.map (·.2)) (kds.map (·.2))
  | .ot b kds, v => v = .ref b ∧ ∃ kvs, H b = some (.dT kvs) ∧ kvs.map (·.1) = kds.map (·.1) ∧ DdAll F.K (F.N L) F.W H (kvs.map (·.2)) (kds.map (·.2))
def FeAll (F : Fx) (L : List Addr) (H : Hp) (vs : List (Str × V)) (fs : List (Str × Fe)) : Prop := vs.map (·.1) = fs.map (·.1) ∧ ∀ (i : Nat) (f : Str) (e : Fe), fs[i]? = some (f, e) → ∃ v, vs[i]? = some (f, v) ∧ FeOk F L H e v
def EnOk (F : Fx) (L : List Addr) (H : Hp) : En → Option V → Prop
  | .no, _ => True
  | .fz d, some v => Dd F.K (F.N L) F.W H v d
  | .ow ds, some (.ref a) => a ∈ L ∧ ∃ vs, H a = some (.lst vs) ∧ DdAll F.K (F.N L) F.W H vs ds
  | .od kds, some (.ref a) => a ∈ L ∧ ∃ kvs, H a = some (.dK kvs) ∧ kvs.map (·.1) = kds.map (·.1) ∧ DdAll F.K (F.N L) F.W H (kvs.map (·.2)) (kds.map (·.2))
  | .ot kds, some (.ref a) => a ∈ L ∧ ∃ kvs, H a = some (.dT kvs) ∧ kvs.map (·.1) = kds.map (·.1) ∧ DdAll F.K (F.N L) F.W H (kvs.map (·.2)) (kds.map (·.2))
  | .oo C a fs, some (.ref b) => b = a ∧ (∀ x ∈ a :: fsAd fs, x ∈ L) ∧ (a :: fsAd fs).Nodup ∧ ∃ dx vs, H a = some (.ins C dx vs) ∧ FeAll F L H vs fs
  | .fe e, some v => (∀ x ∈ e.ad, x ∈ L) ∧ e.ad.Nodup ∧ FeOk F L H e v
  | _, _ => False
def SoP (env : De) (σ : L2.St) : Prop := ∀ (i : Nat) (e : En) (b : Addr), env[i]? = some e → b ∈ e.ad → (∀ (j : Nat) (ej : En), env[j]? = some ej → ej.isOw = true → σ[j]? = some (some (.ref b)) → False) ∧ ∀ (j : Nat) (ej : En), env[j]? = some ej → b ∈ ej.ad → i = j
structure Abs (F : Fx) (env : De) (σ : L2.St) (L : List Addr) (H : Hp) : Prop where
  ok : F.W.ok H
  al : ∀ a, F.N0 a → ∃ o : HoN, F.H0 a = some o.1
  wn : ∀ a, F.W.own a → F.N0 a
  kp : KeepW F.W F.H0 H
  fr : ∀ a ∈ L, F.H0 a = none ∧ ∃ o, H a = some o ∧ Plo o
  ls : env.length = σ.length
  sep : ∀ (i j : Nat) (a : Addr) (ei ej : En), env[i]? = some ei → env[j]? = some ej → ei.isOw = true → ej.isOw = true → σ[i]? = some (some (.ref a)) → σ[j]? = some (some (.ref a)) → i = j
  so : SoP env σ
  en : ∀ (i : Nat) (e : En) (x : Option V), env[i]? = some e → σ[i]? = some x → EnOk F L H e x
section
variable {F : Fx} {env : De} {σ : L2.St} {L : List Addr} {H H' : Hp}
theorem Abs.alN (A : Abs F env σ L H) {a : Addr} (h : F.N L a) : ∃ o : HoN, H a = some o.1 := by
  rcases h with h | h
  · obtain ⟨o, e⟩ := A.al a h
    by_cases w : F.W.own a
    · exact Wd.al A.ok w
    · exact ⟨o, A.kp a o.1 w e⟩
  · obtain ⟨_, o, e, pl⟩ := A.fr a h
    exact ⟨⟨o, pl.nt⟩, e⟩
theorem Abs.alO (A : Abs F env σ L H) {a : Addr} (h : F.N L a) : ∃ o, H a = some o := (let ⟨o, e⟩ := A.alN h; ⟨o.1, e⟩)
theorem Abs.new (A : Abs F env σ L H) {p : Addr} (h : H p = none) : ¬ F.N L p := fun z => by
  obtain ⟨o, e⟩ := A.alN z
  rw [h] at e
  cases e
theorem Abs.out (A : Abs F env σ L H) {a : Addr} (h : a ∈ L) : ¬ F.N0 a := fun z => by
  obtain ⟨o, e⟩ := A.al a z
  rw [(A.fr a h).1] at e
  cases e
theorem nw_of (A : Abs F env σ L H) {a : Addr} (h : ¬ F.N L a) : ¬ F.W.own a := fun z => h (.inl (A.wn a z))
theorem KeepW.n (A : Abs F env σ L H) (k : KeepW F.W H H') : ∀ a o, ¬ F.N L a → H a = some o → H' a = some o := fun a o n h => k a o (nw_of A n) h
theorem Abs.kd (A : Abs F env σ L H) (k : KeepW F.W H H') {v : V} {d : D} (h : Dd F.K (F.N L) F.W H v d) : Dd F.K (F.N L) F.W H' v d := h.keep (k.n A) fun _ z => z
theorem Abs.kda (A : Abs F env σ L H) (k : KeepW F.W H H') {v : List V} {d : List D} (h : DdAll F.K (F.N L) F.W H v d) : DdAll F.K (F.N L) F.W H' v d := h.keep (k.n A) fun _ z => z
theorem ad_ow {e : En} (h : e.isOw = true) : e.ad = [] := by cases e <;> first | rfl | cases h
theorem fe_mem {fs : List (Str × Fe)} {i : Nat} {f : Str} {e : Fe} (h : fs[i]? = some (f, e)) {b : Addr} (hb : b ∈ e.ad) : b ∈ fsAd fs := List.mem_flatMap.mpr ⟨_, List.mem_of_getElem? h, hb⟩
theorem IcOk.pres {L' : List Addr} (pr : ∀ a o, ¬ F.N L a → H a = some o → ¬ F.N L' a ∧ H' a = some o) : ∀ {c : Ic} {v : V}, (∀ b ∈ c.ad, ∀ o, H b = some o → H' b = some o) → IcOk F L H c v → IcOk F L' H' c v
  | .fz d, v, _, h => Dd.pres pr h
  | .lst a ds, v, g, ⟨h1, vs, h2, h3⟩ => ⟨h1, vs, g a List.mem_cons_self _ h2, h3.pres pr⟩
  | .dic a ds, v, g, ⟨h1, vs, h2, h4, h3⟩ => ⟨h1, vs, g a List.mem_cons_self _ h2, h4, h3.pres pr⟩
  | .dct a ds, v, g, ⟨h1, vs, h2, h4, h3⟩ => ⟨h1, vs, g a List.mem_cons_self _ h2, h4, h3.pres pr⟩
theorem IcAll.pres {L' : List Addr} (pr : ∀ a o, ¬ F.N L a → H a = some o → ¬ F.N L' a ∧ H' a = some o) : ∀ {cs : List (Key × Ic)} {vs : List (Key × V)}, (∀ b ∈ cs.flatMap (·.2.ad), ∀ o, H b = some o → H' b = some o) → IcAll F L H vs cs → IcAll F L' H' vs cs
  | [], [], _, _ => trivial
  | [], _ :: _, _, h => h.elim
  | _ :: _, [], _, h => h.elim
  | (k', c) :: cs, (k, v) :: vs, g, ⟨h1, h2, h3⟩ => ⟨h1, h2.pres pr fun b hb => g b (by rw [List.flatMap_cons]; exact List.mem_append_left _ hb), h3.pres pr fun b hb => g b (by rw [List.flatMap_cons]; exact List.mem_append_right _ hb)⟩
theorem FeOk.pres {L' : List Addr} (pr : ∀ a o, ¬ F.N L a → H a = some o → ¬ F.N L' a ∧ H' a = some o) : ∀ {e : Fe} {v : V}, (∀ b ∈ e.ad, ∀ o, H b = some o → H' b = some o) → FeOk F L H e v → FeOk F L' H' e v
  | .fz d, v, _, h => Dd.pres pr h
  | .ow b ds, _, g, ⟨h1, vs, h2, h3⟩ => ⟨h1, vs, g b List.mem_cons_self _ h2, h3.pres pr⟩
  | .od b ds, _, g, ⟨h1, vs, h2, h4, h3⟩ => ⟨h1, vs, g b List.mem_cons_self _ h2, h4, h3.pres pr⟩
  | .ot b ds, _, g, ⟨h1, vs, h2, h4, h3⟩ => ⟨h1, vs, g b List.mem_cons_self _ h2, h4, h3.pres pr⟩
  | .on b kvs, _, g, ⟨h1, vs, h2, h3⟩ => ⟨h1, vs, g b List.mem_cons_self _ h2, h3.pres pr fun x hx => g x (List.mem_cons_of_mem _ hx)⟩
theorem FeAll.pres {L' : List Addr} (pr : ∀ a o, ¬ F.N L a → H a = some o → ¬ F.N L' a ∧ H' a = some o) {vs : List (Str × V)} {fs : List (Str × Fe)} (g : ∀ b ∈ fsAd fs, ∀ o, H b = some o → H' b = some o) (h : FeAll F L H vs fs) : FeAll F L' H' vs fs :=
  ⟨h.1, fun i f e hi => let ⟨v, h1, h2⟩ := h.2 i f e hi; ⟨v, h1, h2.pres pr fun b hb => g b (fe_mem hi hb)⟩⟩
theorem EnOk.keep {L' : List Addr} (A : Abs F env σ L H) (k : ∀ a o, ¬ F.N L a → H a = some o → H' a = some o) (n : ∀ a, F.N L' a → F.N L a) : ∀ {e : En} {x : Option V}, (∀ a, x = some (.ref a) → e.isOw = true → a ∈ L → a ∈ L' ∧ ∀ o, H a = some o → H' a = some o) → (∀ b ∈ e.ad, b ∈ L → b ∈ L' ∧ ∀ o, H b = some o → H' b = some o) → EnOk F L H e x → EnOk F L' H' e x
  | .no, _, _, _, _ => trivial
  | .fz d, some v, _, _, h => Dd.keep k n h
  | .oo C a fs, some (.ref b), _, g, ⟨h1, h2, h3, dx, vs, h4, h5⟩ => ⟨h1, fun x hx => (g x hx (h2 x hx)).1, h3, dx, vs, (g a List.mem_cons_self (h2 a List.mem_cons_self)).2 _ h4, h5.pres (fun x o q e => ⟨fun z => q (n x z), k x o q e⟩) fun x hx => (g x (List.mem_cons_of_mem _ hx) (h2 x (List.mem_cons_of_mem _ hx))).2⟩
  | .fe e, some v, _, g, ⟨h2, h3, h4⟩ => ⟨fun x hx => (g x hx (h2 x hx)).1, h3, h4.pres (fun x o q e => ⟨fun z => q (n x z), k x o q e⟩) fun x hx => (g x hx (h2 x hx)).2⟩
  | .ow ds, some (.ref a), g, _, ⟨h1, vs, h2, h3⟩ => let ⟨g1, g2⟩ := g a rfl rfl h1; ⟨g1, vs, g2 _ h2, DdAll.keep k n h3⟩
  | .od ds, some (.ref a), g, _, ⟨h1, vs, h2, h4, h3⟩ => let ⟨g1, g2⟩ := g a rfl rfl h1; ⟨g1, vs, g2 _ h2, h4, DdAll.keep k n h3⟩
  | .ot ds, some (.ref a), g, _, ⟨h1, vs, h2, h4, h3⟩ => let ⟨g1, g2⟩ := g a rfl rfl h1; ⟨g1, vs, g2 _ h2, h4, DdAll.keep k n h3⟩
theorem Abs.step (A : Abs F env σ L H) (k : KeepW F.W H H') (o : F.W.ok H') : Abs F env σ L H' := by
  have w : ∀ a ∈ L, ¬ F.W.own a := fun a h z => A.out h (A.wn a z)
  refine ⟨o, A.al, A.wn, A.kp.trans k, fun a h => ?_, A.ls, A.sep, A.so, fun i e x h1 h2 => ?_⟩
  · obtain ⟨h1, u, h2, pl⟩ := A.fr a h
    exact ⟨h1, u, k a u (w a h) h2, pl⟩
  · exact EnOk.keep A (k.n A) (fun _ z => z) (fun a _ _ h => ⟨h, fun o q => k a o (w a h) q⟩) (fun a _ h => ⟨h, fun o q => k a o (w a h) q⟩) (A.en i e x h1 h2)
end
theorem get_set {α : Type} {l : List α} {i j : Nat} {x y : α} (h : (l.set i x)[j]? = some y) : (i = j ∧ y = x ∧ i < l.length) ∨ (i ≠ j ∧ l[j]? = some y) := by
  by_cases hj : i = j
  · subst hj
    by_cases hi : i < l.length
    · rw [List.getElem?_set_self hi] at h
      exact .inl ⟨rfl, (Option.some.inj h).symm, hi⟩
    · rw [List.getElem?_eq_none (by rw [List.length_set]; omega)] at h
      cases h
  · rw [List.getElem?_set_ne hj] at h
    exact .inr ⟨hj, h⟩
theorem SoP.set0 {env : De} {σ : L2.St} (S : SoP env σ) {i : Nat} {e' : En} (h0 : e'.ad = []) (h1 : e'.isOw = false) (y : Option V) : SoP (env.set i e') (σ.set i y) := fun j e b hj hb => by
  rcases get_set hj with ⟨_, rfl, _⟩ | ⟨nj, hj2⟩
  · rw [h0] at hb; cases hb
  · obtain ⟨s1, s2⟩ := S j e b hj2 hb
    refine ⟨fun l el hl ow hs => ?_, fun l el hl hb' => ?_⟩
    · rcases get_set hl with ⟨_, rfl, _⟩ | ⟨nl, hl2⟩
      · rw [h1] at ow; cases ow
      · rw [List.getElem?_set_ne nl] at hs
        exact s1 l el hl2 ow hs
    · rcases get_set hl with ⟨_, rfl, _⟩ | ⟨nl, hl2⟩
      · rw [h0] at hb'; cases hb'
      · exact s2 l el hl2 hb'
theorem SoP.setW {env : De} {σ : L2.St} (S : SoP env σ) (ls : env.length = σ.length) {i : Nat} {e' : En} {a : Addr} (h0 : e'.ad = []) (no : ∀ (j : Nat) (ej : En), env[j]? = some ej → a ∉ ej.ad) : SoP (env.set i e') (σ.set i (some (.ref a))) := fun j e b hj hb => by
  rcases get_set hj with ⟨_, rfl, _⟩ | ⟨nj, hj2⟩
  · rw [h0] at hb; cases hb
  · obtain ⟨s1, s2⟩ := S j e b hj2 hb
    refine ⟨fun l el hl ow hs => ?_, fun l el hl hb' => ?_⟩
    · rcases get_set hl with ⟨rfl, rfl, hi⟩ | ⟨nl, hl2⟩
      · rw [List.getElem?_set_self (by rw [← ls]; exact hi)] at hs
        cases hs
        exact no j e hj2 hb
      · rw [List.getElem?_set_ne nl] at hs
        exact s1 l el hl2 ow hs
    · rcases get_set hl with ⟨_, rfl, _⟩ | ⟨nl, hl2⟩
      · rw [h0] at hb'; cases hb'
      · exact s2 l el hl2 hb'
theorem SoP.wr {env : De} {σ : L2.St} (S : SoP env σ) {i : Nat} {e e' : En} (h0 : e'.ad = []) (hi : env[i]? = some e) (ow : e.isOw = true) : SoP (env.set i e') σ := fun j e2 b hj hb => by
  rcases get_set hj with ⟨_, rfl, _⟩ | ⟨nj, hj2⟩
  · rw [h0] at hb; cases hb
  · obtain ⟨s1, s2⟩ := S j e2 b hj2 hb
    refine ⟨fun l el hl ow' hs => ?_, fun l el hl hb' => ?_⟩
    · rcases get_set hl with ⟨rfl, rfl, _⟩ | ⟨nl, hl2⟩
      · exact s1 i e hi ow hs
      · exact s1 l el hl2 ow' hs
    · rcases get_set hl with ⟨_, rfl, _⟩ | ⟨nl, hl2⟩
      · rw [h0] at hb'; cases hb'
      · exact s2 l el hl2 hb'
abbrev TDE := De → (D → Prop) → Prop
abbrev TDT := De → (Bool → Prop) → Prop
abbrev TDA := De → (List D → Prop) → Prop
def lC (F : Fx) (d : TDE) : TE := fun σ H Q => ∃ env L P, Abs F env σ L H ∧ d env P ∧ ∀ x v H', P x → KeepW F.W H H' → F.W.ok H' → Dd F.K (F.N L) F.W H' v x → Q v H'
def NewV (F : Fx) (L : List Addr) (H : Hp) (a : Addr) : D → Prop
  | .lst ds => ∃ vs, H a = some (.lst vs) ∧ DdAll F.K (F.N (a :: L)) F.W H vs ds
  | .tup ds => ∃ vs, H a = some (.tup vs) ∧ DdAll F.K (F.N (a :: L)) F.W H vs ds
  | .dic kds => ∃ kvs, H a = some (.dK kvs) ∧ kvs.map (·.1) = kds.map (·.1) ∧ DdAll F.K (F.N (a :: L)) F.W H (kvs.map (·.2)) (kds.map (·.2))
  | .dct kds => ∃ kvs, H a = some (.dT kvs) ∧ kvs.map (·.1) = kds.map (·.1) ∧ DdAll F.K (F.N (a :: L)) F.W H (kvs.map (·.2)) (kds.map (·.2))
  | _ => False
theorem nl_sub {F : Fx} {L : List Addr} {a : Addr} : ∀ x, F.N L x → F.N (a :: L) x := fun x h => h.imp id (List.mem_cons_of_mem _)
theorem NewV.dd {F : Fx} {L : List Addr} {H : Hp} {a : Addr} (n : ¬ F.N L a) : ∀ {x : D}, NewV F L H a x → Dd F.K (F.N L) F.W H (.ref a) x
  | .lst ds, ⟨vs, h, g⟩ => .lst h n (g.keep (fun _ _ _ z => z) nl_sub)
  | .tup ds, ⟨vs, h, g⟩ => .tup h n (g.keep (fun _ _ _ z => z) nl_sub)
  | .dic ds, ⟨vs, h, e, g⟩ => .dic (.inl h) n e (g.keep (fun _ _ _ z => z) nl_sub)
  | .dct ds, ⟨vs, h, e, g⟩ => .dct (.inl h) n e (g.keep (fun _ _ _ z => z) nl_sub)
def lN (F : Fx) (d : TDE) : TE := fun σ H Q => ∃ env L P, Abs F env σ L H ∧ d env P ∧ ∀ x a H', P x → KeepW F.W H H' → F.W.ok H' → H a = none → NewV F L H' a x → Q (.ref a) H'
def Bw (F : Fx) (L : List Addr) (H : Hp) (v : V) (x : D) : Prop := Dd F.K (F.N L) F.W H v x ∨ ∃ e, e.isOw = true ∧ EnOk F L H e (some v) ∧ x = (match e with | .ow ds => .lst ds | .od ds => .dic ds | .ot ds => .dct ds | _ => .non)
def lB (F : Fx) (d : TDE) : TE := fun σ H Q => ∃ env L P, Abs F env σ L H ∧ d env P ∧ ∀ x v H', P x → KeepW F.W H H' → F.W.ok H' → Bw F L H' v x → Q v H'
def lT (F : Fx) (d : TDT) : TT := fun σ H Q => ∃ env L P, Abs F env σ L H ∧ d env P ∧ ∀ x H', P x → KeepW F.W H H' → F.W.ok H' → Q x H'
def lA (F : Fx) (d : TDA) : TA := fun σ H Q => ∃ env L P, Abs F env σ L H ∧ d env P ∧ ∀ xs vs H', P xs → KeepW F.W H H' → F.W.ok H' → DdAll F.K (F.N L) F.W H' vs xs → Q vs H'
section
variable {X : Cx} {F : Fx} {e a b : Expr} {d da db : TDE}
theorem PE.mono {t t' : TE} (h : PE X e t) (m : ∀ σ H Q, t' σ H Q → t σ H Q) : PE X e t' := ⟨fun pins s σ H Q I q => h.run pins s σ H Q I (m σ H Q q)⟩
theorem PT.mono {t t' : TT} (h : PT X e t) (m : ∀ σ H Q, t' σ H Q → t σ H Q) : PT X e t' := ⟨fun pins s σ H Q I q => h.run pins s σ H Q I (m σ H Q q)⟩
theorem PW.mono {t t' : TT} (h : PW X e t) (m : ∀ σ H Q, t' σ H Q → t σ H Q) : PW X e t' := ⟨fun wh pins s σ H Q I q => h.run wh pins s σ H Q I (m σ H Q q)⟩
theorem PA.mono {es : List Expr} {t t' : TA} (h : PA X es t) (m : ∀ σ H Q, t' σ H Q → t σ H Q) : PA X es t' := ⟨fun pos pins s σ H Q I q => h.run pos pins s σ H Q I (m σ H Q q)⟩
theorem PK.mono {es : List Keyword} {t t' : TA} (h : PK X es t) (m : ∀ σ H Q, t' σ H Q → t σ H Q) : PK X es t' := ⟨fun pos pins s σ H Q I q => h.run pos pins s σ H Q I (m σ H Q q)⟩
theorem PS.mono {st : Stmt} {t t' : TS} (h : PS X st t) (m : ∀ E σ H, t' E σ H → t E σ H) : PS X st t' := ⟨fun pins s σ H E I q => h.run pins s σ H E I (m E σ H q)⟩
theorem PSs.mono {st : List Stmt} {t t' : TS} (h : PSs X st t) (m : ∀ E σ H, t' E σ H → t E σ H) : PSs X st t' := ⟨fun pins s σ H E I q => h.run pins s σ H E I (m E σ H q)⟩
theorem n_c (h : PE X e (lN F d)) : PE X e (lC F d) := PE.mono h fun σ H Q ⟨env, L, P, A, p, q⟩ => ⟨env, L, P, A, p, fun x a H' px k o n dd => q x _ H' px k o (dd.dd (A.new n))⟩
theorem c_b (h : PE X e (lC F d)) : PE X e (lB F d) := PE.mono h fun σ H Q ⟨env, L, P, A, p, q⟩ => ⟨env, L, P, A, p, fun x v H' px k o dd => q x v H' px k o (.inl dd)⟩
def D.leaf : D → Bool
  | .non => true | .bl _ => true | .int _ => true | .str _ => true | _ => false
def dC (x : D) : TDE := fun _ P => P x
theorem c_lift {x : D} {v : V} (h : PE X e (tC v)) (r : ∀ K N W H, Dd K N W H v x) : PE X e (lC F (dC x)) := PE.mono h fun σ H Q ⟨env, L, P, A, p, q⟩ => q x v H p (.refl _ _) A.ok (r _ _ _ _)
theorem dd_int {i : Int} {j} {pos : Pos} : PE X (.Constant (.int i) j pos) (lC F (dC (.int i))) := c_lift pe_int fun _ _ _ _ => .int i
theorem dd_str {i : Str} {j} {pos : Pos} : PE X (.Constant (.str i) j pos) (lC F (dC (.str i))) := c_lift pe_str fun _ _ _ _ => .str i
theorem dd_bl {i : Bool} {j} {pos : Pos} : PE X (.Constant (.bool i) j pos) (lC F (dC (.bl i))) := c_lift pe_bl fun _ _ _ _ => .bl i
def dV (i : Nat) : TDE := fun env P => match env[i]? with | some (.fz d) => P d | _ => False
def dB (i : Nat) : TDE := fun env P => match env[i]? with | some (.fz d) => P d | some (.ow ds) => P (.lst ds) | some (.od ds) => P (.dic ds) | some (.ot ds) => P (.dct ds) | _ => False
theorem abs_at {env : De} {σ : L2.St} {L : List Addr} {H : Hp} (A : Abs F env σ L H) {i : Nat} {e : En} (h : env[i]? = some e) (n : e ≠ .no) : ∃ v, σ[i]? = some (some v) ∧ EnOk F L H e (some v) := by
  have hi : i < σ.length := by rw [← A.ls]; exact (List.getElem?_eq_some_iff.mp h).1
  have h2 := A.en i e σ[i] h (List.getElem?_eq_getElem hi)
  cases q : σ[i] with
  | none =>
    rw [q] at h2
    cases e with
    | no => exact absurd rfl n
    | _ => exact h2.elim
  | some v =>
    rw [q] at h2
    exact ⟨v, by rw [List.getElem?_eq_getElem hi, q], h2⟩
theorem loneO {env : De} {σ : L2.St} {L : List Addr} {H : Hp} (A : Abs F env σ L H) {a : Addr} (n : H a = none) : ∀ (j : Nat) (ej : En), env[j]? = some ej → a ∉ ej.ad := fun j ej h hb => by
  cases ej with
  | oo C b fs =>
    obtain ⟨v, _, q⟩ := abs_at A h (by intro w; cases w)
    cases v with
    | ref c =>
      obtain ⟨_, u, hu, _⟩ := A.fr a (q.2.1 a hb)
      rw [n] at hu
      cases hu
    | _ => exact q.elim
  | fe e =>
    obtain ⟨v, _, q⟩ := abs_at A h (by intro w; cases w)
    obtain ⟨_, u, hu, _⟩ := A.fr a (q.1 a hb)
    rw [n] at hu
    cases hu
  | _ => cases hb
theorem dd_v {i : Nat} (h : PE X e (tVar i)) : PE X e (lC F (dV i)) := PE.mono h fun σ H Q ⟨env, L, P, A, p, q⟩ => by
  unfold dV at p
  cases z : env[i]? with
  | none => rw [z] at p; exact p.elim
  | some en =>
    rw [z] at p
    cases en with
    | fz d =>
      obtain ⟨v, h1, h2⟩ := abs_at A z (by intro w; cases w)
      exact ⟨v, h1, q d v H p (.refl _ _) A.ok h2⟩
    | _ => exact p.elim
theorem dd_b {i : Nat} (h : PE X e (tVar i)) : PE X e (lB F (dB i)) := PE.mono h fun σ H Q ⟨env, L, P, A, p, q⟩ => by
  unfold dB at p
  cases z : env[i]? with
  | none => rw [z] at p; exact p.elim
  | some en =>
    rw [z] at p
    cases en with
    | no => exact p.elim
    | oo _ _ _ => exact p.elim
    | fe _ => exact p.elim
    | fz d =>
      obtain ⟨v, h1, h2⟩ := abs_at A z (by intro w; cases w)
      exact ⟨v, h1, q d v H p (.refl _ _) A.ok (.inl h2)⟩
    | _ =>
      obtain ⟨v, h1, h2⟩ := abs_at A z (by intro w; cases w)
      exact ⟨v, h1, q _ v H p (.refl _ _) A.ok (.inr ⟨_, rfl, h2, rfl⟩)⟩
end
end DL
namespace DL
open PySem PySem.Spec PyProof.Rows L2 RK
def ob {α : Type} (o : Option α) (P : α → Prop) : Prop := match o with | some z => P z | none => False
theorem ob_some {α : Type} {z : α} {P : α → Prop} : ob (some z) P = P z := rfl
theorem ob_elim {α : Type} {o : Option α} {P : α → Prop} (h : ob o P) : ∃ z, o = some z ∧ P z := by
  cases o with
  | none => exact h.elim
  | some z => exact ⟨z, rfl, h⟩
mutual
def toPy : D → Option PyData
  | .non => some .none
  | .bl b => some (.bool b)
  | .int i => some (.int i)
  | .str x => some (.str x)
  | .lst xs => (toPyA xs).map .list
  | .tup xs => (toPyA xs).map .tuple
  | _ => none
def toPyA : List D → Option (List PyData)
  | [] => some []
  | d :: ds => (toPy d).bind fun p => (toPyA ds).map fun ps => p :: ps
end
section
variable {K : PySem.W.Frag} {N : Addr → Prop} {W : Wd} {H H' : Hp}
mutual
theorem Dd.py : ∀ {v : V} {d : D} {p : PyData}, Dd K N W H v d → toPy d = some p → Dp K H v p
  | _, _, _, .non, e => by cases Option.some.inj e; exact .non
  | _, _, _, .bl b, e => by cases Option.some.inj e; exact .bl b
  | _, _, _, .int i, e => by cases Option.some.inj e; exact .int i
  | _, _, _, .str x, e => by cases Option.some.inj e; exact .str x
  | _, _, _, .lst h _ a, e => by
    obtain ⟨ps, h1, h2⟩ := Option.map_eq_some_iff.mp e
    subst h2
    exact .lst (SqL.of h) (DdAll.py a h1)
  | _, _, _, .tup h _ a, e => by
    obtain ⟨ps, h1, h2⟩ := Option.map_eq_some_iff.mp e
    subst h2
    exact .tup (SqT.of h) (DdAll.py a h1)
  | _, _, _, .ktp .., e => by cases e
  | _, _, _, .dic .., e => by cases e
  | _, _, _, .dct .., e => by cases e
  | _, _, _, .obj .., e => by cases e
  | _, _, _, .bag .., e => by cases e
  | _, _, _, .fn .., e => by cases e
theorem DdAll.py : ∀ {vs : List V} {ds : List D} {ps : List PyData}, DdAll K N W H vs ds → toPyA ds = some ps → DpAll K H vs ps
  | _, _, _, .nil, e => by cases Option.some.inj e; exact .nil
  | _, _, _, .cons h a, e => by
    obtain ⟨p, h1, h2⟩ := Option.bind_eq_some_iff.mp e
    obtain ⟨ps, h3, h4⟩ := Option.map_eq_some_iff.mp h2
    subst h4
    exact .cons (Dd.py h h1) (DdAll.py a h3)
end
theorem dd_intE {v : V} {i : Int} (h : Dd K N W H v (.int i)) : v = .int i := by cases h; rfl
theorem dd_strE {v : V} {i : Str} (h : Dd K N W H v (.str i)) : v = .str i := by cases h; rfl
theorem dd_blE {v : V} {i : Bool} (h : Dd K N W H v (.bl i)) : v = .bl i := by cases h; rfl
theorem dd_nonE {v : V} (h : Dd K N W H v .non) : v = .non := by cases h; rfl
theorem dd_lstE {v : V} {ds : List D} (h : Dd K N W H v (.lst ds)) : ∃ a vs, v = .ref a ∧ H a = some (.lst vs) ∧ ¬ N a ∧ DdAll K N W H vs ds := by cases h with | lst h1 h2 h3 => exact ⟨_, _, rfl, h1, h2, h3⟩
theorem dd_tupE {v : V} {ds : List D} (h : Dd K N W H v (.tup ds)) : ∃ a vs, v = .ref a ∧ H a = some (.tup vs) ∧ ¬ N a ∧ DdAll K N W H vs ds := by cases h with | tup h1 h2 h3 => exact ⟨_, _, rfl, h1, h2, h3⟩
end
section
variable {F : Fx} {env : De} {σ : L2.St} {L : List Addr} {H H' : Hp}
theorem bw_leaf {v : V} {x : D} (h : Bw F L H v x) (l : x.leaf = true) : Dd F.K (F.N L) F.W H v x := by
  rcases h with h | ⟨e, h1, h2, rfl⟩
  · exact h
  · cases e with
    | no => cases h1
    | fz _ => cases h1
    | oo _ _ _ => cases h1
    | fe _ => cases h1
    | ow _ => cases l
    | od _ => cases l
    | ot _ => cases l
theorem bw_int {v : V} {i : Int} (h : Bw F L H v (.int i)) : v = .int i := dd_intE (bw_leaf h rfl)
theorem bw_str {v : V} {i : Str} (h : Bw F L H v (.str i)) : v = .str i := dd_strE (bw_leaf h rfl)
theorem bw_bl {v : V} {i : Bool} (h : Bw F L H v (.bl i)) : v = .bl i := dd_blE (bw_leaf h rfl)
theorem bw_non {v : V} (h : Bw F L H v .non) : v = .non := dd_nonE (bw_leaf h rfl)
theorem bw_lst {v : V} {ds : List D} (h : Bw F L H v (.lst ds)) : ∃ a vs, v = .ref a ∧ H a = some (.lst vs) ∧ DdAll F.K (F.N L) F.W H vs ds := by
  rcases h with h | ⟨e, h1, h2, h3⟩
  · obtain ⟨a, vs, h1, h2, _, h3⟩ := dd_lstE h
    exact ⟨a, vs, h1, h2, h3⟩
  · cases e with
    | ow es =>
      cases h3
      cases v with
      | ref a => exact ⟨a, h2.2.choose, rfl, h2.2.choose_spec⟩
      | _ => exact h2.elim
    | no => cases h1
    | fz _ => cases h1
    | oo _ _ _ => cases h1
    | fe _ => cases h1
    | od _ => cases h3
    | ot _ => cases h3
theorem bw_tup {v : V} {ds : List D} (h : Bw F L H v (.tup ds)) : ∃ a vs, v = .ref a ∧ H a = some (.tup vs) ∧ DdAll F.K (F.N L) F.W H vs ds := by
  rcases h with h | ⟨e, h1, h2, h3⟩
  · obtain ⟨a, vs, h1, h2, _, h3⟩ := dd_tupE h
    exact ⟨a, vs, h1, h2, h3⟩
  · cases e with
    | no => cases h1
    | fz _ => cases h1
    | oo _ _ _ => cases h1
    | fe _ => cases h1
    | ow _ => cases h3
    | od _ => cases h3
    | ot _ => cases h3
theorem bw_dic {v : V} {ds : List (Key × D)} (h : Bw F L H v (.dic ds)) : ∃ a kvs, v = .ref a ∧ Rd H a (.dK kvs) ∧ kvs.map (·.1) = ds.map (·.1) ∧ DdAll F.K (F.N L) F.W H (kvs.map (·.2)) (ds.map (·.2)) := by
  rcases h with h | ⟨e, h1, h2, h3⟩
  · cases h with | dic g1 g2 g3 g4 => exact ⟨_, _, rfl, g1, g3, g4⟩
  · cases e with
    | od es =>
      cases h3
      cases v with
      | ref a =>
        obtain ⟨_, kvs, g1, g2, g3⟩ := h2
        exact ⟨a, kvs, rfl, .inl g1, g2, g3⟩
      | _ => exact h2.elim
    | no => cases h1
    | fz _ => cases h1
    | oo _ _ _ => cases h1
    | fe _ => cases h1
    | ow _ => cases h3
    | ot _ => cases h3
theorem bw_dct {v : V} {ds : List (List Key × D)} (h : Bw F L H v (.dct ds)) : ∃ a kvs, v = .ref a ∧ Rd H a (.dT kvs) ∧ kvs.map (·.1) = ds.map (·.1) ∧ DdAll F.K (F.N L) F.W H (kvs.map (·.2)) (ds.map (·.2)) := by
  rcases h with h | ⟨e, h1, h2, h3⟩
  · cases h with | dct g1 g2 g3 g4 => exact ⟨_, _, rfl, g1, g3, g4⟩
  · cases e with
    | ot es =>
      cases h3
      cases v with
      | ref a =>
        obtain ⟨_, kvs, g1, g2, g3⟩ := h2
        exact ⟨a, kvs, rfl, .inl g1, g2, g3⟩
      | _ => exact h2.elim
    | no => cases h1
    | fz _ => cases h1
    | oo _ _ _ => cases h1
    | fe _ => cases h1
    | ow _ => cases h3
    | od _ => cases h3
theorem bw_py {v : V} {d : D} {p : PyData} (h : Bw F L H v d) (e : toPy d = some p) : Dp F.K H v p := by
  rcases h with h | ⟨en, h1, h2, h3⟩
  · exact h.py e
  · cases en with
    | ow es =>
      have hh : Bw F L H v (.lst es) := .inr ⟨.ow es, rfl, h2, rfl⟩
      obtain ⟨a, vs, rfl, g2, g3⟩ := bw_lst hh
      subst h3
      obtain ⟨ps, h1, h2⟩ := Option.map_eq_some_iff.mp e
      subst h2
      exact .lst (SqL.of g2) (g3.py h1)
    | no => cases h1
    | fz _ => cases h1
    | oo _ _ _ => cases h1
    | fe _ => cases h1
    | od _ => subst h3; cases e
    | ot _ => subst h3; cases e
theorem Bw.step (A : Abs F env σ L H) (k : KeepW F.W H H') {v : V} {x : D} (h : Bw F L H v x) : Bw F L H' v x := by
  rcases h with h | ⟨e, h1, h2, h3⟩
  · exact .inl (A.kd k h)
  · have w : ∀ a ∈ L, ¬ F.W.own a := fun a h z => A.out h (A.wn a z)
    exact .inr ⟨e, h1, EnOk.keep A (k.n A) (fun _ z => z) (fun a _ _ h => ⟨h, fun o q => k a o (w a h) q⟩) (fun b hb => by rw [ad_ow h1] at hb; cases hb) h2, h3⟩
theorem new_pres (A : Abs F env σ L H) {p : Addr} {o : HO} (hp : H p = none) {vs : List V} {ds : List D} (h : DdAll F.K (F.N L) F.W H vs ds) : DdAll F.K (F.N (p :: L)) F.W (upd H p o) vs ds := h.pres fun a u n g => by
  have ne : a ≠ p := ne_of_none g hp
  refine ⟨fun z => ?_, by rw [upd_ne ne]; exact g⟩
  rcases z with z | z
  · exact n (.inl z)
  · rcases List.mem_cons.mp z with z | z
    · exact ne z
    · exact n (.inr z)
theorem new_lstN (A : Abs F env σ L H) {p : Addr} (hp : H p = none) {vs : List V} {ds : List D} (h : DdAll F.K (F.N L) F.W H vs ds) : NewV F L (upd H p (.lst vs)) p (.lst ds) := ⟨vs, upd_same, new_pres A hp h⟩
theorem new_tupN (A : Abs F env σ L H) {p : Addr} (hp : H p = none) {vs : List V} {ds : List D} (h : DdAll F.K (F.N L) F.W H vs ds) : NewV F L (upd H p (.tup vs)) p (.tup ds) := ⟨vs, upd_same, new_pres A hp h⟩
theorem new_lst (A : Abs F env σ L H) {p : Addr} (hp : H p = none) {vs : List V} {ds : List D} (h : DdAll F.K (F.N L) F.W H vs ds) : Dd F.K (F.N L) F.W (upd H p (.lst vs)) (.ref p) (.lst ds) := .lst upd_same (A.new hp) (A.kda (KeepW.new hp) h)
theorem new_tup (A : Abs F env σ L H) {p : Addr} (hp : H p = none) {vs : List V} {ds : List D} (h : DdAll F.K (F.N L) F.W H vs ds) : Dd F.K (F.N L) F.W (upd H p (.tup vs)) (.ref p) (.tup ds) := .tup upd_same (A.new hp) (A.kda (KeepW.new hp) h)
end
abbrev B2 := D → D → Option D
def Op2 (F : Fx) (r : R2) (f : B2) : Prop := ∀ {env : De} {σ : L2.St} {L : List Addr} {H : Hp} {x y : V} {dx dy z : D}, Abs F env σ L H → Bw F L H x dx → Bw F L H y dy → f dx dy = some z →
  ∀ Q : VK, (∀ v H', KeepW F.W H H' → F.W.ok H' → Dd F.K (F.N L) F.W H' v z → Q v H') → r x y H Q
def Op2N (F : Fx) (r : R2) (f : B2) : Prop := ∀ {env : De} {σ : L2.St} {L : List Addr} {H : Hp} {x y : V} {dx dy z : D}, Abs F env σ L H → Bw F L H x dx → Bw F L H y dy → f dx dy = some z →
  ∀ Q : VK, (∀ a H', KeepW F.W H H' → F.W.ok H' → H a = none → NewV F L H' a z → Q (.ref a) H') → r x y H Q
def dO2 (f : B2) (da db : TDE) : TDE := fun env P => da env fun x => db env fun y => ob (f x y) P
section
variable {X : Cx} {F : Fx} {e a b c : Expr} {d da db dc : TDE} {pos : Pos} {f g : B2} {r r' : R2}
theorem lop2 (h : Op2 F r f) : ∀ σ H Q, lC F (dO2 f da db) σ H Q → tOp r (lB F da) (lB F db) σ H Q := fun σ H Q ⟨env, L, P, A, p, q⟩ =>
  ⟨env, L, _, A, p, fun x v H1 px k1 o1 b1 => ⟨env, L, _, A.step k1 o1, px, fun y u H2 py k2 o2 b2 => by
    obtain ⟨z, e, pz⟩ := ob_elim py
    exact h ((A.step k1 o1).step k2 o2) (b1.step (A.step k1 o1) k2) b2 e Q fun w H3 k3 o3 d3 => q z w H3 pz ((k1.trans k2).trans k3) o3 d3⟩⟩
theorem dd_op {op : Operator} (h : Op2 F r f) (ho : OpR X (binaryOp op) r) (ha : PE X a (lB F da)) (hb : PE X b (lB F db)) : PE X (.BinOp a op b pos) (lC F (dO2 f da db)) := PE.mono (pe_op ho ha hb) (lop2 h)
theorem dd_cmp {op : CmpOp} (h : Op2 F r f) (ho : OpR X (compareOp op) r) (ha : PE X a (lB F da)) (hb : PE X b (lB F db)) (hm : behindInMarks op b = false) : PE X (.Compare a [op] [b] pos) (lC F (dO2 f da db)) := PE.mono (pe_cmpR ho ha hb hm) (lop2 h)
def dT (d : TDE) : TDT := fun env P => d env fun x => match x with | .bl b => P b | _ => False
theorem l_test : ∀ σ H Q, lT F (dT d) σ H Q → tTest (lC F d) σ H Q := fun σ H Q ⟨env, L, P, A, p, q⟩ =>
  ⟨env, L, _, A, p, fun x v H1 px k1 o1 d1 => by
    cases x with
    | bl b => cases d1; exact ⟨b, rfl, q b H1 px k1 o1⟩
    | _ => exact px.elim⟩
theorem dt_val (h : PE X e (lC F d)) (he : ∀ whole, isTrue e X.env whole = (do let v ← whole; standAt e.pos; holding [v] (truthy v)) := by intro _; rfl) : PT X e (lT F (dT d)) := PT.mono (pt_val h he) fun σ H Q q => l_test σ H Q q
theorem dt_cmp {op : CmpOp} (h : Op2 F r f) (ho : OpR X (compareOp op) r) (ha : PE X a (lB F da)) (hb : PE X b (lB F db)) (hm : behindInMarks op b = false) : PT X (.Compare a [op] [b] pos) (lT F (dT (dO2 f da db))) :=
  PT.mono (pt_cmpR ho ha hb hm) fun σ H Q ⟨env, L, P, A, p, q⟩ => lop2 h σ H _ ⟨env, L, _, A, p, fun x v H1 px k1 o1 d1 => by
    cases x with
    | bl b => cases d1; exact ⟨b, rfl, q b H1 px k1 o1⟩
    | _ => exact px.elim⟩
def dAndT (t u : TDT) : TDT := fun env P => t env fun x => if x = true then u env P else P false
def dOrT (t u : TDT) : TDT := fun env P => t env fun x => if x = true then P true else u env P
def dNotT (t : TDT) : TDT := fun env P => t env fun x => P (!x)
variable {tA tB : TDT} {rest : List Expr}
theorem wt_or1 (ha : PT X a (lT F tA)) : PW X (.BoolOp .Or [a] pos) (lT F tA) := pw_or1 ha
theorem wt_or (ha : PT X a (lT F tA)) (hb : PW X (.BoolOp .Or (b :: rest) pos) (lT F tB)) : PW X (.BoolOp .Or (a :: b :: rest) pos) (lT F (dOrT tA tB)) :=
  PW.mono (pw_or ha hb) fun σ H Q ⟨env, L, P, A, p, q⟩ => ⟨env, L, _, A, p, fun x H1 px k1 o1 => by
    cases x with
    | false => exact iteF ⟨env, L, _, A.step k1 o1, px, fun y H2 py k2 o2 => q y H2 py (k1.trans k2) o2⟩
    | true => exact iteT (q true H1 px k1 o1)⟩
theorem dt_not (ha : PT X a (lT F tA)) : PT X (.UnaryOp .Not a pos) (lT F (dNotT tA)) :=
  PT.mono (pt_not ha) fun σ H Q ⟨env, L, P, A, p, q⟩ => ⟨env, L, _, A, p, fun x H1 px k1 o1 => q (!x) H1 px k1 o1⟩
def dIf (t : TDT) (da db : TDE) : TDE := fun env P => t env fun x => if x = true then da env P else db env P
theorem dd_if (hc : PT X c (lT F tA)) (ha : PE X a (lC F da)) (hb : PE X b (lC F db)) : PE X (.IfExp c a b pos) (lC F (dIf tA da db)) :=
  PE.mono (pe_ifExp hc ha hb) fun σ H Q ⟨env, L, P, A, p, q⟩ => ⟨env, L, _, A, p, fun x H1 px k1 o1 => by
    cases x with
    | false => exact iteF ⟨env, L, _, A.step k1 o1, px, fun y v H2 py k2 o2 d2 => q y v H2 py (k1.trans k2) o2 d2⟩
    | true => exact iteT ⟨env, L, _, A.step k1 o1, px, fun y v H2 py k2 o2 d2 => q y v H2 py (k1.trans k2) o2 d2⟩⟩
def dAndV (da db : TDE) : TDE := fun env P => da env fun x => match x with | .bl b => if b = true then db env P else P (.bl false) | _ => False
def dOrV (da db : TDE) : TDE := fun env P => da env fun x => match x with | .bl b => if b = true then P (.bl true) else db env P | _ => False
def dNotV (da : TDE) : TDE := fun env P => da env fun x => match x with | .bl b => P (.bl (!b)) | _ => False
theorem dd_one {op} (ha : PE X a (lC F da)) : PE X (.BoolOp op [a] pos) (lC F da) := pe_one ha
theorem dd_and (ha : PE X a (lC F da)) (hb : PE X (.BoolOp .And (b :: rest) pos) (lC F db)) : PE X (.BoolOp .And (a :: b :: rest) pos) (lC F (dAndV da db)) :=
  PE.mono (pe_and ha hb) fun σ H Q ⟨env, L, P, A, p, q⟩ => ⟨env, L, _, A, p, fun x v H1 px k1 o1 d1 => by
    cases x with
    | bl b =>
      cases d1
      refine ⟨b, rfl, ?_⟩
      cases b with
      | true => exact iteT ⟨env, L, _, A.step k1 o1, px, fun y v H2 py k2 o2 d2 => q y v H2 py (k1.trans k2) o2 d2⟩
      | false => exact iteF (q _ _ H1 px k1 o1 (.bl false))
    | _ => exact px.elim⟩
theorem dd_or (ha : PE X a (lC F da)) (hb : PE X (.BoolOp .Or (b :: rest) pos) (lC F db)) : PE X (.BoolOp .Or (a :: b :: rest) pos) (lC F (dOrV da db)) :=
  PE.mono (pe_or ha hb) fun σ H Q ⟨env, L, P, A, p, q⟩ => ⟨env, L, _, A, p, fun x v H1 px k1 o1 d1 => by
    cases x with
    | bl b =>
      cases d1
      refine ⟨b, rfl, ?_⟩
      cases b with
      | false => exact iteF ⟨env, L, _, A.step k1 o1, px, fun y v H2 py k2 o2 d2 => q y v H2 py (k1.trans k2) o2 d2⟩
      | true => exact iteT (q _ _ H1 px k1 o1 (.bl true))
    | _ => exact px.elim⟩
end
end DL
namespace DL
open PySem PySem.Spec PyProof.Rows L2 RK
theorem guard_elim {α : Type} {c : Prop} [Decidable c] {x z : α} (h : (if c then some x else none) = some z) : c ∧ x = z := by
  by_cases hc : c
  · rw [if_pos hc] at h
    exact ⟨hc, Option.some.inj h⟩
  · rw [if_neg hc] at h
    cases h
section
variable {X : Cx} {F : Fx} {e a b c : Expr} {d da db dc : TDE} {pos : Pos}
theorem Op2.or {r r' : R2} {f g : B2} (h : Op2 F r f) (h' : Op2 F r' g) : Op2 F (fun x y H Q => r x y H Q ∨ r' x y H Q) (fun x y => (f x y).or (g x y)) := fun A bx byy e Q q => by
  rename_i dx dy z
  replace e : (f dx dy).or (g dx dy) = some z := e
  cases hf : f dx dy with
  | some z' =>
    rw [hf] at e
    exact .inl (h A bx byy (hf.trans e) Q q)
  | none =>
    rw [hf] at e
    exact .inr (h' A bx byy e Q q)
def iI (C : Int → Int → Bool) (g : Int → Int → D) : B2
  | .int i, .int j => if C i j = true then some (g i j) else none
  | _, _ => none
theorem iI_ok {C : Int → Int → Bool} {C' : Int → Int → Prop} {g : Int → Int → D} {gV : Int → Int → V} (hC : ∀ i j, C i j = true → C' i j) (hg : ∀ i j K N W H, Dd K N W H (gV i j) (g i j)) : Op2 F (rI C' gV) (iI C g) := fun A bx byy e Q q => by
  rename_i dx dy z
  cases dx <;> try cases e
  cases dy <;> try cases e
  rename_i i j
  have hx := bw_int bx
  have hy := bw_int byy
  subst hx hy
  obtain ⟨hc, rfl⟩ := guard_elim e
  exact ⟨i, j, rfl, rfl, hC i j hc, q _ _ (.refl _ _) A.ok (hg i j _ _ _ _)⟩
def iI0 (g : Int → Int → D) : B2
  | .int i, .int j => some (g i j)
  | _, _ => none
theorem iI0_ok {g : Int → Int → D} {gV : Int → Int → V} (hg : ∀ i j K N W H, Dd K N W H (gV i j) (g i j)) : Op2 F (rI0 gV) (iI0 g) := fun A bx byy e Q q => by
  rename_i dx dy z
  cases dx <;> try cases e
  cases dy <;> try cases e
  rename_i i j
  have hx := bw_int bx
  have hy := bw_int byy
  subst hx hy
  exact ⟨i, j, rfl, rfl, q _ _ (.refl _ _) A.ok (hg i j _ _ _ _)⟩
def bCat : B2
  | .lst xs, .lst ys => if xs.length + ys.length ≤ sizeLine then some (.lst (xs ++ ys)) else none
  | _, _ => none
theorem cat_okN : Op2N F rCat bCat := fun A bx byy e Q q => by
  rename_i dx dy z
  cases dx <;> try cases e
  cases dy <;> try cases e
  rename_i xs ys
  obtain ⟨l, vs, rfl, h1, h2⟩ := bw_lst bx
  obtain ⟨m, us, rfl, h3, h4⟩ := bw_lst byy
  obtain ⟨hc, rfl⟩ := guard_elim e
  exact ⟨l, m, vs, us, rfl, rfl, h1, h3, by rw [h2.len, h4.len]; exact hc, fun p hp => q p _ (.new hp) (ok_new A.ok hp) hp (new_lstN A hp (h2.app h4))⟩
theorem op2n_c {r : R2} {f : B2} (h : Op2N F r f) : Op2 F r f := fun A bx byy e Q q => h A bx byy e Q fun a H' k o n d => q _ _ k o (d.dd (A.new n))
def bCatS : B2
  | .str x, .str y => if x.length + y.length ≤ sizeLine then some (.str (x ++ y)) else none
  | _, _ => none
theorem catS_ok : Op2 F (fun x y H Q => ∃ i j, x = .str i ∧ y = .str j ∧ i.length + j.length ≤ sizeLine ∧ Q (.str (i ++ j)) H) bCatS := fun A bx byy e Q q => by
  rename_i dx dy z
  cases dx <;> try cases e
  cases dy <;> try cases e
  rename_i xs ys
  have hx := bw_str bx
  have hy := bw_str byy
  subst hx hy
  obtain ⟨hc, rfl⟩ := guard_elim e
  exact ⟨xs, ys, rfl, rfl, hc, q _ _ (.refl _ _) A.ok (.str _)⟩
def bRep : B2
  | .lst xs, .int k => if -(2 ^ 63) ≤ k ∧ k < 2 ^ 63 ∧ xs.length * k.toNat ≤ sizeLine then some (.lst (List.replicate k.toNat xs).flatten) else none
  | _, _ => none
theorem DdAll.rep {K : PySem.W.Frag} {N : Addr → Prop} {W : Wd} {H : Hp} {vs : List V} {ds : List D} (h : DdAll K N W H vs ds) : ∀ n : Nat, DdAll K N W H (List.replicate n vs).flatten (List.replicate n ds).flatten
  | 0 => .nil
  | n + 1 => by
    rw [List.replicate_succ, List.replicate_succ, List.flatten_cons, List.flatten_cons]
    exact h.app (DdAll.rep h n)
def bAdd : B2 := fun x y => (iI0 (fun i j => .int (i + j)) x y).or ((bCatS x y).or (bCat x y))
theorem dd_add (ha : PE X a (lB F da)) (hb : PE X b (lB F db)) : PE X (.BinOp a .Add b pos) (lC F (dO2 bAdd da db)) :=
  dd_op (Op2.or (iI0_ok fun i j _ _ _ _ => .int _) (Op2.or catS_ok (op2n_c cat_okN))) (op_add.or (op_add_str.or op_cat)) ha hb
def bMod : B2 := iI (fun _ j => decide (0 < j)) fun i j => .int (i % j)
theorem dd_mod (ha : PE X a (lB F da)) (hb : PE X b (lB F db)) : PE X (.BinOp a .Mod b pos) (lC F (dO2 bMod da db)) := dd_op (iI_ok (fun i j h => of_decide_eq_true h) fun i j _ _ _ _ => .int _) op_mod ha hb
def bMulI : B2 := iI (fun i j => decide ((-(2 ^ 64) < i ∧ i < 2 ^ 64) ∨ (-(2 ^ 64) < j ∧ j < 2 ^ 64))) fun i j => .int (i * j)
theorem rep_okN : Op2N F rRep bRep := fun A bx byy e Q q => by
  rename_i dx dy z
  cases dx <;> try cases e
  cases dy <;> try cases e
  rename_i xs k
  obtain ⟨l, vs, rfl, h1, h2⟩ := bw_lst bx
  have hy := bw_int byy
  subst hy
  obtain ⟨hc, rfl⟩ := guard_elim e
  exact ⟨l, k, vs, rfl, rfl, h1, hc.1, hc.2.1, by rw [h2.len]; exact hc.2.2, fun p hp => q p _ (.new hp) (ok_new A.ok hp) hp (new_lstN A hp (h2.rep _))⟩
def bRepS : B2
  | .str x, .int n => match x.cps.toList with | [c] => if 1 ≤ n ∧ n ≤ 1000 then some (.str (PySem.Txt.mul ⟨#[c]⟩ n)) else none | _ => none
  | _, _ => none
theorem repS_ok : Op2 F (fun x y H Q => ∃ (c : Nat) (n : Int), x = .str ⟨#[c]⟩ ∧ y = .int n ∧ 1 ≤ n ∧ n ≤ 1000 ∧ Q (.str (PySem.Txt.mul ⟨#[c]⟩ n)) H) bRepS := fun A bx byy e Q q => by
  rename_i dx dy z
  cases dx <;> try cases e
  cases dy <;> try cases e
  rename_i x n
  have hx := bw_str bx
  have hy := bw_int byy
  subst hx hy
  obtain ⟨⟨l⟩⟩ := x
  match l, e with
  | [c], e =>
    obtain ⟨hc, rfl⟩ := guard_elim e
    exact ⟨c, n, rfl, rfl, hc.1, hc.2, q _ _ (.refl _ _) A.ok (.str _)⟩
  | [], e => cases e
  | _ :: _ :: _, e => cases e
def bMul : B2 := fun x y => (bMulI x y).or ((bRep x y).or (bRepS x y))
theorem dd_mul (ha : PE X a (lB F da)) (hb : PE X b (lB F db)) : PE X (.BinOp a .Mult b pos) (lC F (dO2 bMul da db)) :=
  dd_op (Op2.or (iI_ok (C' := CMul) (fun i j h => by have h' := of_decide_eq_true h; exact h') fun i j _ _ _ _ => .int _) (Op2.or (op2n_c rep_okN) repS_ok)) (op_mul.or (op_rep.or op_mul_str)) ha hb
def bLtS : B2
  | .str x, .str y => some (.bl (decide (x.cps.toList < y.cps.toList)))
  | _, _ => none
theorem ltS_ok : Op2 F (fun x y H Q => ∃ i j, x = .str i ∧ y = .str j ∧ Q (.bl (decide (i.cps.toList < j.cps.toList))) H) bLtS := fun A bx byy e Q q => by
  rename_i dx dy z
  cases dx <;> try cases e
  cases dy <;> try cases e
  have hx := bw_str bx
  have hy := bw_str byy
  subst hx hy
  exact ⟨_, _, rfl, rfl, q _ _ (.refl _ _) A.ok (.bl _)⟩
def bLt : B2 := fun x y => (iI0 (fun i j => .bl (decide (i < j))) x y).or (bLtS x y)
theorem dd_lt (ha : PE X a (lB F da)) (hb : PE X b (lB F db)) : PE X (.Compare a [.Lt] [b] pos) (lC F (dO2 bLt da db)) := dd_cmp (Op2.or (iI0_ok fun i j _ _ _ _ => .bl _) ltS_ok) (op_lt.or op_lt_str) ha hb (nomark _)
def eqS (neg : Bool) : B2
  | .int i, .int j => some (.bl (neg ^^ decide (i = j)))
  | .str i, .str j => some (.bl (neg ^^ decide (i = j)))
  | .bl i, .bl j => some (.bl (neg ^^ decide (i = j)))
  | _, _ => none
def eqP (neg : Bool) : B2 := fun x y => match toPy x, toPy y with
  | some p, some q => if SeqAt.shaped p = true ∧ SeqAt.shaped q = true then some (.bl (neg ^^ PyData.eqv p q)) else none
  | _, _ => none
def bEqN (neg : Bool) : B2 := fun x y => (eqS neg x y).or (eqP neg x y)
theorem eqS_ok : Op2 F rEq (eqS false) := fun A bx byy e Q q => by
  rename_i dx dy z
  cases dx <;> try cases e
  all_goals cases dy <;> try cases e
  · have hx := bw_bl bx
    have hy := bw_bl byy
    subst hx hy
    exact ⟨rfl, by simpa using q (.bl _) _ (.refl _ _) A.ok (.bl _)⟩
  · have hx := bw_int bx
    have hy := bw_int byy
    subst hx hy
    exact ⟨rfl, by simpa using q (.bl _) _ (.refl _ _) A.ok (.bl _)⟩
  · have hx := bw_str bx
    have hy := bw_str byy
    subst hx hy
    exact ⟨rfl, by simpa using q (.bl _) _ (.refl _ _) A.ok (.bl _)⟩
theorem neS_ok : Op2 F rNe (eqS true) := fun A bx byy e Q q => by
  rename_i dx dy z
  cases dx <;> try cases e
  all_goals cases dy <;> try cases e
  · have hx := bw_bl bx
    have hy := bw_bl byy
    subst hx hy
    exact ⟨rfl, by simpa using q (.bl _) _ (.refl _ _) A.ok (.bl _)⟩
  · have hx := bw_int bx
    have hy := bw_int byy
    subst hx hy
    exact ⟨rfl, by simpa using q (.bl _) _ (.refl _ _) A.ok (.bl _)⟩
  · have hx := bw_str bx
    have hy := bw_str byy
    subst hx hy
    exact ⟨rfl, by simpa using q (.bl _) _ (.refl _ _) A.ok (.bl _)⟩
theorem eqP_elim {neg : Bool} {dx dy z : D} (e : eqP neg dx dy = some z) : ∃ p q, toPy dx = some p ∧ toPy dy = some q ∧ SeqAt.shaped p = true ∧ SeqAt.shaped q = true ∧ z = .bl (neg ^^ PyData.eqv p q) := by
  unfold eqP at e
  cases h1 : toPy dx with
  | none => rw [h1] at e; cases e
  | some p =>
    cases h2 : toPy dy with
    | none => rw [h1, h2] at e; cases e
    | some q =>
      rw [h1, h2] at e
      by_cases hc : SeqAt.shaped p = true ∧ SeqAt.shaped q = true
      · simp only [if_pos hc] at e
        cases e
        exact ⟨p, q, rfl, rfl, hc.1, hc.2, rfl⟩
      · simp only [if_neg hc] at e
        cases e
theorem eqP_ok : Op2 F (rEqD F.K) (eqP false) := fun A bx byy e Q q => by
  obtain ⟨p1, p2, h1, h2, s1, s2, rfl⟩ := eqP_elim e
  exact ⟨p1, p2, bw_py bx h1, bw_py byy h2, s1, s2, q _ _ (.refl _ _) A.ok (by rw [Bool.false_xor]; exact .bl _)⟩
theorem neP_ok : Op2 F (rNeD F.K) (eqP true) := fun A bx byy e Q q => by
  obtain ⟨p1, p2, h1, h2, s1, s2, rfl⟩ := eqP_elim e
  exact ⟨p1, p2, bw_py bx h1, bw_py byy h2, s1, s2, q _ _ (.refl _ _) A.ok (by rw [Bool.true_xor]; exact .bl _)⟩
variable {k : Nat}
theorem eqR (hr : Room k X.A) (hK : F.K = X.K) : OpR X (compareOp .Eq) (fun x y H Q => rEq x y H Q ∨ rEqD F.K x y H Q) := by
  rw [hK]
  exact op_eq.or (op_eqD hr.units)
theorem neR (hr : Room k X.A) (hK : F.K = X.K) : OpR X (compareOp .NotEq) (fun x y H Q => rNe x y H Q ∨ rNeD F.K x y H Q) := by
  rw [hK]
  exact op_ne.or (op_neD hr.units)
theorem dd_eq (hr : Room k X.A) (ha : PE X a (lB F da)) (hb : PE X b (lB F db)) (hK : F.K = X.K := by rfl) : PE X (.Compare a [.Eq] [b] pos) (lC F (dO2 (bEqN false) da db)) := dd_cmp (Op2.or eqS_ok eqP_ok) (eqR hr hK) ha hb (nomark _)
theorem dt_eq (hr : Room k X.A) (ha : PE X a (lB F da)) (hb : PE X b (lB F db)) (hK : F.K = X.K := by rfl) : PT X (.Compare a [.Eq] [b] pos) (lT F (dT (dO2 (bEqN false) da db))) := dt_cmp (Op2.or eqS_ok eqP_ok) (eqR hr hK) ha hb (nomark _)
theorem dd_ne (hr : Room k X.A) (ha : PE X a (lB F da)) (hb : PE X b (lB F db)) (hK : F.K = X.K := by rfl) : PE X (.Compare a [.NotEq] [b] pos) (lC F (dO2 (bEqN true) da db)) := dd_cmp (Op2.or neS_ok neP_ok) (neR hr hK) ha hb (nomark _)
theorem dt_ne (hr : Room k X.A) (ha : PE X a (lB F da)) (hb : PE X b (lB F db)) (hK : F.K = X.K := by rfl) : PT X (.Compare a [.NotEq] [b] pos) (lT F (dT (dO2 (bEqN true) da db))) := dt_cmp (Op2.or neS_ok neP_ok) (neR hr hK) ha hb (nomark _)
end
end DL
namespace DL
open PySem PySem.Spec PyProof.Rows L2 RK
def valD {κ : Type} [DecidableEq κ] (kds : List (κ × D)) (k : κ) : Option D := (kds.find? fun kv => decide (kv.1 = k)).map (·.2)
def putD {κ : Type} [DecidableEq κ] (kds : List (κ × D)) (k : κ) (v : D) : List (κ × D) :=
  if (kds.any fun kv => decide (kv.1 = k)) = true then kds.map (fun kv => if kv.1 = k then (kv.1, v) else kv) else kds ++ [(k, v)]
section
variable {K : PySem.W.Frag} {N : Addr → Prop} {W : Wd} {H H' : Hp} {κ : Type} [DecidableEq κ]
theorem val_rel {k : κ} : ∀ {kvs : List (κ × V)} {kds : List (κ × D)}, kvs.map (·.1) = kds.map (·.1) → DdAll K N W H (kvs.map (·.2)) (kds.map (·.2)) →
    (valV kvs k = none ∧ valD kds k = none) ∨ ∃ v d, valV kvs k = some v ∧ valD kds k = some d ∧ Dd K N W H v d
  | [], [], _, _ => .inl ⟨rfl, rfl⟩
  | [], _ :: _, e, _ => by cases e
  | _ :: _, [], e, _ => by cases e
  | (k1, v) :: kvs, (k2, d) :: kds, e, .cons h a => by
    have e1 : k1 = k2 := (List.cons.inj e).1
    have e2 := (List.cons.inj e).2
    subst e1
    by_cases hk : k1 = k
    · exact .inr ⟨v, d, by simp [valV, List.find?_cons, hk], by simp [valD, List.find?_cons, hk], h⟩
    · rcases val_rel (k := k) e2 a with ⟨h1, h2⟩ | ⟨v', d', h1, h2, h3⟩
      · left
        constructor
        · simpa [valV, List.find?_cons, hk] using h1
        · simpa [valD, List.find?_cons, hk] using h2
      · refine .inr ⟨v', d', ?_, ?_, h3⟩
        · simpa [valV, List.find?_cons, hk] using h1
        · simpa [valD, List.find?_cons, hk] using h2
theorem any_rel {k : κ} : ∀ {kvs : List (κ × V)} {kds : List (κ × D)}, kvs.map (·.1) = kds.map (·.1) → (kvs.any fun kv => decide (kv.1 = k)) = kds.any fun kv => decide (kv.1 = k)
  | [], [], _ => rfl
  | [], _ :: _, e => by cases e
  | _ :: _, [], e => by cases e
  | (k1, v) :: kvs, (k2, d) :: kds, e => by
    have e1 : k1 = k2 := (List.cons.inj e).1
    have ih := any_rel (k := k) (List.cons.inj e).2
    subst e1
    simp [List.any_cons, ih]
theorem put_rel {k : κ} {v : V} {d : D} {kvs : List (κ × V)} {kds : List (κ × D)} (e : kvs.map (·.1) = kds.map (·.1)) (a : DdAll K N W H (kvs.map (·.2)) (kds.map (·.2))) (h : Dd K N W H v d) :
    (putK kvs k v).map (·.1) = (putD kds k d).map (·.1) ∧ DdAll K N W H ((putK kvs k v).map (·.2)) ((putD kds k d).map (·.2)) := by
  unfold putK putD
  rw [any_rel e]
  split
  · have key : ∀ {kvs : List (κ × V)} {kds : List (κ × D)}, kvs.map (·.1) = kds.map (·.1) → DdAll K N W H (kvs.map (·.2)) (kds.map (·.2)) →
        (kvs.map (fun kv => if kv.1 = k then (kv.1, v) else kv)).map (·.1) = (kds.map (fun kv => if kv.1 = k then (kv.1, d) else kv)).map (·.1) ∧
        DdAll K N W H ((kvs.map (fun kv => if kv.1 = k then (kv.1, v) else kv)).map (·.2)) ((kds.map (fun kv => if kv.1 = k then (kv.1, d) else kv)).map (·.2)) := by
      intro kvs
      induction kvs with
      | nil =>
        intro kds e a
        cases kds with
        | nil => exact ⟨rfl, .nil⟩
        | cons _ _ => cases e
      | cons p kvs ih =>
        intro kds e a
        cases kds with
        | nil => cases e
        | cons p' kds =>
          obtain ⟨k1, v1⟩ := p
          obtain ⟨k2, d1⟩ := p'
          cases a with
          | cons h1 a =>
            have e1 : k1 = k2 := (List.cons.inj e).1
            subst e1
            obtain ⟨i1, i2⟩ := ih (List.cons.inj e).2 a
            by_cases hk : k1 = k
            · simp only [List.map_cons, if_pos hk]
              exact ⟨by rw [i1], .cons h i2⟩
            · simp only [List.map_cons, if_neg hk]
              exact ⟨by rw [i1], .cons h1 i2⟩
    exact key e a
  · rw [List.map_append, List.map_append, List.map_append, List.map_append, e]
    exact ⟨rfl, a.app (.cons h .nil)⟩
end
def keyD : D → Option Key
  | .int i => some (.inl i)
  | .str x => some (.inr x)
  | _ => none
def keysD : List D → Option (List Key)
  | [] => some []
  | d :: ds => (keyD d).bind fun k => (keysD ds).map fun ks => k :: ks
theorem keyD_v {F : Fx} {L : List Addr} {H : Hp} {v : V} {d : D} {k : Key} (b : Bw F L H v d) (e : keyD d = some k) : v = kV k := by
  cases d <;> cases e
  · exact bw_int b
  · exact bw_str b
theorem keysD_v {K : PySem.W.Frag} {N : Addr → Prop} {W : Wd} {H : Hp} : ∀ {vs : List V} {ds : List D} {ks : List Key}, DdAll K N W H vs ds → keysD ds = some ks → vs = ks.map kV
  | _, _, _, .nil, e => by cases e; rfl
  | _, _, _, .cons (v := v) (d := d) h a, e => by
    obtain ⟨k, h1, h2⟩ := Option.bind_eq_some_iff.mp e
    obtain ⟨ks, h3, h4⟩ := Option.map_eq_some_iff.mp h2
    subst h4
    rw [keysD_v a h3]
    cases d <;> cases h1
    · rw [dd_intE h]; rfl
    · rw [dd_strE h]; rfl
def getD : D → D → Option (Option D)
  | .dic kds, y => (keyD y).map fun k => valD kds k
  | .dct kds, .tup ys => (keysD ys).map fun k => valD kds k
  | _, _ => none
theorem getD_ok {F : Fx} {L : List Addr} {H : Hp} {x y : V} {dx dy : D} {r : Option D} (bx : Bw F L H x dx) (bb : Bw F L H y dy) (e : getD dx dy = some r) :
    ∃ a o, x = .ref a ∧ DGet H a y o ∧ ((o = none ∧ r = none) ∨ ∃ v d, o = some v ∧ r = some d ∧ Dd F.K (F.N L) F.W H v d) := by
  cases dx with
  | dic kds =>
    obtain ⟨a, kvs, rfl, h1, h2, h3⟩ := bw_dic bx
    obtain ⟨k, e1, e2⟩ := Option.map_eq_some_iff.mp e
    have hy := keyD_v bb e1
    subst hy e2
    exact ⟨a, valV kvs k, rfl, .inl ⟨kvs, k, h1, rfl, rfl⟩, val_rel h2 h3⟩
  | dct kds =>
    cases dy with
    | tup ys =>
      obtain ⟨a, kvs, rfl, h1, h2, h3⟩ := bw_dct bx
      obtain ⟨b, vs, rfl, g1, g2⟩ := bw_tup bb
      obtain ⟨k, e1, e2⟩ := Option.map_eq_some_iff.mp e
      have hy := keysD_v g2 e1
      subst hy e2
      exact ⟨a, valV kvs k, rfl, .inr ⟨kvs, k, b, h1, rfl, g1, rfl⟩, val_rel h2 h3⟩
    | _ => cases e
  | _ => cases e
def eqF : D → D → Bool
  | .non, .non => true
  | .bl a, .bl b => a == b
  | .bl a, .int b => (if a then 1 else 0) == b
  | .int a, .bl b => a == (if b then 1 else 0)
  | .int a, .int b => a == b
  | .str a, .str b => a == b
  | _, _ => false
def itemsD : D → Option (List D)
  | .lst xs => some xs
  | .tup xs => some xs
  | .ktp xs => some xs
  | _ => none
def inFlat (neg : Bool) : B2 := fun x y => (itemsD y).bind fun ys => if x.leaf = true ∧ ys.all D.leaf = true then some (.bl (neg ^^ ys.any fun y => eqF y x)) else none
def inDeep (neg : Bool) : B2 := fun x y => match toPy x, toPy y with
  | some p, some (.list ps) => if SeqAt.shaped p = true ∧ SeqAt.shaped (.list ps) = true then some (.bl (neg ^^ ps.any fun z => PyData.eqv z p)) else none
  | _, _ => none
def inDict (neg : Bool) : B2 := fun x y => (getD y x).map fun r => .bl (neg ^^ r.isSome)
def inSign (neg : Bool) : B2
  | .str x, .str z => match x.cps.toList with | [c] => some (.bl (neg ^^ decide (c ∈ z.cps.toList))) | _ => none
  | _, _ => none
def bIn (neg : Bool) : B2 := fun x y => (inFlat neg x y).or ((inDict neg x y).or ((inSign neg x y).or (inDeep neg x y)))
theorem leaf_flat {K : PySem.W.Frag} {N : Addr → Prop} {W : Wd} {H : Hp} {v : V} {d : D} (h : Dd K N W H v d) (l : d.leaf = true) : flatV v = true := by cases h <;> first | rfl | cases l
theorem leaf_eq {K : PySem.W.Frag} {N : Addr → Prop} {W : Wd} {H : Hp} {v u : V} {d e : D} (h : Dd K N W H v d) (l : d.leaf = true) (h' : Dd K N W H u e) (l' : e.leaf = true) : eqV v u = eqF d e := by
  cases h <;> cases h' <;> first | rfl | cases l | cases l'
theorem all_leaf {K : PySem.W.Frag} {N : Addr → Prop} {W : Wd} {H : Hp} {v : V} {d : D} (h : Dd K N W H v d) (l : d.leaf = true) : ∀ {vs : List V} {ds : List D}, DdAll K N W H vs ds → ds.all D.leaf = true → vs.all flatV = true ∧ inV v vs = ds.any fun y => eqF y d
  | _, _, .nil, _ => ⟨rfl, rfl⟩
  | _, _, .cons g a, q => by
    rw [List.all_cons, Bool.and_eq_true] at q
    obtain ⟨i1, i2⟩ := all_leaf h l a q.2
    refine ⟨by rw [List.all_cons, leaf_flat g q.1, i1]; rfl, ?_⟩
    unfold inV at i2 ⊢
    rw [List.any_cons, List.any_cons, i2, leaf_eq g q.1 h l]
section
variable {X : Cx} {F : Fx} {e a b c : Expr} {d da db dc : TDE} {pos : Pos}
theorem bw_items {L : List Addr} {H : Hp} {v : V} {y : D} {ys : List D} (h : Bw F L H v y) (e : itemsD y = some ys) : ∃ a vs, v = .ref a ∧ (SqL F.K H a vs ∨ SqT F.K H a vs) ∧ DdAll F.K (F.N L) F.W H vs ys := by
  cases y <;> cases e
  · obtain ⟨a, vs, rfl, h1, h2⟩ := bw_lst h
    exact ⟨a, vs, rfl, .inl (SqL.of h1), h2⟩
  · obtain ⟨a, vs, rfl, h1, h2⟩ := bw_tup h
    exact ⟨a, vs, rfl, .inr (SqT.of h1), h2⟩
  · rcases h with h | ⟨e, h1, h2, h3⟩
    · cases h with | ktp h1 h2 h3 h4 h5 h6 => exact ⟨_, _, rfl, .inr (.inr ⟨_, _, _, h1, h2, h3, h4, h5⟩), h6⟩
    · cases e <;> cases h3
theorem inFlat_ok (neg : Bool) : Op2 F (rIn F.K neg) (inFlat neg) := fun A bx byy e Q q => by
  obtain ⟨ys, h1, h2⟩ := Option.bind_eq_some_iff.mp e
  obtain ⟨⟨l1, l2⟩, rfl⟩ := guard_elim h2
  obtain ⟨p, vs, rfl, g1, g2⟩ := bw_items byy h1
  have dx := bw_leaf bx l1
  obtain ⟨i1, i2⟩ := all_leaf dx l1 g2 l2
  refine ⟨p, vs, rfl, g1, leaf_flat dx l1, i1, ?_⟩
  rw [i2]
  cases neg
  · rw [Bool.false_xor] at q
    exact q _ _ (.refl _ _) A.ok (.bl _)
  · rw [Bool.true_xor] at q
    exact q _ _ (.refl _ _) A.ok (.bl _)
theorem inDeep_elim {neg : Bool} {dx dy z : D} (e : inDeep neg dx dy = some z) : ∃ p ps, toPy dx = some p ∧ toPy dy = some (.list ps) ∧ SeqAt.shaped p = true ∧ SeqAt.shaped (.list ps) = true ∧ z = .bl (neg ^^ ps.any fun z => PyData.eqv z p) := by
  unfold inDeep at e
  cases h1 : toPy dx with
  | none => rw [h1] at e; cases e
  | some p =>
    cases h2 : toPy dy with
    | none => rw [h1, h2] at e; cases e
    | some q =>
      rw [h1, h2] at e
      cases q with
      | list ps =>
        obtain ⟨hc, rfl⟩ := guard_elim e
        exact ⟨p, ps, rfl, rfl, hc.1, hc.2, rfl⟩
      | _ => cases e
theorem inDeep_ok : Op2 F (rInD F.K) (inDeep false) := fun A bx byy e Q q => by
  obtain ⟨p1, p2, h1, h2, s1, s2, rfl⟩ := inDeep_elim e
  exact ⟨p1, p2, bw_py bx h1, bw_py byy h2, s1, s2, q _ _ (.refl _ _) A.ok (by rw [Bool.false_xor]; exact .bl _)⟩
theorem notInDeep_ok : Op2 F (rNotInD F.K) (inDeep true) := fun A bx byy e Q q => by
  obtain ⟨p1, p2, h1, h2, s1, s2, rfl⟩ := inDeep_elim e
  exact ⟨p1, p2, bw_py bx h1, bw_py byy h2, s1, s2, q _ _ (.refl _ _) A.ok (by rw [Bool.true_xor]; exact .bl _)⟩
def rDIn (neg : Bool) : R2 := fun x y H Q => ∃ a o, y = .ref a ∧ DGet H a x o ∧ Q (.bl (neg ^^ o.isSome)) H
theorem op_dIn (hu : X.A.units + 1 < cLine) : OpR X (compareOp .In) (rDIn false) := fun pins s σ H x y v u Q I rx ry h => by
  obtain ⟨a, o, rfl, g, q⟩ := h
  cases ry
  exact d_in hu I g rx fun s' I' => ⟨.bl _, H, I', rfl, by simpa using q⟩
theorem op_dNotIn (hu : X.A.units + 1 < cLine) : OpR X (compareOp .NotIn) (rDIn true) := fun pins s σ H x y v u Q I rx ry h => by
  obtain ⟨a, o, rfl, g, q⟩ := h
  cases ry
  exact d_notIn hu I g rx fun s' I' => ⟨.bl _, H, I', rfl, by simpa using q⟩
theorem inDict_ok (neg : Bool) : Op2 F (rDIn neg) (inDict neg) := fun A bx byy e Q q => by
  obtain ⟨r, h1, rfl⟩ := Option.map_eq_some_iff.mp e
  obtain ⟨a, o, rfl, g, h⟩ := getD_ok byy bx h1
  refine ⟨a, o, rfl, g, ?_⟩
  have : o.isSome = r.isSome := by
    rcases h with ⟨rfl, rfl⟩ | ⟨v, d, rfl, rfl, _⟩ <;> rfl
  rw [this]
  exact q _ _ (.refl _ _) A.ok (.bl _)
theorem inSign_ok (neg : Bool) : Op2 F (fun x y H Q => ∃ (c : Nat) (z : Str), x = .str ⟨#[c]⟩ ∧ y = .str z ∧ Q (.bl (neg ^^ decide (c ∈ z.cps.toList))) H) (inSign neg) := fun A bx byy e Q q => by
  rename_i dx dy z
  cases dx <;> try cases e
  cases dy <;> try cases e
  rename_i x y
  have hx := bw_str bx
  have hy := bw_str byy
  subst hx hy
  obtain ⟨⟨l⟩⟩ := x
  match l, e with
  | [c], e =>
    cases e
    exact ⟨c, y, rfl, rfl, q _ _ (.refl _ _) A.ok (.bl _)⟩
  | [], e => cases e
  | _ :: _ :: _, e => cases e
theorem op_inSg : OpR X (compareOp .In) (fun x y H Q => ∃ (c : Nat) (z : Str), x = .str ⟨#[c]⟩ ∧ y = .str z ∧ Q (.bl (false ^^ decide (c ∈ z.cps.toList))) H) := fun pins s σ H x y v u Q I rx ry ⟨c, z, e1, e2, q⟩ => op_in_sign pins s σ H x y v u Q I rx ry ⟨c, z, e1, e2, by rw [Bool.false_xor] at q; exact q⟩
theorem op_notInSg : OpR X (compareOp .NotIn) (fun x y H Q => ∃ (c : Nat) (z : Str), x = .str ⟨#[c]⟩ ∧ y = .str z ∧ Q (.bl (true ^^ decide (c ∈ z.cps.toList))) H) := fun pins s σ H x y v u Q I rx ry ⟨c, z, e1, e2, q⟩ => op_notIn_sign pins s σ H x y v u Q I rx ry ⟨c, z, e1, e2, by rw [Bool.true_xor] at q; exact q⟩
variable {k : Nat}
theorem u65' (hr : Room k X.A) : X.A.units + 65 < cLine := by have := hr.un; omega
theorem inR (hr : Room k X.A) (hK : F.K = X.K) : OpR X (compareOp .In) (fun x y H Q => rIn F.K false x y H Q ∨ (rDIn false x y H Q ∨ ((∃ (c : Nat) (z : Str), x = .str ⟨#[c]⟩ ∧ y = .str z ∧ Q (.bl (false ^^ decide (c ∈ z.cps.toList))) H) ∨ rInD F.K x y H Q))) := by
  rw [hK]
  exact op_in_seq.or ((op_dIn (hu_of hr)).or (op_inSg.or (op_inD (u65' hr))))
theorem notInR (hr : Room k X.A) (hK : F.K = X.K) : OpR X (compareOp .NotIn) (fun x y H Q => rIn F.K true x y H Q ∨ (rDIn true x y H Q ∨ ((∃ (c : Nat) (z : Str), x = .str ⟨#[c]⟩ ∧ y = .str z ∧ Q (.bl (true ^^ decide (c ∈ z.cps.toList))) H) ∨ rNotInD F.K x y H Q))) := by
  rw [hK]
  exact op_notIn_seq.or ((op_dNotIn (hu_of hr)).or (op_notInSg.or (op_notInD (u65' hr))))
theorem dd_in (hr : Room k X.A) (ha : PE X a (lB F da)) (hb : PE X b (lB F db)) (hm : behindInMarks .In b = false := by rfl) (hK : F.K = X.K := by rfl) : PE X (.Compare a [.In] [b] pos) (lC F (dO2 (bIn false) da db)) :=
  dd_cmp (Op2.or (inFlat_ok false) (Op2.or (inDict_ok false) (Op2.or (inSign_ok false) inDeep_ok))) (inR hr hK) ha hb hm
theorem dt_notin (hr : Room k X.A) (ha : PE X a (lB F da)) (hb : PE X b (lB F db)) (hm : behindInMarks .NotIn b = false := by rfl) (hK : F.K = X.K := by rfl) : PT X (.Compare a [.NotIn] [b] pos) (lT F (dT (dO2 (bIn true) da db))) :=
  dt_cmp (Op2.or (inFlat_ok true) (Op2.or (inDict_ok true) (Op2.or (inSign_ok true) notInDeep_ok))) (notInR hr hK) ha hb hm
def dChain (f g : B2) (da db dc : TDE) : TDE := fun env P => da env fun x => db env fun y => ob (f x y) fun z => match z with | .bl true => dc env fun w => ob (g y w) P | .bl false => P (.bl false) | _ => False
end
section
variable {X : Cx} {F : Fx} {e a b c : Expr} {es : List Expr} {d da db dc : TDE} {ds : TDA} {pos : Pos}
def aNil : TDA := fun _ P => P []
def aCons (d : TDE) (ds : TDA) : TDA := fun env P => d env fun x => ds env fun xs => P (x :: xs)
theorem l_nil : ∀ σ H Q, lA F aNil σ H Q → tNil σ H Q := fun σ H Q ⟨env, L, P, A, p, q⟩ => q [] [] H p (.refl _ _) A.ok .nil
theorem l_cons : ∀ σ H Q, lA F (aCons d ds) σ H Q → tCons (lC F d) (lA F ds) σ H Q := fun σ H Q ⟨env, L, P, A, p, q⟩ =>
  ⟨env, L, _, A, p, fun x v H1 px k1 o1 d1 => ⟨env, L, _, A.step k1 o1, px, fun xs vs H2 pxs k2 o2 d2 => q (x :: xs) (v :: vs) H2 pxs (k1.trans k2) o2 (.cons ((A.step k1 o1).kd k2 d1) d2)⟩⟩
theorem da_nil : PA X [] (lA F aNil) := PA.mono pa_nil l_nil
theorem da_cons (ha : PE X e (lC F d)) (hr : PA X es (lA F ds)) (hs : starEach (e :: es) X.env = (false, eval e X.env) :: starEach es X.env := by rfl) : PA X (e :: es) (lA F (aCons d ds)) := PA.mono (pa_cons ha hr hs) l_cons
theorem dk_nil : PK X [] (lA F aNil) := PK.mono pk_nil l_nil
theorem dk_cons {nm : Option Str} {kpos : Pos} {kws : List Keyword} (ha : PE X e (lC F d)) (hr : PK X kws (lA F ds)) : PK X (⟨nm, e, kpos⟩ :: kws) (lA F (aCons d ds)) := PK.mono (pk_cons ha hr) l_cons
def dTup (ds : TDA) : TDE := fun env P => ds env fun xs => xs.length ≤ sizeLine ∧ P (.tup xs)
def dLst (ds : TDA) : TDE := fun env P => ds env fun xs => xs.length ≤ sizeLine ∧ P (.lst xs)
theorem free_of {W : Wd} {H H1 : Hp} (k : KeepW W H H1) (o : W.ok H1) {a : Addr} (h : H1 a = none) : H a = none := by
  cases zz : H a with
  | none => rfl
  | some u =>
    by_cases ow : W.own a
    · obtain ⟨u2, e2⟩ := Wd.al o ow
      rw [h] at e2
      cases e2
    · rw [k a u ow zz] at h
      cases h
theorem dn_tup {x1} (h : PA X es (lA F ds)) : PE X (.Tuple es x1 pos) (lN F (dTup ds)) := PE.mono (pe_tup h) fun σ H Q ⟨env, L, P, A, p, q⟩ =>
  ⟨env, L, _, A, p, fun xs vs H1 pxs k1 o1 d1 => ⟨by rw [d1.len]; exact pxs.1, fun t ht => q _ t _ pxs.2 (k1.trans (.new ht)) (ok_new o1 ht) (free_of k1 o1 ht) (new_tupN (A.step k1 o1) ht d1)⟩⟩
theorem dn_lst (h : PA X es (lA F ds)) : PE X (.List es pos) (lN F (dLst ds)) := PE.mono (pe_lst h) fun σ H Q ⟨env, L, P, A, p, q⟩ =>
  ⟨env, L, _, A, p, fun xs vs H1 pxs k1 o1 d1 => ⟨by rw [d1.len]; exact pxs.1, fun t ht => q _ t _ pxs.2 (k1.trans (.new ht)) (ok_new o1 ht) (free_of k1 o1 ht) (new_lstN (A.step k1 o1) ht d1)⟩⟩
end
end DL
namespace DL
open PySem PySem.Spec PyProof.Rows L2 RK
theorem DdAll.at {K : PySem.W.Frag} {N : Addr → Prop} {W : Wd} {H : Hp} {vs : List V} {ds : List D} {i : Int} {d : D} (a : DdAll K N W H vs ds) (h : atI ds i = some d) : ∃ v, atI vs i = some v ∧ Dd K N W H v d := by
  unfold atI at h ⊢
  rw [a.len]
  obtain ⟨j, h1, h2⟩ := Option.bind_eq_some_iff.mp h
  obtain ⟨v, h3, h4⟩ := a.get h2
  exact ⟨v, by rw [h1]; exact h3, h4⟩
def ixSeq : B2
  | .lst xs, .int i => atI xs i
  | .tup xs, .int i => atI xs i
  | .ktp xs, .int i => atI xs i
  | _, _ => none
def ixStr : B2
  | .str z, .int i => if z.length ≤ sizeLine then (atI z.cps.toList i).map fun c => .str ⟨#[c]⟩ else none
  | _, _ => none
def ixDic : B2 := fun x y => (getD x y).bind fun r => r
def bIx : B2 := fun x y => (ixSeq x y).or ((ixStr x y).or (ixDic x y))
section
variable {X : Cx} {F : Fx} {e a b c : Expr} {d da db dc : TDE} {pos : Pos}
theorem ixSeq_ok : Op2 F (fun x y H Q => rIxL F.K x y H Q ∨ rIxT F.K x y H Q) ixSeq := fun A bx byy e Q q => by
  rename_i dx dy z
  cases dx <;> try cases e
  all_goals cases dy <;> try cases e
  · obtain ⟨p, vs, rfl, h1, h2⟩ := bw_lst bx
    have hy := bw_int byy
    subst hy
    obtain ⟨v, h3, h4⟩ := h2.at e
    exact .inl ⟨p, vs, _, v, rfl, rfl, SqL.of h1, h3, q _ _ (.refl _ _) A.ok h4⟩
  · obtain ⟨p, vs, rfl, h1, h2⟩ := bw_tup bx
    have hy := bw_int byy
    subst hy
    obtain ⟨v, h3, h4⟩ := h2.at e
    exact .inr ⟨p, vs, _, v, rfl, rfl, SqT.of h1, h3, q _ _ (.refl _ _) A.ok h4⟩
  · obtain ⟨p, vs, rfl, h1, h2⟩ := bw_items bx rfl
    have hy := bw_int byy
    subst hy
    obtain ⟨v, h3, h4⟩ := h2.at e
    rcases h1 with h1 | h1
    · exact .inl ⟨p, vs, _, v, rfl, rfl, h1, h3, q _ _ (.refl _ _) A.ok h4⟩
    · exact .inr ⟨p, vs, _, v, rfl, rfl, h1, h3, q _ _ (.refl _ _) A.ok h4⟩
theorem ixStr_ok : Op2 F rIxS ixStr := fun A bx byy e Q q => by
  rename_i dx dy z
  cases dx <;> try cases e
  cases dy <;> try cases e
  rename_i x i
  have hx := bw_str bx
  have hy := bw_int byy
  subst hx hy
  replace e : (if x.length ≤ sizeLine then (atI x.cps.toList i).map fun c => D.str ⟨#[c]⟩ else none) = some z := e
  by_cases hl : x.length ≤ sizeLine
  · rw [if_pos hl] at e
    obtain ⟨c, h1, rfl⟩ := Option.map_eq_some_iff.mp e
    exact ⟨x, i, c, rfl, rfl, hl, h1, q _ _ (.refl _ _) A.ok (.str _)⟩
  · rw [if_neg hl] at e
    cases e
def rDG : R2 := fun x y H Q => ∃ a v, x = .ref a ∧ DGet H a y (some v) ∧ Q v H
theorem ix_dict (hu : X.A.units + 1 < cLine) : IxR X rDG := fun value slice pins s σ H x y v u Q I rx ry h hs => by
  obtain ⟨a, w, e1, g, q⟩ := h
  subst e1
  cases rx
  have tI := dict_typeIs I g
  have got : wpAny (model X.prog X.w) X.A (getItem (.ref a) u) (EP X pins σ Q) X.xe s := d_getItem hu I g ry fun w' s3 I3 rw' => ⟨w, H, I3, rw', q⟩
  unfold PyProof.Rows.subscriptTail
  refine wpAny_bind ?_
  rw [getitemInPython_of_ne tI.not_modules]
  refine wpAny_bind (wpAny_specialOf tI PySem.F.slot_dict_getitem.lookup ?_)
  have behind : wpAny (model X.prog X.w) X.A (subscripted slice false (.ref a) u) (fun z s3 => wpAny (model X.prog X.w) X.A (letTemporaryGo value (.ref a) z >>= fun _ => pure z) (EP X pins σ Q) X.xe s3) X.xe s := by
    rw [hs]
    exact wpAny_operating (wpAny_mono got (fun z s3 h3 => wpAny_bind (wpAny_letTemporaryGo (wpAny_pure h3))) fun _ _ k => k)
  first
    | exact wpAny_pure (wpAny_bind behind)
    | exact wpAny_bind (wpAny_pure (wpAny_bind behind))
    | exact wpAny_bind behind
theorem ixDic_ok : Op2 F rDG ixDic := fun A bx byy e Q q => by
  obtain ⟨r, h1, h2⟩ := Option.bind_eq_some_iff.mp e
  subst h2
  obtain ⟨a, o, rfl, g, h⟩ := getD_ok bx byy h1
  rcases h with ⟨_, h⟩ | ⟨v, d, rfl, h, hd⟩
  · cases h
  · cases h
    exact ⟨a, v, rfl, g, q _ _ (.refl _ _) A.ok hd⟩
variable {k : Nat}
theorem ixR (hr : Room k X.A) (hK : F.K = X.K) : IxR X (fun x y H Q => (rIxL F.K x y H Q ∨ rIxT F.K x y H Q) ∨ (rIxS x y H Q ∨ rDG x y H Q)) := by
  rw [hK]
  exact (ix_list.or ix_tup).or (ix_str.or (ix_dict (hu_of hr)))
theorem dd_ix (hr : Room k X.A) (ha : PE X a (lB F da)) (hb : PE X b (lB F db)) (hs : PlainIx b := by intro _ _; rfl) (hK : F.K = X.K := by rfl) : PE X (.Subscript a b pos) (lC F (dO2 bIx da db)) :=
  PE.mono (pe_ix (ixR hr hK) ha hb hs) (lop2 (Op2.or ixSeq_ok (Op2.or ixStr_ok ixDic_ok)))
def cutD (xs : List D) (lo hi : Option Int) : List D := (xs.drop (HT.sIx xs.length 0 lo)).take (HT.sIx xs.length xs.length hi - HT.sIx xs.length 0 lo)
theorem DdAll.cut {K : PySem.W.Frag} {N : Addr → Prop} {W : Wd} {H : Hp} {vs : List V} {ds : List D} (a : DdAll K N W H vs ds) (lo hi : Option Int) : DdAll K N W H (cutV vs lo hi) (cutD ds lo hi) := by
  unfold cutV cutD
  rw [a.len]
  exact (a.drop _).take _
abbrev TDO := De → (Option Int → Prop) → Prop
def oNone : TDO := fun _ P => P none
def oSome (d : TDE) : TDO := fun env P => d env fun x => match x with | .int i => P (some i) | _ => False
def lO (F : Fx) (d : TDO) : TO := fun σ H Q => ∃ env L P, Abs F env σ L H ∧ d env P ∧ ∀ x H', P x → KeepW F.W H H' → F.W.ok H' → Q x H'
theorem PO.mono {e : Option Expr} {t t' : TO} (h : PO X e t) (m : ∀ σ H Q, t' σ H Q → t σ H Q) : PO X e t' := ⟨fun pins s σ H Q I q => h.run pins s σ H Q I (m σ H Q q)⟩
theorem do_none : PO X none (lO F oNone) := PO.mono po_none fun σ H Q ⟨env, L, P, A, p, q⟩ => q none H p (.refl _ _) A.ok
theorem do_some (h : PE X e (lC F d)) : PO X (some e) (lO F (oSome d)) := PO.mono (po_some h) fun σ H Q ⟨env, L, P, A, p, q⟩ => ⟨env, L, _, A, p, fun x v H1 px k1 o1 d1 => by
  cases x with
  | int i => cases d1; exact ⟨i, rfl, q _ H1 px k1 o1⟩
  | _ => exact px.elim⟩
def cutA (x : D) (lo hi : Option Int) : Option D := match x with
  | .lst xs => some (.lst (cutD xs lo hi))
  | .tup xs => if HT.sIx xs.length 0 lo = 0 ∧ HT.sIx xs.length xs.length hi = xs.length then none else some (.tup (cutD xs lo hi))
  | .str z => if z.length ≤ sizeLine then some (.str (cutS z lo hi)) else none
  | _ => none
def dCut (f : D → Option Int → Option Int → Option D) (de : TDE) (dl dh : TDO) : TDE := fun env P => de env fun x => dl env fun l => dh env fun h => ob (f x l h) P
theorem slR (hK : F.K = X.K) : SlR X (fun x lo hi H Q => rSlL F.K x lo hi H Q ∨ (rSlT F.K x lo hi H Q ∨ rSlS x lo hi H Q)) := by
  rw [hK]
  exact sl_list.or (sl_tup.or sl_str)
variable {lo hi : Option Expr} {dl dh : TDO} {p2 : Pos}
theorem dd_cut (he : PE X e (lB F d)) (hl : PO X lo (lO F dl)) (hu : PO X hi (lO F dh)) (hK : F.K = X.K := by rfl) : PE X (.Subscript e (.Slice lo hi none p2) pos) (lC F (dCut cutA d dl dh)) :=
  PE.mono (pe_slice (slR hK) he hl hu) fun σ H Q ⟨env, L, P, A, p, q⟩ => ⟨env, L, _, A, p, fun x v H1 px k1 o1 b1 => ⟨env, L, _, A.step k1 o1, px, fun l H2 pl k2 o2 => ⟨env, L, _, (A.step k1 o1).step k2 o2, pl, fun h H3 ph k3 o3 => by
    obtain ⟨z, e, pz⟩ := ob_elim ph
    have A3 := ((A.step k1 o1).step k2 o2).step k3 o3
    have b3 := (b1.step (A.step k1 o1) k2).step ((A.step k1 o1).step k2 o2) k3
    have kk := (k1.trans k2).trans k3
    cases x with
    | lst xs =>
      cases e
      obtain ⟨a, vs, rfl, h1, h2⟩ := bw_lst b3
      exact .inl ⟨a, vs, rfl, SqL.of h1, fun t ht => q _ _ _ pz (kk.trans (.new ht)) (ok_new o3 ht) (new_lst A3 ht (h2.cut l h))⟩
    | tup xs =>
      obtain ⟨a, vs, rfl, h1, h2⟩ := bw_tup b3
      replace e : (if HT.sIx xs.length 0 l = 0 ∧ HT.sIx xs.length xs.length h = xs.length then none else some (D.tup (cutD xs l h))) = some z := e
      by_cases hc : HT.sIx xs.length 0 l = 0 ∧ HT.sIx xs.length xs.length h = xs.length
      · rw [if_pos hc] at e
        cases e
      · rw [if_neg hc] at e
        cases e
        exact .inr (.inl ⟨a, vs, rfl, SqT.of h1, by rw [h2.len]; exact hc, fun t ht => q _ _ _ pz (kk.trans (.new ht)) (ok_new o3 ht) (new_tup A3 ht (h2.cut l h))⟩)
    | str s =>
      have hs := bw_str b3
      subst hs
      obtain ⟨hc, rfl⟩ := guard_elim e
      exact .inr (.inr ⟨s, rfl, hc, q _ _ _ pz kk o3 (.str _)⟩)
    | _ => cases e⟩⟩⟩
def dRev (d : TDE) : TDE := fun env P => d env fun x => match x with | .lst xs => P (.lst xs.reverse) | _ => False
def dNeg (d : TDE) : TDE := fun env P => d env fun x => match x with | .int i => P (.int (-i)) | _ => False
def truD : D → Option Bool
  | .non => some false
  | .bl b => some b
  | .int i => some (i != 0)
  | .str y => if y.length ≤ sizeLine then some ((y.length : Int) != 0) else none
  | .lst xs => some (!xs.isEmpty)
  | .tup xs => some (!xs.isEmpty)
  | _ => none
def dTru (d : TDE) : TDT := fun env P => d env fun x => ob (truD x) P
theorem empty_len {K : PySem.W.Frag} {N : Addr → Prop} {W : Wd} {H : Hp} {vs : List V} {ds : List D} (a : DdAll K N W H vs ds) : (!ds.isEmpty) = !vs.isEmpty := by cases a <;> rfl
theorem dt_tru (ha : PE X a (lB F d)) (he : ∀ whole, isTrue a X.env whole = (do let v ← whole; standAt a.pos; holding [v] (truthy v)) := by intro _; rfl) (hK : F.K = X.K := by rfl) : PT X a (lT F (dTru d)) := PT.mono (pt_truth ha he) fun σ H Q ⟨env, L, P, A, p, q⟩ => ⟨env, L, _, A, p, fun x v H1 px k1 o1 b1 => by
  obtain ⟨z, e, pz⟩ := ob_elim px
  refine ⟨z, ?_, q _ H1 pz k1 o1⟩
  rw [← hK]
  cases x with
  | non => rw [bw_non b1]; cases e; rfl
  | bl _ => rw [bw_bl b1]; cases e; rfl
  | int _ => rw [bw_int b1]; cases e; rfl
  | str _ =>
    rw [bw_str b1]
    obtain ⟨hc, rfl⟩ := guard_elim e
    exact ⟨hc, rfl⟩
  | lst _ =>
    obtain ⟨a, vs, rfl, h1, h2⟩ := bw_lst b1
    cases e
    exact .inl ⟨vs, SqL.of h1, empty_len h2⟩
  | tup _ =>
    obtain ⟨a, vs, rfl, h1, h2⟩ := bw_tup b1
    cases e
    exact .inr (.inl ⟨vs, SqT.of h1, empty_len h2⟩)
  | _ => cases e⟩
end
end DL
namespace DL
open PySem PySem.Spec PyProof.Rows L2 RK
abbrev BwA (F : Fx) (L : List Addr) (H : Hp) : List V → List D → Prop := Paired (Bw F L H)
def lAb (F : Fx) (d : TDA) : TA := fun σ H Q => ∃ env L P, Abs F env σ L H ∧ d env P ∧ ∀ xs vs H', P xs → KeepW F.W H H' → F.W.ok H' → BwA F L H' vs xs → Q vs H'
section
variable {X : Cx} {F : Fx} {e a b c : Expr} {es : List Expr} {d da db dc : TDE} {ds : TDA} {pos : Pos}
theorem db_nil : PA X [] (lAb F aNil) := PA.mono pa_nil fun σ H Q ⟨env, L, P, A, p, q⟩ => q [] [] H p (.refl _ _) A.ok .nil
theorem db_cons (ha : PE X e (lB F d)) (hr : PA X es (lAb F ds)) (hs : starEach (e :: es) X.env = (false, eval e X.env) :: starEach es X.env := by rfl) : PA X (e :: es) (lAb F (aCons d ds)) := PA.mono (pa_cons ha hr hs) fun σ H Q ⟨env, L, P, A, p, q⟩ =>
  ⟨env, L, _, A, p, fun x v H1 px k1 o1 d1 => ⟨env, L, _, A.step k1 o1, px, fun xs vs H2 pxs k2 o2 d2 => q (x :: xs) (v :: vs) H2 pxs (k1.trans k2) o2 (.cons (d1.step (A.step k1 o1) k2) d2)⟩⟩
def Ca (F : Fx) (r : List V → Hp → VK → Prop) (f : List D → Option D) : Prop := ∀ {env : De} {σ : L2.St} {L : List Addr} {H : Hp} {vs : List V} {ds : List D} {z : D}, Abs F env σ L H → BwA F L H vs ds → f ds = some z →
  ∀ Q : VK, (∀ v H', KeepW F.W H H' → F.W.ok H' → Dd F.K (F.N L) F.W H' v z → Q v H') → r vs H Q
def dCa (f : List D → Option D) (ds : TDA) : TDE := fun env P => ds env fun xs => ob (f xs) P
theorem lca {r : List V → Hp → VK → Prop} {f : List D → Option D} (h : Ca F r f) : ∀ σ H Q, lC F (dCa f ds) σ H Q → tCB r (lAb F ds) σ H Q := fun σ H Q ⟨env, L, P, A, p, q⟩ =>
  ⟨env, L, _, A, p, fun xs vs H1 px k1 o1 d1 => by
    obtain ⟨z, e, pz⟩ := ob_elim px
    exact h (A.step k1 o1) d1 e Q fun v H2 k2 o2 d2 => q z v H2 pz (k1.trans k2) o2 d2⟩
theorem CallR.or {f : Value} {r r' : List V → Hp → VK → Prop} (h : CallR X f r) (h' : CallR X f r') : CallR X f (fun xs H Q => r xs H Q ∨ r' xs H Q) := fun pins s σ H xs us Q I rx q => by
  rcases q with q | q
  · exact h pins s σ H xs us Q I rx q
  · exact h' pins s σ H xs us Q I rx q
def lenD : List D → Option D
  | [.lst xs] => some (.int xs.length)
  | [.tup xs] => some (.int xs.length)
  | [.ktp xs] => some (.int xs.length)
  | [.str z] => if z.length ≤ sizeLine then some (.int z.length) else none
  | [.dic kds] => some (.int kds.length)
  | _ => none
theorem call_lenR : CallR X (.builtin "len") (fun xs H Q => ∃ a kvs, xs = [V.ref a] ∧ Rd H a (.dK kvs) ∧ Q (.int kvs.length) H) := fun pins s σ H xs us Q I r h => by
  obtain ⟨a, kvs, rfl, ha, q⟩ := h
  obtain ⟨u, rfl, ru⟩ := vals1 r
  cases ru
  exact d_len I ha fun t s' I' => ⟨.int kvs.length, H, I', ⟨t, rfl⟩, q⟩
theorem len_ok : Ca F (fun xs H Q => (∃ x n, xs = [x] ∧ LenV F.K x H n ∧ Q (.int n) H) ∨ (∃ a kvs, xs = [V.ref a] ∧ Rd H a (.dK kvs) ∧ Q (.int kvs.length) H)) lenD := fun A b e Q q => by
  rename_i dl z
  match dl, b, e with
  | [.lst xs], .cons h .nil, e =>
    obtain ⟨a, vs, rfl, h1, h2⟩ := bw_lst h
    cases e
    exact .inl ⟨_, _, rfl, .inl ⟨vs, SqL.of h1, rfl⟩, by rw [h2.len]; exact q _ _ (.refl _ _) A.ok (.int _)⟩
  | [.tup xs], .cons h .nil, e =>
    obtain ⟨a, vs, rfl, h1, h2⟩ := bw_tup h
    cases e
    exact .inl ⟨_, _, rfl, .inr ⟨vs, SqT.of h1, rfl⟩, by rw [h2.len]; exact q _ _ (.refl _ _) A.ok (.int _)⟩
  | [.ktp xs], .cons h .nil, e =>
    obtain ⟨a, vs, rfl, h1, h2⟩ := bw_items h rfl
    cases e
    exact .inl ⟨_, vs.length, rfl, h1.imp (fun h => ⟨vs, h, rfl⟩) (fun h => ⟨vs, h, rfl⟩), by rw [h2.len]; exact q _ _ (.refl _ _) A.ok (.int _)⟩
  | [.str x], .cons h .nil, e =>
    have hx := bw_str h
    subst hx
    obtain ⟨hc, rfl⟩ := guard_elim e
    exact .inl ⟨_, _, rfl, ⟨hc, rfl⟩, q _ _ (.refl _ _) A.ok (.int _)⟩
  | [.dic kds], .cons h .nil, e =>
    obtain ⟨a, kvs, rfl, h1, h2, h3⟩ := bw_dic h
    cases e
    have : kvs.length = kds.length := by simpa using congrArg List.length h2
    exact .inr ⟨_, _, rfl, h1, by rw [this]; exact q _ _ (.refl _ _) A.ok (.int _)⟩
theorem lenR (hK : F.K = X.K) : CallR X (.builtin "len") (fun xs H Q => (∃ x n, xs = [x] ∧ LenV F.K x H n ∧ Q (.int n) H) ∨ (∃ a kvs, xs = [V.ref a] ∧ Rd H a (.dK kvs) ∧ Q (.int kvs.length) H)) := by
  rw [hK]
  exact CallR.or call_len call_lenR
variable {p : Pos}
theorem dd_len (hg : Gl X "len") (hm : X.mg "len" = none) (ha : PE X e (lB F d)) (he : starEach [e] X.env = (false, eval e X.env) :: starEach [] X.env := by rfl) (hpl : (backTo pos (starEach [] X.env)).any (·.1) = false := by rfl) (hK : F.K = X.K := by rfl) :
    PE X (.Call (.Name "len" p) [e] [] pos) (lC F (dCa lenD (aCons d aNil))) := PE.mono (pe_callB (lenR hK) hg hm (by decide +kernel) (db_cons ha db_nil he) (by decide) (by decide) he hpl) (lca len_ok)
def blsD : List D → Option (List Bool)
  | [] => some []
  | .bl b :: ds => (blsD ds).map fun bs => b :: bs
  | _ => none
def intsD : List D → Option (List Int)
  | [] => some []
  | .int i :: ds => (intsD ds).map fun is => i :: is
  | _ => none
def strsD : List D → Option (List Str)
  | [] => some []
  | .str i :: ds => (strsD ds).map fun is => i :: is
  | _ => none
theorem bls_v {K : PySem.W.Frag} {N : Addr → Prop} {W : Wd} {H : Hp} : ∀ {vs : List V} {ds : List D} {bs : List Bool}, DdAll K N W H vs ds → blsD ds = some bs → vs = bs.map V.bl
  | _, _, _, .nil, e => by cases e; rfl
  | _, _, _, .cons (d := d) h a, e => by
    cases d <;> try cases e
    obtain ⟨bs, h1, rfl⟩ := Option.map_eq_some_iff.mp e
    rw [bls_v a h1, dd_blE h]
    rfl
theorem blsD_map : ∀ zs : List Bool, blsD (zs.map D.bl) = some zs
  | [] => rfl
  | z :: zs => by show (blsD (zs.map D.bl)).map _ = _; rw [blsD_map zs]; rfl
def allD : List D → Option D
  | [.lst ds] => (blsD ds).map fun bs => .bl (bs.all id)
  | _ => none
theorem all_ok : Ca F (rAll F.K) allD := fun A b e Q q => by
  rename_i dl z
  match dl, b, e with
  | [.lst xs], .cons h .nil, e =>
    obtain ⟨a, vs, rfl, h1, h2⟩ := bw_lst h
    obtain ⟨bs, h3, rfl⟩ := Option.map_eq_some_iff.mp e
    exact ⟨a, bs, rfl, SqL.of (by rw [h1, bls_v h2 h3]), q _ _ (.refl _ _) A.ok (.bl _)⟩
theorem allR (hc : X.calm = true) (hK : F.K = X.K) : CallR X (.builtin "all") (rAll F.K) := by rw [hK]; exact cr_all hc
theorem dd_all (hg : Gl X "all") (hm : X.mg "all" = none) (ha : PE X e (lB F d)) (hc : X.calm = true := by rfl) (he : starEach [e] X.env = (false, eval e X.env) :: starEach [] X.env := by rfl) (hpl : (backTo pos (starEach [] X.env)).any (·.1) = false := by rfl) (hK : F.K = X.K := by rfl) :
    PE X (.Call (.Name "all" p) [e] [] pos) (lC F (dCa allD (aCons d aNil))) := PE.mono (pe_callB (allR hc hK) hg hm (by decide +kernel) (db_cons ha db_nil he) (by decide) (by decide) he hpl) (lca all_ok)
end
end DL
namespace DL
open PySem PySem.Spec PyProof.Rows L2 RK
def tyD : D → Option String
  | .non => some "NoneType" | .bl _ => some "bool" | .int _ => some "int" | .str _ => some "str" | .lst _ => some "list" | .tup _ => some "tuple" | .ktp _ => some "tuple" | .dic _ => some "dict" | _ => none
def isD (T : String) (x : D) : Option Bool := (tyD x).bind fun t => kitB t T
def isAnyD (x : D) : List String → Option Bool
  | [] => some false
  | T :: Ts => (isD T x).bind fun b => if b = true then some true else isAnyD x Ts
section
variable {X : Cx} {F : Fx} {e a b c : Expr} {es : List Expr} {d da db dc : TDE} {ds : TDA} {pos p : Pos}
theorem ty_bw {L : List Addr} {H : Hp} {v : V} {x : D} {t : String} (h : Bw F L H v x) (e : tyD x = some t) : TyX F.K H v (.type t) := by
  cases x with
  | non => rw [bw_non h]; cases e; exact .base .non
  | bl _ => rw [bw_bl h]; cases e; exact .base (.bl _)
  | int _ => rw [bw_int h]; cases e; exact .base (.int _)
  | str _ => rw [bw_str h]; cases e; exact .base (.str _)
  | lst _ => obtain ⟨a, vs, rfl, h1, _⟩ := bw_lst h; cases e; exact .base (.lst h1)
  | tup _ => obtain ⟨a, vs, rfl, h1, _⟩ := bw_tup h; cases e; exact .base (.tup h1)
  | ktp _ =>
    cases e
    rcases h with h | ⟨e, h1, h2, h3⟩
    · cases h with | ktp h1 h2 h3 h4 h5 h6 => exact .kTuple h1 h2
    · cases e <;> cases h3
  | dic _ =>
    obtain ⟨a, vs, rfl, h1, _⟩ := bw_dic h
    cases e
    rcases h1 with h1 | ⟨o, h1⟩
    · exact .base (.dK h1)
    · exact .fDict h1
  | _ => cases e
def dIs (T : String) (d : TDE) : TDE := fun env P => d env fun x => ob (isD T x) fun b => P (.bl b)
def dIsA (Ts : List String) (d : TDE) : TDE := fun env P => d env fun x => ob (isAnyD x Ts) fun b => P (.bl b)
theorem isiR (hK : F.K = X.K) : CallR X (.builtin "isinstance") (rIsi F.K) := by rw [hK]; exact call_isi
theorem dd_isi {T : String} (hg : Gl X "isinstance") (hm : X.mg "isinstance" = none) (ha : PE X a (lB F d)) (hb : PE X b (tC (.ty T))) (he : starEach [a, b] X.env = (false, eval a X.env) :: starEach [b] X.env := by rfl) (he2 : starEach [b] X.env = (false, eval b X.env) :: starEach [] X.env := by rfl) (hpl : (backTo pos (starEach [b] X.env)).any (·.1) = false := by rfl) (hK : F.K = X.K := by rfl) :
    PE X (.Call (.Name "isinstance" p) [a, b] [] pos) (lC F (dIs T d)) := PE.mono (pe_callB (isiR hK) hg hm (by decide +kernel) (pa_cons ha (pa_cons hb pa_nil he2) he) (by decide) (by decide) he hpl) fun σ H Q ⟨env, L, P, A, pp, q⟩ =>
  ⟨env, L, _, A, pp, fun x v H1 px k1 o1 b1 => by
    obtain ⟨z, e, pz⟩ := ob_elim px
    obtain ⟨t, h1, h2⟩ := Option.bind_eq_some_iff.mp e
    exact ⟨v, .ty T, _, _, z, rfl, .ty T, ty_bw b1 h1, kit_ty h2, q _ _ H1 pz k1 o1 (.bl _)⟩⟩
def SortS (xs ys : List Str) : Prop := ys.Perm xs ∧ sortedS ys = true
def SortI (xs ys : List Int) : Prop := ys.Perm xs ∧ ys.Pairwise (· ≤ ·)
def txtKeys : List (Key × D) → Option (List Str)
  | [] => some []
  | (.inr x, _) :: r => (txtKeys r).map fun xs => x :: xs
  | _ => none
def dSort (d : TDE) : TDE := fun env P => d env fun x => match x with
  | .lst xs => (∃ zs, strsD xs = some zs ∧ zs.length < 64 ∧ ∀ ys, SortS zs ys → P (.lst (ys.map D.str))) ∨ (∃ zs, intsD xs = some zs ∧ zs.length < 64 ∧ ∀ ys, SortI zs ys → P (.lst (ys.map D.int)))
  | .dic kds => ∃ zs, txtKeys kds = some zs ∧ zs.length < 64 ∧ ∀ ys, SortS zs ys → P (.lst (ys.map D.str))
  | _ => False
def indexOf (xs : List D) (y : D) : Option Nat := xs.findIdx? fun z => eqF z y
def dIndex (dx dy : TDE) : TDE := fun env P => dx env fun x => match x with
  | .lst xs => dy env fun y => xs.all D.leaf = true ∧ y.leaf = true ∧ ob (indexOf xs y) fun j => P (.int (j : Nat))
  | _ => False
theorem index_v {K : PySem.W.Frag} {N : Addr → Prop} {W : Wd} {H : Hp} {v : V} {y : D} (h : Dd K N W H v y) (l : y.leaf = true) {vs : List V} {xs : List D} (a : DdAll K N W H vs xs) (al : xs.all D.leaf = true) {j : Nat} (e : indexOf xs y = some j) :
    ∃ z, vs[j]? = some z ∧ eqV z v = true ∧ ∀ (m : Nat) (z' : V), m < j → vs[m]? = some z' → eqV z' v = false := by
  unfold indexOf at e
  obtain ⟨hj, h1, h2⟩ := List.findIdx?_eq_some_iff_getElem.mp e
  have lf : ∀ x ∈ xs, x.leaf = true := fun x hx => List.all_eq_true.mp al x hx
  obtain ⟨z, hz, dz⟩ := a.get (List.getElem?_eq_getElem hj)
  refine ⟨z, hz, by rw [leaf_eq dz (lf _ (List.getElem_mem hj)) h l]; exact h1, fun m z' hm hz' => ?_⟩
  obtain ⟨d', hd', dd'⟩ := a.getV hz'
  have hm' : m < xs.length := by omega
  have e' : xs[m] = d' := by
    rw [List.getElem?_eq_getElem hm'] at hd'
    exact Option.some.inj hd'
  rw [leaf_eq dd' (e' ▸ lf _ (List.getElem_mem hm')) h l, ← e']
  have := h2 m hm
  simpa using this
theorem indexR (hK : F.K = X.K) : MtR X "list.index" (rIndex F.K) := by rw [hK]; exact mt_index
theorem dd_index {apos cpos : Pos} {o : Expr} (ho : PE X o (lB F da)) (he : PE X e (lB F db)) (hbase : attributeBase o "index" X.env (eval o X.env) = eval o X.env := by rfl)
    (hfew : ((backTo cpos (starEach [e] X.env)).all (fun x => !x.1) && (backToKw cpos (keywordEach [] X.env)).all (fun x => x.1.isSome) && decide (([e] : List Expr).length + ([] : List Keyword).length + (if ([] : List Keyword).isEmpty then 0 else 1) < 30)) = true := by rfl)
    (hline : (apos.endLine == cpos.line) = true := by rfl) (hs : starEach [e] X.env = (false, eval e X.env) :: starEach [] X.env := by rfl) (hplain : (backTo cpos (starEach [] X.env)).any (·.1) = false := by rfl) (hK : F.K = X.K := by rfl) :
    PE X (.Call (.Attribute o "index" apos) [e] [] cpos) (lC F (dIndex da db)) := PE.mono (pe_bm PySem.F.plainAttrs_list PySem.F.slot_list_index PySem.F.type_list_index (indexR hK) ho (pa_cons he pa_nil hs) hbase hfew hline hs hplain) fun σ H Q ⟨env, L, P, A, pp, q⟩ =>
  ⟨env, L, _, A, pp, fun x v H1 px k1 o1 b1 => by
    cases x with
    | lst xs =>
      obtain ⟨a, vs, rfl, h1, h2⟩ := bw_lst b1
      refine ⟨.inl ⟨rfl, vs, SqL.of h1⟩, env, L, _, A.step k1 o1, px, fun y u H2 py k2 o2 b2 => ?_⟩
      obtain ⟨l1, l2, py⟩ := py
      obtain ⟨j, ej, pj⟩ := ob_elim py
      obtain ⟨a2, vs2, e2, h3, h4⟩ := bw_lst (b1.step (A.step k1 o1) k2)
      cases e2
      have dy := bw_leaf b2 l2
      obtain ⟨z, g1, g2, g3⟩ := index_v dy l2 h4 l1 ej
      exact ⟨a, vs2, u, j, z, rfl, rfl, SqL.of h3, leaf_flat dy l2, (all_leaf dy l2 h4 l1).1, g1, g2, g3, q _ _ H2 pj (k1.trans k2) o2 (.int _)⟩
    | _ => exact px.elim⟩
end
end DL
namespace DL
open PySem PySem.Spec PyProof.Rows L2 RK
abbrev DSp := List D → (D → Prop) → Prop
structure Nw (K : PySem.W.Frag) (W : Wd) (N0 : Addr → Prop) (H : Hp) (fr : Fr) (H' : Hp) (v : V) (x : D) : Prop where
  n : fr = .b true → ∃ a, v = .ref a ∧ H a = none ∧ NewV ⟨K, W, N0, H, .b true⟩ [] H' a x
  c : ∀ j, fr = .ch j → Ch j H H' v x
def lSp (K : PySem.W.Frag) (fr : Fr) (sp : DSp) : Sp := fun vs H Q _ => ∃ (W : Wd) (N0 : Addr → Prop) (ds : List D) (P : D → Prop), (∀ a, N0 a → ∃ o : HoN, H a = some o.1) ∧ (∀ a, W.own a → N0 a) ∧ W.ok H ∧ DdAll K N0 W H vs ds ∧ sp ds P ∧
  ∀ x v H', P x → KeepW W H H' → W.ok H' → Dd K N0 W H' v x → Nw K W N0 H fr H' v x → Q v H'
section
variable {X : Cx} {F : Fx} {e a b c : Expr} {es : List Expr} {d da db dc : TDE} {ds dk : TDA} {pos p : Pos}
def dCall (sp : DSp) (ds : TDA) : TDE := fun env P => ds env fun xs => sp xs P
theorem lcall {fr : Fr} {sp : DSp} {E : XK} {K : PySem.W.Frag} (hK : F.K = K) : ∀ σ H Q, lC F (dCall sp ds) σ H Q → tCall (lSp K fr sp) [] E (lA F ds) σ H Q := fun σ H Q ⟨env, L, P, A, pp, q⟩ => by
  subst hK
  exact ⟨env, L, _, A, pp, fun xs vs H1 px k1 o1 d1 => ⟨F.W, F.N L, xs, P, fun a h => (A.step k1 o1).alN h, fun a h => .inl (A.wn a h), o1, by rw [List.append_nil]; exact d1, px, fun x v H2 p2 k2 o2 d2 _ => q x v H2 p2 (k1.trans k2) o2 d2⟩⟩
theorem new_of {K : PySem.W.Frag} {W : Wd} {N0 : Addr → Prop} {H H' : Hp} {fr : Fr} {L : List Addr} {a : Addr} {x : D} {F : Fx} (e1 : F.K = K) (e2 : F.W = W) (e3 : F.N L = N0) (h : NewV ⟨K, W, N0, H, .b true⟩ [] H' a x) : NewV F L H' a x := by
  subst e1 e2
  have key : ∀ {vs : List V} {ds : List D}, DdAll F.K (Fx.N ⟨F.K, F.W, N0, H, .b true⟩ [a]) F.W H' vs ds → DdAll F.K (F.N (a :: L)) F.W H' vs ds := fun h => h.keep (fun _ _ _ z => z) fun y hy => by
    rcases hy with hy | hy
    · left
      show N0 y
      rw [← e3]
      exact .inl hy
    · rcases List.mem_cons.mp hy with hy | hy
      · exact .inr (by rw [hy]; exact List.mem_cons_self)
      · left
        show N0 y
        rw [← e3]
        exact .inr hy
  cases x with
  | lst ds => obtain ⟨vs, h1, h2⟩ := h; exact ⟨vs, h1, key h2⟩
  | tup ds => obtain ⟨vs, h1, h2⟩ := h; exact ⟨vs, h1, key h2⟩
  | dic ds => obtain ⟨vs, h1, h3, h2⟩ := h; exact ⟨vs, h1, h3, key h2⟩
  | dct ds => obtain ⟨vs, h1, h3, h2⟩ := h; exact ⟨vs, h1, h3, key h2⟩
  | _ => exact h
theorem lcallN {sp : DSp} {E : XK} {K : PySem.W.Frag} (hK : F.K = K) : ∀ σ H Q, lN F (dCall sp ds) σ H Q → tCall (lSp K (.b true) sp) [] E (lA F ds) σ H Q := fun σ H Q ⟨env, L, P, A, pp, q⟩ => by
  subst hK
  refine ⟨env, L, _, A, pp, fun xs vs H1 px k1 o1 d1 => ⟨F.W, F.N L, xs, P, fun a h => (A.step k1 o1).alN h, fun a h => .inl (A.wn a h), o1, by rw [List.append_nil]; exact d1, px, fun x v H2 p2 k2 o2 d2 nn => ?_⟩⟩
  obtain ⟨a, rfl, h1, h2⟩ := nn.n rfl
  exact q x a H2 p2 (k1.trans k2) o2 (free_of k1 o1 h1) (new_of (fr := .b true) rfl rfl rfl h2)
variable {CX : CXT} {k : Nat} {f : Addr} {fd : FuncData} {ps ks : List Str} {sp : DSp} {E : XK} {x : Str} {fr : Fr} {K : PySem.W.Frag}
theorem dd_call (G : FnOk X.prog X.w X.K X.mg X.base CX k f fd ps (lSp K fr sp)) (hr : Room k X.A) (hg : Gl X x) (hm : X.mg x = some (.ref f)) (hk : PySem.W.keepIn X.K (.ref f) = true) (hb : Binds X.K fd ps []) (hx : Passes CX X E) (ha : PA X (e :: es) (lA F ds)) (hK : F.K = K := by rfl)
    (he : starEach (e :: es) X.env = (false, eval e X.env) :: starEach es X.env := by rfl) (hpl : (backTo pos (starEach es X.env)).any (·.1) = false := by rfl) (hdb : (x == ("__debug__" : Str)) = false := by decide) :
    PE X (.Call (.Name x p) (e :: es) [] pos) (lC F (dCall sp ds)) := PE.mono (pe_call G hr hg hm hk hb .nil hx ha hdb he hpl) (lcall hK)
theorem dn_call (G : FnOk X.prog X.w X.K X.mg X.base CX k f fd ps (lSp K (.b true) sp)) (hr : Room k X.A) (hg : Gl X x) (hm : X.mg x = some (.ref f)) (hk : PySem.W.keepIn X.K (.ref f) = true) (hb : Binds X.K fd ps []) (hx : Passes CX X E) (ha : PA X (e :: es) (lA F ds)) (hK : F.K = K := by rfl)
    (he : starEach (e :: es) X.env = (false, eval e X.env) :: starEach es X.env := by rfl) (hpl : (backTo pos (starEach es X.env)).any (·.1) = false := by rfl) (hdb : (x == ("__debug__" : Str)) = false := by decide) :
    PE X (.Call (.Name x p) (e :: es) [] pos) (lN F (dCall sp ds)) := PE.mono (pe_call G hr hg hm hk hb .nil hx ha hdb he hpl) (lcallN hK)
end
structure DEnds where
  nx : De → Prop
  rt : D → Prop
  bk : De → Prop := fun _ => False
  ct : De → Prop := fun _ => False
abbrev TDS := DEnds → De → Prop
def Pres (F : Fx) (L : List Addr) (H : Hp) (L' : List Addr) (H' : Hp) : Prop := ∀ a o, ¬ F.N L a → H a = some o → ¬ F.N L' a ∧ H' a = some o
theorem Pres.refl (F : Fx) (L : List Addr) (H : Hp) : Pres F L H L H := fun _ _ n h => ⟨n, h⟩
theorem Pres.trans {F : Fx} {L L1 L2 : List Addr} {H H1 H2 : Hp} (a : Pres F L H L1 H1) (b : Pres F L1 H1 L2 H2) : Pres F L H L2 H2 := fun x o n h => b x o (a x o n h).1 (a x o n h).2
theorem KeepW.pres {F : Fx} {env : De} {σ : L2.St} {L : List Addr} {H H' : Hp} (A : Abs F env σ L H) (k : KeepW F.W H H') : Pres F L H L H' := fun x o n h => ⟨n, k x o (nw_of A n) h⟩
structure RetOk (F : Fx) (H' : Hp) (v : V) (x : D) : Prop where
  kp : KeepW F.W F.H0 H'
  ok : F.W.ok H'
  dd : Dd F.K F.N0 F.W H' v x
  nw : F.fr = .b true → ∃ a, v = .ref a ∧ F.H0 a = none ∧ NewV F [] H' a x
  cj : ∀ j, F.fr = .ch j → Ch j F.H0 H' v x
  oj : ∀ R, F.fr = .ob R → R H'
def lS (F : Fx) (d : TDS) : TS := fun E σ H => ∃ env L P, Abs F env σ L H ∧ d P env ∧ (∀ env' σ' L' H', P.nx env' → Abs F env' σ' L' H' → Pres F L H L' H' → E.nx σ' H') ∧ (∀ x v H', P.rt x → RetOk F H' v x → E.rt v H') ∧
  (∀ env' σ' L' H', P.bk env' → Abs F env' σ' L' H' → Pres F L H L' H' → E.bk σ' H') ∧ (∀ env' σ' L' H', P.ct env' → Abs F env' σ' L' H' → Pres F L H L' H' → E.ct σ' H')
section
variable {X : Cx} {F : Fx} {e a b c : Expr} {es : List Expr} {d da db dc : TDE} {ds : TDA} {pos p : Pos} {st : Stmt} {rest sa sb : List Stmt} {s1 s2 : TDS} {tA : TDT}
def sNil : TDS := fun P env => P.nx env
def sSeq (s1 s2 : TDS) : TDS := fun P env => s1 { P with nx := s2 P } env
theorem ss_nil : PSs X [] (lS F sNil) := PSs.mono pss_nil fun E σ H ⟨env, L, P, A, pp, hn, _⟩ => hn env σ L H pp A (.refl _ _ _)
theorem ss_cons (h1 : PS X st (lS F s1)) (h2 : PSs X rest (lS F s2)) : PSs X (st :: rest) (lS F (sSeq s1 s2)) := PSs.mono (pss_cons h1 h2) fun E σ H ⟨env, L, P, A, pp, hn, hr, hb, hc⟩ =>
  ⟨env, L, _, A, pp, fun env' σ' L' H' pn A' pr => ⟨env', L', P, A', pn, fun env2 σ2 L2 H2 p2 A2 pr2 => hn env2 σ2 L2 H2 p2 A2 (pr.trans pr2), hr, fun env2 σ2 L2 H2 p2 A2 pr2 => hb env2 σ2 L2 H2 p2 A2 (pr.trans pr2), fun env2 σ2 L2 H2 p2 A2 pr2 => hc env2 σ2 L2 H2 p2 A2 (pr.trans pr2)⟩, hr, hb, hc⟩
theorem ss_one (h1 : PS X st (lS F s1)) : PSs X [st] (lS F s1) := pss_one h1
def sNever : TDS := fun _ _ => False
def sBrk : TDS := fun P env => P.bk env
def sCont : TDS := fun P env => P.ct env
def sIf (t : TDT) (s1 s2 : TDS) : TDS := fun P env => t env fun x => if x = true then s1 P env else s2 P env
theorem ds_if (hc : PT X c (lT F tA)) (ha : PSs X sa (lS F s1)) (hb : PSs X sb (lS F s2)) : PS X (.If c sa sb pos) (lS F (sIf tA s1 s2)) := PS.mono (ps_if hc ha hb) fun E σ H ⟨env, L, P, A, pp, hn, hr, hb, hc⟩ =>
  ⟨env, L, _, A, pp, fun x H1 px k1 o1 => by
    have pr : Pres F L H L H1 := k1.pres A
    cases x with
    | true => exact iteT ⟨env, L, P, A.step k1 o1, px, fun env2 σ2 L2 H2 p2 A2 pr2 => hn env2 σ2 L2 H2 p2 A2 (pr.trans pr2), hr, fun env2 σ2 L2 H2 p2 A2 pr2 => hb env2 σ2 L2 H2 p2 A2 (pr.trans pr2), fun env2 σ2 L2 H2 p2 A2 pr2 => hc env2 σ2 L2 H2 p2 A2 (pr.trans pr2)⟩
    | false => exact iteF ⟨env, L, P, A.step k1 o1, px, fun env2 σ2 L2 H2 p2 A2 pr2 => hn env2 σ2 L2 H2 p2 A2 (pr.trans pr2), hr, fun env2 σ2 L2 H2 p2 A2 pr2 => hb env2 σ2 L2 H2 p2 A2 (pr.trans pr2), fun env2 σ2 L2 H2 p2 A2 pr2 => hc env2 σ2 L2 H2 p2 A2 (pr.trans pr2)⟩⟩
theorem n0_sub {L : List Addr} : ∀ x, F.N0 x → F.N L x := fun x h => .inl h
theorem ret_of {env : De} {σ : L2.St} {L : List Addr} {H H' : Hp} {v : V} {x : D} (A : Abs F env σ L H) (k : KeepW F.W H H') (o : F.W.ok H') (h : Dd F.K (F.N L) F.W H' v x) (nf : F.fr = .b false) : RetOk F H' v x :=
  ⟨A.kp.trans k, o, h.keep (fun _ _ _ z => z) n0_sub, fun z => (by rw [nf] at z; cases z), fun j z => (by rw [nf] at z; cases z), fun j z => by rw [nf] at z; cases z⟩
def sRet (d : TDE) : TDS := fun P env => d env P.rt
theorem ds_ret (nf : F.fr = .b false) (he : PE X e (lC F d)) : PS X (.Return (some e) pos) (lS F (sRet d)) := PS.mono (ps_ret he) fun E σ H ⟨env, L, P, A, pp, hn, hr, _⟩ =>
  ⟨env, L, _, A, pp, fun x v H' px k o dd => hr x v H' px (ret_of A k o dd nf)⟩
theorem n0_new {L : List Addr} {a : Addr} : ∀ x, F.N [a] x → F.N (a :: L) x := fun x h => by
  rcases h with h | h
  · exact .inl h
  · rcases List.mem_cons.mp h with h | h
    · exact .inr (by rw [h]; exact List.mem_cons_self)
    · cases h
theorem NewV.small {L : List Addr} {H : Hp} {a : Addr} : ∀ {x : D}, NewV F L H a x → NewV F [] H a x
  | .lst ds, ⟨vs, h, g⟩ => ⟨vs, h, g.keep (fun _ _ _ z => z) n0_new⟩
  | .tup ds, ⟨vs, h, g⟩ => ⟨vs, h, g.keep (fun _ _ _ z => z) n0_new⟩
  | .dic ds, ⟨vs, h, e, g⟩ => ⟨vs, h, e, g.keep (fun _ _ _ z => z) n0_new⟩
  | .dct ds, ⟨vs, h, e, g⟩ => ⟨vs, h, e, g.keep (fun _ _ _ z => z) n0_new⟩
theorem ds_retN (he : PE X e (lN F d)) (nf : ∀ j, F.fr ≠ .ch j := by intro j h; cases h) (no : ∀ R, F.fr ≠ .ob R := by intro j h; cases h) : PS X (.Return (some e) pos) (lS F (sRet d)) := PS.mono (ps_ret he) fun E σ H ⟨env, L, P, A, pp, hn, hr, _⟩ =>
  ⟨env, L, _, A, pp, fun x a H' px k o n nv => hr x _ H' px ⟨A.kp.trans k, o, (nv.dd (A.new n)).keep (fun _ _ _ z => z) n0_sub, fun _ => ⟨a, rfl, free_of A.kp A.ok n, nv.small⟩, fun j z => (nf j z).elim, fun j z => (no j z).elim⟩⟩
def owD : En → Option D
  | .ow ds => some (.lst ds)
  | .od ds => some (.dic ds)
  | .ot ds => some (.dct ds)
  | _ => none
def sRetO (i : Nat) : TDS := fun P env => ob (env[i]?.bind owD) P.rt
theorem ow_new {env : De} {σ : L2.St} {L : List Addr} {H : Hp} (A : Abs F env σ L H) {a : Addr} {e : En} {x : D} (h : EnOk F L H e (some (.ref a))) (hx : owD e = some x) : a ∈ L ∧ NewV F [] H a x := by
  have sub : ∀ y, F.N [a] y → a ∈ L → F.N L y := fun y hy ha => by
    rcases hy with hy | hy
    · exact .inl hy
    · rcases List.mem_cons.mp hy with hy | hy
      · rw [hy]; exact .inr ha
      · cases hy
  cases e with
  | ow ds =>
    cases hx
    obtain ⟨h1, vs, h2, h3⟩ := h
    exact ⟨h1, vs, h2, h3.keep (fun _ _ _ z => z) fun y hy => sub y hy h1⟩
  | od ds =>
    cases hx
    obtain ⟨h1, vs, h2, h4, h3⟩ := h
    exact ⟨h1, vs, h2, h4, h3.keep (fun _ _ _ z => z) fun y hy => sub y hy h1⟩
  | ot ds =>
    cases hx
    obtain ⟨h1, vs, h2, h4, h3⟩ := h
    exact ⟨h1, vs, h2, h4, h3.keep (fun _ _ _ z => z) fun y hy => sub y hy h1⟩
  | _ => cases hx
theorem owD_ref {L : List Addr} {H : Hp} {e : En} {v : V} {x : D} (h : EnOk F L H e (some v)) (hx : owD e = some x) : ∃ a, v = .ref a := by
  cases e <;> try cases hx
  all_goals (cases v <;> first | exact h.elim | exact ⟨_, rfl⟩)
theorem ds_retO {i : Nat} (he : PE X e (tVar i)) (no : ∀ R, F.fr ≠ .ob R := by intro j h; cases h) : PS X (.Return (some e) pos) (lS F (sRetO i)) := PS.mono (ps_ret he) fun E σ H ⟨env, L, P, A, pp, hn, hr, _⟩ => by
  obtain ⟨x, hx, px⟩ := ob_elim pp
  obtain ⟨en, h1, h2⟩ := Option.bind_eq_some_iff.mp hx
  obtain ⟨v, h3, h4⟩ := abs_at A h1 (by rintro rfl; cases h2)
  obtain ⟨a, rfl⟩ := owD_ref h4 h2
  obtain ⟨h5, h6⟩ := ow_new A h4 h2
  have nw : ¬ F.N [] a := fun z => by
    rcases z with z | z
    · exact A.out h5 z
    · cases z
  exact ⟨_, h3, hr x _ H px ⟨A.kp, A.ok, (h6.dd nw).keep (fun _ _ _ z => z) n0_sub, fun _ => ⟨a, rfl, (A.fr a h5).1, h6⟩, fun j _ xs ys ex => (by subst ex; cases en <;> cases h2), fun j z => (no j z).elim⟩⟩
def sRetE : TDS := fun P _ => P.rt .non
end
end DL
namespace DL
open PySem PySem.Spec PyProof.Rows L2 RK
section
variable {F : Fx} {env : De} {σ : L2.St} {L : List Addr} {H H' : Hp}
theorem Abs.setF (A : Abs F env σ L H) {v : V} {x : D} (h : Dd F.K (F.N L) F.W H v x) (i : Nat) : Abs F (env.set i (.fz x)) (σ.set i (some v)) L H := by
  refine ⟨A.ok, A.al, A.wn, A.kp, A.fr, by rw [List.length_set, List.length_set, A.ls], fun j l a ej el h1 h2 o1 o2 s1 s2 => ?_, A.so.set0 rfl rfl _, fun j e y h1 h2 => ?_⟩
  · by_cases hj : i = j
    · subst hj
      by_cases hi : i < env.length
      · rw [List.getElem?_set_self hi] at h1
        cases h1
        cases o1
      · rw [List.getElem?_eq_none (by rw [List.length_set]; omega)] at h1
        cases h1
    · by_cases hl : i = l
      · subst hl
        by_cases hi : i < env.length
        · rw [List.getElem?_set_self hi] at h2
          cases h2
          cases o2
        · rw [List.getElem?_eq_none (by rw [List.length_set]; omega)] at h2
          cases h2
      · rw [List.getElem?_set_ne hj] at h1 s1
        rw [List.getElem?_set_ne hl] at h2 s2
        exact A.sep j l a ej el h1 h2 o1 o2 s1 s2
  · by_cases hj : i = j
    · subst hj
      by_cases hi : i < env.length
      · rw [List.getElem?_set_self hi] at h1
        rw [List.getElem?_set_self (by rw [← A.ls]; exact hi)] at h2
        cases h1
        cases h2
        exact h
      · rw [List.getElem?_eq_none (by rw [List.length_set]; omega)] at h1
        cases h1
    · rw [List.getElem?_set_ne hj] at h1 h2
      exact A.en j e y h1 h2
theorem Abs.grow (A : Abs F env σ L H) {L' : List Addr} (k : KeepW F.W H H') (o : F.W.ok H') (pr : Pres F L H L' H') (sub : ∀ a ∈ L, a ∈ L') (new : ∀ a ∈ L', a ∈ L ∨ (H a = none ∧ ∃ o, H' a = some o ∧ Plo o)) : Abs F env σ L' H' := by
  have w : ∀ a ∈ L, ¬ F.W.own a := fun a h z => A.out h (A.wn a z)
  refine ⟨o, A.al, A.wn, A.kp.trans k, fun a h => ?_, A.ls, A.sep, A.so, fun i e x h1 h2 => ?_⟩
  · rcases new a h with h | ⟨h1, h2⟩
    · obtain ⟨h1, u, h2, pl⟩ := A.fr a h
      exact ⟨h1, u, k a u (w a h) h2, pl⟩
    · exact ⟨free_of A.kp A.ok h1, h2⟩
  · have q := A.en i e x h1 h2
    cases e with
    | no => exact trivial
    | fz d => cases x with
      | none => exact q.elim
      | some v => exact Dd.pres pr q
    | oo C a fs => cases x with
      | none => exact q.elim
      | some v => cases v with
        | ref b =>
          obtain ⟨q1, q2, q3, dx, vs, q4, q5⟩ := q
          have q2' := fun x hx => q2 x (List.mem_cons_of_mem _ hx)
          have q2a := q2 a List.mem_cons_self
          exact ⟨q1, fun x hx => sub x (q2 x hx), q3, dx, vs, k a _ (w a q2a) q4, q5.pres pr fun x hx o => k x o (w x (q2' x hx))⟩
        | _ => exact q.elim
    | fe e => cases x with
      | none => exact q.elim
      | some v => exact ⟨fun x hx => sub x (q.1 x hx), q.2.1, q.2.2.pres pr fun x hx o => k x o (w x (q.1 x hx))⟩
    | ow ds => cases x with
      | none => exact q.elim
      | some v => cases v with
        | ref a =>
          obtain ⟨q1, vs, q2, q3⟩ := q
          exact ⟨sub a q1, vs, k a _ (w a q1) q2, q3.pres pr⟩
        | _ => exact q.elim
    | od ds => cases x with
      | none => exact q.elim
      | some v => cases v with
        | ref a =>
          obtain ⟨q1, vs, q2, q4, q3⟩ := q
          exact ⟨sub a q1, vs, k a _ (w a q1) q2, q4, q3.pres pr⟩
        | _ => exact q.elim
    | ot ds => cases x with
      | none => exact q.elim
      | some v => cases v with
        | ref a =>
          obtain ⟨q1, vs, q2, q4, q3⟩ := q
          exact ⟨sub a q1, vs, k a _ (w a q1) q2, q4, q3.pres pr⟩
        | _ => exact q.elim
theorem pres_cons (A : Abs F env σ L H) (k : KeepW F.W H H') {a : Addr} (n : H a = none) : Pres F L H (a :: L) H' := fun x o q h => ⟨fun z => by
  rcases z with z | z
  · exact q (.inl z)
  · rcases List.mem_cons.mp z with z | z
    · rw [z, n] at h
      cases h
    · exact q (.inr z), k x o (nw_of A q) h⟩
def D.isTp : D → Bool
  | .tup _ => true
  | _ => false
theorem new_there {F : Fx} {L : List Addr} {H : Hp} {a : Addr} : ∀ {x : D}, x.isTp = false → NewV F L H a x → ∃ o, H a = some o ∧ Plo o
  | .lst ds, _, ⟨vs, h, _⟩ => ⟨_, h, True.intro⟩
  | .dic ds, _, ⟨vs, h, _⟩ => ⟨_, h, True.intro⟩
  | .dct ds, _, ⟨vs, h, _⟩ => ⟨_, h, True.intro⟩
theorem enOf_nt {x : D} {e : En} (h : (match x with | .lst xs => some (En.ow xs) | .dic xs => some (.od xs) | .dct xs => some (.ot xs) | _ => none) = some e) : x.isTp = false := by cases x <;> first | rfl | cases h
def enOf : D → Option En
  | .lst xs => some (.ow xs)
  | .dic xs => some (.od xs)
  | .dct xs => some (.ot xs)
  | _ => none
theorem en_new {a : Addr} : ∀ {x : D} {e : En}, NewV F L H a x → enOf x = some e → EnOk F (a :: L) H e (some (.ref a)) ∧ e.isOw = true
  | .lst xs, _, ⟨vs, h, g⟩, q => by cases q; exact ⟨⟨List.mem_cons_self, vs, h, g⟩, rfl⟩
  | .dic xs, _, ⟨vs, h, e, g⟩, q => by cases q; exact ⟨⟨List.mem_cons_self, vs, h, e, g⟩, rfl⟩
  | .dct xs, _, ⟨vs, h, e, g⟩, q => by cases q; exact ⟨⟨List.mem_cons_self, vs, h, e, g⟩, rfl⟩
theorem Abs.setO (A : Abs F env σ L H) (k : KeepW F.W H H') (o : F.W.ok H') {a : Addr} {x : D} {e : En} (n : H a = none) (h : NewV F L H' a x) (he : enOf x = some e) (i : Nat) : Abs F (env.set i e) (σ.set i (some (.ref a))) (a :: L) H' := by
  have pr := pres_cons A k n
  have B : Abs F env σ (a :: L) H' := A.grow k o pr (fun b hb => List.mem_cons_of_mem _ hb) fun b hb => by
    rcases List.mem_cons.mp hb with hb | hb
    · exact .inr ⟨hb ▸ n, hb ▸ new_there (enOf_nt he) h⟩
    · exact .inl hb
  obtain ⟨en, ow⟩ := en_new h he
  have no : ∀ (j : Nat) (ej : En), env[j]? = some ej → ej.isOw = true → σ[j]? = some (some (.ref a)) → False := fun j ej h1 h2 h3 => by
    have q := A.en j ej _ h1 h3
    have al : a ∈ L := by
      cases ej with
      | ow _ => exact q.1
      | od _ => exact q.1
      | ot _ => exact q.1
      | no => cases h2
      | fz _ => cases h2
      | oo _ _ _ => cases h2
      | fe _ => cases h2
    obtain ⟨_, u, hu, _⟩ := A.fr a al
    rw [n] at hu
    cases hu
  refine ⟨B.ok, B.al, B.wn, B.kp, B.fr, by rw [List.length_set, List.length_set, A.ls], fun j l b ej el h1 h2 o1 o2 s1 s2 => ?_, A.so.setW A.ls (ad_ow ow) (loneO A n), fun j e' y h1 h2 => ?_⟩
  · by_cases hi : i < env.length
    · have hi2 : i < σ.length := by rw [← A.ls]; exact hi
      by_cases hj : i = j
      · by_cases hl : i = l
        · omega
        · subst hj
          rw [List.getElem?_set_self hi2] at s1
          cases s1
          rw [List.getElem?_set_ne hl] at h2 s2
          exact (no l el h2 o2 s2).elim
      · rw [List.getElem?_set_ne hj] at h1 s1
        by_cases hl : i = l
        · subst hl
          rw [List.getElem?_set_self hi2] at s2
          cases s2
          exact (no j ej h1 o1 s1).elim
        · rw [List.getElem?_set_ne hl] at h2 s2
          exact A.sep j l b ej el h1 h2 o1 o2 s1 s2
    · have e1 : env.set i e = env := List.set_eq_of_length_le (by omega)
      have e2 : σ.set i (some (V.ref a)) = σ := List.set_eq_of_length_le (by rw [← A.ls]; omega)
      rw [e1] at h1 h2
      rw [e2] at s1 s2
      exact A.sep j l b ej el h1 h2 o1 o2 s1 s2
  · by_cases hj : i = j
    · subst hj
      by_cases hi : i < env.length
      · rw [List.getElem?_set_self hi] at h1
        rw [List.getElem?_set_self (by rw [← A.ls]; exact hi)] at h2
        cases h1
        cases h2
        exact en
      · rw [List.getElem?_eq_none (by rw [List.length_set]; omega)] at h1
        cases h1
    · rw [List.getElem?_set_ne hj] at h1 h2
      exact B.en j e' y h1 h2
theorem Abs.write (A : Abs F env σ L H) {i : Nat} {a : Addr} {e e' : En} {o' : HO} (hi : env[i]? = some e) (ow : e.isOw = true) (hs : σ[i]? = some (some (.ref a))) (ha : a ∈ L) (ow' : e'.isOw = true)
    (new : EnOk F L (upd H a o') e' (some (.ref a))) (po : Plo o' := by exact True.intro) : Abs F (env.set i e') σ L (upd H a o') ∧ Pres F L H L (upd H a o') := by
  have na : ¬ F.N0 a := A.out ha
  have nw : ¬ F.W.own a := fun z => na (A.wn a z)
  have pr : Pres F L H L (upd H a o') := fun x u q h => ⟨q, by
    have ne : x ≠ a := fun z => q (.inr (by rw [z]; exact ha))
    rw [upd_ne ne]
    exact h⟩
  have hil : i < env.length := (List.getElem?_eq_some_iff.mp hi).1
  refine ⟨⟨?_, A.al, A.wn, fun x u q h => ?_, fun b hb => ?_, by rw [List.length_set, A.ls], fun j l b ej el h1 h2 o1 o2 s1 s2 => ?_, A.so.wr (ad_ow ow') hi ow, fun j e2 y h1 h2 => ?_⟩, pr⟩
  · exact Wd.st A.ok (n := noT_upd po.ntb) fun b u h q => by
      have ne : b ≠ a := fun z => by
        rcases q with q | q
        · exact nw (by rw [← z]; exact q)
        · obtain ⟨_, o, e, pl⟩ := A.fr a ha
          rw [z, e] at h
          exact q (Option.some.inj h ▸ pl)
      rw [upd_ne ne]
      exact h
  · have hx := A.kp x u q h
    have ne : x ≠ a := fun z => by
      rw [z, (A.fr a ha).1] at h
      cases h
    rw [upd_ne ne]
    exact hx
  · refine ⟨(A.fr b hb).1, ?_⟩
    by_cases e : b = a
    · subst e
      exact ⟨_, upd_same, po⟩
    · rw [upd_ne e]
      exact (A.fr b hb).2
  · have f1 : ∀ (j : Nat) (ej : En), (env.set i e')[j]? = some ej → ej.isOw = true → ∃ e0 : En, env[j]? = some e0 ∧ e0.isOw = true := fun j ej h o => by
      by_cases hj : i = j
      · subst hj
        exact ⟨e, hi, ow⟩
      · rw [List.getElem?_set_ne hj] at h
        exact ⟨ej, h, o⟩
    obtain ⟨e1, g1, g2⟩ := f1 j ej h1 o1
    obtain ⟨e3, g3, g4⟩ := f1 l el h2 o2
    exact A.sep j l b e1 e3 g1 g3 g2 g4 s1 s2
  · by_cases hj : i = j
    · subst hj
      rw [List.getElem?_set_self hil] at h1
      cases h1
      rw [hs] at h2
      cases h2
      exact new
    · rw [List.getElem?_set_ne hj] at h1
      refine EnOk.keep A (fun x u q h => (pr x u q h).2) (fun _ z => z) (fun b hb ob hbL => ⟨hbL, fun u hu => ?_⟩) (fun b hb hbL => ⟨hbL, fun u hu => by
        have : b ≠ a := fun z => (A.so j e2 b h1 hb).1 i e hi ow (by rw [z]; exact hs)
        rw [upd_ne this]
        exact hu⟩) (A.en j e2 y h1 h2)
      have : b ≠ a := fun z => hj (A.sep i j a e e2 hi h1 ow ob hs (by rw [h2, hb, z]))
      rw [upd_ne this]
      exact hu
end
end DL
namespace DL
open PySem PySem.Spec PyProof.Rows L2 RK
section
variable {F : Fx} {env : De} {σ : L2.St} {L : List Addr} {H H' : Hp}
def Lone (env : De) (σ : L2.St) (a : Addr) : Prop := (∀ (j : Nat) (ej : En), env[j]? = some ej → ej.isOw = true → σ[j]? = some (some (.ref a)) → False) ∧ ∀ (j : Nat) (ej : En), env[j]? = some ej → a ∉ ej.ad
theorem Abs.lone (A : Abs F env σ L H) {a : Addr} (n : H a = none) : Lone env σ a := ⟨fun j ej h1 h2 h3 => (by
  have q := A.en j ej _ h1 h3
  have al : a ∈ L := by
    cases ej with
    | ow _ => exact q.1
    | od _ => exact q.1
    | ot _ => exact q.1
    | no => cases h2
    | fz _ => cases h2
    | oo _ _ _ => cases h2
    | fe _ => cases h2
  obtain ⟨_, u, hu, _⟩ := A.fr a al
  rw [n] at hu
  cases hu), loneO A n⟩
theorem Abs.setW (A : Abs F env σ L H) {a : Addr} {e : En} (no : Lone env σ a) (en : EnOk F L H e (some (.ref a))) (i : Nat) (h0 : e.ad = [] := by rfl) : Abs F (env.set i e) (σ.set i (some (.ref a))) L H := by
  refine ⟨A.ok, A.al, A.wn, A.kp, A.fr, by rw [List.length_set, List.length_set, A.ls], fun j l b ej el h1 h2 o1 o2 s1 s2 => ?_, A.so.setW A.ls h0 no.2, fun j e' y h1 h2 => ?_⟩
  · by_cases hi : i < env.length
    · have hi2 : i < σ.length := by rw [← A.ls]; exact hi
      by_cases hj : i = j
      · by_cases hl : i = l
        · omega
        · subst hj
          rw [List.getElem?_set_self hi2] at s1
          cases s1
          rw [List.getElem?_set_ne hl] at h2 s2
          exact (no.1 l el h2 o2 s2).elim
      · rw [List.getElem?_set_ne hj] at h1 s1
        by_cases hl : i = l
        · subst hl
          rw [List.getElem?_set_self hi2] at s2
          cases s2
          exact (no.1 j ej h1 o1 s1).elim
        · rw [List.getElem?_set_ne hl] at h2 s2
          exact A.sep j l b ej el h1 h2 o1 o2 s1 s2
    · have e1 : env.set i e = env := List.set_eq_of_length_le (by omega)
      have e2 : σ.set i (some (V.ref a)) = σ := List.set_eq_of_length_le (by rw [← A.ls]; omega)
      rw [e1] at h1 h2
      rw [e2] at s1 s2
      exact A.sep j l b ej el h1 h2 o1 o2 s1 s2
  · by_cases hj : i = j
    · subst hj
      by_cases hi : i < env.length
      · rw [List.getElem?_set_self hi] at h1
        rw [List.getElem?_set_self (by rw [← A.ls]; exact hi)] at h2
        cases h1
        cases h2
        exact en
      · rw [List.getElem?_eq_none (by rw [List.length_set]; omega)] at h1
        cases h1
    · rw [List.getElem?_set_ne hj] at h1 h2
      exact A.en j e' y h1 h2
theorem Lone.setF {a : Addr} (h : Lone env σ a) (i : Nat) (x : D) (v : V) (l : env.length = σ.length) : Lone (env.set i (.fz x)) (σ.set i (some v)) a := ⟨fun j ej h1 h2 h3 => (by
  by_cases hj : i = j
  · subst hj
    by_cases hi : i < env.length
    · rw [List.getElem?_set_self hi] at h1
      cases h1
      cases h2
    · rw [List.getElem?_eq_none (by rw [List.length_set]; omega)] at h1
      cases h1
  · rw [List.getElem?_set_ne hj] at h1 h3
    exact h.1 j ej h1 h2 h3), fun j ej hj => by
  rcases get_set hj with ⟨_, rfl, _⟩ | ⟨_, hj2⟩
  · exact fun z => by cases z
  · exact h.2 j ej hj2⟩
theorem Lone.setW {a b : Addr} (h : Lone env σ a) (i : Nat) (e : En) (n : b ≠ a) (l : env.length = σ.length) (h0 : e.ad = [] := by rfl) : Lone (env.set i e) (σ.set i (some (.ref b))) a := ⟨fun j ej h1 h2 h3 => (by
  by_cases hj : i = j
  · subst hj
    by_cases hi : i < env.length
    · rw [List.getElem?_set_self (by rw [← l]; exact hi)] at h3
      cases h3
      exact n rfl
    · rw [List.getElem?_eq_none (by rw [List.length_set]; omega)] at h1
      cases h1
  · rw [List.getElem?_set_ne hj] at h1 h3
    exact h.1 j ej h1 h2 h3), fun j ej hj => by
  rcases get_set hj with ⟨_, rfl, _⟩ | ⟨_, hj2⟩
  · rw [h0]; exact fun z => by cases z
  · exact h.2 j ej hj2⟩
theorem Abs.hold (A : Abs F env σ L H) (k : KeepW F.W H H') (o : F.W.ok H') {a : Addr} {x : D} (n : H a = none) (h : NewV F L H' a x) (nt : x.isTp = false := by rfl) : Abs F env σ (a :: L) H' :=
  A.grow k o (pres_cons A k n) (fun b hb => List.mem_cons_of_mem _ hb) fun b hb => by
    rcases List.mem_cons.mp hb with hb | hb
    · exact .inr ⟨hb ▸ n, hb ▸ new_there nt h⟩
    · exact .inl hb
theorem NewV.step {a : Addr} (A : Abs F env σ (a :: L) H) (k : KeepW F.W H H') : ∀ {x : D}, NewV F L H a x → NewV F L H' a x := fun {x} h => by
  have w : ¬ F.W.own a := fun z => A.out List.mem_cons_self (A.wn a z)
  cases x with
  | lst ds => obtain ⟨vs, h1, h2⟩ := h; exact ⟨vs, k a _ w h1, A.kda k h2⟩
  | tup ds => obtain ⟨vs, h1, h2⟩ := h; exact ⟨vs, k a _ w h1, A.kda k h2⟩
  | dic ds => obtain ⟨vs, h1, h3, h2⟩ := h; exact ⟨vs, k a _ w h1, h3, A.kda k h2⟩
  | dct ds => obtain ⟨vs, h1, h3, h2⟩ := h; exact ⟨vs, k a _ w h1, h3, A.kda k h2⟩
  | _ => exact h
end
def sSet (i : Nat) (d : TDE) : TDS := fun P env => d env fun x => P.nx (env.set i (.fz x))
def sSetO (i : Nat) (d : TDE) : TDS := fun P env => d env fun x => ob (enOf x) fun e => P.nx (env.set i e)
def sDrop (d : TDE) : TDS := fun P env => d env fun _ => P.nx env
section
variable {X : Cx} {F : Fx} {e a b c : Expr} {es : List Expr} {d da db dc : TDE} {ds : TDA} {pos p : Pos} {i j l : Nat}
theorem l_setF {t : TE} (h : ∀ σ H Q, lC F d σ H Q → t σ H Q) : ∀ E σ H, lS F (sSet i d) E σ H → tAsg t (gName i) E σ H := fun E σ H ⟨env, L, P, A, pp, hn, _⟩ =>
  h σ H _ ⟨env, L, _, A, pp, fun x v H1 px k o dd => hn _ _ L H1 px ((A.step k o).setF dd i) (k.pres A)⟩
theorem l_setO {t : TE} (h : ∀ σ H Q, lN F d σ H Q → t σ H Q) : ∀ E σ H, lS F (sSetO i d) E σ H → tAsg t (gName i) E σ H := fun E σ H ⟨env, L, P, A, pp, hn, _⟩ =>
  h σ H _ ⟨env, L, _, A, pp, fun x v H1 px k o n dd => by
    obtain ⟨en, he, pn⟩ := ob_elim px
    exact hn _ _ _ H1 pn (A.setO k o n dd he i) (pres_cons A k n)⟩
theorem ds_set {x : Str} {pos' : Pos} (hN : X.N.Nodup) (hi : X.N[i]? = some x) (hx : Loc X.env.scope x) (he : PE X e (lC F d)) (hs : swapsWith e (some (.Name x pos')) pos.line X.env = pure false := by rfl) (hf : X.fn x = true ∨ X.env.scope.names.lookup x = some .local := by first | exact .inl rfl | exact .inr rfl | assumption) :
    PS X (.Assign [.Name x pos'] e pos) (lS F (sSet i d)) := PS.mono (ps_set hN hi hx he hs hf) (l_setF fun _ _ _ h => h)
theorem ds_setO {x : Str} {pos' : Pos} (hN : X.N.Nodup) (hi : X.N[i]? = some x) (hx : Loc X.env.scope x) (he : PE X e (lN F d)) (hs : swapsWith e (some (.Name x pos')) pos.line X.env = pure false := by rfl) (hf : X.fn x = true ∨ X.env.scope.names.lookup x = some .local := by first | exact .inl rfl | exact .inr rfl | assumption) :
    PS X (.Assign [.Name x pos'] e pos) (lS F (sSetO i d)) := PS.mono (ps_set hN hi hx he hs hf) (l_setO fun _ _ _ h => h)
theorem ds_expr (he : PE X e (lC F d)) (hs : swapsWith e none pos.line X.env = pure false := by rfl) : PS X (.Expr e pos) (lS F (sDrop d)) := PS.mono (ps_expr he hs) fun E σ H ⟨env, L, P, A, pp, hn, _⟩ =>
  ⟨env, L, _, A, pp, fun x v H1 px k o dd => hn env σ L H1 px (A.step k o) (k.pres A)⟩
abbrev TDG := D → De → (De → Prop) → Prop
abbrev TDGs := List D → De → (De → Prop) → Prop
def lG (F : Fx) (S : List Nat) (g : TDG) : TG := fun v σ H Q => ∃ env L x P, Abs F env σ L H ∧ Dd F.K (F.N L) F.W H v x ∧ g x env P ∧ ∀ env' σ', P env' → Abs F env' σ' L H → (∀ vs : List Nat, (∀ i ∈ S, i ∈ vs) → wipe σ' vs = wipe σ vs) → (∀ a, Lone env σ a → Lone env' σ' a) → Q σ' H
def lGs (F : Fx) (S : List Nat) (g : TDGs) : TGs := fun vs σ H Q => ∃ env L xs P, Abs F env σ L H ∧ DdAll F.K (F.N L) F.W H vs xs ∧ g xs env P ∧ ∀ env' σ', P env' → Abs F env' σ' L H → (∀ us : List Nat, (∀ i ∈ S, i ∈ us) → wipe σ' us = wipe σ us) → (∀ a, Lone env σ a → Lone env' σ' a) → Q σ' H
theorem wipe_set {σ : L2.St} {i : Nat} {v : Option V} : ∀ {vs : List Nat}, i ∈ vs → wipe (σ.set i v) vs = wipe σ vs
  | [], h => by cases h
  | w :: vs, h => by
    unfold wipe
    by_cases hw : i ∈ vs
    · rw [wipe_set hw]
    · have e : i = w := by
        rcases List.mem_cons.mp h with h | h
        · exact h
        · exact (hw h).elim
      subst e
      have comm : ∀ us : List Nat, i ∉ us → wipe (σ.set i v) us = (wipe σ us).set i v := by
        intro us
        induction us with
        | nil => intro _; rfl
        | cons u us ih =>
          intro hu
          unfold wipe
          rw [ih (fun z => hu (List.mem_cons_of_mem _ z)), List.set_comm]
          exact fun z => hu (by rw [z]; exact List.mem_cons_self)
      rw [comm vs hw, List.set_set]
theorem PG.mono {tg : Expr} {t t' : TG} (h : PG X tg t) (m : ∀ v σ H Q, t' v σ H Q → t v σ H Q) : PG X tg t' := ⟨fun pins s σ H v u Q I r q => h.run pins s σ H v u Q I r (m v σ H Q q)⟩
theorem PGs.mono {tg : List Expr} {t t' : TGs} (h : PGs X tg t) (m : ∀ v σ H Q, t' v σ H Q → t v σ H Q) : PGs X tg t' := ⟨fun pins s σ H v u Q I r q => h.run pins s σ H v u Q I r (m v σ H Q q)⟩
def gNm (i : Nat) : TDG := fun x env P => P (env.set i (.fz x))
theorem dg_name {x : Str} (hN : X.N.Nodup) (hi : X.N[i]? = some x) (hx : Loc X.env.scope x) (hf : X.fn x = true ∨ X.env.scope.names.lookup x = some .local := by first | exact .inl rfl | exact .inr rfl | assumption) : PG X (.Name x pos) (lG F [i] (gNm i)) :=
  PG.mono (pg_name hN hi hx hf) fun v σ H Q ⟨env, L, x, P, A, dd, g, q⟩ => q _ _ g (A.setF dd i) (fun vs h => wipe_set (h i List.mem_cons_self)) fun a h => h.setF i _ _ A.ls
def gsNil : TDGs := fun xs env P => xs = [] ∧ P env
def gsCons (g : TDG) (gs : TDGs) : TDGs := fun xs env P => match xs with | x :: r => g x env fun env' => gs r env' P | [] => False
theorem dgs_nil : PGs X [] (lGs F [] gsNil) := PGs.mono pgs_nil fun vs σ H Q ⟨env, L, xs, P, A, dd, g, q⟩ => by
  obtain ⟨rfl, g⟩ := g
  cases dd
  exact ⟨rfl, q env σ g A (fun _ _ => rfl) fun _ h => h⟩
theorem l_gcons {S S' : List Nat} {g : TDG} {gs : TDGs} : ∀ vs σ H Q, lGs F (S ++ S') (gsCons g gs) vs σ H Q → gCons (lG F S g) (lGs F S' gs) vs σ H Q := fun vs σ H Q ⟨env, L, xs, P, A, dd, gg, q⟩ => by
    cases dd with
    | nil => exact gg.elim
    | cons h t =>
      refine ⟨_, _, rfl, env, L, _, _, A, h, gg, fun env1 σ1 p1 A1 w1 n1 => ⟨env1, L, _, _, A1, t, p1, fun env2 σ2 p2 A2 w2 n2 => q env2 σ2 p2 A2 (fun us hu => ?_) fun a h => n2 a (n1 a h)⟩⟩
      rw [w2 us (fun i hi => hu i (List.mem_append_right _ hi)), w1 us (fun i hi => hu i (List.mem_append_left _ hi))]
def gTp (n : Nat) (gs : TDGs) : TDG := fun x env P => match x with | .tup xs => xs.length = n ∧ gs xs env P | _ => False
theorem l_gtup {S : List Nat} {n : Nat} {gs : TDGs} {K : PySem.W.Frag} (hK : F.K = K) : ∀ v σ H Q, lG F S (gTp n gs) v σ H Q → gTup K n (lGs F S gs) v σ H Q := fun v σ H Q ⟨env, L, x, P, A, dd, g, q⟩ => by
  cases x with
  | tup xs =>
    obtain ⟨a, vs, rfl, h1, _, h2⟩ := dd_tupE dd
    exact ⟨a, vs, rfl, SqT.of h1, h2.len.trans g.1, env, L, xs, P, A, h2, g.2, q⟩
  | _ => exact g.elim
def sAsg (d : TDE) (g : TDG) : TDS := fun P env => d env fun x => g x env P.nx
theorem l_asg {S : List Nat} {g : TDG} : ∀ E σ H, lS F (sAsg d g) E σ H → tAsg (lC F d) (lG F S g) E σ H := fun E σ H ⟨env, L, P, A, pp, hn, _⟩ =>
  ⟨env, L, _, A, pp, fun x v H1 px k o dd => ⟨env, L, x, _, A.step k o, dd, px, fun env' σ' p' A' _ _ => hn env' σ' L H1 p' A' (k.pres A)⟩⟩
theorem enOf_ad {x : D} {e : En} (h : enOf x = some e) : e.ad = [] := by cases x <;> cases h <;> rfl
def kn : Bool → D → Option En
  | true, x => enOf x
  | false, x => some (.fz x)
def sPar (i j : Nat) (ki kj : Bool) (da db : TDE) : TDS := fun P env => da env fun x => db env fun y => ob (kn ki x) fun ex => ob (kn kj y) fun ey => P.nx ((env.set i ex).set j ey)
theorem l_par : ∀ E σ H, lS F (sPar i j false false da db) E σ H → tPar i j (tCons (lC F da) (tCons (lC F db) tNil)) E σ H := fun E σ H ⟨env, L, P, A, pp, hn, _⟩ =>
  ⟨env, L, _, A, pp, fun x v H1 px k1 o1 d1 => ⟨env, L, _, A.step k1 o1, px, fun y u H2 py k2 o2 d2 => ⟨v, u, rfl, hn _ _ L H2 py ((((A.step k1 o1).step k2 o2).setF ((A.step k1 o1).kd k2 d1) i).setF d2 j) ((k1.trans k2).pres A)⟩⟩⟩
theorem l_parR : ∀ E σ H, lS F (sPar i j false true da db) E σ H → tPar i j (tCons (lC F da) (tCons (lN F db) tNil)) E σ H := fun E σ H ⟨env, L, P, A, pp, hn, _⟩ =>
  ⟨env, L, _, A, pp, fun x v H1 px k1 o1 d1 => ⟨env, L, _, A.step k1 o1, px, fun y a H2 py k2 o2 n2 d2 => by
    obtain ⟨ex, he0, pn⟩ := ob_elim py
    cases he0
    obtain ⟨ey, he, pn⟩ := ob_elim pn
    have A1 := A.step k1 o1
    have B := A1.hold k2 o2 n2 d2 (enOf_nt he)
    have pr := pres_cons A1 k2 n2
    exact ⟨v, _, rfl, hn _ _ _ H2 pn ((B.setF (d1.pres pr) i).setW ((A1.lone n2).setF i x v A.ls) (en_new d2 he).1 j (enOf_ad he)) ((k1.pres A).trans pr)⟩⟩⟩
end
end DL
namespace DL
open PySem PySem.Spec PyProof.Rows L2 RK
section
variable {X : Cx} {F : Fx} {e a b c o : Expr} {es : List Expr} {d da db dc : TDE} {ds : TDA} {pos p apos cpos : Pos} {i j l : Nat}
def owAt (env : De) (i : Nat) : Option (List D) := env[i]?.bind fun e => match e with | .ow xs => some xs | _ => none
theorem owAt_en {env : De} {i : Nat} {xs : List D} (h : owAt env i = some xs) : env[i]? = some (.ow xs) := by
  obtain ⟨e, h1, h2⟩ := Option.bind_eq_some_iff.mp h
  cases e <;> cases h2
  exact h1
theorem ow_get {env : De} {σ : L2.St} {L : List Addr} {H : Hp} (A : Abs F env σ L H) {xs : List D} (h : owAt env i = some xs) : ∃ a vs, σ[i]? = some (some (.ref a)) ∧ a ∈ L ∧ H a = some (.lst vs) ∧ DdAll F.K (F.N L) F.W H vs xs := by
  obtain ⟨v, h1, h2⟩ := abs_at A (owAt_en h) (by intro z; cases z)
  cases v with
  | ref a => obtain ⟨q1, vs, q2, q3⟩ := h2; exact ⟨a, vs, h1, q1, q2, q3⟩
  | _ => exact h2.elim
theorem ow_put {env : De} {σ : L2.St} {L : List Addr} {H : Hp} (A : Abs F env σ L H) {xs ys : List D} (h : owAt env i = some xs) {a : Addr} (hs : σ[i]? = some (some (.ref a))) (ha : a ∈ L) {us : List V} (hu : DdAll F.K (F.N L) F.W H us ys) :
    Abs F (env.set i (.ow ys)) σ L (upd H a (.lst us)) ∧ Pres F L H L (upd H a (.lst us)) := by
  refine A.write (owAt_en h) rfl hs ha rfl ⟨ha, us, upd_same, hu.keep (fun x u q h => ?_) fun _ z => z⟩
  have ne : x ≠ a := fun z => q (.inr (by rw [z]; exact ha))
  rw [upd_ne ne]
  exact h
def sApp (i : Nat) (d : TDE) : TDS := fun P env => ob (owAt env i) fun xs => d env fun x => xs.length < sizeLine ∧ P.nx (env.set i (.ow (xs ++ [x])))
theorem l_app {K : PySem.W.Frag} : ∀ E σ H, lS F (sApp i d) E σ H → tDrop (tBM K "list" rAppend (tVar i) (tCons (lC F d) tNil)) E σ H := fun E σ H ⟨env, L, P, A, pp, hn, _⟩ => by
  obtain ⟨xs, h, pp⟩ := ob_elim pp
  obtain ⟨a, vs, hs, ha, hv, hd⟩ := ow_get A h
  refine ⟨_, hs, .inl ⟨rfl, vs, SqL.of hv⟩, env, L, _, A, pp, fun x v H1 px k1 o1 d1 => ?_⟩
  have A1 := A.step k1 o1
  obtain ⟨a2, vs2, hs2, ha2, hv2, hd2⟩ := ow_get A1 h
  rw [hs] at hs2
  cases hs2
  obtain ⟨B, pr⟩ := ow_put A1 h hs ha2 (hd2.app (.cons d1 .nil))
  exact ⟨a, vs2, v, rfl, rfl, hv2, by rw [hd2.len]; exact px.1, hn _ _ _ _ px.2 B ((k1.pres A).trans pr)⟩
theorem ds_app (ho : PE X o (tVar i)) (he : PE X e (lC F d)) (hbase : attributeBase o "append" X.env (eval o X.env) = eval o X.env := by rfl)
    (hfew : ((backTo cpos (starEach [e] X.env)).all (fun x => !x.1) && (backToKw cpos (keywordEach [] X.env)).all (fun x => x.1.isSome) && decide (([e] : List Expr).length + ([] : List Keyword).length + (if ([] : List Keyword).isEmpty then 0 else 1) < 30)) = true := by rfl)
    (hline : (apos.endLine == cpos.line) = true := by rfl) (hs : starEach [e] X.env = (false, eval e X.env) :: starEach [] X.env := by rfl) (hplain : (backTo cpos (starEach [] X.env)).any (·.1) = false := by rfl)
    (hsw : swapsWith (.Call (.Attribute o "append" apos) [e] [] cpos) none pos.line X.env = pure false := by rfl) :
    PS X (.Expr (.Call (.Attribute o "append" apos) [e] [] cpos) pos) (lS F (sApp i d)) := PS.mono (ps_expr (pe_bm PySem.F.plainAttrs_list PySem.F.slot_list_append PySem.F.type_list_append mt_append ho (pa_cons he pa_nil hs) hbase hfew hline hs hplain) hsw) l_app
def sIns (i : Nat) (da db : TDE) : TDS := fun P env => ob (owAt env i) fun xs => da env fun y => db env fun x => match y with
  | .int n => xs.length < sizeLine ∧ 0 ≤ n ∧ n < 2 ^ 63 ∧ P.nx (env.set i (.ow (xs.take n.toNat ++ [x] ++ xs.drop n.toNat)))
  | _ => False
theorem ds_ins (ho : PE X o (tVar i)) (ha : PE X a (lC F da)) (hb : PE X b (lC F db)) (hbase : attributeBase o "insert" X.env (eval o X.env) = eval o X.env := by rfl)
    (hfew : ((backTo cpos (starEach [a, b] X.env)).all (fun x => !x.1) && (backToKw cpos (keywordEach [] X.env)).all (fun x => x.1.isSome) && decide (([a, b] : List Expr).length + ([] : List Keyword).length + (if ([] : List Keyword).isEmpty then 0 else 1) < 30)) = true := by rfl)
    (hline : (apos.endLine == cpos.line) = true := by rfl) (hs : starEach [a, b] X.env = (false, eval a X.env) :: starEach [b] X.env := by rfl) (hs2 : starEach [b] X.env = (false, eval b X.env) :: starEach [] X.env := by rfl) (hplain : (backTo cpos (starEach [b] X.env)).any (·.1) = false := by rfl)
    (hsw : swapsWith (.Call (.Attribute o "insert" apos) [a, b] [] cpos) none pos.line X.env = pure false := by rfl) :
    PS X (.Expr (.Call (.Attribute o "insert" apos) [a, b] [] cpos) pos) (lS F (sIns i da db)) := PS.mono (ps_expr (pe_bm PySem.F.plainAttrs_list PySem.F.slot_list_insert PySem.F.type_list_insert mt_insert ho (pa_cons ha (pa_cons hb pa_nil hs2) hs) hbase hfew hline hs hplain) hsw) fun E σ H ⟨env, L, P, A, pp, hn, _⟩ => by
  obtain ⟨xs, h, pp⟩ := ob_elim pp
  obtain ⟨t, vs, hs, ha, hv, hd⟩ := ow_get A h
  refine ⟨_, hs, .inl ⟨rfl, vs, SqL.of hv⟩, env, L, _, A, pp, fun y w H1 px k1 o1 d1 => ⟨env, L, _, A.step k1 o1, px, fun x v H2 px k2 o2 d2 => ?_⟩⟩
  cases y with
  | int n =>
    cases d1
    have A2 := (A.step k1 o1).step k2 o2
    obtain ⟨a2, vs2, hs2, ha2, hv2, hd2⟩ := ow_get A2 h
    rw [hs] at hs2
    cases hs2
    obtain ⟨B, pr⟩ := ow_put A2 h hs ha2 (((hd2.take n.toNat).app (.cons d2 .nil)).app (hd2.drop n.toNat))
    exact ⟨t, vs2, n, v, rfl, rfl, hv2, by rw [hd2.len]; exact px.1, px.2.1, px.2.2.1, hn _ _ _ _ px.2.2.2 B (((k1.trans k2).pres A).trans pr)⟩
  | _ => exact px.elim
def sExt (i : Nat) (d : TDE) : TDS := fun P env => ob (owAt env i) fun xs => d env fun x => match x with | .lst ys => xs.length + ys.length ≤ sizeLine ∧ P.nx (env.set i (.ow (xs ++ ys))) | _ => False
def sClr (i : Nat) : TDS := fun P env => ob (owAt env i) fun _ => P.nx (env.set i (.ow []))
def sRev (i : Nat) : TDS := fun P env => ob (owAt env i) fun xs => P.nx (env.set i (.ow xs.reverse))
def sPut (i : Nat) (de dk : TDE) : TDS := fun P env => de env fun x => ob (owAt env i) fun xs => dk env fun k => match k with | .int n => ob (ixN xs.length n) fun m => P.nx (env.set i (.ow (xs.set m x))) | _ => False
theorem kd_len {κ : Type} {kvs : List (κ × V)} {kds : List (κ × D)} (h : kvs.map (·.1) = kds.map (·.1)) : kvs.length = kds.length := by simpa using congrArg List.length h
def frz (e : En) : Option En := (owD e).map En.fz
def sFrz (i : Nat) (s : TDS) : TDS := fun P env => ob (env[i]?.bind frz) fun e => s P (env.set i e)
end
end DL
namespace DL
open PySem PySem.Spec PyProof.Rows L2 RK
structure Stn (H H' : Hp) : Prop where
  f : ∀ a o, H a = some o → H' a = some o
  n : NoT H H'
theorem Stn.refl (H : Hp) : Stn H H := ⟨fun _ _ z => z, fun _ _ z => ⟨_, z⟩⟩
theorem Stn.new {H : Hp} {p : Addr} {o : HO} (h : H p = none) (n : Ntb o) : Stn H (upd H p o) := ⟨fun a u q => by rw [upd_ne (ne_of_none q h)]; exact q, noT_upd n⟩
instance {H H' : Hp} : CoeFun (Stn H H') fun _ => ∀ a o, H a = some o → H' a = some o := ⟨Stn.f⟩
def ItOk (F : Fx) (Rel : (Addr → Prop) → Hp → Prop) (J : It) (xs : List D) : Prop := ∀ N' H', Rel N' H' → (∀ a, N' a → ∃ o, H' a = some o) → ∀ i : Nat, (xs.length = i → J.stop i H') ∧
  ∀ x, xs[i]? = some x → J.go i H' ∧ ∀ v H2, J.yld i H' v H2 → Stn H' H2 ∧ Dd F.K N' F.W H2 v x
def relP (F : Fx) (L : List Addr) (H : Hp) : (Addr → Prop) → Hp → Prop := fun N' H' => ∀ a o, ¬ F.N L a → H a = some o → ¬ N' a ∧ H' a = some o
def relK (F : Fx) (L : List Addr) (H : Hp) : (Addr → Prop) → Hp → Prop := fun N' H' => ∀ a o, ¬ F.W.own a → H a = some o → (¬ F.N L a → ¬ N' a) ∧ H' a = some o
abbrev TDI := De → (List D → Prop) → Prop
def lI (F : Fx) (d : TDI) : TI := fun σ H R => ∃ env L P, Abs F env σ L H ∧ d env P ∧ ∀ xs J H', P xs → KeepW F.W H H' → F.W.ok H' → ItOk F (relP F L H') J xs → R J H'
def lIb (F : Fx) (d : TDI) : TI := fun σ H R => ∃ env L P, Abs F env σ L H ∧ d env P ∧ ∀ xs J H', P xs → KeepW F.W H H' → F.W.ok H' → ItOk F (relK F L H') J xs → R J H'
section
variable {X : Cx} {F : Fx} {e a b c tg iter : Expr} {es : List Expr} {d da db dc : TDE} {ds : TDA} {pos p : Pos} {i j l : Nat}
theorem it_list {Rel : (Addr → Prop) → Hp → Prop} {t : Addr} {vs : List V} {xs : List D} (h : ∀ N' H', Rel N' H' → H' t = some (.lst vs) ∧ DdAll F.K N' F.W H' vs xs) : ItOk F Rel (Itl F.K t) xs := fun N' H' r _ i => by
  obtain ⟨h1, h2⟩ := h N' H' r
  refine ⟨fun hi => ⟨vs, SqL.of h1, by rw [h2.len]; exact Nat.le_of_eq hi⟩, fun x hx => ?_⟩
  obtain ⟨v, hv, dv⟩ := h2.get hx
  refine ⟨⟨vs, v, SqL.of h1, hv⟩, fun w H2 hy => ?_⟩
  obtain ⟨rfl, hy⟩ := hy
  have := hy vs (SqL.of h1)
  rw [hv] at this
  cases this
  exact ⟨.refl _, dv⟩
theorem it_tup {Rel : (Addr → Prop) → Hp → Prop} {t : Addr} {vs : List V} {xs : List D} (h : ∀ N' H', Rel N' H' → SqT F.K H' t vs ∧ DdAll F.K N' F.W H' vs xs) : ItOk F Rel (Itt F.K t) xs := fun N' H' r _ i => by
  obtain ⟨h1, h2⟩ := h N' H' r
  refine ⟨fun hi => ⟨vs, h1, by rw [h2.len]; exact Nat.le_of_eq hi⟩, fun x hx => ?_⟩
  obtain ⟨v, hv, dv⟩ := h2.get hx
  refine ⟨⟨vs, v, h1, hv⟩, fun w H2 hy => ?_⟩
  obtain ⟨rfl, hy⟩ := hy
  have := hy vs h1
  rw [hv] at this
  cases this
  exact ⟨.refl _, dv⟩
def rngD (lo : Int) (n : Nat) : List D := (List.range n).map fun k => .int (lo + (k : Nat))
theorem it_rng {Rel : (Addr → Prop) → Hp → Prop} {lo : Int} {n : Nat} : ItOk F Rel (Itr lo n) (rngD lo n) := fun N' H' r _ i => by
  refine ⟨fun hi => (show n ≤ i by have := Nat.le_of_eq hi; simpa [rngD] using this), fun x hx => ?_⟩
  have hi : i < n := by
    have := (List.getElem?_eq_some_iff.mp hx).1
    simpa [rngD] using this
  have e : x = .int (lo + (i : Nat)) := by
    unfold rngD at hx
    rw [List.getElem?_map, List.getElem?_range hi] at hx
    exact (Option.some.inj hx).symm
  subst e
  refine ⟨hi, fun w H2 hy => ?_⟩
  obtain ⟨rfl, rfl⟩ := hy
  exact ⟨.refl _, .int _⟩
theorem PI.mono {w w' : TI} (h : PI X tg iter w) (m : ∀ σ H R, w' σ H R → w σ H R) : PI X tg iter w' := ⟨fun pins s σ H R I q => h.run pins s σ H R I (m σ H R q)⟩
theorem PI.or {w w' : TI} (h : PI X tg iter w) (h' : PI X tg iter w') : PI X tg iter (fun σ H R => w σ H R ∨ w' σ H R) := ⟨fun pins s σ H R I q => by
  rcases q with q | q
  · exact h.run pins s σ H R I q
  · exact h'.run pins s σ H R I q⟩
def lstD : D → Option (List D)
  | .lst xs => some xs
  | _ => none
def tupD : D → Option (List D)
  | .tup xs => some xs
  | .ktp xs => some xs
  | _ => none
def sgnD : D → Option (List D)
  | .str z => some (z.cps.toList.map fun c => .str ⟨#[c]⟩)
  | _ => none
def iSeq (d : TDE) : TDI := fun env P => (d env fun x => ob (lstD x) P) ∨ ((d env fun x => ob (tupD x) P) ∨ (d env fun x => ob (sgnD x) P))
theorem it_str {Rel : (Addr → Prop) → Hp → Prop} {z : Str} : ItOk F Rel (Its z) (z.cps.toList.map fun c => .str ⟨#[c]⟩) := fun N' H' r _ i => by
  refine ⟨fun hi => (show z.cps.size ≤ i by have := Nat.le_of_eq hi; simpa using this), fun x hx => ?_⟩
  rw [List.getElem?_map] at hx
  obtain ⟨c, hc, rfl⟩ := Option.map_eq_some_iff.mp hx
  have hi : i < z.cps.size := by simpa using (List.getElem?_eq_some_iff.mp hc).1
  have hc2 : z.cps[i]? = some c := by rw [← Array.getElem?_toList]; exact hc
  refine ⟨hi, fun w H2 hy => ?_⟩
  obtain ⟨rfl, c', h1, rfl⟩ := hy
  rw [hc2] at h1
  cases h1
  exact ⟨.refl _, .str _⟩
theorem lstD_e {x : D} {xs : List D} (h : lstD x = some xs) : x = .lst xs := by cases x <;> cases h; rfl
theorem seqT_keep {N N' : Addr → Prop} {H H' : Hp} {v : V} {x : D} {xs : List D} (e : tupD x = some xs) (h : Dd F.K N F.W H v x) : ∃ t vs, v = .ref t ∧ SqT F.K H t vs ∧ ∀ N' H', (∀ a o, ¬ N a → H a = some o → ¬ N' a ∧ H' a = some o) → SqT F.K H' t vs ∧ DdAll F.K N' F.W H' vs xs := by
  cases x <;> cases e
  · obtain ⟨t, vs, rfl, h1, h2, h3⟩ := dd_tupE h
    exact ⟨t, vs, rfl, SqT.of h1, fun N' H' r => ⟨SqT.of (r t _ h2 h1).2, h3.pres r⟩⟩
  · cases h with | ktp h1 h2 h3 h4 h5 h6 => exact ⟨_, _, rfl, .inr ⟨_, _, _, h1, h2, h3, h4, h5⟩, fun N' H' r => ⟨.inr ⟨_, _, _, h1, h2, h3, h4, h5⟩, h6.pres r⟩⟩
theorem di_seq (he : PE X e (lC F d)) (hK : F.K = X.K := by rfl) : PI X tg e (lI F (iSeq d)) := PI.mono (PI.or (pi_list he) (PI.or (pi_tup he) (pi_str he))) fun σ H R ⟨env, L, P, A, pp, q⟩ => by
  rw [← hK]
  rcases pp with pp | pp | pp
  · refine .inl ⟨env, L, _, A, pp, fun x v H1 px k1 o1 d1 => ?_⟩
    obtain ⟨xs, e, px⟩ := ob_elim px
    have := lstD_e e
    subst this
    obtain ⟨t, vs, rfl, h1, h2, h3⟩ := dd_lstE d1
    exact ⟨t, rfl, ⟨vs, SqL.of h1⟩, q xs _ H1 px k1 o1 (it_list fun N' H' r => ⟨(r t _ h2 h1).2, h3.pres r⟩)⟩
  · refine .inr (.inl ⟨env, L, _, A, pp, fun x v H1 px k1 o1 d1 => ?_⟩)
    obtain ⟨xs, e, px⟩ := ob_elim px
    obtain ⟨t, vs, rfl, h1, h2⟩ := seqT_keep (N' := fun _ => False) (H' := H1) e d1
    exact ⟨t, rfl, ⟨vs, h1⟩, q xs _ H1 px k1 o1 (it_tup fun N' H' r => h2 N' H' r)⟩
  · refine .inr (.inr ⟨env, L, _, A, pp, fun x v H1 px k1 o1 d1 => ?_⟩)
    obtain ⟨xs, e, px⟩ := ob_elim px
    cases x <;> cases e
    have := dd_strE d1
    subst this
    exact ⟨_, rfl, q _ _ H1 px k1 o1 it_str⟩
theorem relK_p {L : List Addr} {H : Hp} {N' : Addr → Prop} {H' : Hp} {env : De} {σ : L2.St} (A : Abs F env σ L H) (r : relK F L H N' H') : ∀ a o, ¬ F.N L a → H a = some o → ¬ N' a ∧ H' a = some o := fun a o n h => ⟨(r a o (nw_of A n) h).1 n, (r a o (nw_of A n) h).2⟩
theorem bw_lstO {env : De} {σ : L2.St} {L : List Addr} {H : Hp} (A : Abs F env σ L H) {v : V} {xs : List D} (h : Bw F L H v (.lst xs)) : ∃ t vs, v = .ref t ∧ H t = some (.lst vs) ∧ ¬ F.W.own t ∧ DdAll F.K (F.N L) F.W H vs xs := by
  rcases h with h | ⟨e, h1, h2, h3⟩
  · obtain ⟨t, vs, rfl, h1, h2, h3⟩ := dd_lstE h
    exact ⟨t, vs, rfl, h1, nw_of A h2, h3⟩
  · cases e with
    | ow es =>
      cases h3
      cases v with
      | ref a =>
        obtain ⟨g1, vs, g2, g3⟩ := h2
        exact ⟨a, vs, rfl, g2, fun z => A.out g1 (A.wn a z), g3⟩
      | _ => exact h2.elim
    | no => cases h1
    | fz _ => cases h1
    | oo _ _ _ => cases h1
    | fe _ => cases h1
    | od _ => cases h3
    | ot _ => cases h3
theorem bw_tupC {L : List Addr} {H : Hp} {v : V} {x : D} {xs : List D} (e : tupD x = some xs) (h : Bw F L H v x) : Dd F.K (F.N L) F.W H v x := by
  rcases h with h | ⟨en, h1, h2, h3⟩
  · exact h
  · cases en with
    | no => cases h1
    | fz _ => cases h1
    | oo _ _ _ => cases h1
    | fe _ => cases h1
    | ow _ => subst h3; cases e
    | od _ => subst h3; cases e
    | ot _ => subst h3; cases e
theorem db_seq (he : PE X e (lB F d)) (hK : F.K = X.K := by rfl) : PI X tg e (lIb F (iSeq d)) := PI.mono (PI.or (pi_list he) (PI.or (pi_tup he) (pi_str he))) fun σ H R ⟨env, L, P, A, pp, q⟩ => by
  rw [← hK]
  rcases pp with pp | pp | pp
  · refine .inl ⟨env, L, _, A, pp, fun x v H1 px k1 o1 d1 => ?_⟩
    obtain ⟨xs, e, px⟩ := ob_elim px
    have := lstD_e e
    subst this
    obtain ⟨t, vs, rfl, h1, h2, h3⟩ := bw_lstO (A.step k1 o1) d1
    exact ⟨t, rfl, ⟨vs, SqL.of h1⟩, q xs _ H1 px k1 o1 (it_list fun N' H' r => ⟨(r t _ h2 h1).2, h3.pres (relK_p (A.step k1 o1) r)⟩)⟩
  · refine .inr (.inl ⟨env, L, _, A, pp, fun x v H1 px k1 o1 d1 => ?_⟩)
    obtain ⟨xs, e, px⟩ := ob_elim px
    obtain ⟨t, vs, rfl, h1, h2⟩ := seqT_keep (N' := fun _ => False) (H' := H1) e (bw_tupC e d1)
    exact ⟨t, rfl, ⟨vs, h1⟩, q xs _ H1 px k1 o1 (it_tup fun N' H' r => h2 N' H' (relK_p (A.step k1 o1) r))⟩
  · refine .inr (.inr ⟨env, L, _, A, pp, fun x v H1 px k1 o1 d1 => ?_⟩)
    obtain ⟨xs, e, px⟩ := ob_elim px
    cases x <;> cases e
    have := bw_str d1
    subst this
    exact ⟨_, rfl, q _ _ H1 px k1 o1 it_str⟩
def iRng (ds : TDA) : TDI := fun env P => ds env fun xs => match xs with
  | [.int n] => -(2 ^ 62) ≤ n ∧ n < 2 ^ 62 ∧ P (rngD 0 n.toNat)
  | _ => False
def iRngB (ds : TDA) : TDI := fun env P => ds env fun xs => match xs with
  | [.int m, .int n] => (-(2 ^ 62) ≤ m ∧ m < 2 ^ 62 ∧ -(2 ^ 62) ≤ n ∧ n < 2 ^ 62) ∧ P (rngD m (n - m).toNat)
  | _ => False
theorem ints1 {K : PySem.W.Frag} {N : Addr → Prop} {W : Wd} {H : Hp} {vs : List V} {n : Int} (h : DdAll K N W H vs [.int n]) : vs = [.int n] := by
  cases h with | cons h t => cases t; rw [dd_intE h]
theorem l_rng {q : TI → Prop} : ∀ σ H R, (lI F (iRng ds) σ H R ∨ lIb F (iRng ds) σ H R) → iRng1 (lA F ds) σ H R := fun σ H R h => by
  have key : ∀ (Rel : List Addr → Hp → (Addr → Prop) → Hp → Prop), (∃ env L P, Abs F env σ L H ∧ iRng ds env P ∧ ∀ xs J H', P xs → KeepW F.W H H' → F.W.ok H' → ItOk F (Rel L H') J xs → R J H') → iRng1 (lA F ds) σ H R := fun Rel ⟨env, L, P, A, pp, q⟩ =>
    ⟨env, L, _, A, pp, fun xs vs H1 px k1 o1 d1 => by
      match xs, px, d1 with
      | [.int n], px, d1 => exact ⟨n, ints1 d1, px.1, px.2.1, q _ _ H1 px.2.2 k1 o1 it_rng⟩⟩
  rcases h with h | h
  · exact key (relP F) h
  · exact key (relK F) h
theorem di_rng (hg : Gl X "range") (hm : X.mg "range" = none) (ha : PA X [a] (lA F ds)) (hs : starEach [a] X.env = [(false, eval a X.env)] := by rfl) : PI X tg (.Call (.Name "range" p) [a] [] pos) (lI F (iRng ds)) := PI.mono (pi_range1 hg hm ha hs) fun σ H R h => l_rng (q := fun _ => True) σ H R (.inl h)
theorem db_rng (hg : Gl X "range") (hm : X.mg "range" = none) (ha : PA X [a] (lA F ds)) (hs : starEach [a] X.env = [(false, eval a X.env)] := by rfl) : PI X tg (.Call (.Name "range" p) [a] [] pos) (lIb F (iRng ds)) := PI.mono (pi_range1 hg hm ha hs) fun σ H R h => l_rng (q := fun _ => True) σ H R (.inr h)
def sLoop (g : TDG) (body : TDS) (P : DEnds) : List D → De → Prop
  | [], env => P.nx env
  | x :: xs, env => g x env fun env' => body { nx := sLoop g body P xs, rt := P.rt, bk := P.nx, ct := sLoop g body P xs } env'
def sFor (it : TDI) (g : TDG) (body : TDS) : TDS := fun P env => it env fun xs => sLoop g body P xs env
theorem same_keep {W : Wd} {H H' : Hp} (h : Stn H H') : KeepW W H H' := fun a o _ q => h a o q
theorem same_ok {W : Wd} {H H' : Hp} (k : W.ok H) (h : Stn H H') : W.ok H' := Wd.st k (fun a o q _ => h a o q) h.n
theorem l_for {S : List Nat} {it : TDI} {g : TDG} {body : TDS} : ∀ E σ H, lS F (sFor it g body) E σ H → tFor (lI F it) (lG F S g) (lS F body) E σ H := fun E σ H ⟨env, L, P, A, pp, hn, hr, hb, hc⟩ =>
  ⟨env, L, _, A, pp, fun xs J H1 px k1 o1 ok => by
    have pr0 : Pres F L H L H1 := k1.pres A
    refine ⟨fun i m σ' H' => ∃ env' L', Abs F env' σ' L' H' ∧ Pres F L H1 L' H' ∧ sLoop g body P (xs.drop i) env' ∧ i ≤ xs.length ∧ m = xs.length - i, ⟨_, env, L, A.step k1 o1, .refl _ _ _, px, Nat.zero_le _, rfl⟩, ?_⟩
    rintro i m σ' H' ⟨env', L', A', pr, lp, hi, rfl⟩
    obtain ⟨st, go⟩ := ok (F.N L') H' (fun a o n h => pr a o n h) (fun a h => A'.alO h) i
    by_cases hlt : i < xs.length
    · obtain ⟨g1, g2⟩ := go xs[i] (List.getElem?_eq_getElem hlt)
      refine .inr ⟨g1, fun σ2 H2 => ∃ env2 L2, Abs F env2 σ2 L2 H2 ∧ Pres F L H1 L2 H2 ∧ sLoop g body P (xs.drop (i + 1)) env2, fun σ2 H2 ⟨env2, L2, a1, a2, a3⟩ => ⟨xs.length - (i + 1), by omega, env2, L2, a1, a2, a3, hlt, rfl⟩, fun v H2 hy => ?_⟩
      obtain ⟨sm, dd⟩ := g2 v H2 hy
      rw [List.drop_eq_getElem_cons hlt] at lp
      have A2 := A'.step (same_keep sm) (same_ok A'.ok sm)
      have pr2 : Pres F L H1 L' H2 := pr.trans fun a o n h => ⟨n, sm a o h⟩
      exact ⟨env', L', _, _, A2, dd, lp, fun env3 σ3 p3 A3 _ _ => ⟨env3, L', _, A3, p3, fun env4 σ4 L4 H4 p4 A4 pr4 => ⟨env4, L4, A4, pr2.trans pr4, p4⟩, hr, fun env4 σ4 L4 H4 p4 A4 pr4 => hn env4 σ4 L4 H4 p4 A4 ((pr0.trans pr2).trans pr4), fun env4 σ4 L4 H4 p4 A4 pr4 => ⟨env4, L4, A4, pr2.trans pr4, p4⟩⟩⟩
    · have e : xs.drop i = [] := List.drop_eq_nil_of_le (by omega)
      rw [e] at lp
      exact .inl ⟨st (by omega), hn env' σ' L' H' lp A' (pr0.trans pr)⟩⟩
theorem ds_for {S : List Nat} {it : TDI} {g : TDG} {sts : List Stmt} {body : TDS} (hp : PassesOwn (model X.prog X.w) X.A X.env X.xe) (hc : X.calm = true) (hi : PI X tg iter (lI F it)) (hg : PG X tg (lG F S g)) (hb : PSs X sts (lS F body)) (hs : ∀ x, foldedSetIterable iter X.env x = pure x := by intro _; rfl) :
    PS X (.For tg iter sts [] pos) (lS F (sFor it g body)) := PS.mono (ps_for hp hc hi hg hb hs) l_for
end
end DL
namespace DL
open PySem PySem.Spec PyProof.Rows L2 RK
def wipeE (env : De) : List Nat → De
  | [] => env
  | v :: vs => (wipeE env vs).set v .no
section
variable {F : Fx} {env : De} {σ : L2.St} {L : List Addr} {H H' : Hp}
theorem Abs.setN (A : Abs F env σ L H) (i : Nat) : Abs F (env.set i .no) (σ.set i none) L H := by
  refine ⟨A.ok, A.al, A.wn, A.kp, A.fr, by rw [List.length_set, List.length_set, A.ls], fun j l a ej el h1 h2 o1 o2 s1 s2 => ?_, A.so.set0 rfl rfl _, fun j e y h1 h2 => ?_⟩
  · by_cases hj : i = j
    · subst hj
      by_cases hi : i < env.length
      · rw [List.getElem?_set_self hi] at h1
        cases h1
        cases o1
      · rw [List.getElem?_eq_none (by rw [List.length_set]; omega)] at h1
        cases h1
    · by_cases hl : i = l
      · subst hl
        by_cases hi : i < env.length
        · rw [List.getElem?_set_self hi] at h2
          cases h2
          cases o2
        · rw [List.getElem?_eq_none (by rw [List.length_set]; omega)] at h2
          cases h2
      · rw [List.getElem?_set_ne hj] at h1 s1
        rw [List.getElem?_set_ne hl] at h2 s2
        exact A.sep j l a ej el h1 h2 o1 o2 s1 s2
  · by_cases hj : i = j
    · subst hj
      by_cases hi : i < env.length
      · rw [List.getElem?_set_self hi] at h1
        cases h1
        trivial
      · rw [List.getElem?_eq_none (by rw [List.length_set]; omega)] at h1
        cases h1
    · rw [List.getElem?_set_ne hj] at h1 h2
      exact A.en j e y h1 h2
theorem Abs.wipe (A : Abs F env σ L H) : ∀ vs : List Nat, Abs F (wipeE env vs) (L2.wipe σ vs) L H
  | [] => A
  | v :: vs => (A.wipe vs).setN v
theorem Abs.poke (A : Abs F env σ L H) {a : Addr} {o' : HO} (ha : a ∈ L) (lo : Lone env σ a) (po : Plo o' := by exact True.intro) : Abs F env σ L (upd H a o') := by
  have na : ¬ F.N0 a := A.out ha
  have nw : ¬ F.W.own a := fun z => na (A.wn a z)
  refine ⟨?_, A.al, A.wn, fun x u q h => ?_, fun b hb => ?_, A.ls, A.sep, A.so, fun j e2 y h1 h2 => ?_⟩
  · exact Wd.st A.ok (n := noT_upd po.ntb) fun b u h q => by
      have ne : b ≠ a := fun z => by
        rcases q with q | q
        · exact nw (by rw [← z]; exact q)
        · obtain ⟨_, o, e, pl⟩ := A.fr a ha
          rw [z, e] at h
          exact q (Option.some.inj h ▸ pl)
      rw [upd_ne ne]
      exact h
  · have hx := A.kp x u q h
    have ne : x ≠ a := fun z => by
      rw [z, (A.fr a ha).1] at h
      cases h
    rw [upd_ne ne]
    exact hx
  · refine ⟨(A.fr b hb).1, ?_⟩
    by_cases e : b = a
    · subst e
      exact ⟨_, upd_same, po⟩
    · rw [upd_ne e]
      exact (A.fr b hb).2
  · refine EnOk.keep A (fun x u q h => ?_) (fun _ z => z) (fun b hb ob hbL => ⟨hbL, fun u hu => ?_⟩) (fun b hb hbL => ⟨hbL, fun u hu => by
      have : b ≠ a := fun z => lo.2 j e2 h1 (z ▸ hb)
      rw [upd_ne this]
      exact hu⟩) (A.en j e2 y h1 h2)
    · have ne : x ≠ a := fun z => q (.inr (by rw [z]; exact ha))
      rw [upd_ne ne]
      exact h
    · have ne : b ≠ a := fun z => lo.1 j e2 h1 ob (by rw [h2, hb, z])
      rw [upd_ne ne]
      exact hu
end
def dComp (g : TDG) (tt : TDT) (te : TDE) (P : D → Prop) (env : De) : List D → List D → Prop
  | [], acc => P (.lst acc)
  | x :: xs, acc => g x env fun env' => tt env' fun b => if b = true then te env' fun y => acc.length < sizeLine ∧ dComp g tt te P env xs (acc ++ [y]) else dComp g tt te P env xs acc
def dLc (it : TDI) (g : TDG) (tt : TDT) (te : TDE) (vs : List Nat) : TDE := fun env P => it env fun xs => dComp g tt te P (wipeE env vs) xs []
def tYesD : TDT := fun _ P => P true
section
variable {X : Cx} {F : Fx} {e a b c tg iter : Expr} {es : List Expr} {d da db dc : TDE} {ds : TDA} {pos p : Pos} {i j l : Nat}
theorem ts_nil : PTs X [] (lT F tYesD) := ⟨fun pins s σ H Q I h => pts_nil.run pins s σ H Q I (let ⟨_, _, _, A, pp, q⟩ := h; q true H pp (.refl _ _) A.ok)⟩
theorem ts_one {t : TDT} (h : PT X c (lT F t)) : PTs X [c] (lT F t) := pts_one h
theorem l_lc {S vs : List Nat} {it : TDI} {g : TDG} {tt : TDT} {te : TDE} (hS : ∀ i ∈ S, i ∈ vs) : ∀ σ H Q, lN F (dLc it g tt te vs) σ H Q → tLc (lIb F it) (lG F S g) (lT F tt) (lC F te) vs σ H Q := fun σ H Q ⟨env, L, P, A, pp, q⟩ =>
  ⟨env, L, _, A, pp, fun xs J H1 px k1 o1 ok D nD => by
    have A1 := A.step k1 o1
    have lo : Lone (wipeE env vs) (wipe σ vs) D := (A1.wipe vs).lone nD
    have B0 : Abs F (wipeE env vs) (wipe σ vs) (D :: L) (upd H1 D (.lst [])) := (A1.wipe vs).hold (x := .lst []) (.new nD) (ok_new o1 nD) nD ⟨[], upd_same, .nil⟩
    refine ⟨fun i m H' => ∃ acc us, Abs F (wipeE env vs) (wipe σ vs) (D :: L) H' ∧ (∀ a o, ¬ F.W.own a → H1 a = some o → H' a = some o) ∧ H' D = some (.lst us) ∧ DdAll F.K (F.N (D :: L)) F.W H' us acc ∧ dComp g tt te P (wipeE env vs) (xs.drop i) acc ∧ i ≤ xs.length ∧ m = xs.length - i,
      ⟨_, [], [], B0, fun a o _ h => by rw [upd_ne (ne_of_none h nD)]; exact h, upd_same, .nil, px, Nat.zero_le _, rfl⟩, ?_⟩
    rintro i m H' ⟨acc, us, B, kk, hD, hu, lp, hi, rfl⟩
    obtain ⟨st, go⟩ := ok (F.N (D :: L)) H' (fun a o n h => ⟨fun nn z => by
      rcases z with z | z
      · exact nn (.inl z)
      · rcases List.mem_cons.mp z with z | z
        · rw [z, nD] at h
          cases h
        · exact nn (.inr z), kk a o n h⟩) (fun a h => B.alO h) i
    by_cases hlt : i < xs.length
    · obtain ⟨g1, g2⟩ := go xs[i] (List.getElem?_eq_getElem hlt)
      rw [List.drop_eq_getElem_cons hlt] at lp
      refine .inr ⟨g1, fun H2 => ∃ acc us, Abs F (wipeE env vs) (wipe σ vs) (D :: L) H2 ∧ (∀ a o, ¬ F.W.own a → H1 a = some o → H2 a = some o) ∧ H2 D = some (.lst us) ∧ DdAll F.K (F.N (D :: L)) F.W H2 us acc ∧ dComp g tt te P (wipeE env vs) (xs.drop (i + 1)) acc,
        fun H2 ⟨acc, us, a1, a2, a3, a4, a5⟩ => ⟨xs.length - (i + 1), by omega, acc, us, a1, a2, a3, a4, a5, hlt, rfl⟩, fun v H2 hy => ?_⟩
      obtain ⟨sm, dd⟩ := g2 v H2 hy
      have B2 := B.step (same_keep sm) (same_ok B.ok sm)
      refine ⟨_, _, _, _, B2, dd, lp, fun env3 σ3 p3 B3 w3 _ => ⟨?_, env3, _, _, B3, p3, fun bb H3 p4 k4 o4 => ?_⟩⟩
      · rw [w3 vs hS]
        have : ∀ ws : List Nat, wipe (wipe σ ws) ws = wipe σ ws := by
          intro ws
          apply List.ext_getElem?
          intro n
          by_cases hn : n < (wipe σ ws).length
          · cases hx : (wipe (wipe σ ws) ws)[n]? with
            | none =>
              rw [List.getElem?_eq_none_iff, wipe_length] at hx
              omega
            | some y =>
              cases hz : (wipe σ ws)[n]? with
              | none =>
                rw [List.getElem?_eq_none_iff] at hz
                omega
              | some z =>
                cases y with
                | some y =>
                  rw [(wipe_some hx).1] at hz
                  rw [Option.some.inj hz]
                | none =>
                  cases z with
                  | none => rfl
                  | some z =>
                    exfalso
                    have nm := (wipe_some hz).2
                    have keep : ∀ (τ : L2.St) (us : List Nat), n ∉ us → (wipe τ us)[n]? = τ[n]? := by
                      intro τ us
                      induction us with
                      | nil => intro _; rfl
                      | cons u us ih =>
                        intro hu
                        unfold wipe
                        rw [List.getElem?_set_ne (fun z => hu (by rw [z]; exact List.mem_cons_self)), ih (fun z => hu (List.mem_cons_of_mem _ z))]
                    rw [keep _ ws nm, hz] at hx
                    cases hx
          · rw [List.getElem?_eq_none (by rw [wipe_length]; omega), List.getElem?_eq_none (by omega)]
        exact this vs
      · have B4 := B3.step k4 o4
        have W4 : Abs F (wipeE env vs) (wipe σ vs) (D :: L) H3 := B2.step k4 o4
        have nD0 : ¬ F.W.own D := fun z => B.out List.mem_cons_self (B.wn D z)
        cases bb with
        | true =>
          refine iteT ⟨env3, _, _, B4, p4, fun y v' H5 p5 k5 o5 d5 => ?_⟩
          have hD5 : H5 D = some (.lst us) := k5 D _ nD0 (k4 D _ nD0 (sm D _ hD))
          have hu5 : DdAll F.K (F.N (D :: L)) F.W H5 us acc := W4.kda k5 (B2.kda k4 (B.kda (same_keep sm) hu))
          have W5 := W4.step k5 o5
          refine ⟨us, hD5, by rw [hu5.len]; exact p5.1, acc ++ [y], us ++ [v'], W5.poke List.mem_cons_self lo, fun a o n h => ?_, upd_same, (hu5.app (.cons d5 .nil)).keep (fun x u q h => ?_) (fun _ z => z), p5.2⟩
          · rw [upd_ne (ne_of_none h nD)]
            exact k5 a o n (k4 a o n (sm a o (kk a o n h)))
          · have ne : x ≠ D := fun z => q (.inr (by rw [z]; exact List.mem_cons_self))
            rw [upd_ne ne]
            exact h
        | false => exact iteF ⟨acc, us, W4, fun a o n h => k4 a o n (sm a o (kk a o n h)), k4 D _ nD0 (sm D _ hD), B2.kda k4 (B.kda (same_keep sm) hu), p4⟩
    · have e : xs.drop i = [] := List.drop_eq_nil_of_le (by omega)
      rw [e] at lp
      refine .inl ⟨st (by omega), q _ D H' lp (k1.trans fun a o n h => kk a o n h) B.ok (free_of k1 o1 nD) ⟨us, hD, hu⟩⟩⟩
def dDcomp (g : TDG) (tt : TDT) (tk tv : TDE) (P : D → Prop) (env : De) : List D → List (Key × D) → Prop
  | [], acc => P (.dic acc)
  | x :: xs, acc => g x env fun env' => tt env' fun b => if b = true then tk env' fun k => tv env' fun y => ob (keyD k) fun k => acc.length < sizeLine ∧ dDcomp g tt tk tv P env xs (putD acc k y) else dDcomp g tt tk tv P env xs acc
def dDc (it : TDI) (g : TDG) (tt : TDT) (tk tv : TDE) (vs : List Nat) : TDE := fun env P => it env fun xs => dDcomp g tt tk tv P (wipeE env vs) xs []
theorem wipe_wipe (σ : L2.St) (ws : List Nat) : wipe (wipe σ ws) ws = wipe σ ws := by
  apply List.ext_getElem?
  intro n
  have keep : ∀ (τ : L2.St) (us : List Nat), n ∉ us → (wipe τ us)[n]? = τ[n]? := by
    intro τ us
    induction us with
    | nil => intro _; rfl
    | cons u us ih =>
      intro hu
      unfold wipe
      rw [List.getElem?_set_ne (fun z => hu (by rw [z]; exact List.mem_cons_self)), ih (fun z => hu (List.mem_cons_of_mem _ z))]
  by_cases hm : n ∈ ws
  · have no : ∀ τ : L2.St, ∀ y, (wipe τ ws)[n]? ≠ some (some y) := fun τ y h => (wipe_some h).2 hm
    by_cases hn : n < σ.length
    · have f : ∀ τ : L2.St, n < τ.length → (wipe τ ws)[n]? = some none := fun τ h => by
        cases hx : (wipe τ ws)[n]? with
        | none => rw [List.getElem?_eq_none_iff, wipe_length] at hx; omega
        | some y => cases y with
          | none => rfl
          | some y => exact (no τ y hx).elim
      rw [f _ hn, f _ (by rw [wipe_length]; exact hn)]
    · rw [List.getElem?_eq_none (by rw [wipe_length, wipe_length]; omega), List.getElem?_eq_none (by rw [wipe_length]; omega)]
  · rw [keep _ ws hm]
theorem l_dc {S vs : List Nat} {it : TDI} {g : TDG} {tt : TDT} {tk tv : TDE} (hS : ∀ i ∈ S, i ∈ vs) : ∀ σ H Q, lN F (dDc it g tt tk tv vs) σ H Q → tDc (lIb F it) (lG F S g) (lT F tt) (lC F tk) (lC F tv) vs σ H Q := fun σ H Q ⟨env, L, P, A, pp, q⟩ =>
  ⟨env, L, _, A, pp, fun xs J H1 px k1 o1 ok D nD => by
    have A1 := A.step k1 o1
    have lo : Lone (wipeE env vs) (wipe σ vs) D := (A1.wipe vs).lone nD
    have B0 : Abs F (wipeE env vs) (wipe σ vs) (D :: L) (upd H1 D (.dK [])) := (A1.wipe vs).hold (x := .dic []) (.new nD) (ok_new o1 nD) nD ⟨[], upd_same, rfl, .nil⟩
    refine ⟨fun i m H' => ∃ acc us, Abs F (wipeE env vs) (wipe σ vs) (D :: L) H' ∧ (∀ a o, ¬ F.W.own a → H1 a = some o → H' a = some o) ∧ H' D = some (.dK us) ∧ us.map (·.1) = acc.map (·.1) ∧ DdAll F.K (F.N (D :: L)) F.W H' (us.map (·.2)) (acc.map (·.2)) ∧ dDcomp g tt tk tv P (wipeE env vs) (xs.drop i) acc ∧ i ≤ xs.length ∧ m = xs.length - i,
      ⟨_, [], [], B0, fun a o _ h => by rw [upd_ne (ne_of_none h nD)]; exact h, upd_same, rfl, .nil, px, Nat.zero_le _, rfl⟩, ?_⟩
    rintro i m H' ⟨acc, us, B, kk, hD, hk, hu, lp, hi, rfl⟩
    obtain ⟨st, go⟩ := ok (F.N (D :: L)) H' (fun a o n h => ⟨fun nn z => by
      rcases z with z | z
      · exact nn (.inl z)
      · rcases List.mem_cons.mp z with z | z
        · rw [z, nD] at h
          cases h
        · exact nn (.inr z), kk a o n h⟩) (fun a h => B.alO h) i
    by_cases hlt : i < xs.length
    · obtain ⟨g1, g2⟩ := go xs[i] (List.getElem?_eq_getElem hlt)
      rw [List.drop_eq_getElem_cons hlt] at lp
      refine .inr ⟨g1, fun H2 => ∃ acc us, Abs F (wipeE env vs) (wipe σ vs) (D :: L) H2 ∧ (∀ a o, ¬ F.W.own a → H1 a = some o → H2 a = some o) ∧ H2 D = some (.dK us) ∧ us.map (·.1) = acc.map (·.1) ∧ DdAll F.K (F.N (D :: L)) F.W H2 (us.map (·.2)) (acc.map (·.2)) ∧ dDcomp g tt tk tv P (wipeE env vs) (xs.drop (i + 1)) acc,
        fun H2 ⟨acc, us, a1, a2, a3, a6, a4, a5⟩ => ⟨xs.length - (i + 1), by omega, acc, us, a1, a2, a3, a6, a4, a5, hlt, rfl⟩, fun v H2 hy => ?_⟩
      obtain ⟨sm, dd⟩ := g2 v H2 hy
      have B2 := B.step (same_keep sm) (same_ok B.ok sm)
      refine ⟨_, _, _, _, B2, dd, lp, fun env3 σ3 p3 B3 w3 _ => ⟨?_, env3, _, _, B3, p3, fun bb H3 p4 k4 o4 => ?_⟩⟩
      · rw [w3 vs hS]
        exact wipe_wipe σ vs
      · have B4 := B3.step k4 o4
        have W4 : Abs F (wipeE env vs) (wipe σ vs) (D :: L) H3 := B2.step k4 o4
        have nD0 : ¬ F.W.own D := fun z => B.out List.mem_cons_self (B.wn D z)
        cases bb with
        | true =>
          refine iteT ⟨env3, _, _, B4, p4, fun kx vk H4 p5 k5 o5 d5 => ⟨env3, _, _, B4.step k5 o5, p5, fun y v' H6 p6 k6 o6 d6 => ?_⟩⟩
          obtain ⟨k, ek, p7⟩ := ob_elim p6
          have hv := keyD_v (F := F) (L := D :: L) (.inl d5) ek
          have kt := k5.trans k6
          have hD5 : H6 D = some (.dK us) := kt D _ nD0 (k4 D _ nD0 (sm D _ hD))
          have hu5 : DdAll F.K (F.N (D :: L)) F.W H6 (us.map (·.2)) (acc.map (·.2)) := W4.kda kt (B2.kda k4 (B.kda (same_keep sm) hu))
          have W5 := W4.step kt o6
          obtain ⟨r1, r2⟩ := put_rel (k := k) hk hu5 d6
          refine ⟨us, k, hv, hD5, by rw [kd_len hk]; exact p7.1, putD acc k y, putK us k v', W5.poke List.mem_cons_self lo, fun a o n h => ?_, upd_same, r1, r2.keep (fun x u q h => ?_) (fun _ z => z), p7.2⟩
          · rw [upd_ne (ne_of_none h nD)]
            exact kt a o n (k4 a o n (sm a o (kk a o n h)))
          · have ne : x ≠ D := fun z => q (.inr (by rw [z]; exact List.mem_cons_self))
            rw [upd_ne ne]
            exact h
        | false => exact iteF ⟨acc, us, W4, fun a o n h => k4 a o n (sm a o (kk a o n h)), k4 D _ nD0 (sm D _ hD), hk, B2.kda k4 (B.kda (same_keep sm) hu), p4⟩
    · have e : xs.drop i = [] := List.drop_eq_nil_of_le (by omega)
      rw [e] at lp
      refine .inl ⟨st (by omega), q _ D H' lp (k1.trans fun a o n h => kk a o n h) B.ok (free_of k1 o1 nD) ⟨us, hD, hk, hu⟩⟩⟩
end
def startE (N : List Str) (ds : List D) : De := ds.map En.fz ++ List.replicate (N.length - ds.length) En.no
theorem abs_start {K : PySem.W.Frag} {W : Wd} {N0 : Addr → Prop} {H : Hp} {fr : Fr} {N : List Str} {vs : List V} {ds : List D} (al : ∀ a, N0 a → ∃ o : HoN, H a = some o.1) (wn : ∀ a, W.own a → N0 a) (ok : W.ok H) (dd : DdAll K N0 W H vs ds) :
    Abs ⟨K, W, N0, H, fr⟩ (startE N ds) (start N vs) [] H := by
  have hl := dd.len
  have noOw : ∀ (i : Nat) (e : En), (startE N ds)[i]? = some e → e.isOw = true → False := fun i e h ow => by
    have := List.mem_of_getElem? h
    unfold startE at this
    rcases List.mem_append.mp this with h | h
    · obtain ⟨d, _, rfl⟩ := List.mem_map.mp h
      cases ow
    · rw [(List.mem_replicate.mp h).2] at ow
      cases ow
  have noAd : ∀ (i : Nat) (e : En) (b : Addr), (startE N ds)[i]? = some e → b ∈ e.ad → False := fun i e b h hb => by
    have := List.mem_of_getElem? h
    unfold startE at this
    rcases List.mem_append.mp this with h | h
    · obtain ⟨d, _, rfl⟩ := List.mem_map.mp h
      cases hb
    · rw [(List.mem_replicate.mp h).2] at hb
      cases hb
  refine ⟨ok, al, wn, .refl _ _, fun a h => (by cases h), ?_, fun i j a ei ej h1 h2 o1 o2 s1 s2 => (noOw i ei h1 o1).elim, fun i e b h hb => (noAd i e b h hb).elim, fun i e x h1 h2 => ?_⟩
  · unfold startE L2.start
    rw [List.length_append, List.length_append, List.length_map, List.length_map, List.length_replicate, List.length_replicate, hl]
  · unfold startE at h1
    unfold L2.start at h2
    by_cases hi : i < ds.length
    · rw [List.getElem?_append_left (by rw [List.length_map]; exact hi), List.getElem?_map, List.getElem?_eq_getElem hi] at h1
      rw [List.getElem?_append_left (by rw [List.length_map]; omega), List.getElem?_map, List.getElem?_eq_getElem (by omega)] at h2
      have e1 : e = .fz ds[i] := (Option.some.inj h1).symm
      have e2 : x = some (vs[i]'(by omega)) := (Option.some.inj h2).symm
      subst e1 e2
      obtain ⟨v, g1, g2⟩ := dd.get (List.getElem?_eq_getElem hi)
      rw [List.getElem?_eq_getElem (by omega)] at g1
      have e3 := Option.some.inj g1
      rw [e3]
      exact g2.keep (fun _ _ _ z => z) fun y hy => by
        rcases hy with hy | hy
        · exact hy
        · cases hy
    · rw [List.getElem?_append_right (by rw [List.length_map]; omega)] at h1
      rw [(List.mem_replicate.mp (List.mem_of_getElem? h1)).2]
      trivial
def fin (fr : Fr) (P : D → Prop) : DEnds := { nx := fun _ => fr = .b false ∧ P .non, rt := P }
theorem fn_d {K : PySem.W.Frag} {W : Wd} {N0 : Addr → Prop} {H : Hp} {fr : Fr} {N : List Str} {vs : List V} {ds : List D} {P : D → Prop} {Q : VK} {d : TDS} (al : ∀ a, N0 a → ∃ o : HoN, H a = some o.1) (wn : ∀ a, W.own a → N0 a) (ok : W.ok H) (dd : DdAll K N0 W H vs ds)
    (q : ∀ x v H', P x → KeepW W H H' → W.ok H' → Dd K N0 W H' v x → Nw K W N0 H fr H' v x → Q v H') (h : d (fin fr P) (startE N ds)) :
    lS ⟨K, W, N0, H, fr⟩ d { nx := fun _ H' => Q .non H', rt := Q } (start N vs) H := by
  have nv : ∀ {H' : Hp} {a : Addr} {x : D}, NewV ⟨K, W, N0, H, fr⟩ [] H' a x → NewV ⟨K, W, N0, H, .b true⟩ [] H' a x := fun {H' a x} h => by cases x <;> exact h
  refine ⟨_, [], _, abs_start al wn ok dd, h, fun env' σ' L' H' p A _ => ?_, fun x v H' p r => ?_, fun _ _ _ _ z => z.elim, fun _ _ _ _ z => z.elim⟩
  · exact q .non .non H' p.2 A.kp A.ok .non ⟨fun z => (by rw [p.1] at z; cases z), fun j z => by rw [p.1] at z; cases z⟩
  · exact q x v H' p r.kp r.ok r.dd ⟨fun z => (let ⟨a, h1, h2, h3⟩ := r.nw z; ⟨a, h1, h2, nv h3⟩), r.cj⟩
end DL
namespace DL
open PySem PySem.Spec PyProof.Rows L2 RK
section
variable {X : Cx} {F : Fx} {e a b c o : Expr} {es : List Expr} {d da db dc : TDE} {ds : TDA} {pos p : Pos} {i j l : Nat}
theorem l_setF_n {t : TE} (h : ∀ σ H Q, lN F d σ H Q → t σ H Q) : ∀ E σ H, lS F (sSet i d) E σ H → tAsg t (gName i) E σ H := fun E σ H ⟨env, L, P, A, pp, hn, _⟩ =>
  h σ H _ ⟨env, L, _, A, pp, fun x v H1 px k o n nv => hn _ _ L H1 px ((A.step k o).setF (nv.dd (A.new n)) i) (k.pres A)⟩
def sPar3 (i j l : Nat) (da db dc : TDE) : TDS := fun P env => da env fun x => db env fun y => dc env fun z => P.nx (((env.set i (.fz x)).set j (.fz y)).set l (.fz z))
def dFld (C : Addr) (f : Str) (d : TDE) : TDE := fun env P => d env fun x => match x with | .obj C' fs => C' = C ∧ ob (fs.lookup f) P | _ => False
def dMeth (C : Addr) (m : Str) (sp : DSp) (d : TDE) (ds : TDA) : TDE := fun env P => d env fun x => match x with | .obj C' fs => C' = C ∧ fs.lookup m = none ∧ ds env fun xs => sp (.obj C' fs :: xs) P | _ => False
def dMk (C : Addr) (f : Str) (sp : DSp) (ds : TDA) : TDE := fun env P => ds env fun xs => sp xs fun y => P (.obj C [(f, y)])
end
def mergeD (kds more : List (Key × D)) : List (Key × D) := more.foldl (fun acc kd => putD acc kd.1 kd.2) kds
def dDictZip (ds : TDA) : TDE := fun env P => ds env fun xs => match xs with
  | [.lst ks, .lst ys] => ob (keysD ks) fun kk => kk.length = ys.length ∧ P (.dic (mergeD [] (kk.zip ys)))
  | _ => False
section
variable {P : Program} {w : World} {K : PySem.W.Frag} {mg : Str → Option Value} {base : Heap} {CX : CXT} {k : Nat} {f : Addr} {fd : FuncData} {ps : List Str}
def sp_pull : DSp := fun ds P => ∃ n : Int, ds = [.bag, .int n] ∧ 1 ≤ n ∧ n ≤ 10000000000000000000000000000000000000000 ∧ ∀ r : Int, 0 ≤ r → r < n → P (.int r)
theorem keepW_of {b s : Addr} {T : List (Addr × Str)} {H H' : Hp} (k : RK.Keep b H H') : KeepW (some (b, s, T)) H H' := fun a o n h => k a o (fun z => n (.inl z)) h
theorem tabs_keep {b s : Addr} {T : List (Addr × Str)} {H H' : Hp} (B : Bag b s H) (t : LamX.Tabs T H) (k : RK.Keep b H H') : LamX.Tabs T H' := fun p hp => by
  obtain ⟨ys, hb⟩ := B.hb
  obtain ⟨ps, h1, h2, h3⟩ := t p hp
  refine ⟨ps, k _ _ (fun z => by rw [z, hb] at h1; cases h1) h1, h2, fun pos cv hc => ?_⟩
  obtain ⟨c, e, hcd⟩ := h3 pos cv hc
  exact ⟨c, e, k _ _ (fun z => by rw [z, hb] at hcd; cases hcd) hcd⟩
theorem bag_arg {N : Addr → Prop} {W : Wd} {H : Hp} {v : V} (h : Dd K N W H v .bag) : ∃ b s T, W = some (b, s, T) ∧ v = .ref b := by
  cases h with | bag e => exact ⟨_, _, _, e, rfl⟩
theorem pull_d (h : FnOk P w K mg base CX k f fd ps spPull) : FnOk P w K mg base CX k f fd ps (lSp K false sp_pull) := h.imp fun vs H Q E ⟨W, N0, ds, Pd, al, wn, ok, dd, ⟨n, e, h1, h2, h3⟩, q⟩ => by
  subst e
  cases dd with | cons d1 dd => cases dd with | cons d2 dd =>
    cases dd
    obtain ⟨b, s, T, rfl, rfl⟩ := bag_arg d1
    have := dd_intE d2
    subst this
    exact ⟨b, s, n, rfl, ok.1, h1, h2, fun r H' r0 r1 k B => q _ _ H' (h3 r r0 r1) (keepW_of k.f) ⟨B, tabs_keep ok.1 ok.2.1 k.f, fun ne a ps h => let ⟨qs, q⟩ := k.n a ps h; ok.2.2 ne a qs q⟩ (.int r) ⟨fun z => (by cases z), fun j z => by cases z⟩⟩
end
end DL
namespace DL
open PySem PySem.Spec PyProof.Rows L2 RK
def st (n : Nat) (ds : List D) : De := ds.map En.fz ++ List.replicate (n - ds.length) En.no
def kwP (π : List Nat) (xs : List D) : List D := π.map fun i => xs.getD i .non
def dCallK (sp : DSp) (π : List Nat) (ds : TDA) : TDE := fun env P => ds env fun xs => xs.length = π.length ∧ sp (kwP π xs) P
section
variable {X : Cx} {F : Fx} {dk : TDA} {pos p : Pos} {CX : CXT} {k : Nat} {f : Addr} {fd : FuncData} {ps ks : List Str} {sp : DSp} {E : XK} {x : Str} {fr : Fr} {K : PySem.W.Frag}
end
section
variable {F : Fx} {env : De} {σ : L2.St} {L : List Addr} {H H' : Hp}
end
theorem so_law {n : Nat} {σ : L2.St} : SoP (.no :: .fz .bag :: List.replicate n .no) σ := fun i e b h hb => by
  exfalso
  match i, h with
  | 0, h => cases h; cases hb
  | 1, h => cases h; cases hb
  | i + 2, h =>
    rw [List.getElem?_cons_succ, List.getElem?_cons_succ] at h
    rw [(List.mem_replicate.mp (List.mem_of_getElem? h)).2] at hb
    cases hb
end DL
namespace RK
open PySem PySem.Spec PyProof.Rows L2
open PySem.Sem (wp)
abbrev enT1 (l : Addr) : Obj := { cls := .type "tuple_iterator", data := .fields #[.ref l, .int 0 0] }
abbrev enT2 (n : Addr) : Obj := { cls := .type "enumerate", data := .fields #[.none, .bool false, .ref n, rawInt 0, .none, .none] }
theorem meets_enumT (l : Addr) (its : Array Value) :
    Meets (Builtin.«enumerate.__new__» ⟨[.type "enumerate", .ref l], []⟩) (fun _ R s => s.heap.IsTuple l its ∧ R (.ok (.ret (.ref (s.heap.push (enT1 l)).objs.size))) { s with heap := (s.heap.push (enT1 l)).push (enT2 s.heap.objs.size) }) :=
  .of_wp fun prog w A R s h => by
    obtain ⟨hp, g, d, tk, os⟩ := s
    obtain ⟨ht, h⟩ := h
    have sb := sub_enumerate
    have hT : Heap.IsTuple (Shared.heap ⟨hp, g, d, tk, os⟩) l its := ht
    obtain ⟨⟨c, dct, dt, sl⟩, ho, hc, n, hd⟩ := id hT
    replace hc : c = .type "tuple" := hc
    replace hd : dt = .seq its n := hd
    subst hc hd
    wp_walk using AutoSeq1.wpAny_loadPart' ho
    refine wpAny_stack_any fun stk => wpAny_pure ?_
    split
    · rename_i c _ _ _ _ _
      cases (c == Value.type "enumerate")
      · wp_walk using AutoSeq1.wpAny_loadPart' ho, wpAny_pyIter_tuple hT
        exact ⟨_, rfl, h⟩
      · wp_walk using AutoSeq1.wpAny_loadPart' ho, wpAny_pyIter_tuple hT
        exact ⟨_, rfl, h⟩
    · wp_walk using AutoSeq1.wpAny_loadPart' ho, wpAny_pyIter_tuple hT
      exact ⟨_, rfl, h⟩
theorem call_enumT {prog : Program} {w : World} {A : Around} {E : Value → Shared → Prop} {s : Shared} {l : Addr} {its : Array Value} {Q : Value → Shared → Prop} (hT : s.heap.IsTuple l its)
    (h : ∀ h', IsEnum h' (s.heap.objs.size + 1) s.heap.objs.size 0 .none → h'.IsTupleIter s.heap.objs.size l 0 → (∀ b o, s.heap.get? b = some o → h'.get? b = some o) → Q (.ref (s.heap.objs.size + 1)) { s with heap := h' }) :
    wpAny (model prog w) A (call (.type "enumerate") [.ref l]) Q E s := by
  refine callType_new F.called_enumerate (by decide) (F.typeCall_enumerate_1 _) (F.newCall_enumerate_1 _) (fun obj => F.args_object_init_2 obj _) F.entry_enumerate_new (meets_enumT l its) ⟨hT, ?_⟩
  have z1 : (s.heap.push (enT1 l)).objs.size = s.heap.objs.size + 1 := Heap.size_push ..
  show _ ∧ _
  rw [z1]
  have en : IsEnum ((s.heap.push (enT1 l)).push (enT2 s.heap.objs.size)) (s.heap.objs.size + 1) s.heap.objs.size 0 .none := by
    have g := Heap.get?_push_size (s.heap.push (enT1 l)) (o := enT2 s.heap.objs.size) rfl
    rw [z1] at g
    exact g
  exact ⟨⟨_, en, rfl⟩, h _ en ⟨_, Heap.get?_push_of_some _ (Heap.get?_push_size _ rfl), rfl, rfl⟩ fun b o q => Heap.get?_push_of_some _ (Heap.get?_push_of_some _ q)⟩
def IteT (K : PySem.W.Frag) (a : Addr) : It :=
  ⟨fun i H => ∃ (xs : List V) (x : V), SqT K H a xs ∧ xs[i]? = some x, fun i H v H' => ∃ T x, v = .ref T ∧ H T = none ∧ H' = upd H T (.tup [.int (i : Nat), x]) ∧ ∀ xs, SqT K H a xs → xs[i]? = some x, fun i H => ∃ xs : List V, SqT K H a xs ∧ xs.length = i⟩
theorem turn_enumT {P : Program} {w : World} {K : PySem.W.Frag} {elts : List Expr} {kk : Nat} {tpos : Pos} (a e it : Addr) (hae : e ≠ a) (hai : a ≠ it) (hei : e ≠ it) :
    Turn P w K (.Tuple elts kk tpos) (IteT K a) [e, it] e (fun i h => (∃ old, IsEnum h e it ((i : Nat) : Int) old) ∧ h.IsTupleIter it a i) where
  mem := List.mem_cons_self
  obj := fun i h tn b hb => by
    obtain ⟨⟨old, he⟩, ⟨o, ho, hc, hd⟩⟩ := tn
    rcases List.mem_cons.mp hb with z | z
    · rw [z]
      exact ⟨_, he, fun v q => nomatch q⟩
    · rw [List.mem_singleton.mp z]
      exact ⟨o, ho, fun v q => by rw [hd] at q; cases q⟩
  keep := fun i h h' tn k => ⟨let ⟨old, he⟩ := tn.1; ⟨old, k e List.mem_cons_self _ he⟩, tn.2.at fun o q => k it (by simp) o q⟩
  item := by
    intro X hP hw hK hc i pins s σ H E I hf tn go
    subst hP hw hK
    obtain ⟨⟨old, he⟩, hit⟩ := tn
    obtain ⟨xs, x, hq, hx⟩ := go
    obtain ⟨its, rv, p, hz⟩ := I.tuple hq
    obtain ⟨u, hu, ru⟩ := rv.get hx
    have hil : i < its.toArray.size := by simpa using (List.getElem?_eq_some_iff.mp hu).1
    have ue : its.toArray[i]? = some u := by simpa using hu
    have he1 : e < s.heap.objs.size := Heap.lt_size he
    have he2 : it < s.heap.objs.size := let ⟨_, q, _⟩ := hit; Heap.lt_size q
    refine wpAny_pyNext_enum_itemD (Draws.tuple (A := X.A.in1) (show X.A.in1.handled = none from I.ok.hd hc) it a hai its.toArray) he ⟨hit, p⟩ hil hei (by simp [hae, hei]) fun v h' tk hv ho st2 hT hsz hk => ?_
    have ev : v = u := Option.some.inj (hv.symm.trans ue)
    subst ev
    refine ⟨_, rfl, wpAny_letOwnedTupleGo_enum (s := { s with heap := h', toks := tk + 1 }) ho fun h'' en sb => ?_⟩
    have hT2 : h''.get? s.heap.objs.size = some { cls := .type "tuple", data := .seq #[.int i tk, v] } := (sb.2 _ (Nat.ne_of_gt he1)).trans hT
    have new : ObjOk X.prog X.w (upd H s.heap.objs.size (.tup [.int (i : Nat), x])) h'' s.heap.objs.size (.tup [.int (i : Nat), x]) :=
      ⟨(by show 2 ≤ sizeLine; decide), [.int i tk, v], .cons ⟨tk, rfl⟩ (.cons ru .nil), ⟨_, hT2, rfl, _, rfl⟩⟩
    have I1 : Inv X pins σ (upd H s.heap.objs.size (.tup [.int (i : Nat), x])) { s with heap := h'', toks := tk + 1 } :=
      I.turnedNew (ch := [e, it]) (fun b ob hb q => by
        have b1 : b ≠ e := fun z => hb (by rw [z]; exact List.mem_cons_self)
        have b2 : b ≠ it := fun z => hb (by rw [z]; simp)
        exact (sb.2 b b1).trans (hk b ob b1 b2 q)) hf (Nat.le_refl _) new
    refine ⟨.ref s.heap.objs.size, _, I1, rfl, ⟨_, x, rfl, I.hok.fresh (Nat.le_refl _), rfl, fun ys hy => by rw [I.tuple_inj hy hq]; exact hx⟩, ⟨⟨v, ?_⟩, st2.1.at fun o q => (sb.2 it hei.symm).trans q⟩, fun b hb => ?_⟩
    · rw [show ((i + 1 : Nat) : Int) = (i : Int) + 1 by omega]
      exact en
    · have lt : b < s.heap.objs.size := by
        rcases List.mem_cons.mp hb with z | z
        · rw [z]; exact he1
        · rw [List.mem_singleton.mp z]; exact he2
      rw [upd_ne (Nat.ne_of_lt lt)]
      exact (hf b hb).1
  done := by
    intro X hP hw hK hc i pins s σ H E I hf tn go
    subst hP hw hK
    obtain ⟨⟨old, he⟩, hit⟩ := tn
    obtain ⟨xs, hq, hx⟩ := go
    obtain ⟨its, rv, p, hz⟩ := I.tuple hq
    obtain ⟨f0, f1, f2, f3, f4, f5⟩ := hf it (by simp)
    have hl : its.toArray.size = i := by rw [List.size_toArray, ← rv.length]; exact hx
    exact wpAny_pyNext_enum_endD (Draws.tuple (A := X.A.in1) (show X.A.in1.handled = none from I.ok.hd hc) it a hai its.toArray) he (by rw [hl]; exact ⟨hit, p⟩) fun h' eb => ⟨rfl, I.turned (t' := s.toks) (fun b o hb q => eb b o hb q) f0 f1 f3 f4 f5⟩
  self := fun A i s Q E tn h => let ⟨⟨_, he⟩, _⟩ := tn; wpAny_pyIter_enum he h
def iEnumT (K : PySem.W.Frag) (ta : TA) : TI := fun σ H R => ta σ H fun vs H1 => ∃ a xs, vs = [.ref a] ∧ SqT K H1 a xs ∧ R (IteT K a) H1
theorem pi_enumT {X : Cx} {e : Expr} {ta : TA} {p pos tpos : Pos} {elts : List Expr} {kk : Nat} (hg : Gl X "enumerate") (hm : X.mg "enumerate" = none) (ha : PA X [e] ta) (hs : starEach [e] X.env = [(false, eval e X.env)] := by rfl) :
    PI X (.Tuple elts kk tpos) (.Call (.Name "enumerate" p) [e] [] pos) (iEnumT X.K ta) := ⟨fun pins s σ H R I h => by
  refine Call_ (ld_blt I hg hm boot_enumerate (PyProof.Rows.callWith_type1 (thn (ha.run pos pins s σ H _ I h) fun us s1 ⟨vs, H1, I1, r1, q1⟩ => ?_) hs rfl))
  obtain ⟨a, xs, rfl, hq, q⟩ := q1
  obtain ⟨u, rfl, ru⟩ := vals1 r1
  cases ru
  obtain ⟨its, rv, pt, hz⟩ := I1.tuple hq
  have la : a < s1.heap.objs.size := pt.lt
  refine call_enumT pt fun h' he hit hk => wpAny_pyIter_enum he ?_
  refine ⟨s1.heap.objs.size + 1, [s1.heap.objs.size + 1, s1.heap.objs.size], _, _, H1, rfl, I1.kept (t' := s1.toks) hk, turn_enumT a (s1.heap.objs.size + 1) s1.heap.objs.size (Nat.ne_of_gt (Nat.lt_succ_of_lt la)) (Nat.ne_of_lt la) (Nat.succ_ne_self _), ⟨⟨.none, he⟩, hit⟩, fun b hb => ?_, q⟩
  have le : s1.heap.objs.size ≤ b := by
    rcases List.mem_cons.mp hb with z | z
    · rw [z]; exact Nat.le_add_right _ _
    · rw [List.mem_singleton.mp z]; exact Nat.le_refl _
  exact I1.fpOk le (I1.hok.fresh le)⟩
end RK
namespace DL
open PySem PySem.Spec PyProof.Rows L2 RK
section
variable {X : Cx} {F : Fx} {e a b c tg iter : Expr} {es : List Expr} {d da db dc : TDE} {ds : TDA} {pos p : Pos} {i j l : Nat}
def enuD : Nat → List D → List D
  | _, [] => []
  | k, x :: xs => .tup [.int (k : Nat), x] :: enuD (k + 1) xs
theorem enu_len : ∀ (k : Nat) (xs : List D), (enuD k xs).length = xs.length
  | _, [] => rfl
  | k, x :: xs => by rw [enuD, List.length_cons, enu_len, List.length_cons]
theorem enu_get : ∀ (k i : Nat) (xs : List D), (enuD k xs)[i]? = xs[i]?.map fun x => .tup [.int ((k + i : Nat) : Int), x]
  | k, i, [] => by simp [enuD]
  | k, 0, x :: xs => rfl
  | k, i + 1, x :: xs => by
    rw [enuD, List.getElem?_cons_succ, enu_get (k + 1) i xs, List.getElem?_cons_succ]
    have : k + 1 + i = k + (i + 1) := by omega
    rw [this]
def iEnu (d : TDE) : TDI := fun env P => (d env fun x => ob (lstD x) fun xs => P (enuD 0 xs)) ∨ (d env fun x => ob (tupD x) fun xs => P (enuD 0 xs))
theorem enu_new {N' : Addr → Prop} {H' H2 : Hp} {T : Addr} {v : V} {x : D} {i : Nat} (al : ∀ a, N' a → ∃ o, H' a = some o) (hT : H' T = none) (h2 : H2 = upd H' T (.tup [.int (i : Nat), v])) (dv : Dd F.K N' F.W H' v x) :
    Stn H' H2 ∧ Dd F.K N' F.W H2 (.ref T) (.tup [.int (i : Nat), x]) := by
  subst h2
  have kp : ∀ a o, H' a = some o → upd H' T (.tup [.int (i : Nat), v]) a = some o := fun a o h => by rw [upd_ne (ne_of_none h hT)]; exact h
  refine ⟨.new hT True.intro, .tup upd_same (fun z => ?_) (.cons (.int _) (.cons (dv.keep (fun a u _ h => kp a u h) fun _ z => z) .nil))⟩
  obtain ⟨o, ho⟩ := al T z
  rw [hT] at ho
  cases ho
theorem it_enuL {Rel : (Addr → Prop) → Hp → Prop} {t : Addr} {vs : List V} {xs : List D} (h : ∀ N' H', Rel N' H' → H' t = some (.lst vs) ∧ DdAll F.K N' F.W H' vs xs) : ItOk F Rel (Ite F.K t) (enuD 0 xs) := fun N' H' r al i => by
  obtain ⟨h1, h2⟩ := h N' H' r
  refine ⟨fun hi => ⟨vs, SqL.of h1, by rw [h2.len, ← enu_len 0 xs]; exact Nat.le_of_eq hi⟩, fun x hx => ?_⟩
  rw [enu_get, Nat.zero_add] at hx
  obtain ⟨y, hy, rfl⟩ := Option.map_eq_some_iff.mp hx
  obtain ⟨v, hv, dv⟩ := h2.get hy
  refine ⟨⟨vs, v, SqL.of h1, hv⟩, fun w H2 hy => ?_⟩
  obtain ⟨T, z, rfl, hT, h2', hz⟩ := hy
  have := hz vs (SqL.of h1)
  rw [hv] at this
  cases this
  exact enu_new al hT h2' dv
theorem it_enuT {Rel : (Addr → Prop) → Hp → Prop} {t : Addr} {vs : List V} {xs : List D} (h : ∀ N' H', Rel N' H' → SqT F.K H' t vs ∧ DdAll F.K N' F.W H' vs xs) : ItOk F Rel (IteT F.K t) (enuD 0 xs) := fun N' H' r al i => by
  obtain ⟨h1, h2⟩ := h N' H' r
  refine ⟨fun hi => ⟨vs, h1, by rw [h2.len, ← enu_len 0 xs]; exact hi⟩, fun x hx => ?_⟩
  rw [enu_get, Nat.zero_add] at hx
  obtain ⟨y, hy, rfl⟩ := Option.map_eq_some_iff.mp hx
  obtain ⟨v, hv, dv⟩ := h2.get hy
  refine ⟨⟨vs, v, h1, hv⟩, fun w H2 hy => ?_⟩
  obtain ⟨T, z, rfl, hT, h2', hz⟩ := hy
  have := hz vs h1
  rw [hv] at this
  cases this
  exact enu_new al hT h2' dv
theorem di_enum {elts : List Expr} {kk : Nat} {tpos : Pos} (hg : Gl X "enumerate") (hm : X.mg "enumerate" = none) (he : PE X e (lC F d)) (hs : starEach [e] X.env = [(false, eval e X.env)] := by rfl) (hs2 : starEach [e] X.env = (false, eval e X.env) :: starEach [] X.env := by rfl) (hK : F.K = X.K := by rfl) :
    PI X (.Tuple elts kk tpos) (.Call (.Name "enumerate" p) [e] [] pos) (lI F (iEnu d)) := PI.mono (PI.or (pi_enum hg hm (pa_cons he pa_nil hs2) hs) (pi_enumT hg hm (pa_cons he pa_nil hs2) hs)) fun σ H R ⟨env, L, P, A, pp, q⟩ => by
  rw [← hK]
  rcases pp with pp | pp
  · refine .inl ⟨env, L, _, A, pp, fun x v H1 px k1 o1 d1 => ?_⟩
    obtain ⟨xs, e, px⟩ := ob_elim px
    have := lstD_e e
    subst this
    obtain ⟨t, vs, rfl, h1, h2, h3⟩ := dd_lstE d1
    exact ⟨t, vs, rfl, SqL.of h1, q _ _ H1 px k1 o1 (it_enuL fun N' H' r => ⟨(r t _ h2 h1).2, h3.pres r⟩)⟩
  · refine .inr ⟨env, L, _, A, pp, fun x v H1 px k1 o1 d1 => ?_⟩
    obtain ⟨xs, e, px⟩ := ob_elim px
    obtain ⟨t, vs, rfl, h1, h2⟩ := seqT_keep (N' := fun _ => False) (H' := H1) e d1
    exact ⟨t, vs, rfl, h1, q _ _ H1 px k1 o1 (it_enuT fun N' H' r => h2 N' H' r)⟩
theorem db_enum {elts : List Expr} {kk : Nat} {tpos : Pos} (hg : Gl X "enumerate") (hm : X.mg "enumerate" = none) (he : PE X e (lB F d)) (hs : starEach [e] X.env = [(false, eval e X.env)] := by rfl) (hs2 : starEach [e] X.env = (false, eval e X.env) :: starEach [] X.env := by rfl) (hK : F.K = X.K := by rfl) :
    PI X (.Tuple elts kk tpos) (.Call (.Name "enumerate" p) [e] [] pos) (lIb F (iEnu d)) := PI.mono (PI.or (pi_enum hg hm (pa_cons he pa_nil hs2) hs) (pi_enumT hg hm (pa_cons he pa_nil hs2) hs)) fun σ H R ⟨env, L, P, A, pp, q⟩ => by
  rw [← hK]
  rcases pp with pp | pp
  · refine .inl ⟨env, L, _, A, pp, fun x v H1 px k1 o1 d1 => ?_⟩
    obtain ⟨xs, e, px⟩ := ob_elim px
    have := lstD_e e
    subst this
    obtain ⟨t, vs, rfl, h1, h2, h3⟩ := bw_lstO (A.step k1 o1) d1
    exact ⟨t, vs, rfl, SqL.of h1, q _ _ H1 px k1 o1 (it_enuL fun N' H' r => ⟨(r t _ h2 h1).2, h3.pres (relK_p (A.step k1 o1) r)⟩)⟩
  · refine .inr ⟨env, L, _, A, pp, fun x v H1 px k1 o1 d1 => ?_⟩
    obtain ⟨xs, e, px⟩ := ob_elim px
    obtain ⟨t, vs, rfl, h1, h2⟩ := seqT_keep (N' := fun _ => False) (H' := H1) e (bw_tupC e d1)
    exact ⟨t, vs, rfl, h1, q _ _ H1 px k1 o1 (it_enuT fun N' H' r => h2 N' H' (relK_p (A.step k1 o1) r))⟩
abbrev SP := Str × Str
def pairD (p : SP) : D := .tup [.str p.1, .str p.2]
end
end DL
namespace DL
open PySem PySem.Spec PyProof.Rows L2 RK
section
variable {X : Cx} {F : Fx} {e a b c tg iter : Expr} {es : List Expr} {d da db dc : TDE} {ds : TDA} {pos p : Pos} {i j l : Nat}
end
end DL
namespace DL
open PySem PySem.Spec PyProof.Rows L2 RK
section
variable {X : Cx} {F : Fx} {e o a b : Expr} {d : TDE} {pos apos cpos : Pos} {i : Nat}
end
end DL
namespace DL
open PySem PySem.Spec PyProof.Rows L2 RK
section
variable {X : Cx}
abbrev oneGen (tg iter : Expr) (ifs : List Expr) : List Comprehension := [⟨tg, iter, ifs, 0⟩]
theorem ps_setDc {i : Nat} {x : Str} {px ps cp : Pos} {kx vx tg iter : Expr} {ifs : List Expr} {sco : Scope} {own : List (Str × Nat)} {wi : TI} {g : TG} {tt : TT} {tk tv : TE} (calm : X.calm = true) (nd : X.N.Nodup) (at_ : X.N[i]? = some x) (loc : X.env.scope.names.lookup x = some .local)
    (sw : swapsWith (.DictComp kx vx (oneGen tg iter ifs) sco cp) (some (.Name x px)) ps.line X.env = pure true) (pi : PI X tg iter wi) (blk : BlkOk X.N X.env.scope sco own)
    (pg : ∀ (s : Shared) (H : Hp) (C : Addr) (cl : List (Str × Addr)) (fp : List Addr), PG (X.blk s H sco (compEnvC sco cl C X.env) fp) tg g)
    (pt : ∀ (s : Shared) (H : Hp) (C : Addr) (cl : List (Str × Addr)) (fp : List Addr), PTs (X.blk s H sco (compEnvC sco cl C X.env) fp) ifs tt)
    (pk : ∀ (s : Shared) (H : Hp) (C : Addr) (cl : List (Str × Addr)) (fp : List Addr), PE (X.blk s H sco (compEnvC sco cl C X.env) fp) kx tk)
    (pv : ∀ (s : Shared) (H : Hp) (C : Addr) (cl : List (Str × Addr)) (fp : List Addr), PE (X.blk s H sco (compEnvC sco cl C X.env) fp) vx tv) (fs : ∀ z, foldedSetIterable iter X.env z = pure z := by intro _; rfl) :
    PS X (.Assign [.Name x px] (.DictComp kx vx (oneGen tg iter ifs) sco cp) ps) (tAsg (tDc wi g tt tk tv (own.map (·.2))) (gName i)) := ⟨fun pins s σ H D I h => by
  rw [exec_Assign_Name_used _ _ _ _ sw]
  refine wpAny_bind (wpAny_standAt (wpAny_bind ?_))
  show wpAny _ X.A (do let _ ← comprehension (.DictComp kx vx (oneGen tg iter ifs) sco cp) sco X.env (firstIterPos (oneGen tg iter ifs) cp) newDict false (eval iter X.env) (some (assign (.Name x px) X.env))) _ _ s
  have q0 : tDc wi g tt tk tv (own.map (·.2)) σ H fun v H1 => gName i v σ H1 D.nx := h
  refine wpAny_bind (thn (dc_core (Qf := fun _ s' => L2.SP X pins D .next s') calm nd I pi blk pg pt pk pv fs q0 fun Dn C s1 m H1 I1 q1 ns fp => ?_) fun _ s1 q1 => wpAny_pure (wpAny_pure q1))
  show wpAny _ _ (assign (.Name x px) X.env (.ref Dn)) _ _ _
  refine wpAny_assign_Name (store_ok2 (v := V.ref Dn) I1 nd at_ (.inl loc) rfl (fun s2 I2 st => ?_) (.inr loc))
  obtain ⟨c, sb, hc⟩ := st
  have ne : C ≠ c := by
    rcases hc with z | z
    · rw [z]; exact fp.2.1
    · exact fun e => fp.2.2.2.2.1 x c z e.symm
  exact ⟨m, ns.sameBut sb ne, fun h3 sb3 => ⟨_, H1, I2.turned (t' := s2.toks) (fun b o hb e => (sb3.2 b hb).trans e) fp.1 fp.2.1 fp.2.2.2.1 fp.2.2.2.2.1 fp.2.2.2.2.2, q1⟩⟩⟩
theorem swD_true {kx vx : Expr} {gs : List Comprehension} {sco : Scope} {cp px : Pos} {x : Str} {l : Nat} {env : Env} (fn : env.scope.kind = .function) (loc : env.scope.names.lookup x = some .local) (ln : (px.line == cp.line) = true)
    (no : (sco.names.any fun (n, k) => n == x && (k == .local || k == .cell)) = false) : swapsWith (.DictComp kx vx gs sco cp) (some (.Name x px)) l env = pure true := by
  have k1 : env.kindOf x = some .local := loc
  have k2 : env.blockKind = .function := by
    unfold Env.blockKind
    rw [fn]
    rfl
  unfold swapsWith
  simp only [k2, k1, no, Expr.pos, ln]
  rfl
end
end DL
namespace DL
open PySem PySem.Spec PyProof.Rows L2 RK
section
variable {X : Cx} {F : Fx} {e a b c o : Expr} {es : List Expr} {d da db dc : TDE} {ds : TDA} {pos p apos : Pos}
end
end DL
namespace DL
open PySem PySem.Spec PyProof.Rows L2 RK
section
variable {X : Cx} {F : Fx} {e a b c o : Expr} {es : List Expr} {d da db dc : TDE} {ds : TDA} {pos p apos : Pos}
end
section
variable {X : Cx} {F : Fx} {e : Expr} {d : TDE} {pos p : Pos} {k : Nat}
end
end DL
namespace RK
open PySem PySem.Spec PyProof.Rows L2
def metK (val : Nat → Key) (i : Nat) (k : Key) : Bool := (List.range i).any fun j => decide (val j = k)
def cntK (val : Nat → Key) : Nat → Nat
  | 0 => 0
  | i + 1 => if metK val i (val i) = true then cntK val i else cntK val i + 1
theorem cntK_le (val : Nat → Key) : ∀ i, cntK val i ≤ i
  | 0 => Nat.le_refl _
  | i + 1 => by
    have := cntK_le val i
    rw [cntK]
    split <;> omega
theorem metK_succ (val : Nat → Key) (i : Nat) (k : Key) : metK val (i + 1) k = (metK val i k || decide (k = val i)) := by
  unfold metK
  rw [List.range_succ, List.any_append, List.any_cons, List.any_nil, Bool.or_false]
  congr 1
  exact decide_eq_decide.mpr eq_comm
section
variable {prog : Program} {w : World} {A : Around} {R : Result → Shared → Prop} {I S : Addr} {fp wr : List Addr} {G : Array GenState → Array GenState → Prop} {n : Nat} {P : Nat → Value → Prop} {St : Nat → Shared → Prop}
theorem keep_set {h z : Heap} {S' : Key → Bool} {c : Nat} (q : h.SetOf (mixKind prog w) S S' c) (k : ∀ o, h.get? S = some o → z.get? S = some o) : z.SetOf (mixKind prog w) S S' c := by
  obtain ⟨o, es, ep, t, ho, r⟩ := q
  exact ⟨o, es, ep, t, k o ho, r⟩
theorem set_go (W : WalksS prog w A.in1 I fp wr G n P St) (out : S ∉ fp) {val : Nat → Key} (hv : ∀ i v, P i v → (mixKind prog w).is (val i) v = true ∧ v.scannable = true) (room : n + 1 < scanBound) :
    ∀ (m i : Nat) (s : Shared), n = i + m → St i s → s.heap.SetOf (mixKind prog w) S (metK val i) (cntK val i) → (∀ z, Moved (S :: wr) G s z → z.heap.SetOf (mixKind prog w) S (metK val n) (cntK val n) → R (.ok (.ret .none)) z) →
      codeAny (model prog w) A (.builtin "set.update.loop" ⟨[.ref S, .ref I], []⟩) R s := by
  have nw : S ∉ wr := fun z => out (W.sub _ z)
  have up : ∀ b ∈ wr, b ∈ S :: wr := fun b z => List.mem_cons_of_mem _ z
  intro m
  induction m with
  | zero =>
    intro i s e st q fin
    have e : n = i := by omega
    subst e
    refine codeAny_builtin (by exact F.entry_set_update_loop) ?_
    rw [Around.under_plainId (by exact F.plain_set_update_loop)]
    refine wpAny_bind (W.done s _ _ st fun z mv => wpAny_pure (fin z (mv.mono up) (keep_set q fun o ho => mv.heap S _ nw ho)))
  | succ m go =>
    intro i s e st q fin
    refine codeAny_builtin (by exact F.entry_set_update_loop) ?_
    rw [Around.under_plainId (by exact F.plain_set_update_loop)]
    refine wpAny_bind (W.item i s _ _ (by omega) st fun v z hP st2 mv => ?_)
    obtain ⟨hk, hs⟩ := hv i v hP
    have q2 := keep_set q (z := z.heap) fun o ho => mv.heap S _ nw ho
    refine wpAny_bind (wpAny_holding ?_)
    unfold setAdd
    refine wpAny_holding (wpAny_bind ((mixKind prog w).pyHash hk ?_))
    refine wpAny_setAddHashed_of (s := { z with toks := z.toks + 1 }) hk hs q2 (by have := cntK_le val i; omega) fun g sb q3 => ?_
    have q4 : g.SetOf (mixKind prog w) S (metK val (i + 1)) (cntK val (i + 1)) := by
      have e1 : (fun k => metK val i k || decide (k = val i)) = metK val (i + 1) := funext fun k => (metK_succ val i k).symm
      rw [e1] at q3
      rw [cntK]
      exact q3
    refine wpAny_pure ⟨plainId_quiet (by exact F.plain_set_update_loop) _, go (i + 1) _ (by omega) (W.frame _ z _ _ st2 (Nat.le_succ _) fun b hb o eb => ?_) q4 fun y my qy => fin y ?_ qy⟩
    · rw [sb.2 b fun x => out (x ▸ hb)]
      exact eb
    · refine Moved.trans W.gtrans ((mv.mono up).then_heap (Nat.le_succ _) fun b o hb eb => ?_) my
      rw [sb.2 b fun x => hb (x ▸ List.mem_cons_self)]
      exact eb
end
section
variable {prog : Program} {w : World} {A : Around} {E : Value → Shared → Prop} {s : Shared}
def newSet (led : Bool) : Obj := { cls := .type "set", dict := none, data := .set #[] 0 (.fresh 0 0 led) }
theorem set_made {x : Value} {Q : Value → Shared → Prop} (K : Shared → Prop) (fin : ∀ z, K z → Q (.ref s.heap.objs.size) z)
    (go : ∀ led : Bool, wpAny (model prog w) A.in1.in1 (Builtin.«set.__init__» ⟨[.ref s.heap.objs.size, x], []⟩) (fun f z => match f with | .done f => wants (fun r y => r = Value.none ∧ K y) E (.ok f) z | .again c => c.quiet = true ∧ codeAny (model prog w) A.in1 c (wants (fun r y => r = Value.none ∧ K y) E) z) (fun e z => wants (fun r y => r = Value.none ∧ K y) E (.error e) z) { s with heap := s.heap.push (newSet led) }) :
    wpAny (model prog w) A (call (.type "set") [x]) Q E s := by
  have a1 := PySem.F.called_set.made
  have a2 := PySem.F.called_set.sub
  obtain ⟨c, tl, a3⟩ := PySem.F.called_set.mro
  refine wpAny_call (codeAny_of_tree (wpAny_pure ⟨Code.quiet_builtin _ (by decide +kernel), codeAny_builtin (by exact PySem.F.entry_type_call) ?_⟩))
  rw [Around.under_plain (weight_type_call_type "set" [x] []) rfl]
  have a4 := PySem.F.called_set.notType
  have a5 := PySem.F.called_set.canCreate
  have a6 := PySem.F.typeCall_set_1 x
  repeat (any_goals (first | assumption | wp_step))
  refine codeAny_mono (code_set_new_1 x (E := E) (Q₁ := fun v z => v = .ref s.heap.objs.size ∧ ∃ led : Bool, z = { s with heap := s.heap.push (newSet led) }) fun led => ⟨rfl, led, rfl⟩) fun r z hr => ?_
  cases r with
  | error e => exact hr
  | ok f =>
    cases f with
    | ret v =>
      obtain ⟨rfl, led, rfl⟩ := hr
      have b1 : (s.heap.push (newSet led)).get? s.heap.objs.size = some (newSet led) := Heap.get?_push_size _ rfl
      have b2 : Shared.TypeIs { s with heap := s.heap.push (newSet led) } (.ref s.heap.objs.size) "set" := ⟨_, b1, rfl⟩
      have b3 := PySem.F.called_set.init.lookup
      have b4 := PySem.F.called_set.init.bind (.ref s.heap.objs.size)
      repeat (any_goals (first | assumption | wp_step))
      refine codeAny_mono (codeAny_call_builtin (R := wants (fun r y => r = .none ∧ K y) E) PySem.F.called_set.init.plain PySem.F.entry_set_init (check_set_init_1 b2 ?_)) fun r y hy => ?_
      · exact go led
      · cases r with
        | error e => exact hy
        | ok f =>
          cases f with
          | ret v =>
            obtain ⟨rfl, ky⟩ := hy
            repeat (any_goals (first | assumption | wp_step))
            exact fin _ ky
          | _ => exact hy.elim
    | _ => exact hr.elim
def SetMade (prog : Program) (w : World) (s : Shared) (val : Nat → Key) (n : Nat) (z : Shared) : Prop :=
  ∃ g tk, z = { s with heap := g, toks := tk } ∧ g.SetOf (mixKind prog w) s.heap.objs.size (metK val n) (cntK val n) ∧ ∀ b o, s.heap.get? b = some o → g.get? b = some o
theorem fresh_set (led : Bool) {h : Heap} {a : Addr} (q : h.get? a = some (newSet led)) (val : Nat → Key) : h.SetOf (mixKind prog w) a (metK val 0) (cntK val 0) := by
  exact ⟨_, #[], 0, _, q, ⟨rfl, rfl, rfl⟩, rfl, fun e he => (by simp at he), fun k => (by simp [metK]), (by decide), (by rfl), rfl⟩
theorem set_end {wr : List Addr} {val : Nat → Key} {n : Nat} {led : Bool} {ob : Obj} {z : Shared} (mv : Moved (s.heap.objs.size :: [(s.heap.push (newSet led)).objs.size]) (fun a b => b = a) { s with heap := (s.heap.push (newSet led)).push ob } z) (q : z.heap.SetOf (mixKind prog w) s.heap.objs.size (metK val n) (cntK val n)) : SetMade prog w s val n z := by
  obtain ⟨g, a, b, c, d⟩ := z
  obtain rfl : a = s.gens := mv.gens
  obtain rfl : b = s.drawn := mv.drawn
  obtain rfl : d = s.os := mv.os
  refine ⟨g, c, rfl, q, fun x o e => mv.heap x o (fun hx => ?_) (Heap.get?_push_of_some _ (Heap.get?_push_of_some _ e))⟩
  have lt := Heap.lt_size e
  rw [Heap.size_push] at hx
  simp only [List.mem_cons, List.not_mem_nil, or_false] at hx
  rcases hx with hx | hx
  · exact absurd lt (hx ▸ Nat.lt_irrefl _)
  · exact absurd lt (hx ▸ Nat.not_lt.mpr (Nat.le_succ _))
theorem apart (led : Bool) {l : Addr} (lt : l < s.heap.objs.size) : s.heap.objs.size ∉ [(s.heap.push (newSet led)).objs.size, l] := fun z => by
  rw [Heap.size_push] at z
  rcases List.mem_cons.mp z with z | z
  · exact Nat.ne_of_lt (Nat.lt_succ_self _) z
  · exact Nat.ne_of_gt lt (List.mem_singleton.mp z)
theorem set_list {l : Addr} {items : Array Value} {val : Nat → Key} {Q : Value → Shared → Prop} (hh : A.handled = none) (hl : s.heap.IsList l items) (hv : ∀ i v, items[i]? = some v → (mixKind prog w).is (val i) v = true ∧ v.scannable = true) (room : items.size + 1 < scanBound)
    (h : ∀ z, SetMade prog w s val items.size z → Q (.ref s.heap.objs.size) z) : wpAny (model prog w) A (call (.type "set") [.ref l]) Q E s := by
  refine set_made (SetMade prog w s val items.size) h fun led => ?_
  obtain ⟨⟨k1, k2, k3, k4⟩, c1, c2, c4, c5⟩ := hl
  simp only at c2 c5
  subst c2 c5
  have d1 : (s.heap.push (newSet led)).get? l = some { cls := .type "list", dict := k2, data := .seq items c4, slots := k4 } := Heap.get?_push_of_some _ c1
  have d2 := PySem.F.sub_list_set
  have d3 := PySem.F.sub_list_frozenset
  have d4 : (Value.type "list" == Value.type "dict") = false := by decide
  have d5 : (s.heap.push (newSet led)).IsList l items := ⟨_, d1, rfl, c4, rfl⟩
  unfold Builtin.«set.__init__» noKeywords Builtin.Frozenset.updateFrom
  generalize hPI : pyIter = PI
  wp_walk
  subst hPI
  have lt : l < s.heap.objs.size := Heap.lt_size c1
  refine wpAny_pyIter_list d5 (wpAny_bind (wpAny_runValue (set_go ((Walks.list (by simp [hh]) _ l (by rw [Heap.size_push]; exact Nat.ne_of_lt (Nat.lt_succ_of_lt lt)) items).toS) (apart led lt) hv room items.size 0 _ (by omega) ⟨⟨_, Heap.get?_push_size _ rfl, rfl, rfl⟩, d5.push _⟩ ?_ fun z mv q => ?_)))
  · exact fresh_set led (Heap.get?_push_of_some _ (Heap.get?_push_size _ rfl)) val
  · exact wpAny_pure (wpAny_pure ⟨rfl, set_end (wr := []) mv q⟩)
end
end RK
namespace PySem
namespace SplatX
open PySem.Spec PyProof.Rows
section
variable {prog : Program} {w : World} {K : Type} [DecidableEq K] {knd : KeyKind prog w K} {A : Around} {E : Value → Shared → Prop} {s : Shared}
end
end SplatX
end PySem
namespace RK
open PySem PySem.Spec PyProof.Rows L2
end RK
namespace DL
open PySem PySem.Spec PyProof.Rows L2 RK
section
variable {X : Cx} {F : Fx} {e a b c e1 e2 k0 : Expr} {es : List Expr} {d da db dc d1 d2 dk : TDE} {ds : TDA} {pos p p2 q0 : Pos}
end
end DL
namespace DL
open PySem PySem.Spec PyProof.Rows L2 RK
section
variable {X : Cx} {F : Fx}
end
end DL
namespace DL
open PySem PySem.Spec PyProof.Rows L2 RK
section
variable {X : Cx} {F : Fx} {e : Expr} {d : TDE} {pos p : Pos}
end
end DL
namespace DL
open PySem PySem.Spec PyProof.Rows L2 RK
section
variable {X : Cx} {F : Fx} {e a b : Expr} {d da db : TDE} {pos p : Pos}
end
end DL
namespace DL
open PySem PySem.Spec PyProof.Rows L2 RK
section
variable {X : Cx} {F : Fx} {a b : Expr} {da db : TDE} {pos : Pos}
end
end DL
namespace RK
open PySem PySem.Spec PyProof.Rows L2
def FnAt (P : Program) (w : World) (K : PySem.W.Frag) (mg : Str → Option Value) (base : Heap) (CX : CXT) (A : Around) (f : Addr) (fd : FuncData) (ps : List Str) (sp : Sp) : Prop :=
  ∀ (outer : List Env) (s : Shared) (H : Hp) (args : Args) (us : List Value) (vs : List V) (Q : VK) (E : XK), Env0 P w K mg base A outer s H → BindsTo s fd args (ps.zip us) → Vals vs us → sp vs H Q E → codeAny (model P w) A (.call (.ref f) args) (CR CX outer P w H s Q E) s
variable {P : Program} {w : World} {K : PySem.W.Frag} {mg : Str → Option Value} {base : Heap}
theorem fn_at {CX : CXT} {k : Nat} {f : Addr} {name qual : Str} {params : Arguments} {body : List Stmt} {scope : Scope} {dV kV doc pm cdv ct oc : Value} {an od : Option Addr} {osl : Array (Option Value)} {N ps : List Str} {sp : Sp} {A : Around} (hr : Room (k + 1) A)
    (lk : K.lookup f = some ⟨oc, od, .func (PySem.W.fnOf name qual params body scope dV kV doc pm an cdv ct), osl⟩) (hcd : PySem.W.codeIn K cdv qual = true) (S : FnScope N ps scope) (len : ∀ vs H Q E, sp vs H Q E → vs.length = ps.length)
    (hbody : ∀ (outer : List Env) (s : Shared) (H : Hp) (vs : List V) (Q : VK) (E : XK), sp vs H Q E → ∃ t, PSs (cxOf CX P w K mg base N qual scope f cdv A outer s H E) body t ∧ t { nx := fun _ H' => Q .non H', rt := Q } (start N vs) H) :
    FnAt P w K mg base CX A f (PySem.W.fnOf name qual params body scope dV kV doc pm an cdv ct) ps sp := by
  intro outer s H args us vs Q E e0 hb rv hsp
  have KX : K.In s.heap := e0.mod.kin.keeps fun b o e => (e0.bs b o e).1
  have nl : s.heap.NoLimit := e0.mod.nolimit.keeps fun b o e => (e0.bs b o e).1
  have kinds : ∀ y ∈ ps.zip us, scope.names.lookup y.1 = some .local ∨ (scope.names.lookup y.1 = some .cell ∧ ((cellsFrom (s.heap.objs.size + 1) scope.names []).lookup y.1).isSome = true) := by
    rintro ⟨n, v⟩ hy
    exact (S.par n (List.of_mem_zip hy).1).imp id fun q => ⟨q, PySem.W.cellsFrom_some _ _ _ (.inl q)⟩
  refine codeAny_call_function hr.depth (KX _ _ lk) rfl S.co S.gen rfl (PySem.W.codeRec_of KX hcd) (hb _ _ _ _ (wpAny_newFunctionEnv_cells S.kind kinds fun env he s1 x => ?_))
  cases he
  obtain ⟨t, ht, hq⟩ := hbody outer s H vs Q E hsp
  refine ⟨nl.keeps x.toInCall.keep, codeAny_func (wpAny_mono (ht.run [] s1 (start N vs) H _ (inv_start S hr.hd e0 (len _ _ _ _ hsp) rv x) hq) (fun fl s' hs => ?_) fun e s' hs => hs)⟩
  cases fl with
  | ret u => exact (let ⟨v, _, H', J, rv, q⟩ := hs; ⟨v, H', J.os, J.bare, J.base, J.hok, rv, q⟩)
  | next => exact (let ⟨_, H', J, q⟩ := hs; ⟨V.non, H', J.os, J.bare, J.base, J.hok, rfl, q⟩)
  | brk => exact (let ⟨_, _, _, q⟩ := hs; False.elim q)
  | cont => exact (let ⟨_, _, _, q⟩ := hs; False.elim q)
end RK
namespace DL
open PySem PySem.Spec PyProof.Rows L2 RK
section
variable {X : Cx} {F : Fx} {e : Expr} {d : TDE} {pos p : Pos}
end
end DL
namespace RK
open PySem PySem.Calls PyProof.Rows PyProof.V PySem.Spec PySem.W
section
variable {prog : Program} {w : World} {K : Type} [DecidableEq K] {knd : KeyKind prog w K} {A : Around} {E : Value → Shared → Prop} {s : Shared}
end
end RK
namespace DL
open PySem PySem.Spec PyProof.Rows L2 RK
section
variable {X : Cx} {F : Fx} {e a b : Expr} {d da db : TDE} {pos p : Pos}
end
end DL
namespace RK
open PySem PySem.Spec PyProof.Rows L2
inductive TestOk (X : Cx) : Expr → List Value → Prop
  | one {x : Str} {c : Value} {np : Pos} (hc : L2.Names X x c) : TestOk X (.Name x np) [c]
  | two {x1 x2 : Str} {c1 c2 : Value} {p1 p2 tp : Pos} {kk : Nat} (h1 : L2.Names X x1 c1) (h2 : L2.Names X x2 c2) : TestOk X (.Tuple [.Name x1 p1, .Name x2 p2] kk tp) [c1, c2]
def wManyAs (K : PySem.W.Frag) (Wout : WX) (D : Ends) (i : Nat) : List (List Value × (Addr → Value → Option Addr → TS)) → WX
  | [] => Wout
  | (cs, ts) :: r => fun cls d σ H => ∃ b, PySem.W.exmAny K cls cs = some b ∧
      (b = true → ∀ a, H a = none → i < σ.length → ts a cls d { nx := fun σ' H' => D.nx (σ'.set i none) H', rt := D.rt, bk := fun σ' H' => D.bk (σ'.set i none) H', ct := fun σ' H' => D.ct (σ'.set i none) H' } (σ.set i (some (.ref a))) H) ∧
      (b = false → wManyAs K Wout D i r cls d σ H)
inductive HdsAs (X : Cx) (n : Str) : List ExceptHandler → List (List Value × (Addr → Value → Option Addr → TS)) → Prop
  | nil : HdsAs X n [] []
  | cons {te : Expr} {cs : List Value} {ts : Addr → Value → Option Addr → TS} {b₀ : Stmt} {suite : List Stmt} {pos' : Pos} {hds : List ExceptHandler} {l : List (List Value × (Addr → Value → Option Addr → TS))} (hc : TestOk X te cs)
      (hsu : ∀ (a : Addr) (oe : Obj) (cls : Value) (d : Option Addr) (pn : List (Addr × Obj)), Zc cls d oe → (∃ vs, oe.data = .fields vs) → PSs (X.suite a ((a, oe) :: pn)) (b₀ :: suite) (ts a cls d)) (r : HdsAs X n hds l) :
      HdsAs X n (.ExceptHandler (some te) (some n) (b₀ :: suite) pos' :: hds) ((cs, ts) :: l)
theorem flying_push {B h : Heap} {l : List Env} {a : Addr} {Z : Obj → Prop} (x : HandSPX.FlyingZ B l a Z h) (o : Obj) : HandSPX.FlyingZ B l a Z (h.push o) := by
  obtain ⟨k1, k2, k3, oe, vs, T, oT, ts', he, hz, hd, h1, h2, h3, h4, h5⟩ := x
  exact ⟨fun b o e => Heap.get?_push_of_some _ (k1 b o e), k2, k3.of_keeps fun b o e _ => ⟨o, Heap.get?_push_of_some _ e, rfl⟩, oe, vs, T, oT, ts', Heap.get?_push_of_some _ he, hz, hd, h1, h2, h3, Heap.get?_push_of_some _ h4, h5⟩
section
variable {X : Cx} {n : Str} {i : Nat} {body : List Stmt} {h₀ : ExceptHandler} {hds : List ExceptHandler} {l : List (List Value × (Addr → Value → Option Addr → TS))} {pos : Pos} {tb : WX → TS} {Wout : WX}
theorem ps_try_manyAs (hs : X.stack = X.env :: X.outer) (hf : X.env.frame = some X.env.locals) (hN : X.N.Nodup) (hi : X.N[i]? = some n) (hln : X.env.kindOf n = some .local) (tk : Takes X Wout)
    (hb : ∀ (W : WX) (pn : List (Addr × Obj)) (xe : Value → Shared → Prop), Takes (X.tr pn xe) W → PassesOwn (model X.prog X.w) X.A X.env xe → PSs (X.tr pn xe) body (tb W))
    (hh : HdsAs X n (h₀ :: hds) l) : PS X (.Try body (h₀ :: hds) [] [] pos) (fun D σ H => tb (wManyAs X.K Wout D i l) D σ H) := by
  refine ⟨fun pins s σ H D I h => ?_⟩
  have ok := I.ok
  have hfr : X.A.frames = some (X.env :: X.outer) := by rw [ok.frames, hs]
  have hloc : Loc X.env.scope n := .inl hln
  refine wpAny_Try_except ?_
  refine wpAny_mono ((hb (wManyAs X.K Wout D i l) (X.pn ++ pins) (fun e s₁ => wpAny (model X.prog X.w) X.A (noteFrame e X.env) (fun _ s₂ => wpAny (model X.prog X.w) X.A (setFlight e none) (fun _ s₃ =>
    wpAny (model X.prog X.w) X.A (handleBy e X.env (h₀ :: hds)) (SP X pins D) X.xe s₃) X.xe s₂) X.xe s₁) (fun u s' xx => ?_) PassesOwn.looking).run [] s σ H D (I.toTry _) h) (fun f s1 hsp => ?_) (fun e s1 he => he)
  · -- the catch
    obtain ⟨a, B, sI, pins', σ', H', cls, d, rfl, J', nb, up, sky, na, os, ag, w⟩ := xx
    have J : Inv X pins σ' H' sI := J'.ofTry ok
    have sky' : Sky B (X.env :: X.outer) a (Zc cls d) X.env.locals s'.heap := by rw [← hs]; exact sky
    show wpAny (model X.prog X.w) X.A (noteFrame (.ref a) X.env) _ _ _
    refine Sky.land Zc.steady hfr hf sky' fun h3 fl3 up3 => ?_
    have notFr : ∀ {h : Heap} {o : Obj} {vs : Array Value}, h.FunFrames B (X.env :: X.outer) → h.get? a = some o → o.data = .fields vs → a ∉ frs (X.env :: X.outer) := fun {h o vs} ff e dd hm => by
      obtain ⟨_, o', e', hnf⟩ := ff.mem hm
      rw [e] at e'; cases e'
      exact hnf _ dd
    obtain ⟨oe3, vs3, he3, hz3, hd3⟩ := fl3.there
    have nfr := notFr fl3.2.2.1 he3 hd3
    have nL : a ≠ X.env.locals := fun z => nfr (List.mem_filterMap.mpr ⟨X.env, List.mem_cons_self, by rw [hf, z]⟩)
    have nF : a ∉ X.fs := fun hm => by
      obtain ⟨e, he, q⟩ := List.mem_filterMap.mp hm
      exact nfr (List.mem_filterMap.mpr ⟨e, List.mem_cons_of_mem _ he, q⟩)
    have go : ∀ {hds' : List ExceptHandler} {l' : List (List Value × (Addr → Value → Option Addr → TS))}, HdsAs X n hds' l' → ∀ (h3 : Heap), HandSPX.FlyingZ B (X.env :: X.outer) a (Zc cls d) h3 → sI.heap.UpToSlots h3 → wManyAs X.K Wout D i l' cls d σ' H' →
        wpAny (model X.prog X.w) X.A (handleBy (.ref a) X.env hds') (SP X pins D) X.xe { s' with heap := h3 } := by
      intro hds' l' hk
      induction hk with
      | nil =>
        intro h3 fl3 up3 w
        refine wpAny_handleBy_nil ?_
        obtain ⟨k1, k2, k3, oe, vs, T, oT, ts', he, hz, hd, h1, hr⟩ := id fl3
        unfold PySem.passOn
        refine wpAny_bind (wpAny_field he hd h1 ?_)
        rw [if_neg (show ¬ ((Value.ref T == Value.none) = true) from by simp)]
        have fin : wpAny (model X.prog X.w) X.A (setFlight (.ref a) X.env.frame) (fun _ s4 => wpAny (model X.prog X.w) X.A (throw (.ref a) : Sem Flow) (SP X pins D) X.xe s4) X.xe { s' with heap := h3 } := by
          rw [hf]
          refine HandSPX.setFlight_upZ fl3 fun h4 hh4 up4 => wpAny_throw (tk _ _ ?_)
          exact ⟨a, B, sI, pins, σ', H', cls, d, rfl, J, nb, up3.trans up4, .inr (.inr (by rw [hs]; exact hh4)), na, os, ag, w⟩
        first
          | exact wpAny_bind (wpAny_pure (wpAny_bind fin))
          | exact wpAny_bind fin
      | @cons te cs ts b₀ suite pos' hds2 l2 hc hsu r ih =>
        intro h3 fl3 up3 w
        obtain ⟨b, hb1, hyes, hno⟩ := w
        have J3 : Inv X pins σ' H' { s' with heap := h3 } := J.landed nb fl3.1 up3 os ag
        obtain ⟨oe3, vs3, he3, hz3, hd3⟩ := fl3.there
        have S3 := J3.suite he3 hd3 na nL nF
        refine wpAny_handleBy_cons (codeAny_handlers_test ?_) (by intro q; cases q)
        have LT : PySem.W.Looks (model X.prog X.w) h3 (typeOf (.ref a)) cls := fun A Q E s k q => wpAny_typeOf_ref (k _ _ he3) (by rw [hz3.1]; exact q)
        have test : ∀ {x : Str} {c : Value} {np : Pos} {Q : Value → Shared → Prop} {E : Value → Shared → Prop}, L2.Names X x c → Q c { s' with heap := h3 } → wpAny (model X.prog X.w) (X.A.mark (some (.ref a))) (eval (.Name x np) X.env) Q E { s' with heap := h3 } := fun {x c np Q E} hc q => by
          obtain ⟨hg, hdbg, hm | ⟨hm, hv, hnn⟩⟩ := hc
          · exact ld_glob (X := X.suite a ((a, oe3) :: (X.pn ++ pins))) S3 hg hm q hdbg
          · exact ld_blt (X := X.suite a ((a, oe3) :: (X.pn ++ pins))) S3 hg hm hv q hnn hdbg
        have behind : ∀ (h4 : Heap), HandSPX.FlyingZ B (X.env :: X.outer) a (Zc cls d) h4 → sI.heap.UpToSlots h4 →
            (match (Except.ok (if b = true then Flow.brk else Flow.next) : Result) with
              | .ok .brk => codeAny (model X.prog X.w) (X.A.mark (some (.ref a))) (.handlers (.ref a) [.ExceptHandler none (some n) (b₀ :: suite) pos'] X.env) (fun r s₂ => match r with
                  | .ok f => wpAny (model X.prog X.w) X.A (do bindName X.env n .none; unbindBehindTheSuite X.env n pos') (fun _ s₃ => SP X pins D f s₃) X.xe s₂
                  | .error x => cameBackBy (model X.prog X.w) X.A X.env X.xe x s₂) { s' with heap := h4 }
              | .ok _ => wpAny (model X.prog X.w) X.A (handleBy (.ref a) X.env hds2) (SP X pins D) X.xe { s' with heap := h4 }
              | .error x => cameBackBy (model X.prog X.w) X.A X.env X.xe x { s' with heap := h4 }) := by
          intro h4 fl4 up4
          cases b with
          | true =>
            refine codeAny_handlers_suite_as ?_
            refine HandSPX.lands_againZ fl4 fun h5 fl5 up5 => ?_
            have J5 : Inv X pins σ' H' { s' with heap := h5 } := J.landed nb fl5.1 (up4.trans up5) os ag
            obtain ⟨oe5, vs5, he5, hz5, hd5⟩ := fl5.there
            have S5 := J5.suite he5 hd5 na nL nF
            refine store_ok (X := X.suite a ((a, oe5) :: (X.pn ++ pins))) (v := .ref a) S5 hN hi hloc rfl (fun s5 S5 => ?_) (.inr hln)
            refine wpAny_mono ((hsu a oe5 cls d (X.pn ++ pins) hz5 ⟨_, hd5⟩).run [] s5 _ H' _ S5 (hyes rfl a na (by have h1 := J.len; have h2 := (List.getElem?_eq_some_iff.mp hi).1; omega))) (fun f s6 hsp => ?_) (fun _ _ z => False.elim z)
            have end_ : ∀ {σ6 : L2.St} {H6 : Hp} {Q : Shared → Prop}, Inv (X.suite a ((a, oe5) :: (X.pn ++ pins))) [] σ6 H6 s6 → (∀ s7, Inv X pins (σ6.set i none) H6 s7 → Q s7) →
                wpAny (model X.prog X.w) X.A (do bindName X.env n .none; unbindBehindTheSuite X.env n pos') (fun _ s7 => Q s7) X.xe s6 := fun {σ6 H6 Q} S6 hq => gone_ok (S6.unsuite ok) hN hi hln hq
            cases f with
            | next =>
              obtain ⟨σ6, H6, S6, q6⟩ := hsp
              exact end_ S6 fun s7 J7 => ⟨_, _, J7, q6⟩
            | brk =>
              obtain ⟨σ6, H6, S6, q6⟩ := hsp
              exact end_ S6 fun s7 J7 => ⟨_, _, J7, q6⟩
            | cont =>
              obtain ⟨σ6, H6, S6, q6⟩ := hsp
              exact end_ S6 fun s7 J7 => ⟨_, _, J7, q6⟩
            | ret u =>
              obtain ⟨v6, σ6, H6, S6, r6, q6⟩ := hsp
              exact end_ S6 fun s7 J7 => ⟨_, _, _, J7, r6, q6⟩
          | false =>
            show wpAny _ X.A (handleBy (.ref a) X.env hds2) _ _ _
            exact ih h4 fl4 up4 (hno rfl)
        cases hc with
        | @one x c np hc =>
          obtain ⟨b1, d1, e1, e2, e3⟩ := PySem.W.exmAny_cons hb1
          have e2' : some false = some d1 := e2
          cases e2'
          rw [Bool.or_false] at e3
          subst e3
          have LM := PySem.W.exm_one (M := model X.prog X.w) (J3.kIn) LT e1
          exact test hc (LM.here (behind h3 fl3 up3))
        | @two x1 x2 c1 c2 p1 p2 tp kk g1 g2 =>
          refine Tuple_ (spliced_more (test g1 (spliced_more (test g2 (spliced_none ?_)))))
          refine wpAny_newObj_type ?_
          have kp : ∀ b o, h3.get? b = some o → (h3.push { cls := .type "tuple", dict := none, data := .seq [c1, c2].toArray }).get? b = some o := fun b o e => Heap.get?_push_of_some _ e
          have hp : (h3.push { cls := .type "tuple", dict := none, data := .seq [c1, c2].toArray }).get? h3.objs.size = some { cls := .type "tuple", data := .seq [c1, c2].toArray } := Heap.get?_push_size _ rfl
          have LM := PySem.W.exm_tup2 (M := model X.prog X.w) (J3.kIn.keeps kp) (LT.keeps kp) hp hb1
          exact LM.here (behind _ (flying_push fl3 _) (up3.trans (Heap.UpToSlots.of_keeps kp)))
    exact go hh h3 fl3 (up.trans up3) w
  · cases f with
    | next =>
      obtain ⟨σ', H', J', q⟩ := hsp
      exact wpAny_execs_nil ⟨σ', H', J'.ofTry ok, q⟩
    | brk =>
      obtain ⟨σ', H', J', q⟩ := hsp
      exact ⟨σ', H', J'.ofTry ok, q⟩
    | cont =>
      obtain ⟨σ', H', J', q⟩ := hsp
      exact ⟨σ', H', J'.ofTry ok, q⟩
    | ret u =>
      obtain ⟨v, σ', H', J', r, q⟩ := hsp
      exact ⟨v, σ', H', J'.ofTry ok, r, q⟩
end
end RK
namespace RK
open PySem PySem.Spec PyProof.Rows L2 L2H
abbrev SpP := Addr × Obj → Sp
structure FnP (P : Program) (w : World) (K : PySem.W.Frag) (mg : Str → Option Value) (base : Heap) (CX : CXT) (k : Nat) (f : Addr) (fd : FuncData) (ps : List Str) (sp : SpP) : Prop where
  len : ∀ p vs H Q E, sp p vs H Q E → vs.length = ps.length
  run : ∀ (A : Around) (outer : List Env) (s : Shared) (H : Hp) (args : Args) (us : List Value) (vs : List V) (Q : VK) (E : XK) (p : Addr × Obj), RoomH k A → PinOk outer H s p → Env0 P w K mg base A outer s H → BindsTo s fd args (ps.zip us) → Vals vs us → sp p vs H Q E →
    codeAny (model P w) A (.call (.ref f) args) (CR CX outer P w H s Q E) s
theorem fn_ofP {CX : CXT} {P : Program} {w : World} {K : PySem.W.Frag} {mg : Str → Option Value} {base : Heap} {k : Nat} {f : Addr} {name qual : Str} {params : Arguments} {body : List Stmt} {scope : Scope} {dV kV doc pm cdv ct oc : Value} {an od : Option Addr}
    {osl : Array (Option Value)} {N ps : List Str} {sp : SpP} (lk : K.lookup f = some ⟨oc, od, .func (PySem.W.fnOf name qual params body scope dV kV doc pm an cdv ct), osl⟩) (hcd : PySem.W.codeIn K cdv qual = true) (S : FnScope N ps scope)
    (len : ∀ p vs H Q E, sp p vs H Q E → vs.length = ps.length)
    (hbody : ∀ (A : Around) (outer : List Env) (s : Shared) (H : Hp) (vs : List V) (Q : VK) (E : XK) (p : Addr × Obj), RoomH k (A.deeper (envOfC qual scope s.heap.objs.size f cdv)) → sp p vs H Q E →
      ∃ t, PSs (cxH CX P w K mg base N qual scope f cdv A outer s H E p) body t ∧ t { nx := fun _ H' => Q .non H', rt := Q } (L2.start N vs) H) :
    FnP P w K mg base CX (k + 1) f (PySem.W.fnOf name qual params body scope dV kV doc pm an cdv ct) ps sp := by
  refine ⟨len, fun A outer s H args us vs Q E p hr hpin e0 hb r hsp => ?_⟩
  have hl := len _ _ _ _ _ hsp
  have KX : K.In s.heap := e0.mod.kin.keeps fun b o e => (e0.bs b o e).1
  have lim : s.heap.NoLimit := e0.mod.nolimit.keeps fun b o e => (e0.bs b o e).1
  have hkind : ∀ y ∈ ps.zip us, scope.names.lookup y.1 = some .local ∨ (scope.names.lookup y.1 = some .cell ∧ ((cellsFrom (s.heap.objs.size + 1) scope.names []).lookup y.1).isSome = true) := fun ⟨n, v⟩ hy => by
    rcases S.par n (List.of_mem_zip hy).1 with q | q
    · exact .inl q
    · exact .inr ⟨q, PySem.W.cellsFrom_some _ _ _ (.inl q)⟩
  refine codeAny_call_function hr.depth (KX _ _ lk) rfl S.co S.gen rfl (PySem.W.codeRec_of KX hcd) (hb _ _ _ _ ?_)
  refine wpAny_newFunctionEnv_cells S.kind hkind fun env he s1 x => ?_
  subst he
  refine ⟨lim.keeps x.toInCall.keep, codeAny_func ?_⟩
  obtain ⟨t, ht, hq⟩ := hbody A outer s H vs Q E p (hr.deeper _) hsp
  have I : Inv (cxH CX P w K mg base N qual scope f cdv A outer s H E p) [] (L2.start N vs) H s1 := inv_startH S hpin e0 hl r x
  refine wpAny_mono (ht.run [] s1 (L2.start N vs) H _ I hq) (fun fl s' hs => ?_) fun e s' hs => hs
  have fin : ∀ {σ' : L2.St} {H' : Hp} {v : V} {u : Value}, Inv (cxH CX P w K mg base N qual scope f cdv A outer s H E p) [] σ' H' s' → RelV v u → Q v H' → CE outer P w H s Q u s' :=
    fun {σ' H' v u} J rv q => ⟨v, H', J.os, J.bare, J.base, J.hok, rv, q⟩
  cases fl with
  | ret u =>
    obtain ⟨v, σ', H', J, rv, q⟩ := hs
    exact fin J rv q
  | next =>
    obtain ⟨σ', H', J, q⟩ := hs
    exact fin (v := V.non) (u := Value.none) J rfl q
  | brk =>
    obtain ⟨_, _, _, q⟩ := hs
    exact False.elim q
  | cont =>
    obtain ⟨_, _, _, q⟩ := hs
    exact False.elim q
section
variable {X : Cx} {CX : CXT} {k : Nat} {f C : Addr} {fd : FuncData} {ps : List Str} {sp : SpP} {E : XK} {x m : Str} {q pos apos : Pos} {e o : Expr} {es : List Expr} {ta : TE} {t : TA} {p : Addr × Obj}
theorem run_fnP {pins : List (Addr × Obj)} {σ : L2.St} {H : Hp} {s : Shared} {Q : VK} {us : List Value} {vs : List V} (F : FnP X.prog X.w X.K X.mg X.base CX k f fd ps sp) (hr : RoomH k X.A) (hp : p ∈ X.pn) (hb : Binds X.K fd ps []) (hx : Passes CX X E)
    (I : Inv X pins σ H s) (r : Vals vs us) (h : sp p vs H Q E) : wpAny (model X.prog X.w) X.A (call (.ref f) us) (EP X pins σ Q) X.xe s := by
  have hl : us.length = ps.length := by rw [← r.length]; exact F.len _ _ _ _ _ h
  have b := hb s us I.kIn (by rw [List.append_nil]; exact hl)
  rw [List.append_nil] at b
  have P1 := I.pin p (List.mem_append_left _ hp)
  have hpin : PinOk X.stack H s p := ⟨P1.1, P1.2.1, fun hm => (List.mem_cons.mp (I.stkSub p.1 hm)).elim P1.2.2.1 P1.2.2.2.1, P1.2.2.2.2⟩
  refine wpAny_call (codeAny_mono (F.run X.A X.stack s H ⟨us, []⟩ us vs Q E p hr hpin I.env0 b r h) fun r s' hq => ?_)
  cases r with
  | error e => exact hx pins σ H s e s' I hq
  | ok fl =>
    cases fl with
    | ret u => exact I.after hq
    | next => exact False.elim hq
    | brk => exact False.elim hq
    | cont => exact False.elim hq
end
def tXp (K : PySem.W.Frag) (p : Addr × Obj) (f : Str) (te : TE) : TE := fun σ H Q => te σ H fun x H1 => x = .ref p.1 ∧ (∃ vs, p.2.data = .fields vs) ∧ ∃ (C dd : Addr) (fs : List (Str × V)) (v : V), Zc (.ref C) (some dd) p.2 ∧ XfC K C ∧ PySem.W.findIn K (.ref C) f = some none ∧ H1 dd = some (.xd fs) ∧ fs.lookup f = some v ∧ Q v H1
theorem pe_xp {X : Cx} {p : Addr × Obj} {e : Expr} {te : TE} {pos : Pos} {n : Str} (hp : p ∈ X.pn) (he : PE X e te) (hb : attributeBase e n X.env (eval e X.env) = eval e X.env := by rfl) : PE X (.Attribute e n pos) (tXp X.K p n te) := by
  refine ⟨fun pins s σ H Q I h => ?_⟩
  refine attr_of hb (thn (he.run pins s σ H _ I h) fun u s1 hh => ?_)
  obtain ⟨x, H1, I1, rx, ex, hf, C, dd, fs, v, hz, T, hno, ea, l, q⟩ := hh
  subst ex
  obtain rfl : u = Value.ref p.1 := rx
  obtain ⟨ha, _⟩ := I1.pin p (List.mem_append_left _ hp)
  obtain ⟨vs, hd⟩ := hf
  have hx : ObjOk X.prog X.w H1 s1.heap dd (.xd fs) := I1.hok dd _ ea
  obtain ⟨mA, hns, hr⟩ := hx
  obtain ⟨od, ho, hl⟩ := lookIn_ns hns
  obtain ⟨u, hu, ru⟩ := RelO.some_of (v := v) (o := mA n) (by rw [← l]; exact hr n)
  have J : PySem.W.InstAt s1.heap p.1 p.2 C (some od) := ⟨ha, hz.1, by unfold PySem.W.notCls; rw [hd] <;> rfl, by rw [hz.2]; exact ho⟩
  exact HandSPX.exc_get I1.kIn J T.ga T.gg T.exC (PySem.W.findObj_own T.hdC hno rfl (by rw [hl, hu])) (handed_of ru) ⟨v, H1, I1.tok _, ru, q⟩
def tCFun (C : Addr) (sp : Sp) (E : XK) (ta : TE) (t : TA) : TE := fun σ H Q => ta σ H fun x H1 => x = .ref C ∧ t σ H1 fun vs H2 => sp vs H2 Q E
theorem pe_cfun {X : Cx} {CX : CXT} {k : Nat} {f C : Addr} {fd : FuncData} {ps : List Str} {sp : Sp} {E : XK} {m : Str} {pos apos : Pos} {e o : Expr} {es : List Expr} {ta : TE} {t : TA} {mc : Value} {pl : Sem Bool}
    (he : PE X o ta) (r : ClX.CRead X.K C mc) (at_ : PySem.W.findCls X.K (.ref C) mc m = some (.val (.ref f))) (hk : PySem.W.keepIn X.K (.ref f) = true) (F : FnOk X.prog X.w X.K X.mg X.base CX k f fd ps sp) (hr : Room k X.A) (hb : Binds X.K fd ps []) (hx : Passes CX X E) (ha : PA X (e :: es) t)
    (hst : starEach (e :: es) X.env = (false, eval e X.env) :: starEach es X.env := by rfl) (hpl : (backTo pos (starEach es X.env)).any (·.1) = false := by rfl)
    (ht : eval (.Call (.Attribute o m apos) (e :: es) [] pos) X.env = (do
      let ov ← eval o X.env
      standAt apos.atName
      let (f, first) ← holding [ov] (getMethod ov m pl)
      callWith pos f first (backTo pos (starEach (e :: es) X.env)) (backToKw pos (keywordEach [] X.env))) := by rfl) :
    PE X (.Call (.Attribute o m apos) (e :: es) [] pos) (tCFun C sp E ta t) := by
  refine ⟨fun pins s σ H Q I h => ?_⟩
  refine PySem.W.methodCall_KW (pl := pl) (thn (he.run pins s σ H _ I h) fun u s1 ⟨x, H1, I1, rx, ex, q⟩ => ?_) ht
  subst ex
  obtain rfl : u = Value.ref C := rx
  refine PySem.W.method_cls I1.kIn r.ga (ClX.getcval_ok (v := .ref f) I1 r ⟨at_, rfl⟩ fun s2 I2 => ?_)
  refine PySem.W.callWith_K (first := []) (h₀ := X.base) I.ok.mod.kin hk (thn (ha.run pos pins s2 σ H1 _ I2 q) fun us s3 ⟨vs, H2, I3, rv, q2⟩ => ⟨I3.kIn, ?_⟩) hst hpl
  exact run_fn (dvs := []) (ds := []) F hr hb .nil hx I3 rv (by rw [List.append_nil]; exact q2)
theorem okP {P : Program} {w : World} {K : PySem.W.Frag} {mg : Str → Option Value} {base : Heap} {x qual : Str} {st : Stmt} {f : Addr} {fd : FuncData} {N ps : List Str} {k : Nat} {sp : SpP} (F : Fun K x qual st f fd) (S : FnScope N ps (defScope st)) (len : ∀ p vs H Q E, sp p vs H Q E → vs.length = ps.length)
    (hbody : ∀ (cdv : Value) (A : Around) (outer : List Env) (s : Shared) (H : Hp) (vs : List V) (Q : VK) (E : XK) (p : Addr × Obj), RoomH k (A.deeper (envOfC qual (defScope st) s.heap.objs.size f cdv)) → sp p vs H Q E →
      ∃ t, PSs (cxH CX0 P w K mg base N qual (defScope st) f cdv A outer s H E p) (defBody st) t ∧ t { nx := fun _ H' => Q .non H', rt := Q } (L2.start N vs) H) : FnP P w K mg base CX0 (k + 1) f fd ps sp := by
  obtain ⟨oc, od, kV, doc, pm, an, cdv, ct, osl, rfl, lk, hcd⟩ := F.ex
  exact fn_ofP lk hcd S len fun A outer s H vs Q E p hr hsp => hbody cdv A outer s H vs Q E p hr hsp
end RK
namespace PySem
namespace OEG
open PySem.W PySem.Calls PyProof.Rows PySem.HandSPX
structure BD where
  B : String
  newId : String
  initId : String
  bm : List Value
structure BD.Ok (b : BD) : Prop where
  F : ExcBaseFacts b.B b.newId b.initId b.bm
  S : StoreFacts b.B b.bm "object.__setattr__" "object"
theorem BD.Ok.ne {b : BD} (o : b.Ok) : b.bm ≠ [] := fun e => by
  have := o.S.hasOwner
  rw [e] at this
  cases this
theorem tail_ne {bmB l : List Value} (n : bmB ≠ []) (e : excTail bmB l = true) : l.isEmpty = false := by
  cases l with
  | nil => exact absurd (beq_iff_eq.mp (show ([] == bmB) = true from e)).symm n
  | cons _ _ => rfl
section
open Builtin Builtin.ObjectAttr
variable {prog : Program} {w : World} {A : Around} {E : Value → Shared → Prop} {R : Result → Shared → Prop} {hp : Heap} {g : Array GenState} {d : Drawn} {t : Nat} {os : OsState}
theorem osa_new {b : BD} {K : W.Frag} {name : Str} {tk : Tok} {v : Value} {x C : Addr} {fv : Array Value} {cd : ClassData} (ob : b.Ok)
    (X : K.In hp) (hx : hp.get? x = some { cls := .ref C, data := .fields fv }) (hcd : W.clsIn K C = some cd) (hm : excTail b.bm cd.mro = true) (hh : cd.hasDict = true) (ha : W.findIn K (.ref C) name = some none)
    (hq : ∀ h' tk' dx, (∀ b o, b ≠ x → hp.get? b = some o → h'.get? b = some o) → hp.objs.size ≤ dx → dx ≠ x → h'.get? x = some { cls := .ref C, dict := some dx, data := .fields fv } →
      h'.Ns1 dx (fun y => if y = name then some v else none) → R (.ok (.ret .none)) ⟨h', g, d, tk', os⟩) :
    codeAny (model prog w) A (.call (.builtin "object.__setattr__") ⟨[.ref x, .str name tk, v], []⟩) R ⟨hp, g, d, t, os⟩ := by
  have I : W.InstAt hp x { cls := .ref C, data := .fields fv } C none := ⟨hx, rfl, rfl, trivial⟩
  have SF := F.store_object
  have ne := tail_ne ob.ne hm
  have hob : cd.mro.contains (.type "object") = true := (excTail_contains "object" _ hm).trans ob.S.hasOwner
  have hxs : x ≠ hp.objs.size := Nat.ne_of_lt (Heap.lt_size hx)
  have sub : W.Looks (model prog w) hp (isInstance (.ref x) (.type "object")) true := I.type.andThen (W.looks_mroIn X (by unfold W.mroIn; rw [hcd, Option.bind_some, if_neg (by rw [ne]; decide), hob]))
  refine codeAny_call_builtin SF.slot.plain SF.entry (@W.check_slot (model prog w) _ _ ⟨hp, g, d, t, os⟩ "object.__setattr__" "object" "__setattr__" (.ref x) [.str name tk, v] [] _ SF.kind SF.split sub (SF.args (.ref x) (.str name tk) v) ?_)
  have hmr : W.Looks (model prog w) hp (mroOf (.ref C)) cd.mro := (W.looks_clsIn X hcd).andThen .now
  have L3 : W.Looks (model prog w) hp (storeTaker? none) none := .now
  have hcls : W.Looks (model prog w) hp (classData C) cd := W.looks_clsIn X hcd
  rw [W.osa_eq, refuse_eq]
  refine wpAny_bind (wpAny_bind (I.type.at (wpAny_bind (hmr.at ?_))))
  rw [excTail_pass _ (ob.S.passes _) _ hm]
  refine wpAny_pure (wpAny_bind (I.type.at (wpAny_bind ((W.looks_findIn X ha).at (wpAny_bind (L3.at ?_))))))
  show wpAny _ _ (storeInOwnDict (.ref x) (.ref C) (.str name tk) name v false) _ _ _
  obtain ⟨nm, bs, mro, ns, qn, hd, sn, sb, ab, col, del⟩ := cd
  dsimp only at hh
  subst hh
  unfold storeInOwnDict ownDictForStores
  repeat (first | with_reducible refine store_in_new ?_ ?_ | with_reducible refine wpAny_loadPart_at hx ?_ | with_reducible refine hcls.at ?_ | wp_step)
  · exact ⟨_, #[], _, (Heap.get?_update_ne _ _ _ _ hxs.symm).trans (Heap.get?_push_at rfl rfl), rfl, fun e he => absurd he (by simp), fun _ => rfl⟩
  · intro h' tk' hn' hs
    have hx₁ : (hp.push { cls := .type "dict", data := .dict #[] }).get? x = some { cls := .ref C, data := .fields fv } := Heap.get?_push_of_some _ hx
    refine hq h' tk' hp.objs.size (fun b o hb ho => ?_) (Nat.le_refl _) hxs.symm ?_ hn'
    · exact (hs.2 b (Nat.ne_of_lt (Heap.lt_size ho))).trans ((Heap.get?_update_ne _ _ _ _ hb).trans (Heap.get?_push_of_some _ ho))
    · exact (hs.2 x hxs).trans (Heap.get?_update_self _ hx₁ rfl)
theorem osa_old {b : BD} {K : W.Frag} {name : Str} {tk : Tok} {v : Value} {x C dx : Addr} {fv : Array Value} {cd : ClassData} {m0 : Str → Option Value} {nl : List Str} (ob : b.Ok)
    (X : K.In hp) (hx : hp.get? x = some { cls := .ref C, dict := some dx, data := .fields fv }) (hns : hp.Ns1 dx m0) (hw : Within m0 nl) (hz : nl.length ≤ 1000) (hcd : W.clsIn K C = some cd) (hm : excTail b.bm cd.mro = true) (hh : cd.hasDict = true)
    (ha : W.findIn K (.ref C) name = some none)
    (hq : ∀ h' tk', (∀ b o, b ≠ dx → hp.get? b = some o → h'.get? b = some o) → h'.Ns1 dx (fun y => if y = name then some v else m0 y) → R (.ok (.ret .none)) ⟨h', g, d, tk', os⟩) :
    codeAny (model prog w) A (.call (.builtin "object.__setattr__") ⟨[.ref x, .str name tk, v], []⟩) R ⟨hp, g, d, t, os⟩ := by
  obtain ⟨oD, esD, epD, hoD, hdD, _⟩ := hns.count hw
  have I : W.InstAt hp x { cls := .ref C, dict := some dx, data := .fields fv } C (some oD) := ⟨hx, rfl, rfl, hoD⟩
  have SF := F.store_object
  have ne := tail_ne ob.ne hm
  have hob : cd.mro.contains (.type "object") = true := (excTail_contains "object" _ hm).trans ob.S.hasOwner
  have sub : W.Looks (model prog w) hp (isInstance (.ref x) (.type "object")) true := I.type.andThen (W.looks_mroIn X (by unfold W.mroIn; rw [hcd, Option.bind_some, if_neg (by rw [ne]; decide), hob]))
  refine codeAny_call_builtin SF.slot.plain SF.entry (@W.check_slot (model prog w) _ _ ⟨hp, g, d, t, os⟩ "object.__setattr__" "object" "__setattr__" (.ref x) [.str name tk, v] [] _ SF.kind SF.split sub (SF.args (.ref x) (.str name tk) v) ?_)
  have hmr : W.Looks (model prog w) hp (mroOf (.ref C)) cd.mro := (W.looks_clsIn X hcd).andThen .now
  have L3 : W.Looks (model prog w) hp (storeTaker? none) none := .now
  have hcls : W.Looks (model prog w) hp (classData C) cd := W.looks_clsIn X hcd
  rw [W.osa_eq, refuse_eq]
  refine wpAny_bind (wpAny_bind (I.type.at (wpAny_bind (hmr.at ?_))))
  rw [excTail_pass _ (ob.S.passes _) _ hm]
  refine wpAny_pure (wpAny_bind (I.type.at (wpAny_bind ((W.looks_findIn X ha).at (wpAny_bind (L3.at ?_))))))
  show wpAny _ _ (storeInOwnDict (.ref x) (.ref C) (.str name tk) name v false) _ _ _
  obtain ⟨nm, bs, mro, ns, qn, hd, sn, sb, ab, col, del⟩ := cd
  dsimp only at hh
  subst hh
  unfold storeInOwnDict ownDictForStores
  repeat (first | with_reducible refine OEX.store_in_old hns hw hz ?_ | with_reducible refine wpAny_loadPart_at hx ?_ | with_reducible refine hcls.at ?_ | wp_step)
  intro h' tk' hn' hs
  exact hq h' tk' (fun b o hb ho => (hs.2 b hb).trans ho) hn'
end
abbrev bdV : BD := ⟨"ValueError", "ValueError.__new__", "ValueError.__init__", [.type "ValueError", .type "Exception", .type "BaseException", .type "object"]⟩
abbrev bdL : BD := ⟨"LookupError", "LookupError.__new__", "LookupError.__init__", [.type "LookupError", .type "Exception", .type "BaseException", .type "object"]⟩
abbrev bdI : BD := ⟨"IndexError", "IndexError.__new__", "IndexError.__init__", [.type "IndexError", .type "LookupError", .type "Exception", .type "BaseException", .type "object"]⟩
theorem okV : bdV.Ok := ⟨F.excBase_ValueError, F.store_ValueError⟩
theorem okL : bdL.Ok := ⟨F.excBase_LookupError, F.store_LookupError⟩
theorem okI : bdI.Ok := ⟨F.excBase_IndexError, F.store_IndexError⟩
theorem cls_of {K : W.Frag} {C : Addr} {bmB : List Value} {newId : String} (q : excInitIn K C bmB newId = true) : ∃ nm N qn bs bm hdct sn sub ab col dd k0 k1 k2 k3 k5,
    K.lookup C = some (excClassObj nm qn C N bs bm hdct sn sub ab col dd k0 k1 k2 k3 k5 newId) ∧ excTail bmB bm = true := by
  unfold excInitIn at q
  split at q
  · rename_i dd cd sl ho
    split at q
    · rename_i C' bm k0 k1 k2 k3 n k5 hm hs
      simp only [Bool.and_eq_true, beq_iff_eq, Bool.not_eq_true'] at q
      obtain ⟨⟨⟨rfl, rfl⟩, hdel⟩, ht⟩ := q
      obtain ⟨nm, bs, mro, ns, qn, hd, sn, sub, ab, col, del⟩ := cd
      dsimp only at hm hdel
      subst hm hdel
      have hsl : sl = #[k0, k1, k2, k3, some (.builtin n), k5] := by
        obtain ⟨l⟩ := sl
        simp only at hs
        rw [hs]
      subst hsl
      exact ⟨nm, ns, qn, bs, bm, hd, sn, sub, ab, col, dd, k0, k1, k2, k3, k5, ho, ht⟩
    · cases q
  · cases q
end OEG
end PySem
namespace RK
open PySem PySem.Spec PyProof.Rows L2 PySem.OEG
structure OexG (K : PySem.W.Frag) (C : Addr) (b : BD) : Prop where
  ob : b.Ok
  ini : PySem.W.excInitIn K C b.bm b.newId = true
  hd : PySem.W.hasDictIn K C = true
  sa : PySem.W.findIn K (.ref C) "__setattr__" = some (some (.builtin "object.__setattr__"))
  exC : PySem.W.subIn K (.ref C) (.type "BaseException") = some true
  tyC : PySem.W.typeIn K (.ref C) = some (.type "type")
  kC : PySem.W.keepIn K (.ref C) = true
theorem OexG.cls {K : PySem.W.Frag} {C : Addr} {b : BD} (T : OexG K C b) : ∃ nm q N bs bm sn sub ab col dd k0 k1 k2 k3 k5, K.lookup C = some (excClassObj nm q C N bs bm true sn sub ab col dd k0 k1 k2 k3 k5 b.newId) ∧ PySem.W.excTail b.bm bm = true := by
  obtain ⟨nm, N, qn, bs, bm, hdct, sn, sub, ab, col, dd, k0, k1, k2, k3, k5, hC, ht⟩ := cls_of T.ini
  have h := T.hd
  have e : hdct = true := by
    unfold PySem.W.hasDictIn PySem.W.clsIn at h
    rw [hC] at h
    simpa using h
  subst e
  exact ⟨nm, qn, N, bs, bm, sn, sub, ab, col, dd, k0, k1, k2, k3, k5, hC, ht⟩
section
variable {X : Cx} {pins : List (Addr × Obj)} {σ : L2.St} {H : Hp} {s : Shared} {a C dx : Addr} {f : Str} {y : V} {u : Value} {fs : List (Str × V)} {Q : Unit → Shared → Prop} {E : Value → Shared → Prop} {A : Around} {b : BD}
theorem ost_new (T : OexG X.K C b) (I : Inv X pins σ H s) (e : H a = some (exo a C none)) (hno : PySem.W.findIn X.K (.ref C) f = some none) (ry : RelV y u)
    (h : ∀ dx s', H dx = none → dx ≠ a → Inv X pins σ (upd (upd H dx (exd dx [(f, y)])) a (exo a C (some dx))) s' → Q () s') : wpAny (model X.prog X.w) A (setAttr (.ref a) f u) Q E s := by
  obtain ⟨nm, q, N, bs, bm, sn, sub, ab, col, dd, k0, k1, k2, k3, k5, hC, hbm⟩ := T.cls
  have hcl : PySem.W.clsIn X.K C = some { name := nm, bases := bs, mro := .ref C :: bm, ns := N, qualname := q, hasDict := true, slotNames := sn, subclasses := sub, abstract := ab, collection := col, hasDel := false } := by unfold PySem.W.clsIn; rw [hC] <;> rfl
  obtain ⟨t1, ho⟩ := exo_at I.hok e
  obtain ⟨hp, g, d, t, os⟩ := s
  refine PySem.W.set_plain I.kIn (ox := { cls := .ref C, dict := none, data := .fields #[.ref t1, .none, .none, .none, .bool false, .none] }) (od := none) ⟨ho, rfl, rfl, trivial⟩ T.sa ?_
  refine PySem.OEG.osa_new T.ob I.kIn ho hcl (show PySem.W.excTail b.bm (.ref C :: bm) = true from hbm) rfl hno (fun h' tk' dx k dn dne hx hn => ?_)
  have hnd : H dx = none := I.hok.fresh dn
  have nd : ∀ {b : Addr} {o : Obj}, hp.get? b = some o → b ≠ dx := fun {b o} q => Nat.ne_of_lt (Nat.lt_of_lt_of_le (Heap.lt_size q) dn)
  have na : ∀ {b : Addr}, H b = none → b ≠ a := fun {b} n z => by
    rw [z, e] at n
    cases n
  have Un1 : Un X.fs [] H (upd (upd H dx (exd dx [(f, y)])) a (exo a C (some dx))) hp h' := {
    keep := fun b o q n _ _ => k b o (na n) q
    slot := fun b o q n _ _ => ⟨o.slots, k b o (na n) q⟩
    free := fun b o q n _ => by rw [upd_ne (na n), upd_ne (nd q)]; exact n
    there := fun b o q _ => by
      by_cases hb : b = a
      · exact ⟨_, by rw [hb]; exact hx⟩
      · exact ⟨o, k b o hb q⟩
    tups := fun b xs q => by rw [upd_ne (at_ne e q exo_tup), upd_ne (ne_of_none q hnd)]; exact q
    frzs := fun b o v q => by rw [upd_ne (at_ne e q exo_frz), upd_ne (ne_of_none q hnd)]; exact q
    tbls := fun b ps q => ⟨#[], by rw [upd_ne (at_ne e q exo_tbl), upd_ne (ne_of_none q hnd), q]; simp⟩ }
  refine h dx _ hnd dne (I.un (t' := tk') Un1 fun b o q => ?_)
  by_cases hb : b = a
  · subst hb
    rw [upd_same] at q
    cases q
    exact exo_ok hx
  · rw [upd_ne hb] at q
    by_cases hd : b = dx
    · subst hd
      rw [upd_same] at q
      cases q
      exact exd_ok hn (relO_put (fs := []) ry fun g => True.intro)
    · rw [upd_ne hd] at q
      exact (I.hok b o q).stay (fun c v hc z => k c v (by
          rcases hc with hc | hc
          · rw [hc]
            exact hb
          · exact at_ne e hc exo_own) z)
        (fun c hc => by rw [upd_ne (at_ne e hc exo_own), upd_ne (ne_of_none hc hnd)]; exact hc) (fun c xs hc => by rw [upd_ne (at_ne e hc exo_tup), upd_ne (ne_of_none hc hnd)]; exact hc)
theorem ost_old (T : OexG X.K C b) (I : Inv X pins σ H s) (e : H a = some (exo a C (some dx))) (ed : H dx = some (exd dx fs)) (hl : fs.length ≤ 900) (hno : PySem.W.findIn X.K (.ref C) f = some none) (ry : RelV y u)
    (h : ∀ s', Inv X pins σ (upd H dx (exd dx ((f, y) :: fs))) s' → Q () s') : wpAny (model X.prog X.w) A (setAttr (.ref a) f u) Q E s := by
  obtain ⟨nm, q, N, bs, bm, sn, sub, ab, col, dd, k0, k1, k2, k3, k5, hC, hbm⟩ := T.cls
  have hcl : PySem.W.clsIn X.K C = some { name := nm, bases := bs, mro := .ref C :: bm, ns := N, qualname := q, hasDict := true, slotNames := sn, subclasses := sub, abstract := ab, collection := col, hasDel := false } := by unfold PySem.W.clsIn; rw [hC] <;> rfl
  obtain ⟨t1, ho⟩ := exo_at I.hok e
  obtain ⟨mA, hns, rel⟩ := exd_at I.hok ed
  have hw := within_of rel
  obtain ⟨hp, g, d, t, os⟩ := s
  obtain ⟨oD, _, _, hoD, _, _⟩ := hns.count hw
  refine PySem.W.set_plain I.kIn (ox := { cls := .ref C, dict := some dx, data := .fields #[.ref t1, .none, .none, .none, .bool false, .none] }) (od := some oD) ⟨ho, rfl, rfl, hoD⟩ T.sa ?_
  refine PySem.OEG.osa_old T.ob I.kIn ho hns hw (by rw [List.length_map]; omega) hcl (show PySem.W.excTail b.bm (.ref C :: bm) = true from hbm) rfl hno (fun h' tk' k hn => ?_)
  have hd : ∃ o, h'.get? dx = some o := by
    obtain ⟨o, _, _, e', _⟩ := hn
    exact ⟨o, e'⟩
  exact h _ (I.write (t' := tk') (x := dx) (e := dx) (o := exd dx ((f, y) :: fs)) (by rw [ed]; exact True.intro) (.inl rfl) k hd (exd_ok hn (relO_put ry rel)))
theorem oinit_ok {us : List Value} {Q : Value → Shared → Prop} (T : OexG X.K C b) (I : Inv X pins σ H s) (e : H a = some (exo a C none)) (hl : us.length ≤ sizeLine) (h : ∀ s', Inv X pins σ H s' → Q .none s') :
    wpAny (model X.prog X.w) A (call (.builtin b.initId) (.ref a :: us)) Q E s := by
  obtain ⟨nm, q, N, bs, bm, sn, sub, ab, col, dd, k0, k1, k2, k3, k5, hC, hbm⟩ := T.cls
  obtain ⟨t1, ho⟩ := exo_at I.hok e
  obtain ⟨hp, g, d, t, os⟩ := s
  refine wpAny_call (PySem.HandSPX.init_base T.ob.F (fun Y => PySem.W.excTail_contains Y bm hbm) (I.kIn _ _ hC) ho hl fun h' t2 k hx => ?_)
  have J := I.write (t' := t) (x := a) (e := a) (o := exo a C none) (by rw [e]; exact True.intro) (.inl rfl) k ⟨_, hx⟩ (exo_ok hx)
  have eu : upd H a (exo a C none) = H := by
    funext b
    by_cases hb : b = a
    · rw [hb, upd_same, e]
    · rw [upd_ne hb]
  rw [eu] at J
  exact h _ J
end
def tBi (K : PySem.W.Frag) (b : BD) (ta : TA) : TE := fun σ H Q => ta σ H fun vs H1 => ∃ (a C : Addr) (ws : List V), vs = .ref a :: ws ∧ ws.length ≤ 1000 ∧ OexG K C b ∧ H1 a = some (exo a C none) ∧ Q .non H1
def tOsg (K : PySem.W.Frag) (f : Str) (to te : TE) : TS := fun D σ H => te σ H fun y H1 => to σ H1 fun x H2 => ∃ (a C : Addr) (b : BD), x = .ref a ∧ OexG K C b ∧ PySem.W.findIn K (.ref C) f = some none ∧
  ((H2 a = some (exo a C none) ∧ ∀ dx, H2 dx = none → dx ≠ a → D.nx σ (upd (upd H2 dx (exd dx [(f, y)])) a (exo a C (some dx)))) ∨
    ∃ (dx : Addr) (fs : List (Str × V)), H2 a = some (exo a C (some dx)) ∧ H2 dx = some (exd dx fs) ∧ fs.length ≤ 900 ∧ D.nx σ (upd H2 dx (exd dx ((f, y) :: fs))))
section
variable {X : Cx} {o e : Expr} {es : List Expr} {to te : TE} {ta : TA} {f : Str} {p p' p1 p2 pos : Pos}
theorem pe_binit {pl : Sem Bool} {b : BD} {x : Str} (hg : Gl X x) (hm : X.mg x = none) (hv : bootBuiltins x = some (.type b.B)) (ht : typeOf (.type b.B) = pure (.type "type")) (hst : Manifest.isStub b.B = false)
    (vV : PySem.W.findCls X.K (.type b.B) (.type "type") "__init__" = some (.val (.builtin b.initId))) (hh : PySem.W.handedIn (.builtin b.initId) = true) (ha : PA X (e :: es) ta)
    (hn1 : x ≠ "__name__" := by decide) (hd1 : (x == ("__debug__" : Str)) = false := by decide)
    (hc : eval (.Call (.Attribute (.Name x p1) "__init__" p2) (e :: es) [] pos) X.env = (do
      let ov ← eval (.Name x p1) X.env
      standAt p2.atName
      let (f, first) ← holding [ov] (getMethod ov "__init__" pl)
      callWith pos f first (backTo pos (starEach (e :: es) X.env)) (backToKw pos (keywordEach [] X.env))) := by rfl)
    (he : starEach (e :: es) X.env = (false, eval e X.env) :: starEach es X.env := by rfl) (hpl : (backTo pos (starEach es X.env)).any (·.1) = false := by rfl) :
    PE X (.Call (.Attribute (.Name x p1) "__init__" p2) (e :: es) [] pos) (tBi X.K b ta) := by
  refine ⟨fun pins s σ H Q I h => ?_⟩
  refine PySem.W.methodCall_KW (ld_blt I hg hm hv ?_ hn1 hd1) hc
  obtain ⟨m, fr⟩ := I.fr
  refine PySem.W.method_type fr I.ok.mod.kin ht hst vV hh ?_
  show wpAny _ _ (callWith pos (Value.builtin b.initId) [] (backTo pos (starEach (e :: es) X.env)) []) _ _ _
  refine PyProof.Rows.callWith_method1 (thn (ha.run pos pins _ σ H _ (I.tok _) h) fun us s1 ⟨vs, H1, I1, r1, a, C, ws, ev, hl, T, ea, q⟩ => ?_) he hpl
  subst ev
  cases r1 with
  | @cons _ u0 _ ur ra rw' =>
    obtain rfl : u0 = Value.ref a := ra
    have hlen : ur.length ≤ sizeLine := by
      rw [← Paired.length rw', sizeLine_eq]
      omega
    exact oinit_ok T I1 ea hlen fun s' J => ⟨.non, H1, J, rfl, q⟩
theorem ps_osg (ho : PE X o to) (he : PE X e te) (hs : swapsWith e (some (.Attribute o f p')) pos.line X.env = pure false := by rfl) : PS X (.Assign [.Attribute o f p'] e pos) (tOsg X.K f to te) := by
  refine ⟨fun pins s σ H D I h => ?_⟩
  refine plainObj_wpAny_Assign_Attribute (thn (he.run pins s σ H _ I h) fun v s1 ⟨y, H1, I1, r1, q1⟩ => thn (ho.run pins s1 σ H1 _ I1 q1) fun u s2 ⟨x, H2, I2, r2, a, C, b, ex, T, hno, q⟩ => ?_) hs
  subst ex
  obtain rfl : u = Value.ref a := r2
  rcases q with ⟨ea, q⟩ | ⟨dx, fs, ea, ed, hl, q⟩
  · exact ost_new T I2 ea hno r1 fun dx s' n ne J => ⟨σ, _, J, q dx n ne⟩
  · exact ost_old T I2 ea ed hl hno r1 fun s' J => ⟨σ, _, J, q⟩
theorem mk_call {CX : CXT} {C fI : Addr} {k : Nat} {fd : FuncData} {ps : List Str} {sp : Sp} {ds : List Value} {dvs vs : List V} {us : List Value} {b : BD} {pins : List (Addr × Obj)} {σ : L2.St} {H1 : Hp} {Q : XK} {s1 : Shared} (T : OexG X.K C b) (iC : PySem.W.findIn X.K (.ref C) "__init__" = some (some (.ref fI))) (tI : PySem.W.typeIn X.K (.ref fI) = some (.type "function"))
    (F1 : FnOk X.prog X.w X.K X.mg X.base CX k fI fd ps sp) (hr : Room (k + 1) X.A) (hb : Binds X.K fd ps ds) (hd : Vals dvs ds) (hx : Passes CX X (fun _ _ _ => False)) (I1 : Inv X pins σ H1 s1) (r1 : Vals vs us) (hz : vs.length ≤ 1000)
    (q1 : ∀ a, H1 a = none → sp (.ref a :: (vs ++ dvs)) (upd H1 a (exo a C none))
      (fun v H2 => v = .non ∧ ∃ (d : Addr) (fs : List (Str × V)), H2 a = some (exo a C (some d)) ∧ H2 d = some (exd d fs) ∧ H1 d = none ∧ Q (.ref C) (some d) (upd (del H2 a) d (.xd fs))) (fun _ _ _ => False)) :
    wpAny (model X.prog X.w) X.A (call (.ref C) us) (MkP X pins σ Q) X.xe s1 := by
  obtain ⟨nm, q, N, bs, bm, sn, sub, ab, col, dd, k0, k1, k2, k3, k5, hC, hbm⟩ := T.cls
  obtain ⟨hp, g, dr, tk, os⟩ := s1
  have hsz : hp.objs.size ≤ hp.objs.size + 1 := Nat.le_succ _
  have hn : H1 (hp.objs.size + 1) = none := I1.hok.fresh hsz
  have hq := q1 (hp.objs.size + 1) hn
  have kk : ∀ b o, hp.get? b = some o → ((hp.push (PySem.W.kdv_tup us)).push (PySem.HandSPX.excO C hp.objs.size)).get? b = some o := fun b o e => Heap.get?_push_of_some _ (Heap.get?_push_of_some _ e)
  have hget : ((hp.push (PySem.W.kdv_tup us)).push (PySem.HandSPX.excO C hp.objs.size)).get? (hp.objs.size + 1) = some (PySem.HandSPX.excO C hp.objs.size) := by heap_get
  have I2 : Inv X pins σ (upd H1 (hp.objs.size + 1) (exo (hp.objs.size + 1) C none)) ⟨(hp.push (PySem.W.kdv_tup us)).push (PySem.HandSPX.excO C hp.objs.size), g, dr, tk, os⟩ :=
    I1.laid (t' := tk) (a := hp.objs.size + 1) (o := exo (hp.objs.size + 1) C none) (h' := (hp.push (PySem.W.kdv_tup us)).push (PySem.HandSPX.excO C hp.objs.size)) kk hsz (exo_ok hget)
  have r2 : Vals (V.ref (hp.objs.size + 1) :: (vs ++ dvs)) (Value.ref (hp.objs.size + 1) :: (us ++ ds)) := .cons rfl (r1.append hd)
  have hl : (Value.ref (hp.objs.size + 1) :: us ++ ds).length = ps.length := by
    have e := r2.length
    rw [F1.len _ _ _ _ hq] at e
    exact e.symm
  have hus : us.length ≤ sizeLine := by
    rw [← Paired.length r1, sizeLine_eq]
    omega
  refine wpAny_call (PySem.HandSPX.call_own T.ob.F (fun Y => PySem.W.excTail_contains Y bm hbm) (I1.kIn _ _ hC) (PySem.W.looks_findIn I1.kIn iC) (fun self => PySem.W.bind_fn I1.kIn self tI) hus
    (codeAny_mono (F1.run _ X.stack _ _ ⟨Value.ref (hp.objs.size + 1) :: us, []⟩ (Value.ref (hp.objs.size + 1) :: (us ++ ds)) _ _ (fun _ _ _ => False) (hr.make C us []) (I2.env0.make C us []) (hb _ (Value.ref (hp.objs.size + 1) :: us) I2.kIn hl) r2 hq) fun r s' hq' => ?_))
  cases r with
  | error er => exact hx pins σ _ _ er s' I2 hq'
  | ok fl =>
    cases fl with
    | ret u =>
      obtain ⟨v, H2, os2, bare2, un2, hok2, rv, ev, d, fs, ea, ed, hd1, q2⟩ := hq'
      subst ev
      obtain ⟨h2, g2, d2, t2, os'⟩ := s'
      exact ⟨rv, mk_end (raises_own T.exC T.tyC) I1 hsz kk un2 hok2 os2 bare2 ea ed hd1 q2⟩
    | next => exact False.elim hq'
    | brk => exact False.elim hq'
    | cont => exact False.elim hq'
theorem pmk_oexG {CX : CXT} {x : Str} {C fI : Addr} {k : Nat} {fd : FuncData} {ps : List Str} {sp : Sp} {ds : List Value} {dvs : List V} {b : BD} (T : OexG X.K C b) (iC : PySem.W.findIn X.K (.ref C) "__init__" = some (some (.ref fI))) (tI : PySem.W.typeIn X.K (.ref fI) = some (.type "function"))
    (F1 : FnOk X.prog X.w X.K X.mg X.base CX k fI fd ps sp) (hr : Room (k + 1) X.A) (hb : Binds X.K fd ps ds) (hd : Vals dvs ds) (hx : Passes CX X (fun _ _ _ => False)) (hg : Gl X x) (hm : X.mg x = some (.ref C)) (ha : PA X (e :: es) ta)
    (hdb : (x == ("__debug__" : Str)) = false := by decide) (he : starEach (e :: es) X.env = (false, eval e X.env) :: starEach es X.env := by rfl) (hpl : (backTo pos (starEach es X.env)).any (·.1) = false := by rfl) :
    PMk X (.Call (.Name x p) (e :: es) [] pos) (tMkO C sp dvs ta) := by
  intro pins s σ H Q I h
  refine wpAny_Call_Name_kw (ld_glob I hg hm ?_ hdb)
  refine PySem.W.callWith_K (h₀ := X.base) I.ok.mod.kin T.kC (thn (ha.run pos pins s σ H _ I h) fun us s1 ⟨vs, H1, I1, r1, hz, q1⟩ => ⟨I1.kIn, ?_⟩) he hpl
  exact mk_call T iC tI F1 hr hb hd hx I1 r1 hz q1
end
end RK
namespace RK
open PySem PySem.Spec PyProof.Rows L2 PySem.OEG
structure FunA (K : PySem.W.Frag) (x qual : Str) (st : Stmt) (f : Addr) (fd : FuncData) : Prop where
  ex : ∃ (oc : Value) (od : Option Addr) (dV kV doc pm : Value) (an : Option Addr) (cdv ct : Value) (osl : Array (Option Value)),
    fd = PySem.W.fnOf x qual (defArgs st) (defBody st) (defScope st) dV kV doc pm an cdv ct ∧ K.lookup f = some ⟨oc, od, .func fd, osl⟩ ∧ PySem.W.codeIn K cdv qual = true
  kp : PySem.W.keepIn K (.ref f) = true
theorem FunA.ok {P : Program} {w : World} {K : PySem.W.Frag} {mg : Str → Option Value} {base : Heap} {x qual : Str} {st : Stmt} {f : Addr} {fd : FuncData} {N ps : List Str} {k : Nat} {sp : Sp} (F : FunA K x qual st f fd) (S : FnScope N ps (defScope st)) (len : ∀ vs H Q E, sp vs H Q E → vs.length = ps.length)
    (hbody : ∀ (cdv : Value) (A : Around) (outer : List Env) (s : Shared) (H : Hp) (vs : List V) (Q : VK) (E : XK), Room k (A.deeper (envOfC qual (defScope st) s.heap.objs.size f cdv)) → sp vs H Q E →
      ∃ t, PSs (cxOf CX0 P w K mg base N qual (defScope st) f cdv A outer s H E).nox (defBody st) t ∧ t { nx := fun _ H' => Q .non H', rt := Q } (start N vs) H) : FnOk P w K mg base CX0 (k + 1) f fd ps sp := by
  obtain ⟨oc, od, dV, kV, doc, pm, an, cdv, ct, osl, rfl, lk, hcd⟩ := F.ex
  refine fn_of lk hcd S len fun A outer s H vs Q E hr hsp => ?_
  obtain ⟨t, ht, hq⟩ := hbody cdv A outer s H vs Q E hr hsp
  exact ⟨t, ht.nox, hq⟩
theorem find_V (K : PySem.W.Frag) : PySem.W.findCls K (.type "ValueError") (.type "type") "__init__" = some (.val (.builtin "ValueError.__init__")) := by kernel_rfl
def TxtOk (y : Str) : Prop := y.length ≤ 1000 ∧ ∀ c ∈ y.cps.toList, c < 16 ^ 8
theorem sz20 {n : Nat} (h : n ≤ 100000) : n ≤ sizeLine := Nat.le_trans h (by rw [sizeLine_eq]; decide)
theorem str_app (a b : Str) : (a ++ b).length = a.length + b.length := by
  show (a.cps ++ b.cps).size = a.cps.size + b.cps.size
  exact Array.size_append
def spBase (K : PySem.W.Frag) (b : BD) : Sp := fun vs H Q _ => ∃ (a C : Addr) (z y : Str), vs = [.ref a, .str z, .str y] ∧ OexG K C b ∧ PySem.W.findIn K (.ref C) "word" = some none ∧ H a = some (exo a C none) ∧
  ∀ dx, H dx = none → dx ≠ a → Q .non (upd (upd H dx (exd dx [("word", .str z)])) a (exo a C (some dx)))
def spErrI (C : Addr) (z f : Str) : Sp := fun vs H Q _ => ∃ (a : Addr) (y : Int), vs = [.ref a, .int y] ∧ y.natAbs < 10 ^ 100 ∧ H a = some (exo a C none) ∧
  ∀ dx, H dx = none → dx ≠ a → Q .non (upd (upd (upd H dx (exd dx [("word", .str z)])) a (exo a C (some dx))) dx (exd dx [(f, .int y), ("word", .str z)]))
theorem OexG.isC {K : PySem.W.Frag} {C : Addr} {b : BD} (T : OexG K C b) : (PySem.W.clsIn K C).isSome = true := by
  obtain ⟨nm, q, N, bs, bm, sn, sub, ab, col, dd, k0, k1, k2, k3, k5, hC, _⟩ := T.cls
  unfold PySem.W.clsIn
  rw [hC]
  rfl
theorem OexG.exm {K : PySem.W.Frag} {C : Addr} {b : BD} {cls : Value} {v : Bool} (T : OexG K C b) (h : PySem.W.subIn K cls (.ref C) = some v) : PySem.W.exmOne K cls (.ref C) = some v := by
  unfold PySem.W.exmOne
  rw [T.exC, if_pos (by simp)]
  show (if ((PySem.W.clsIn K C).isSome && PySem.W.typeIn K (.ref C) == some (.type "type")) = true then PySem.W.subIn K cls (.ref C) else none) = some v
  rw [T.isC, T.tyC, if_pos (by simp)]
  exact h
theorem exm1 {K : PySem.W.Frag} {C : Addr} {b : BD} {cls : Value} {v : Bool} (T : OexG K C b) (h : PySem.W.subIn K cls (.ref C) = some v) : PySem.W.exmAny K cls [.ref C] = some v := by
  unfold PySem.W.exmAny PySem.W.exmAny
  rw [T.exm h]
  simp
theorem exm2 {K : PySem.W.Frag} {C D : Addr} {b c : BD} {cls : Value} {v u : Bool} (T : OexG K C b) (S : OexG K D c) (h : PySem.W.subIn K cls (.ref C) = some v) (g : PySem.W.subIn K cls (.ref D) = some u) : PySem.W.exmAny K cls [.ref C, .ref D] = some (v || u) := by
  unfold PySem.W.exmAny
  rw [T.exm h, exm1 S g]
end RK
namespace RK
open PySem PySem.Spec PyProof.Rows L2 PySem.OEG
structure WinsW (H : Hp) (ws : List W3) : Prop where
  nd : (Names ws).Nodup
  tx : ∀ w ∈ ws, TxtOk w.1
  at_ : ∀ w ∈ ws, H w.2.1 = some (.tup w.2.2.vs)
theorem WinsW.same {H H' : Hp} {ws : List W3} (W : WinsW H ws) (e : Same H H') : WinsW H' ws := ⟨W.nd, W.tx, fun w hw => e _ _ (W.at_ w hw)⟩
theorem WinsW.perm {H : Hp} {ws us : List W3} (W : WinsW H ws) (p : us.Perm ws) : WinsW H us := ⟨(List.Perm.map (fun x : W3 => x.1) p).nodup_iff.mpr W.nd, fun w hw => W.tx w (p.mem_iff.mp hw), fun w hw => W.at_ w (p.mem_iff.mp hw)⟩
theorem err_heap2 {H : Hp} {a dx : Addr} {o1 o2 o3 o4 o5 : HO} (ha : H a = none) (ne : dx ≠ a) : upd (del (upd (upd (upd (upd H a o1) dx o2) a o3) dx o4) a) dx o5 = upd H dx o5 := by
  funext b
  by_cases h1 : b = dx
  · subst h1
    rw [upd_same, upd_same]
  · rw [upd_ne h1, upd_ne h1]
    by_cases h2 : b = a
    · subst h2
      rw [del_same, ha]
    · rw [del_ne h2, upd_ne h1, upd_ne h2, upd_ne h1, upd_ne h2]
def errS (z f : Str) (y : V) : List (Str × V) := [(f, y), ("word", .str z)]
def err0 (z : Str) : List (Str × V) := [("word", .str z)]
theorem free_up {H : Hp} {a dx : Addr} {o : HO} (h : upd H a o dx = none) : H dx = none := by
  by_cases e : dx = a
  · rw [e, upd_same] at h
    cases h
  · rw [upd_ne e] at h
    exact h
def ChkX (CS CN CR : Addr) (ws : List W3) (H : Hp) (Q : Hp → Prop) (E : XK) : Prop :=
  (¬ (1 ≤ ws.length ∧ ws.length ≤ 24) → ∀ dx, H dx = none → E (.ref CS) (some dx) (upd H dx (.xd (err0 "BadSize")))) ∧
  (1 ≤ ws.length ∧ ws.length ≤ 24 → ∀ us : List W3, us.Perm ws → sortedS (Names us) = true → ∀ H', Same H H' →
    ((∀ w ∈ us, NameOk w.1) → (∀ w ∈ us, w.2.2.good) → Q H') ∧
    (∀ pre w post, us = pre ++ w :: post → (∀ v ∈ pre, NameOk v.1) → ¬ NameOk w.1 → ∀ dx, H' dx = none → E (.ref CN) (some dx) (upd H' dx (.xd (errS "BadName" "name" (.str w.1))))) ∧
    (∀ pre w post, us = pre ++ w :: post → (∀ v ∈ us, NameOk v.1) → (∀ v ∈ pre, v.2.2.good) → ¬ w.2.2.good → ∀ dx, H' dx = none → E (.ref CR) (some dx) (upd H' dx (.xd (errS "BadRectangle" "name" (.str w.1))))))
theorem ChkX.same {CS CN CR : Addr} {ws : List W3} {H : Hp} {Q Q' : Hp → Prop} {E : XK} (h : ChkX CS CN CR ws H Q E) (k : ∀ H', Same H H' → Q H' → Q' H') : ChkX CS CN CR ws H Q' E :=
  ⟨h.1, fun l us pu so H' s' => ⟨fun n g => k H' s' ((h.2 l us pu so H' s').1 n g), (h.2 l us pu so H' s').2⟩⟩
end RK
namespace DL
open PySem PySem.Spec PyProof.Rows L2 RK
structure Er where
  C : Addr
  w : Str
  f : Option (Str × D)
def lfV : D → V
  | .str x => .str x
  | .int i => .int i
  | .bl b => .bl b
  | _ => .non
def Er.fs (e : Er) : List (Str × V) := match e.f with
  | none => err0 e.w
  | some (f, d) => errS e.w f (lfV d)
abbrev DSpX := List D → (D → Prop) → (Er → Prop) → Prop
def ErOk (F : Fx) (PX : Er → Prop) (E : XK) : Prop := ∀ (e : Er) (dx : Addr) (H' : Hp), PX e → KeepW F.W F.H0 H' → F.W.ok H' → F.H0 dx = none → H' dx = some (.xd e.fs) → E (.ref e.C) (some dx) H'
def noX : Er → Prop := fun _ => False
def lSpX (K : PySem.W.Frag) (fr : Fr) (sp : DSpX) : Sp := fun vs H Q E => ∃ (W : Wd) (N0 : Addr → Prop) (ds : List D) (P : D → Prop) (PX : Er → Prop), (∀ a, N0 a → ∃ o : HoN, H a = some o.1) ∧ (∀ a, W.own a → N0 a) ∧ W.ok H ∧ DdAll K N0 W H vs ds ∧ sp ds P PX ∧
  (∀ x v H', P x → KeepW W H H' → W.ok H' → Dd K N0 W H' v x → Nw K W N0 H fr H' v x → Q v H') ∧ ErOk ⟨K, W, N0, H, fr⟩ PX E
section
variable {X : Cx} {F : Fx} {e a b c : Expr} {es : List Expr} {d da db dc : TDE} {ds dk : TDA} {pos p : Pos} {PX : Er → Prop}
def dCallX (sp : DSpX) (PX : Er → Prop) (ds : TDA) : TDE := fun env P => ds env fun xs => sp xs P PX
theorem ErOk.up {E : XK} {env : De} {σ : L2.St} {L : List Addr} {H : Hp} {fr : Fr} {N0 : Addr → Prop} (hE : ErOk F PX E) (A : Abs F env σ L H) : ErOk ⟨F.K, F.W, N0, H, fr⟩ PX E := fun er dx H2 pe k2 o2 n2 h2 => hE er dx H2 pe (A.kp.trans k2) o2 (free_of A.kp A.ok n2) h2
theorem lcallX {fr : Fr} {sp : DSpX} {E : XK} {K : PySem.W.Frag} (hE : ErOk F PX E) (hK : F.K = K) : ∀ σ H Q, lC F (dCallX sp PX ds) σ H Q → tCall (lSpX K fr sp) [] E (lA F ds) σ H Q := fun σ H Q ⟨env, L, P, A, pp, q⟩ => by
  subst hK
  exact ⟨env, L, _, A, pp, fun xs vs H1 px k1 o1 d1 => ⟨F.W, F.N L, xs, P, PX, fun a h => (A.step k1 o1).alN h, fun a h => .inl (A.wn a h), o1, by rw [List.append_nil]; exact d1, px, fun x v H2 p2 k2 o2 d2 _ => q x v H2 p2 (k1.trans k2) o2 d2, hE.up (A.step k1 o1)⟩⟩
theorem lcallXN {sp : DSpX} {E : XK} {K : PySem.W.Frag} (hE : ErOk F PX E) (hK : F.K = K) : ∀ σ H Q, lN F (dCallX sp PX ds) σ H Q → tCall (lSpX K (.b true) sp) [] E (lA F ds) σ H Q := fun σ H Q ⟨env, L, P, A, pp, q⟩ => by
  subst hK
  refine ⟨env, L, _, A, pp, fun xs vs H1 px k1 o1 d1 => ⟨F.W, F.N L, xs, P, PX, fun a h => (A.step k1 o1).alN h, fun a h => .inl (A.wn a h), o1, by rw [List.append_nil]; exact d1, px, fun x v H2 p2 k2 o2 d2 nn => ?_, hE.up (A.step k1 o1)⟩⟩
  obtain ⟨a, rfl, h1, h2⟩ := nn.n rfl
  exact q x a H2 p2 (k1.trans k2) o2 (free_of k1 o1 h1) (new_of (fr := .b true) rfl rfl rfl h2)
variable {CX : CXT} {k : Nat} {f : Addr} {fd : FuncData} {ps ks : List Str} {sp : DSpX} {E : XK} {x : Str} {fr : Fr} {K : PySem.W.Frag}
theorem dd_callX (hE : ErOk F PX E) (G : FnOk X.prog X.w X.K X.mg X.base CX k f fd ps (lSpX K fr sp)) (hr : Room k X.A) (hg : Gl X x) (hm : X.mg x = some (.ref f)) (hk : PySem.W.keepIn X.K (.ref f) = true) (hb : Binds X.K fd ps []) (hx : Passes CX X E) (ha : PA X (e :: es) (lA F ds)) (hK : F.K = K := by rfl)
    (he : starEach (e :: es) X.env = (false, eval e X.env) :: starEach es X.env := by rfl) (hpl : (backTo pos (starEach es X.env)).any (·.1) = false := by rfl) (hdb : (x == ("__debug__" : Str)) = false := by decide) :
    PE X (.Call (.Name x p) (e :: es) [] pos) (lC F (dCallX sp PX ds)) := PE.mono (pe_call G hr hg hm hk hb .nil hx ha hdb he hpl) (lcallX hE hK)
theorem dn_callX (hE : ErOk F PX E) (G : FnOk X.prog X.w X.K X.mg X.base CX k f fd ps (lSpX K (.b true) sp)) (hr : Room k X.A) (hg : Gl X x) (hm : X.mg x = some (.ref f)) (hk : PySem.W.keepIn X.K (.ref f) = true) (hb : Binds X.K fd ps []) (hx : Passes CX X E) (ha : PA X (e :: es) (lA F ds)) (hK : F.K = K := by rfl)
    (he : starEach (e :: es) X.env = (false, eval e X.env) :: starEach es X.env := by rfl) (hpl : (backTo pos (starEach es X.env)).any (·.1) = false := by rfl) (hdb : (x == ("__debug__" : Str)) = false := by decide) :
    PE X (.Call (.Name x p) (e :: es) [] pos) (lN F (dCallX sp PX ds)) := PE.mono (pe_call G hr hg hm hk hb .nil hx ha hdb he hpl) (lcallXN hE hK)
def sRaiseI (PX : Er → Prop) (C : Addr) (z f : Str) (d : TDE) : TDS := fun _ env => d env fun x => match x with
  | .int i => i.natAbs < 10 ^ 100 ∧ PX ⟨C, z, some (f, .int i)⟩
  | _ => False
theorem er_new {er : Er} {env : De} {σ : L2.St} {L : List Addr} {H : Hp} (hE : ErOk F PX E) (A : Abs F env σ L H) (h : PX er) : ∀ dx, H dx = none → E (.ref er.C) (some dx) (upd H dx (.xd er.fs)) := fun dx n => hE er dx _ h (A.kp.trans (.new n)) (ok_new A.ok n) (free_of A.kp A.ok n) upd_same
theorem raiseI {C : Addr} {z f : Str} {y : Int} {H : Hp} {Q : XK} {E : XK} (hy : y.natAbs < 10 ^ 100) (q : ∀ dx, H dx = none → Q (.ref C) (some dx) (upd H dx (.xd (errS z f (.int y))))) :
    [V.int y].length ≤ 1000 ∧ ∀ a, H a = none → spErrI C z f (.ref a :: ([.int y] ++ [])) (upd H a (exo a C none))
      (fun v H2 => v = .non ∧ ∃ (d : Addr) (fs : List (Str × V)), H2 a = some (exo a C (some d)) ∧ H2 d = some (exd d fs) ∧ H d = none ∧ Q (.ref C) (some d) (upd (del H2 a) d (.xd fs))) E := by
  refine ⟨by simp, fun a na => ⟨a, y, rfl, hy, upd_same, fun dx n ne => ⟨rfl, dx, errS z f (.int y), ?_, upd_same, free_up n, ?_⟩⟩⟩
  · rw [upd_ne (Ne.symm ne), upd_same]
  · rw [err_heap2 na ne]
    exact q dx (free_up n)
theorem l_raiseI {C : Addr} {z f : Str} {d : TDE} (hE : ErOk F PX E) : ∀ D σ H, lS F (sRaiseI PX C z f d) D σ H → (fun _ σ H => L2.tMkO C (spErrI C z f) [] (tCons (lC F d) tNil) σ H fun cls d H' => E cls d H') D σ H := fun D σ H ⟨env, L, P, A, pp, _⟩ =>
  ⟨env, L, _, A, pp, fun x v H1 px k1 o1 d1 => by
    cases x with
    | int y =>
      have := dd_intE d1
      subst this
      exact raiseI px.1 fun dx n => er_new (er := ⟨C, z, some (f, .int y)⟩) hE (A.step k1 o1) px.2 dx n
    | _ => exact px.elim⟩
theorem ds_raiseI {C : Addr} {z f : Str} {d : TDE} (hE : ErOk F PX E) (hc : X.calm = true) (tk : Takes X fun cls d _ H => E cls d H) (he : PMk X e (L2.tMkO C (spErrI C z f) [] (tCons (lC F d) tNil))) : PS X (.Raise (some e) none pos) (lS F (sRaiseI PX C z f d)) := PS.mono (ps_raise hc tk he) (l_raiseI hE)
end
end DL
namespace RK
open PySem PySem.Spec PyProof.Rows L2 LamX
section
variable {X : Cx} {pins : List (Addr × Obj)} {σ : L2.St} {H H1 : Hp} {s s1 : Shared}
def tLamT (T : List (Addr × Str)) (TT : (XK → Hp → VK → Prop) → Hp → VK → Prop) (t : XK → TE) : TE := fun σ H Q => Tabs T H ∧ ∀ H1, ExtN H H1 → NoT H H1 → Tabs T H1 → TT (fun E H' Q' => t E σ H' Q') H1 Q
end
end RK
namespace RK
open PySem PySem.Spec PyProof.Rows L2
def mx (i j : Int) : Int := if j > i then j else i
def mn (i j : Int) : Int := if j < i then j else i
def R.meets (p q : R) : Prop := mx p.l q.l < mn p.r q.r ∧ mx p.t q.t < mn p.b q.b
instance (p q : R) : Decidable (p.meets q) := by unfold R.meets; infer_instance
def ltS (a b : Str) : Bool := decide (a.cps.toList < b.cps.toList)
def TxP (H : Hp) (ts : List Addr) (ps : List (Str × Str)) : Prop := Paired (fun p (z : Str × Str) => H p = some (.tup [.str z.1, .str z.2])) ts ps
theorem TxP.mono {H H' : Hp} (k : ∀ p xs, H p = some (.tup xs) → H' p = some (.tup xs)) : ∀ {ts : List Addr} {ps : List (Str × Str)}, TxP H ts ps → TxP H' ts ps
  | _, _, .nil => .nil
  | _, _, .cons h t => .cons (k _ _ h) (TxP.mono k t)
theorem TxP.append {H : Hp} : ∀ {ts us : List Addr} {ps qs : List (Str × Str)}, TxP H ts ps → TxP H us qs → TxP H (ts ++ us) (ps ++ qs)
  | _, _, _, _, .nil, h => h
  | _, _, _, _, .cons g t, h => .cons g (TxP.append t h)
theorem TxP.len {H : Hp} {ts : List Addr} {ps : List (Str × Str)} (h : TxP H ts ps) : ts.length = ps.length := Paired.length h
theorem TxP.dp {K : PySem.W.Frag} {H : Hp} : ∀ {ts : List Addr} {ps : List (Str × Str)}, TxP H ts ps → DpAll K H (ts.map V.ref) (ps.map fun z => .tuple [.str z.1, .str z.2])
  | _, _, .nil => .nil
  | _, _, .cons h t => .cons (.tup (.inl (.inl h)) (.cons (.str _) (.cons (.str _) .nil))) (TxP.dp t)
inductive Stp where
  | mv (up : Bool) (names : List Str)
  | pl (z : Str) (a : Addr) (r : R)
def wordOf (up : Bool) : Str := if up = true then "raise" else "lower"
def StpAt (H : Hp) (p : Addr) : Stp → Prop
  | .mv up zs => ∃ l, H p = some (.tup [.str (wordOf up), .ref l]) ∧ H l = some (.lst (zs.map V.str))
  | .pl z a r => H p = some (.tup [.str "place", .str z, .ref a]) ∧ H a = some (.tup r.vs)
def Apart (b : Addr) (H : Hp) (p : Addr) : Prop := ∀ w l, H p = some (.tup [.str w, .ref l]) → l ≠ b
theorem StpAt.keep {b s : Addr} {H H' : Hp} {p : Addr} (k : Keep b H H') (B : Bag b s H) (ap : Apart b H p) : ∀ {x : Stp}, StpAt H p x → StpAt H' p x
  | .mv up zs, h => by
    obtain ⟨l, h1, h2⟩ := h
    exact ⟨l, k.of_tup B h1, k _ _ (ap _ _ h1) h2⟩
  | .pl z a r, h => ⟨k.of_tup B h.1, k.of_tup B h.2⟩
theorem StpAt.same {H H' : Hp} {p : Addr} (e : Same H H') : ∀ {x : Stp}, StpAt H p x → StpAt H' p x
  | .mv up zs, h => by
    obtain ⟨l, h1, h2⟩ := h
    exact ⟨l, e _ _ h1, e _ _ h2⟩
  | .pl z a r, h => ⟨e _ _ h.1, e _ _ h.2⟩
theorem StpAt.tup {H : Hp} {p : Addr} : ∀ {x : Stp}, StpAt H p x → ∃ xs, H p = some (.tup xs)
  | .mv up zs, h => by
    obtain ⟨l, h1, _⟩ := h
    exact ⟨_, h1⟩
  | .pl z a r, h => ⟨_, h.1⟩
theorem Apart.keep {b s : Addr} {H H' : Hp} {p : Addr} {xs : List V} (k : Keep b H H') (B : Bag b s H) (hp : H p = some (.tup xs)) (ap : Apart b H p) : Apart b H' p := fun w l h => by
  have := k.of_tup B hp
  rw [this] at h
  have e : xs = [.str w, .ref l] := by
    injection h with h
    injection h
  exact ap w l (e ▸ hp)
theorem Apart.same {b : Addr} {H H' : Hp} {p : Addr} {xs : List V} (e : Same H H') (hp : H p = some (.tup xs)) (ap : Apart b H p) : Apart b H' p := fun w l h => by
  have := e _ _ hp
  rw [this] at h
  have e2 : xs = [.str w, .ref l] := by
    injection h with h
    injection h
  exact ap w l (e2 ▸ hp)
def StpsAt (H : Hp) (ps : List Addr) (xs : List Stp) : Prop := Paired (fun p x => StpAt H p x) ps xs
theorem StpsAt.same {H H' : Hp} (e : Same H H') : ∀ {ps : List Addr} {xs : List Stp}, StpsAt H ps xs → StpsAt H' ps xs
  | _, _, .nil => .nil
  | _, _, .cons h t => .cons (h.same e) (StpsAt.same e t)
theorem StpsAt.len {H : Hp} {ps : List Addr} {xs : List Stp} (h : StpsAt H ps xs) : ps.length = xs.length := Paired.length h
theorem StpsAt.get {H : Hp} : ∀ {ps : List Addr} {xs : List Stp} {i : Nat} {p : Addr}, StpsAt H ps xs → ps[i]? = some p → ∃ x, xs[i]? = some x ∧ StpAt H p x
  | _, _, _, _, .nil, h => by simp at h
  | _, _, 0, _, .cons g _, h => by
    have e := Option.some.inj h
    subst e
    exact ⟨_, rfl, g⟩
  | _, _, i + 1, _, .cons _ t, h => StpsAt.get (i := i) t h
theorem StpsAt.map {H H' : Hp} : ∀ {ps : List Addr} {xs : List Stp}, (∀ p ∈ ps, ∀ x, StpAt H p x → StpAt H' p x) → StpsAt H ps xs → StpsAt H' ps xs
  | _, _, _, .nil => .nil
  | _, _, k, .cons h t => .cons (k _ List.mem_cons_self _ h) (StpsAt.map (fun p hp => k p (List.mem_cons_of_mem _ hp)) t)
theorem in_strs (z : Str) (zs : List Str) : inV (.str z) (zs.map V.str) = decide (z ∈ zs) := by
  unfold inV
  induction zs with
  | nil => rfl
  | cons y zs ih =>
    rw [List.map_cons, List.any_cons, ih]
    by_cases h : y = z
    · subst h
      simp [eqV]
    · have h2 : ¬ z = y := fun e => h e.symm
      simp [eqV, h, h2]
theorem flat_strs (zs : List Str) : (zs.map V.str).all flatV = true := by
  rw [List.all_eq_true]
  intro x hx
  obtain ⟨z, _, rfl⟩ := List.mem_map.mp hx
  rfl
end RK
namespace RK
open PySem PySem.Spec PyProof.Rows L2 PySem.OEG
structure Sn (H H' : Hp) : Prop where
  f : Same H H'
  n : NoT H H'
theorem Sn.new {H : Hp} {p : Addr} (h : H p = none) (o : HO) (n : Ntb o := by exact True.intro) : Sn H (upd H p o) := ⟨same_new h o, noT_upd n⟩
theorem Sn.trans {H H1 H2 : Hp} (a : Sn H H1) (b : Sn H1 H2) : Sn H H2 := ⟨a.f.trans b.f, fun x ps h => let ⟨qs, q⟩ := b.n x ps h; a.n x qs q⟩
structure ErrP (K : PySem.W.Frag) (H : Hp) (p : Addr × Obj) (C dd : Addr) (fs : List (Str × V)) (w : Str) : Prop where
  data : ∃ vs, p.2.data = .fields vs
  z : Zc (.ref C) (some dd) p.2
  xf : XfC K C
  nw : PySem.W.findIn K (.ref C) "word" = some none
  hx : H dd = some (.xd fs)
  lw : fs.lookup ("word" : Str) = some (.str w)
theorem ErrP.same {K : PySem.W.Frag} {H H' : Hp} {p : Addr × Obj} {C dd : Addr} {fs : List (Str × V)} {w : Str} (e : ErrP K H p C dd fs w) (s : Same H H') : ErrP K H' p C dd fs w := ⟨e.data, e.z, e.xf, e.nw, s _ _ e.hx, e.lw⟩
def lNam : List Str := ["BadName", "BadRectangle", "BadCost", "Unknown"]
def lAt : List Str := ["BadStep", "BadWish", "BadFact", "BadDeed", "BadText"]
def lStm : List Str := ["Taken", "Clash", "NoStamp"]
def lNum : List Str := ["Full", "NoWatch", "BadPage"]
def fieldName (w : Str) : Option Str := if w ∈ lNam then some "name" else if w ∈ lAt then some "at" else if w ∈ lStm then some "stamp" else if w ∈ lNum then some (if w = "Full" then "most" else if w = "BadPage" then "row" else "number") else none
def FieldOf (K : PySem.W.Frag) (C : Addr) (fs : List (Str × V)) (w : Str) (v : V) : Prop := match fieldName w with
  | none => v = .non
  | some n => PySem.W.findIn K (.ref C) n = some none ∧ fs.lookup n = some v
def spField (K : PySem.W.Frag) : SpP := fun p vs H Q _ => vs = [.ref p.1] ∧ ∃ (C dd : Addr) (fs : List (Str × V)) (w : Str) (v : V), ErrP K H p C dd fs w ∧ FieldOf K C fs w v ∧ ∀ H', Sn H H' → Q v H'
def tXa (K : PySem.W.Frag) (a : Addr) (cls : Value) (d : Option Addr) (n : Str) (te : TE) : TE := fun σ H Q => te σ H fun x H1 => x = .ref a ∧ ∃ (C dd : Addr) (fs : List (Str × V)) (v : V), cls = .ref C ∧ d = some dd ∧ XfC K C ∧ PySem.W.findIn K (.ref C) n = some none ∧ H1 dd = some (.xd fs) ∧ fs.lookup n = some v ∧ Q v H1
theorem pe_xa {X : Cx} {a : Addr} {oe : Obj} {cls : Value} {d : Option Addr} {e : Expr} {te : TE} {pos : Pos} {n : Str} (hz : Zc cls d oe) (hf : ∃ vs, oe.data = .fields vs) (hp : (a, oe) ∈ X.pn) (he : PE X e te) (hb : attributeBase e n X.env (eval e X.env) = eval e X.env := by rfl) :
    PE X (.Attribute e n pos) (tXa X.K a cls d n te) := by
  refine ⟨fun pins s σ H Q I h => ?_⟩
  refine attr_of hb (thn (he.run pins s σ H _ I h) fun u s1 hh => ?_)
  obtain ⟨x, H1, I1, rx, ex, C, dd, fs, v, ec, ed, T, hno, ea, l, q⟩ := hh
  subst ex
  subst ec
  subst ed
  obtain rfl : u = Value.ref a := rx
  obtain ⟨ha, _⟩ := I1.pin (a, oe) (List.mem_append_left _ hp)
  obtain ⟨vs, hd⟩ := hf
  have hx : ObjOk X.prog X.w H1 s1.heap dd (.xd fs) := I1.hok dd _ ea
  obtain ⟨mA, hns, hr⟩ := hx
  obtain ⟨od, ho, hl⟩ := lookIn_ns hns
  obtain ⟨u, hu, ru⟩ := RelO.some_of (v := v) (o := mA n) (by rw [← l]; exact hr n)
  have J : PySem.W.InstAt s1.heap a oe C (some od) := ⟨ha, hz.1, by unfold PySem.W.notCls; rw [hd] <;> rfl, by rw [hz.2]; exact ho⟩
  exact HandSPX.exc_get I1.kIn J T.ga T.gg T.exC (PySem.W.findObj_own T.hdC hno rfl (by rw [hl, hu])) (handed_of ru) ⟨v, H1, I1.tok _, ru, q⟩
def ErrA (K : PySem.W.Frag) (cls : Value) (d : Option Addr) (H : Hp) (C dd : Addr) (fs : List (Str × V)) (w : Str) : Prop := cls = .ref C ∧ d = some dd ∧ XfC K C ∧ PySem.W.findIn K (.ref C) "word" = some none ∧ H dd = some (.xd fs) ∧ fs.lookup ("word" : Str) = some (.str w)
def tFieldA (K : PySem.W.Frag) (a : Addr) (cls : Value) (d : Option Addr) (t : TA) : TE := fun σ H Q => t σ H fun vs H1 => vs = [.ref a] ∧ ∃ (C dd : Addr) (fs : List (Str × V)) (w : Str) (v : V), ErrA K cls d H1 C dd fs w ∧ FieldOf K C fs w v ∧ ∀ H', Sn H1 H' → Q v H'
theorem pe_fieldA {X : Cx} {k : Nat} {f : Addr} {fd : FuncData} {x : Str} {q pos : Pos} {e : Expr} {t : TA} {a : Addr} {oe : Obj} {cls : Value} {d : Option Addr} (hz : Zc cls d oe) (hf : ∃ vs, oe.data = .fields vs) (F : FnP X.prog X.w X.K X.mg X.base CX0 k f fd ["_law_e"] (spField X.K)) (hr : L2H.RoomH k X.A) (hp : (a, oe) ∈ X.pn) (hg : Gl X x)
    (hm : X.mg x = some (.ref f)) (hk : PySem.W.keepIn X.K (.ref f) = true) (hb : Binds X.K fd ["_law_e"] []) (ha : PA X [e] t) (hdb : (x == ("__debug__" : Str)) = false := by decide) (he : starEach [e] X.env = (false, eval e X.env) :: starEach [] X.env := by rfl) (hpl : (backTo pos (starEach [] X.env)).any (·.1) = false := by rfl) :
    PE X (.Call (.Name x q) [e] [] pos) (tFieldA X.K a cls d t) := by
  refine ⟨fun pins s σ H Q I h => ?_⟩
  refine wpAny_Call_Name_kw (ld_glob I hg hm ?_ hdb)
  refine PySem.W.callWith_K (h₀ := X.base) I.ok.mod.kin hk (thn (ha.run pos pins s σ H _ I h) fun us s1 ⟨vs, H1, I1, r, ev, C, dd, fs, w, v, ⟨ec, ed, xf, nw, hx, lw⟩, fo, q⟩ => ⟨I1.kIn, ?_⟩) he hpl
  subst ec
  subst ed
  exact run_fnP (E := E0) F hr hp hb pass0 I1 r ⟨ev, C, dd, fs, w, v, ⟨hf, hz, xf, nw, hx, lw⟩, fo, q⟩
def TTry (K : PySem.W.Frag) (CD CM CL : Addr) : (XK → Hp → VK → Prop) → Hp → VK → Prop := fun tl H Q =>
  tl (fun cls d H' => ∃ (C dd : Addr) (fs : List (Str × V)) (w : Str), ErrA K cls d H' C dd fs w ∧
      ((PySem.W.exmAny K cls [.ref CD, .ref CM] = some true ∧ ∃ v, FieldOf K C fs w v ∧ ∀ H2 t, Sn H' H2 → H2 t = none → Q (.ref t) (upd H2 t (.tup [.str w, v]))) ∨
       (PySem.W.exmAny K cls [.ref CD, .ref CM] = some false ∧ PySem.W.exmAny K cls [.ref CL] = some true ∧ ∀ t, H' t = none → Q (.ref t) (upd H' t (.tup [.str w, .non]))))) H
    (fun v H1 => [V.str "value", v].length ≤ sizeLine ∧ ∀ t, H1 t = none → Q (.ref t) (upd H1 t (.tup [.str "value", v])))
end RK
namespace DL
open PySem PySem.Spec PyProof.Rows L2 RK LamX
def En.hide : En → En
  | .fz d => .fz d
  | _ => .no
def hideO (env : De) : De := env.map En.hide
section
variable {F : Fx} {env : De} {σ : L2.St} {L : List Addr} {H H' : Hp}
theorem En.hide_ow : ∀ e : En, e.hide.isOw = false
  | .no => rfl
  | .fz _ => rfl
  | .ow _ => rfl
  | .od _ => rfl
  | .ot _ => rfl
  | .oo _ _ _ => rfl
  | .fe _ => rfl
theorem n_nil {N : Addr → Prop} {a : Addr} {K : PySem.W.Frag} {W : Wd} {H0 : Hp} {fr : Fr} : Fx.N ⟨K, W, N, H0, fr⟩ [] a ↔ N a := ⟨fun h => h.elim id (fun z => by cases z), fun h => .inl h⟩
theorem Abs.hid (A : Abs F env σ L H) : Abs ⟨F.K, F.W, F.N L, H, false⟩ (hideO env) σ [] H where
  ok := A.ok
  al := fun a h => A.alN h
  wn := fun a h => .inl (A.wn a h)
  kp := .refl _ _
  fr := fun a h => by cases h
  ls := by unfold hideO; rw [List.length_map]; exact A.ls
  sep := fun i j a ei ej h1 _ h3 _ _ _ => by
    unfold hideO at h1
    rw [List.getElem?_map] at h1
    obtain ⟨e, _, rfl⟩ := Option.map_eq_some_iff.mp h1
    rw [En.hide_ow] at h3
    cases h3
  so := fun i e b h hb => by
    unfold hideO at h
    rw [List.getElem?_map] at h
    obtain ⟨e, _, rfl⟩ := Option.map_eq_some_iff.mp h
    cases e <;> cases hb
  en := fun i e x h1 h2 => by
    unfold hideO at h1
    rw [List.getElem?_map] at h1
    obtain ⟨e, he, rfl⟩ := Option.map_eq_some_iff.mp h1
    have h3 := A.en i e x he h2
    cases e with
    | fz d =>
      cases x with
      | none => exact h3.elim
      | some v => exact Dd.keep (fun a o _ h => h) (fun a h => n_nil.mp h) h3
    | _ => exact trivial
abbrev ErCl := List (Addr × Str × Option Str)
def ErCl.has (ec : ErCl) (e : Er) : Prop := (e.C, e.w, e.f.map (·.1)) ∈ ec ∧ ∀ p, e.f = some p → p.2.leaf = true
def Er.val (e : Er) : D := match e.f with | none => .non | some p => p.2
def dTry (ec : ErCl) (d : (Er → Prop) → TDE) : TDE := fun env P => d (fun e => ec.has e ∧ P (.tup [.str e.w, e.val])) (hideO env) fun x => P (.tup [.str "value", x])
structure ClOk (K : PySem.W.Frag) (CD CM CL : Addr) (k : Addr × Str × Option Str) : Prop where
  xf : XfC K k.1
  nw : PySem.W.findIn K (.ref k.1) "word" = some none
  ct : (PySem.W.exmAny K (.ref k.1) [.ref CD, .ref CM] = some true ∧ fieldName k.2.1 = k.2.2 ∧ ∀ n, k.2.2 = some n → n ≠ "word" ∧ PySem.W.findIn K (.ref k.1) n = some none) ∨
    (PySem.W.exmAny K (.ref k.1) [.ref CD, .ref CM] = some false ∧ PySem.W.exmAny K (.ref k.1) [.ref CL] = some true ∧ k.2.2 = none)
theorem er_word {e : Er} (h : ∀ p, e.f = some p → p.1 ≠ "word") : e.fs.lookup ("word" : Str) = some (.str e.w) := by
  unfold Er.fs
  cases q : e.f with
  | none => rfl
  | some p =>
    obtain ⟨f, d⟩ := p
    have n : ((Str.ofString "word") == f) = false := by
      cases z : ((Str.ofString "word") == f) with
      | false => rfl
      | true => exact (h _ q (eq_of_beq z).symm).elim
    show List.lookup (Str.ofString "word") ([(f, lfV d), ("word", V.str e.w)] : List (Str × V)) = _
    simp [List.lookup, n]
theorem lf_dd {K : PySem.W.Frag} {N : Addr → Prop} {W : Wd} {H : Hp} : ∀ {d : D}, d.leaf = true → Dd K N W H (lfV d) d
  | .non, _ => .non
  | .bl b, _ => .bl b
  | .int i, _ => .int i
  | .str x, _ => .str x
theorem sn_keep {W : Wd} {H H' : Hp} (h : Sn H H') : KeepW W H H' := fun a o _ q => h.f a o q
theorem sn_ok {W : Wd} {H H' : Hp} (k : W.ok H) (h : Sn H H') : W.ok H' := Wd.st k (fun a o q _ => h.f a o q) h.n
theorem ext_ok {b s : Addr} {T : List (Addr × Str)} (k : Wd.ok (some (b, s, T)) H) (ne : T ≠ []) (e : ExtN H H') (n : NoT H H') (t : Tabs T H') : Wd.ok (some (b, s, T)) H' := by
  obtain ⟨B, _, nt⟩ := k
  obtain ⟨ns, i, big, salt, B⟩ := B
  refine ⟨⟨ns, i, big, salt, e _ _ B.hb (fun ps z => by cases z), e _ _ B.hs (fun ps z => by cases z), B.ne, B.hi, B.hn, B.h0, B.h1, B.h2⟩, t, fun _ a ps h => ?_⟩
  obtain ⟨qs, h⟩ := n a ps h
  exact nt ne a qs h
theorem ext_keep {b s : Addr} {T : List (Addr × Str)} (k : Wd.ok (some (b, s, T)) H) (ne : T ≠ []) (e : ExtN H H') : KeepW (some (b, s, T)) H H' := fun a o nw h => e a o h fun ps z => by
  subst z
  obtain ⟨p, hp, e⟩ := k.2.2 ne a ps h
  exact nw (.inr (.inr ⟨p, hp, e⟩))
variable {ec : ErCl} {d : (Er → Prop) → TDE} {CD CM CL : Addr} {b s : Addr} {T : List (Addr × Str)}
def tTryB (F : Fx) (d : (Er → Prop) → TDE) (E : XK) : TE := fun σ H Q => ∃ (N0 : Addr → Prop) (H0 : Hp) (PX : Er → Prop), ErOk ⟨F.K, F.W, N0, H0, false⟩ PX E ∧ lC ⟨F.K, F.W, N0, H0, false⟩ (d PX) σ H Q
theorem tryB_of {X : Cx} {e : Expr} {E : XK} (h : ∀ (N0 : Addr → Prop) (H0 : Hp) (PX : Er → Prop), ErOk ⟨F.K, F.W, N0, H0, false⟩ PX E → PE X e (lC ⟨F.K, F.W, N0, H0, false⟩ (d PX))) : PE X e (tTryB F d E) :=
  ⟨fun pins s σ H Q I ⟨N0, H0, PX, hE, q⟩ => (h N0 H0 PX hE).run pins s σ H Q I q⟩
theorem l_try (hW : F.W = some (b, s, T)) (ne : T ≠ []) (hc : ∀ k ∈ ec, ClOk F.K CD CM CL k) : ∀ σ H Q, lN F (dTry ec d) σ H Q → tLamT T (TTry F.K CD CM CL) (tTryB F d) σ H Q := fun σ H Q ⟨env, L, P, A, p, q⟩ => by
  have ok := A.ok
  rw [hW] at ok
  refine ⟨ok.2.1, fun H1 eN nT t1 => ?_⟩
  have ok1 : F.W.ok H1 := by rw [hW]; exact ext_ok ok ne eN nT t1
  have k1 : KeepW F.W H H1 := by rw [hW]; exact ext_keep ok ne eN
  have A1 := A.step k1 ok1
  have B1 := A1.hid
  have fin : ∀ {H2 : Hp} {t : Addr} {w : Str} {v : V} {x : D}, KeepW F.W H1 H2 → F.W.ok H2 → H2 t = none → Dd F.K (F.N L) F.W H2 v x → P (.tup [.str w, x]) → Q (.ref t) (upd H2 t (.tup [.str w, v])) := fun {H2 t w v x} k2 o2 nt d2 px => by
    have k := k1.trans k2
    refine q _ t _ px (k.trans (.new nt)) (ok_new o2 nt) (free_of k o2 nt) (new_tupN (A.step k o2) nt (.cons (.str w) (.cons d2 .nil)))
  refine ⟨F.N L, H1, _, fun er dx H2 ⟨⟨hm, hl⟩, hP⟩ k2 o2 n2 hx => ?_, hideO env, [], _, B1, p, fun x v H2 px k2 o2 d2 => ⟨by show 2 ≤ sizeLine; decide, fun t nt => fin k2 o2 nt (d2.keep (fun _ _ _ h => h) fun a h => n_nil.mpr h) px⟩⟩
  have c := hc _ hm
  have wd : ∀ p, er.f = some p → p.1 ≠ "word" := fun p hp => by
    rcases c.ct with ⟨_, _, c3⟩ | ⟨_, _, c3⟩
    · exact (c3 p.1 (by show er.f.map _ = _; rw [hp]; rfl)).1
    · have c3 : er.f.map (·.1) = none := c3
      rw [hp] at c3
      cases c3
  have hv : Dd F.K (F.N L) F.W H2 (lfV er.val) er.val := by
    unfold Er.val
    cases hf : er.f with
    | none => exact .non
    | some p => exact lf_dd (hl p hf)
  refine ⟨er.C, dx, er.fs, er.w, ⟨rfl, rfl, c.xf, c.nw, hx, er_word wd⟩, ?_⟩
  rcases c.ct with ⟨c1, c2, c3⟩ | ⟨c1, c2, c3⟩
  · refine .inl ⟨c1, lfV er.val, ?_, fun H3 t s3 nt => fin (k2.trans (sn_keep s3)) (sn_ok o2 s3) nt (hv.keep (fun a o _ h => s3.f a o h) fun _ h => h) hP⟩
    unfold FieldOf
    rw [show fieldName er.w = er.f.map (·.1) from c2]
    unfold Er.fs Er.val
    cases hf : er.f with
    | none => rfl
    | some p =>
      obtain ⟨f, d⟩ := p
      refine ⟨(c3 f (by show er.f.map _ = _; rw [hf]; rfl)).2, ?_⟩
      show ([(f, lfV d), ("word", V.str er.w)] : List (Str × V)).lookup f = _
      simp [List.lookup]
  · refine .inr ⟨c1, c2, fun t nt => ?_⟩
    have e0 : er.val = .non := by
      have c3 : er.f.map (·.1) = none := c3
      unfold Er.val
      cases hf : er.f with
      | none => rfl
      | some p => rw [hf] at c3; cases c3
    have z := fin (w := er.w) k2 o2 nt hv hP
    rw [e0] at z
    exact z
end
end DL
namespace RK
open PySem PySem.Spec PyProof.Rows L2 LamX
variable {P : Program} {w : World} {K : PySem.W.Frag} {mg : Str → Option Value}
abbrev tab0 : Obj := { cls := .none, data := .fields #[] }
structure OnlyT (cs : List (Addr × Addr)) (H : Hp) : Prop where
  tb : ∀ p ∈ cs, H p.2 = some (.tbl #[])
  on : ∀ b, H b = none ∨ (∃ p ∈ cs, p.2 = b) ∨ ∃ o xs, H b = some (.frz o (.lst xs))
structure TabW (h : Heap) (K : PySem.W.Frag) (cs : List (Addr × Addr)) : Prop where
  e : ∀ p ∈ cs, h.get? p.2 = some tab0
  n : ∀ p ∈ cs, K.lookup p.2 = none
  c : ∀ p ∈ cs, PySem.W.codeHdIn K p.1 p.2 = true
theorem law_coreT {mb : Str → Option Value} {CX : CXT} {fa a : Addr} {cs : List (Addr × Addr)} {fd : FuncData} {x : Str} {sp : Sp} {s1 : Shared} {vs : List Value} {H : Hp}
    (KX : K.In s1.heap) (hns : s1.heap.Ns mainGlobals mg) (hb : s1.heap.Ns builtinsNs mb) (hbb : ∀ x : Str, x ≠ "__name__" → mb x = bootBuiltins x) (hlim : s1.heap.NoLimit) (hg : s1.gens = #[])
    (tw : TabW s1.heap K cs) (bm : ∃ (bm : Addr) (ob : Obj), mg "__builtins__" = some (.ref bm) ∧ bm ≠ builtinsNs ∧ s1.heap.get? bm = some ob ∧ ob.cls = .type "module" ∧ ob.dict = some builtinsNs ∧ ob.data = .plain)
    (ha : s1.heap.get? a = some { cls := .type "list", data := .seq vs.toArray }) (F : ∀ bs : Heap, K.In bs → bs.Ns mainGlobals mg → (∀ p ∈ cs, TabB bs mg p.1 p.2) → FnAt P w K mg bs CX callerA fa fd [x] sp) (hbind : ∀ (s : Shared) (u : Value), BindsTo s fd ⟨[u], []⟩ [(x, u)])
    (hCX : ∀ H e s', CX [] H s1 (fun _ _ _ => False) e s' → False) (hO : OnlyT cs H) (hsp : sp [.ref a] H (fun v _ => v = .bl true) fun _ _ _ => False) (hok : HOk P w H s1.heap) (one : ∀ b, H b ≠ none → (b = a ∧ K.lookup a = none) ∨ ∃ p ∈ cs, p.2 = b) :
    codeAny (model P w) callerA (.call (.ref fa) ⟨[.ref a], []⟩) (fun r s' => r = .ok (.ret (.bool true)) ∧ OldK s1.heap s'.heap ∧ s'.os = s1.os ∧ AllBare s'.gens) s1 := by
  have isT : ∀ b, (∃ p ∈ cs, p.2 = b) → s1.heap.get? b = some tab0 ∧ K.lookup b = none := fun b ⟨p, hp, e⟩ => e ▸ ⟨tw.e p hp, tw.n p hp⟩
  have un : ∀ {b : Addr} {o : Obj}, s1.heap.get? b = some o → o ≠ { cls := .type "list", data := .seq vs.toArray } → o ≠ tab0 → H b = none := fun {b o} e n1 n2 => by
    refine Classical.byContradiction fun z => ?_
    rcases one b z with ⟨q, _⟩ | q
    · rw [q, ha] at e
      exact n1 (Option.some.inj e).symm
    · rw [(isT b q).1] at e
      exact n2 (Option.some.inj e).symm
  have ns : ∀ {b : Addr} {m : Str → Option Value}, s1.heap.Ns b m → (hidT s1.heap H).Ns b m := fun {b m} ⟨o, es, ep, e, d, r⟩ => ⟨o, es, ep, hidT_get e (un e (fun z => by rw [z] at d; cases d) fun z => by rw [z] at d; cases d), d, r⟩
  have kin : K.In (hidT s1.heap H) := fun b o e => hidT_get (KX b o e) (Classical.byContradiction fun z => by
    rcases one b z with ⟨q, q2⟩ | q
    · rw [← q, e] at q2
      cases q2
    · rw [(isT b q).2] at e
      cases e)
  have md : Mod K mg (hidT s1.heap H) := ⟨kin, ns hns, ⟨mb, ns hb, hbb⟩, (let ⟨mc, h1, h2⟩ := hlim; ⟨mc, ns h1, h2⟩)⟩
  have tabs : ∀ p ∈ cs, TabB (hidT s1.heap H) mg p.1 p.2 := fun p hp => by
    obtain ⟨og, es, ep, eg, dg, rg⟩ := hns
    have e0 := tw.e p hp
    refine NdefX.tabB_of_K kin (tw.c p hp) ?_ fun z => ?_
    · obtain ⟨bm, ob, b1, b2, b3, b4, b5, b6⟩ := bm
      refine ⟨bm, ob, b1, b2, fun z => ?_, fun z => ?_, hidT_get b3 (un b3 (fun z => by rw [z] at b6; cases b6) fun z => by rw [z] at b6; cases b6), b4, b5, b6⟩
      · rw [z, eg] at b3
        cases b3
        rw [dg] at b6
        cases b6
      · rw [z, e0] at b3
        cases b3
        cases b6
    · rw [z, e0] at eg
      cases eg
      cases dg
  have env : Env0 P w K mg (hidT s1.heap H) callerA [] s1 H := { frames := rfl, mod := md, bs := fun b o e => of_hidT e, bsz := Nat.le_of_eq (hidT_size _ _), funs := trivial, frf := fun b hb => (by cases hb), hok := hok, bare := .of_eq hg }
  refine codeAny_mono (F _ kin (ns hns) tabs [] s1 H ⟨[.ref a], []⟩ [.ref a] [.ref a] _ _ env (hbind s1 (.ref a)) (.cons rfl .nil) hsp) fun r s' h => ?_
  match r, h with
  | .error e, h => exact (hCX H e s' h).elim
  | .ok (.ret u), ⟨v, H', os, bare, u', hok', rv, q⟩ =>
    cases (show v = .bl true from q)
    cases (show u = Value.bool true from rv)
    have kept : ∀ b o, (¬ ∃ p ∈ cs, p.2 = b) → s1.heap.get? b = some o → s'.heap.get? b = some o := fun b o nb e => by
      rcases hO.on b with z | z | ⟨ob, xs, z⟩
      · exact u'.keep b o e z (fun y => (by cases y)) (by simp)
      · exact (nb z).elim
      · have e1 := (hok b _ z).1
        have e2 := (hok' b _ (u'.frzs b ob _ z)).1
        rw [e] at e1
        cases e1
        exact e2
    have grow : ∀ p ∈ cs, ∃ ps : Array Value, s'.heap.get? p.2 = some { cls := .none, data := .fields ps } := fun p hp => (let ⟨more, z⟩ := u'.tbls p.2 #[] (hO.tb p hp); ⟨_, hok' p.2 _ z⟩)
    refine ⟨rfl, ⟨fun b o e => ?_, fun b o e => ?_⟩, os, bare⟩
    · rcases Classical.em (∃ p ∈ cs, p.2 = b) with ⟨p, hp, eb⟩ | nb
      · subst eb
        obtain ⟨ps, hps⟩ := grow p hp
        rw [tw.e p hp] at e
        cases e
        exact .inr (.inl ⟨((PySem.W.codeHd_of_K KX (tw.c p hp)).tab (tw.e p hp)).isCodeTable, rfl, #[], ps, rfl, by rw [Array.empty_append]; exact hps⟩)
      · exact .inl (kept b o nb e)
    · rcases Classical.em (∃ p ∈ cs, p.2 = b) with ⟨p, hp, eb⟩ | nb
      · subst eb
        obtain ⟨ps, hps⟩ := grow p hp
        exact ⟨_, hps⟩
      · exact ⟨o, kept b o nb e⟩
  | .ok .next, h => exact False.elim h
  | .ok .brk, h => exact False.elim h
  | .ok .cont, h => exact False.elim h
theorem law_atT {mb : Str → Option Value} {CX : CXT} {fa a : Addr} {cs : List (Addr × Addr)} {fd : FuncData} {x : Str} {sp : Sp} {s1 : Shared} {vs : List Value} {ns : List Int}
    (KX : K.In s1.heap) (hns : s1.heap.Ns mainGlobals mg) (hb : s1.heap.Ns builtinsNs mb) (hbb : ∀ x : Str, x ≠ "__name__" → mb x = bootBuiltins x) (hlim : s1.heap.NoLimit) (hg : s1.gens = #[])
    (tw : TabW s1.heap K cs) (bm : ∃ (bm : Addr) (ob : Obj), mg "__builtins__" = some (.ref bm) ∧ bm ≠ builtinsNs ∧ s1.heap.get? bm = some ob ∧ ob.cls = .type "module" ∧ ob.dict = some builtinsNs ∧ ob.data = .plain)
    (ha : s1.heap.get? a = some { cls := .type "list", data := .seq vs.toArray }) (hi : IntsAre vs ns) (hl : ns.length ≤ sizeLine) (F : ∀ bs : Heap, K.In bs → bs.Ns mainGlobals mg → (∀ p ∈ cs, TabB bs mg p.1 p.2) → FnAt P w K mg bs CX callerA fa fd [x] sp) (hbind : ∀ (s : Shared) (u : Value), BindsTo s fd ⟨[u], []⟩ [(x, u)])
    (hsp : ∀ H : Hp, OnlyT cs H → SqL K H a (ns.map V.int) → sp [.ref a] H (fun v _ => v = .bl true) fun _ _ _ => False) (hCX : ∀ H e s', CX [] H s1 (fun _ _ _ => False) e s' → False) :
    codeAny (model P w) callerA (.call (.ref fa) ⟨[.ref a], []⟩) (fun r s' => r = .ok (.ret (.bool true)) ∧ OldK s1.heap s'.heap ∧ s'.os = s1.os ∧ AllBare s'.gens) s1 := by
  classical
  have rv := vals_ints hi
  have lv := hi.length
  have isT : ∀ b, (∃ p ∈ cs, p.2 = b) → s1.heap.get? b = some tab0 := fun b ⟨p, hp, e⟩ => e ▸ tw.e p hp
  have aT : ¬ ∃ p ∈ cs, p.2 = a := fun z => by
    have q := isT a z
    rw [ha] at q
    cases q
  let T : Hp := fun b => if (∃ p ∈ cs, p.2 = b) then some (.tbl #[]) else none
  have hT : ∀ b, (T b = none ∧ ¬ ∃ p ∈ cs, p.2 = b) ∨ ((∃ p ∈ cs, p.2 = b) ∧ T b = some (.tbl #[])) := fun b => by
    by_cases h : ∃ p ∈ cs, p.2 = b
    · exact .inr ⟨h, if_pos h⟩
    · exact .inl ⟨if_neg h, h⟩
  have tT : ∀ p ∈ cs, T p.2 = some (.tbl #[]) := fun p hp => if_pos ⟨p, hp, rfl⟩
  have okT : ∀ b u, T b = some u → ObjOk P w T s1.heap b u := fun b u z => by
    rcases hT b with ⟨h, _⟩ | ⟨e, h⟩
    · rw [h] at z; cases z
    · rw [h] at z; cases z; exact isT b e
  cases hk : K.lookup a with
  | some o =>
    have e := KX a o hk
    rw [ha] at e
    cases e
    have hO : OnlyT cs T := ⟨tT, fun b => (hT b).elim (fun h => .inl h.1) fun h => .inr (.inl h.1)⟩
    refine law_coreT KX hns hb hbb hlim hg tw bm ha F hbind hCX hO (hsp _ hO (.inr ⟨_, vs.toArray, _, hk, rfl, rfl, rfl, ?_, ?_⟩)) okT (fun b z => (hT b).elim (fun h => (z h.1).elim) fun h => .inr h.1)
    · rw [List.size_toArray, lv]
      exact hl
    · rw [List.toList_toArray]
      exact rv
  | none =>
    let ob : Obj := { cls := .type "list", data := .seq vs.toArray }
    let H : Hp := fun b => if b = a then some (.frz ob (.lst (ns.map V.int))) else T b
    have hH : ∀ b, (b ≠ a ∧ H b = T b) ∨ (b = a ∧ H b = some (.frz ob (.lst (ns.map V.int)))) := fun b => by
      by_cases h : b = a
      · exact .inr ⟨h, if_pos h⟩
      · exact .inl ⟨h, if_neg h⟩
    have hO : OnlyT cs H := ⟨fun p hp => (hH p.2).elim (fun h => h.2.trans (tT p hp)) fun h => (aT ⟨p, hp, h.1⟩).elim, fun b => (hH b).elim (fun h => by rw [h.2]; exact (hT b).elim (fun h => .inl h.1) fun h => .inr (.inl h.1)) fun h => .inr (.inr ⟨_, _, h.2⟩)⟩
    refine law_coreT KX hns hb hbb hlim hg tw bm ha F hbind hCX hO (hsp H hO (.inl (.inr ⟨ob, if_pos rfl⟩))) (fun b u z => ?_) (fun b z => ?_)
    · rcases hH b with ⟨_, h⟩ | ⟨e, h⟩
      · rw [h] at z
        rcases hT b with ⟨q, _⟩ | ⟨e, q⟩
        · rw [q] at z; cases z
        · rw [q] at z; cases z; exact isT b e
      · rw [h] at z
        cases z
        subst e
        exact ⟨ha, by rw [List.length_map]; exact hl, vs, _, rv, ha⟩
    · rcases hH b with ⟨_, h⟩ | ⟨e, _⟩
      · rw [h] at z
        exact (hT b).elim (fun h => (z h.1).elim) fun h => .inr h.1
      · exact .inl ⟨e, hk⟩
theorem walk_atT {l : PySem.W.OpenLaw} {n : Nat} {q : Program} {loose : List Str} {XP : (Str → Option Value) → Heap → Prop} {YP : World → Heap → Prop} {d : DefRec} {K : Params → PySem.W.Frag} {CX : World → CXT} {sp : World → List (Addr × Addr) → Sp} {x : Str}
    (hn : l.most = some n) (hn2 : n ≤ sizeLine) (hdf : d.params.defaults = []) (hY : ∀ (w : World) (h : Heap), YP w h → (K w.params).In h)
    (F : ∀ (w : World) (mg : Str → Option Value) (fa : Addr) (h : Heap), YP w h → (K w.params).In h → h.Ns mainGlobals mg → mg d.name = some (.ref fa) → ∃ (fd : FuncData) (cs : List (Addr × Addr)), (∀ p ∈ cs, h.get? p.2 = some tab0) ∧ (∀ p ∈ cs, (K w.params).lookup p.2 = none) ∧ (∀ p ∈ cs, PySem.W.codeHdIn (K w.params) p.1 p.2 = true) ∧ (∀ (s : Shared) (u : Value), BindsTo s fd ⟨[u], []⟩ [(x, u)]) ∧
      ∀ bs : Heap, (K w.params).In bs → bs.Ns mainGlobals mg → (∀ p ∈ cs, TabB bs mg p.1 p.2) → FnAt l.prog w (K w.params) mg bs (CX w) callerA fa fd [x] (sp w cs))
    (hsp : ∀ (w : World) (cs : List (Addr × Addr)) (H : Hp) (a : Addr) (ns : List Int), ns.length ≤ n → OnlyT cs H → SqL (K w.params) H a (ns.map V.int) → sp w cs [.ref a] H (fun v _ => v = .bl true) fun _ _ _ => False)
    (hCX : ∀ (w : World) (H : Hp) (s : Shared) (e : Value) (s' : Shared), CX w [] H s (fun _ _ _ => False) e s' → False) :
    PySem.W.WalkO q loose XP YP l.row.toRowW d [] (fun f vs => PySem.call f vs) :=
  Att.attach_call hn hdf fun w s0 s1 mg mb fa o pm cd doc a vs ns G Y ho hd hcd hmg hobj hints hlen hg => by
    obtain ⟨fd, cs, t1, t2, t3, hb, hF⟩ := F w mg fa _ Y (hY w _ Y) G.T.g hmg
    exact law_atT (hY w _ Y) G.T.g G.T.b G.T.builtins G.T.nolimit hg ⟨t1, t2, t3⟩ G.T.bmain hobj hints (Nat.le_trans hlen hn2) hF hb (fun H hO hS => hsp w cs H a ns hlen hO hS) fun H e s' => hCX w H s1 e s'
end RK
namespace DL
open PySem PySem.Spec PyProof.Rows L2 RK LamX
section
variable {P : Program} {w : World} {K : PySem.W.Frag} {mg : Str → Option Value} {base : Heap} {k : Nat} {f : Addr} {fd : FuncData} {ps : List Str}
theorem fn_atC {x qual : Str} {st : Stmt} {kV doc pm cdv ct oc : Value} {an od : Option Addr} {osl : Array (Option Value)} {N : List Str} {sp : Sp} {A : Around} (lk : K.lookup f = some ⟨oc, od, .func (PySem.W.fnOf x qual (defArgs st) (defBody st) (defScope st) .none kV doc pm an cdv ct), osl⟩) (hcd : PySem.W.codeIn K cdv qual = true)
    (S : FnScope N ps (defScope st)) (hr : Room (k + 1) A) (len : ∀ vs H Q E, sp vs H Q E → vs.length = ps.length)
    (hbody : ∀ (outer : List Env) (s : Shared) (H : Hp) (vs : List V) (Q : VK) (E : XK), Room k (A.deeper (envOfC qual (defScope st) s.heap.objs.size f cdv)) → sp vs H Q E → ∃ t, PSs (cxOf CX0 P w K mg base N qual (defScope st) f cdv A outer s H E).nox (defBody st) t ∧ t { nx := fun _ H' => Q .non H', rt := Q } (start N vs) H) :
    FnAt P w K mg base CX0 A f (PySem.W.fnOf x qual (defArgs st) (defBody st) (defScope st) .none kV doc pm an cdv ct) ps sp :=
  fn_at hr lk hcd S len fun outer s H vs Q E hsp => (let ⟨t, h, q⟩ := hbody outer s H vs Q E (hr.deeper _) hsp; ⟨t, h.nox, q⟩)
end
section
variable {X : Cx} {F : Fx} {dk : TDA} {pos p : Pos} {CX : CXT} {k : Nat} {f : Addr} {fd : FuncData} {ps ks : List Str} {sp : DSpX} {E : XK} {x : Str} {fr : Fr} {K : PySem.W.Frag} {PX : Er → Prop}
end
def spBagT (K : PySem.W.Frag) : Sp := fun vs H Q _ => ∃ (a : Addr) (ns : List Int), vs = [.ref a] ∧ SqL K H a (ns.map V.int) ∧ ns.length ≤ 63 ∧ ∀ H' b s, Sn H H' → H b = none → H s = none → Bag b s H' → Q (.ref b) H'
def spLawT (K : PySem.W.Frag) (cs : List (Addr × Addr)) : Sp := fun vs H Q _ => ∃ (a : Addr) (ns : List Int), vs = [.ref a] ∧ OnlyT cs H ∧ SqL K H a (ns.map V.int) ∧ ns.length ≤ 63 ∧ ∀ H', Q (.bl true) H'
abbrev lamT (cs : List (Addr × Addr)) (q : Str) : List (Addr × Str) := cs.map fun p => (p.2, q)
theorem pss_exT {X : Cx} {K : PySem.W.Frag} {T : List (Addr × Str)} {sts : List Stmt} {d : TDS} (h : ∀ b s N0 H0, PSs X sts (lS ⟨K, some (b, s, T), N0, H0, false⟩ d)) : PSs X sts (fun E σ H => ∃ b s N0 H0, lS ⟨K, some (b, s, T), N0, H0, false⟩ d E σ H) := ⟨fun pins s σ H E I ⟨b, s0, N0, H0, q⟩ => (h b s0 N0 H0).run pins s σ H E I q⟩
theorem law_bagT {K : PySem.W.Frag} {Q : VK} {d : TDS} {H H' : Hp} {a b s : Addr} {n : Nat} {cs : List (Addr × Addr)} {qn : Str} (hO : OnlyT cs H) (e : Sn H H') (nb : H b = none) (B : Bag b s H') (q : ∀ H', Q (.bl true) H') (h : d { nx := fun _ => False, rt := fun x => x = .bl true } (.no :: .fz .bag :: List.replicate n .no)) :
    ∃ b' s' N0 H0, lS ⟨K, some (b', s', lamT cs qn), N0, H0, false⟩ d { nx := fun _ H' => Q .non H', rt := Q } (some (.ref a) :: some (.ref b) :: List.replicate n none) H' := by
  have ok : Wd.ok (some (b, s, lamT cs qn)) H' := by
    refine ⟨B, fun p hp => ?_, fun _ a ps h => ?_⟩
    · obtain ⟨r, hr, rfl⟩ := List.mem_map.mp hp
      exact TabS.nil (e.f _ _ (hO.tb r hr))
    · obtain ⟨qs, h1⟩ := e.n a ps h
      rcases hO.on a with z | ⟨r, hr, z⟩ | ⟨o, xs, z⟩
      · rw [h1] at z; cases z
      · exact ⟨(r.2, qn), List.mem_map.mpr ⟨r, hr, rfl⟩, z⟩
      · rw [h1] at z; cases z
  refine ⟨b, s, fun z => Wd.own (some (b, s, lamT cs qn)) z, H', _, [], _, ?_, h, fun _ _ _ _ z => z.elim, fun x v H2 hx r => ?_, fun _ _ _ _ z => z.elim, fun _ _ _ _ z => z.elim⟩
  · refine ⟨ok, fun z hz => Wd.al ok hz, fun z hz => hz, .refl _ _, fun z hz => (by cases hz), ?_, fun i j z ei ej h1 h2 o1 o2 _ _ => ?_, so_law, fun i e x h1 h2 => ?_⟩
    · simp
    · exfalso
      match i, h1 with
      | 0, h1 => cases h1; cases o1
      | 1, h1 => cases h1; cases o1
      | i + 2, h1 =>
        rw [List.getElem?_cons_succ, List.getElem?_cons_succ] at h1
        rw [(List.mem_replicate.mp (List.mem_of_getElem? h1)).2] at o1
        cases o1
    · match i, h1, h2 with
      | 0, h1, h2 => cases h1; trivial
      | 1, h1, h2 =>
        cases h1
        cases h2
        exact .bag rfl
      | i + 2, h1, h2 =>
        rw [List.getElem?_cons_succ, List.getElem?_cons_succ] at h1
        rw [(List.mem_replicate.mp (List.mem_of_getElem? h1)).2]
        trivial
  · subst hx
    have := dd_blE r.dd
    subst this
    exact q H2
theorem cl_nil {K : PySem.W.Frag} {CD CM CL : Addr} : ∀ k ∈ ([] : ErCl), ClOk K CD CM CL k := fun k h => by cases h
theorem cl_cons {K : PySem.W.Frag} {CD CM CL : Addr} {k : Addr × Str × Option Str} {l : ErCl} (h : ClOk K CD CM CL k) (t : ∀ k ∈ l, ClOk K CD CM CL k) : ∀ x ∈ k :: l, ClOk K CD CM CL x := fun x hx => (List.mem_cons.mp hx).elim (fun e => e ▸ h) (t x)
theorem cl_0 {K : PySem.W.Frag} {CD CM CL C : Addr} {w : Str} (xf : XfC K C) (nw : PySem.W.findIn K (.ref C) "word" = some none) (xm : PySem.W.exmAny K (.ref C) [.ref CD, .ref CM] = some true) (hw : fieldName w = none := by decide +kernel) : ClOk K CD CM CL (C, w, none) := ⟨xf, nw, .inl ⟨xm, hw, fun n h => by cases h⟩⟩
theorem cl_1 {K : PySem.W.Frag} {CD CM CL C : Addr} {w n : Str} (xf : XfC K C) (nw : PySem.W.findIn K (.ref C) "word" = some none) (nn : PySem.W.findIn K (.ref C) n = some none) (xm : PySem.W.exmAny K (.ref C) [.ref CD, .ref CM] = some true) (hw : fieldName w = some n := by decide +kernel) (ne : n ≠ "word" := by decide +kernel) : ClOk K CD CM CL (C, w, some n) := ⟨xf, nw, .inl ⟨xm, hw, fun m h => by cases h; exact ⟨ne, nn⟩⟩⟩
theorem cl_L {K : PySem.W.Frag} {CD CM CL C : Addr} {w : Str} (xf : XfC K C) (nw : PySem.W.findIn K (.ref C) "word" = some none) (xm : PySem.W.exmAny K (.ref C) [.ref CD, .ref CM] = some false) (xn : PySem.W.exmAny K (.ref C) [.ref CL] = some true) : ClOk K CD CM CL (C, w, none) := ⟨xf, nw, .inr ⟨xm, xn, rfl⟩⟩
theorem intE_len {y : Int} (h : y.natAbs < 10 ^ 100) : (Str.ofString (toString y)).length ≤ 101 := by
  have e := PySem.int_text_length_le10 (k := 100) (by decide) h
  rw [PySem.ofString_length]
  omega
theorem intE_log {y : Int} (h : y.natAbs < 10 ^ 100) : y.natAbs.log2 < 1920 := by
  rcases Nat.eq_zero_or_pos y.natAbs with z | z
  · rw [z]; decide
  · exact (Nat.log2_lt (by omega)).mpr (Nat.lt_of_lt_of_le h (by decide +kernel))
structure Cls where
  Desk : Addr := 0
  Tale : Addr := 0
  Flow : Addr := 0
  Log : Addr := 0
  Session : Addr := 0
  Console : Addr := 0
  BadName : Addr := 0
  BadRectangle : Addr := 0
  BadSize : Addr := 0
  BadOrder : Addr := 0
  BadStep : Addr := 0
  TooLong : Addr := 0
  BadWish : Addr := 0
  BadFact : Addr := 0
  BadCost : Addr := 0
  Impossible : Addr := 0
  BadStamp : Addr := 0
  Taken : Addr := 0
  Clash : Addr := 0
  OtherLog : Addr := 0
  Full : Addr := 0
  BadDeed : Addr := 0
  BadWatch : Addr := 0
  BadText : Addr := 0
  BadPage : Addr := 0
  Unknown : Addr := 0
  NoStamp : Addr := 0
  NoWatch : Addr := 0
  NothingLeft : Addr := 0
end DL
namespace RK
open PySem PySem.Spec PyProof.Rows L2 LamX
section
variable {X : Cx} {pins : List (Addr × Obj)} {σ : L2.St} {H : Hp} {s : Shared}
theorem inv_fnl {F : LF} {pm ctv : Value} {t' : Nat} (I : Inv X pins σ H s) : Inv X pins σ (upd H s.heap.objs.size (FnL s.heap.objs.size F)) { s with heap := s.heap.push (F.ob pm ctv), toks := t' } := by
  have e : (s.heap.push (F.ob pm ctv)).get? s.heap.objs.size = some (F.ob pm ctv) := Heap.get?_push_size _ (by unfold LF.ob; split <;> rfl)
  exact I.laid (a := s.heap.objs.size) (fun b u e => Heap.get?_push_of_some _ e) (Nat.le_refl _) ⟨⟨pm, ctv, e⟩, ⟨_, e⟩, fun h1 h2 ⟨p, t, z⟩ st => ⟨p, t, st _ z⟩⟩
abbrev mkLF (X : Cx) (params : Arguments) (body : Expr) (scope : Scope) (td : Option Addr) (c' : Addr) : LF := ⟨X.env.qual ++ "<lambda>", params, body, scope, cloFrom X.env.cells scope.names [], c', td, false⟩
def Made (X : Cx) (pins : List (Addr × Obj)) (σ : L2.St) (T : List (Addr × Str)) (H : Hp) (F : Addr → LF) (Q : Value → Shared → Prop) : Prop :=
  ∀ (f c' : Addr) (H1 : Hp) (s' : Shared), Inv X pins σ H1 s' → ExtN H H1 → NoT H H1 → Tabs T H1 → H f = none → H1 f = some (FnL f (F c')) → H1 c' = some (CodeO c' (X.env.qual ++ "<lambda>")) → Q (.ref f) s'
theorem made_miss {T : List (Addr × Str)} {P : Addr} {ps : Array Value} {pos : Pos} {F : Addr → LF} {Q : Value → Shared → Prop} {c' tk : Nat} {h' : Heap} {pm ctv : Value} (I : Inv X pins σ H s) (hm : (P, X.env.qual ++ "<lambda>") ∈ T) (hu : ∀ p ∈ T, p.1 = P → p.2 = X.env.qual ++ "<lambda>") (hT : Tabs T H)
    (hP : H P = some (.tbl ps)) (ht : TriplesOk ps.toList) (ha : ∀ (pos : Pos) (cv : Value), codeAmong pos ps.toList = some cv → ∃ c, cv = .ref c ∧ H c = some (CodeO c (X.env.qual ++ "<lambda>")))
    (hx : Heap.ExtBut P s.heap h') (hge : s.heap.objs.size ≤ c') (hlt : c' < h'.objs.size) (hrec : h'.CodeRec (.ref c') (X.env.qual ++ "<lambda>")) (htb : h'.get? P = some { cls := .none, data := .fields (ps ++ #[rawInt pos.line, rawInt pos.col, .ref c']) })
    (h : Made X pins σ T H F Q) : Q (.ref h'.objs.size) { s with heap := h'.push ((F c').ob pm ctv), toks := tk } := by
  obtain ⟨c2, oc, vs, t, e2, hoc, hd, hv⟩ := hrec
  cases e2
  have nC : H c' = none := I.hok.fresh hge
  have I1 := inv_table (t' := tk) (more := #[rawInt pos.line, rawInt pos.col, .ref c']) (h' := h') I hP (fun b o hb e => hx b o hb e) htb hge ⟨oc, vs, t, hoc, hd, hv⟩
  generalize hH1 : upd (upd H P (.tbl (ps ++ #[rawInt pos.line, rawInt pos.col, .ref c']))) c' (CodeO c' (X.env.qual ++ "<lambda>")) = H1 at I1
  have ePc : P ≠ c' := ne_of_none hP nC
  have hE : ExtN H H1 := fun b o e n => by
    rw [← hH1, upd_ne (ne_of_none e nC), upd_ne (fun z => n ps (Option.some.inj (e.symm.trans (by rw [z]; exact hP))))]
    exact e
  have eC : H1 c' = some (CodeO c' (X.env.qual ++ "<lambda>")) := by rw [← hH1]; exact upd_same
  have eL : (ps ++ #[rawInt pos.line, rawInt pos.col, .ref c']).toList = ps.toList ++ [rawInt pos.line, rawInt pos.col, .ref c'] := by simp
  have T1 : Tabs T H1 := fun p hp => by
    by_cases hb : p.1 = P
    · rw [hu p hp hb, hb]
      refine ⟨_, by rw [← hH1, upd_ne ePc, upd_same], by rw [eL]; exact PySem.TriplesOk_snoc _ _ _ _ ht, fun p' cv hcv => ?_⟩
      rw [eL] at hcv
      rcases among_app _ ht hcv with z | z
      · obtain ⟨c0, e1, e2⟩ := ha p' cv z
        exact ⟨c0, e1, hE _ _ e2 codeO_ne⟩
      · exact ⟨c', z, eC⟩
    · obtain ⟨ps', a1, a2, a3⟩ := hT p hp
      refine ⟨ps', by rw [← hH1, upd_ne (ne_of_none a1 nC), upd_ne hb]; exact a1, a2, fun p' cv hcv => ?_⟩
      obtain ⟨c0, e1, e2⟩ := a3 p' cv hcv
      exact ⟨c0, e1, hE _ _ e2 codeO_ne⟩
  have hsz : s.heap.objs.size ≤ h'.objs.size := Nat.le_trans hge (Nat.le_of_lt hlt)
  have nF : H1 h'.objs.size = none := I1.hok.fresh (Nat.le_refl _)
  have I2 := inv_fnl (F := F c') (pm := pm) (ctv := ctv) (t' := tk) I1
  refine h h'.objs.size c' _ _ I2 (fun b o e n => ?_) (fun b qs e => ?_) (T1.ext fun b o e => ?_) (I.hok.fresh hsz) upd_same ?_
  · have e1 := hE b o e n
    rw [upd_ne (ne_of_none e1 nF)]
    exact e1
  · by_cases b1 : b = h'.objs.size
    · rw [b1, upd_same] at e
      cases e
    · rw [upd_ne b1, ← hH1] at e
      by_cases b2 : b = c'
      · rw [b2, upd_same] at e
        cases e
      · rw [upd_ne b2] at e
        by_cases b3 : b = P
        · exact ⟨ps, by rw [b3]; exact hP⟩
        · rw [upd_ne b3] at e
          exact ⟨qs, e⟩
  · rw [upd_ne (ne_of_none e nF)]
    exact e
  · rw [upd_ne (Nat.ne_of_lt hlt)]
    exact eC
theorem made_hit {T : List (Addr × Str)} {F : Addr → LF} {Q : Value → Shared → Prop} {c' tk : Nat} {h' : Heap} {pm ctv : Value} (I : Inv X pins σ H s) (hT : Tabs T H) (hco : H c' = some (CodeO c' (X.env.qual ++ "<lambda>")))
    (hx : ∀ b o, s.heap.get? b = some o → h'.get? b = some o) (hsz : s.heap.objs.size ≤ h'.objs.size) (h : Made X pins σ T H F Q) : Q (.ref h'.objs.size) { s with heap := h'.push ((F c').ob pm ctv), toks := tk } := by
  have I1 : Inv X pins σ H { s with heap := h', toks := tk } := I.kept hx
  have nF : H h'.objs.size = none := I1.hok.fresh (Nat.le_refl _)
  have I2 := inv_fnl (F := F c') (pm := pm) (ctv := ctv) (t' := tk) I1
  have kp : ∀ b o, H b = some o → upd H h'.objs.size (FnL h'.objs.size (F c')) b = some o := fun b o e => by rw [upd_ne (ne_of_none e nF)]; exact e
  exact h h'.objs.size c' _ _ I2 (.of kp) (noT_upd (by unfold FnL; exact True.intro)) (hT.ext kp) nF upd_same (kp _ _ hco)
theorem lamS_make {T : List (Addr × Str)} {c P : Addr} {params : Arguments} {body : Expr} {scope : Scope} {pos : Pos} {E : Value → Shared → Prop} {Q : Value → Shared → Prop} (I : Inv X pins σ H s) (TB : TabB X.base X.mg c P) (hcode : X.env.code = .ref c)
    (hm : (P, X.env.qual ++ "<lambda>") ∈ T) (hu : ∀ p ∈ T, p.1 = P → p.2 = X.env.qual ++ "<lambda>") (hT : Tabs T H) (hdef : defaultsOf params X.env = ([], [])) (hfree : ∀ y ∈ scope.names, y.2 = .free → ∃ c, X.env.cells.lookup y.1 = some c)
    (h : Made X pins σ T H (mkLF X params body scope none) Q) : wpAny (model X.prog X.w) X.A (eval (.Lambda params body scope pos) X.env) Q E s := by
  obtain ⟨ps, hP, ht, ha⟩ := hT _ hm
  have bP : s.heap.BuiltinsAt X.mg P := TB.bm.keeps I.bk
  have hP' : s.heap.get? P = some { cls := .none, data := .fields ps } := I.hok P _ hP
  refine PySem.W.kla_eval hdef ?_
  cases hc : codeAmong pos ps.toList with
  | none => exact PySem.W.kla_makeFunction (mg := X.mg) (c := c) (P := P) (ps := ps) (closure_ok hfree) I.ok.glob (I.mod.glob.keeps I.bk) hcode (TB.code.keeps I.bk) hP' ht hc TB.gP bP fun c' ctv h' tk hx hge hlt hrec htb => made_miss (F := mkLF X params body scope none) I hm hu hT hP ht ha hx hge hlt hrec htb h
  | some cv =>
    obtain ⟨c', e, hco⟩ := ha pos cv hc
    subst e
    exact PySem.W.kla_makeFunctionHit (mg := X.mg) (c := c) (P := P) (ps := ps) (closure_ok hfree) I.ok.glob (I.mod.glob.keeps I.bk) hcode (TB.code.keeps I.bk) hP' ht hc bP fun ctv h' tk hx hsz => made_hit (F := mkLF X params body scope none) I hT hco hx hsz h
theorem lamD_make2 {T : List (Addr × Str)} {c P : Addr} {params : Arguments} {body e0 : Expr} {scope : Scope} {pos : Pos} {E : Value → Shared → Prop} {Q : Value → Shared → Prop} (I : Inv X pins σ H s) (TB : TabB X.base X.mg c P) (hcode : X.env.code = .ref c)
    (hm : (P, X.env.qual ++ "<lambda>") ∈ T) (hu : ∀ p ∈ T, p.1 = P → p.2 = X.env.qual ++ "<lambda>") (hT : Tabs T H) (hdef : defaultsOf params X.env = ([eval e0 X.env], []))
    (he0 : ∀ (s : Shared) (Q : Value → Shared → Prop), (∀ t, Q (.int 0 t) { s with toks := s.toks + 1 } ∧ Q (.int 0 t) s) → wpAny (model X.prog X.w) X.A (eval e0 X.env) Q E s) (hfree : ∀ y ∈ scope.names, y.2 = .free → ∃ c, X.env.cells.lookup y.1 = some c)
    (h : ∀ td : Addr, H td = none → Made X pins σ T (upd H td (.tup [.int 0])) (mkLF X params body scope (some td)) Q) : wpAny (model X.prog X.w) X.A (eval (.Lambda params body scope pos) X.env) Q E s := by
  have fin : ∀ (s : Shared) (t0 : Tok), Inv X pins σ H s → wpAny (model X.prog X.w) X.A (makeTail "<lambda>" (X.env.qual ++ "<lambda>") params (.expr body) scope X.env (.ref s.heap.objs.size) .none none pos pos.line) Q E { s with heap := s.heap.push { cls := .type "tuple", data := .seq [Value.int 0 t0].toArray } } := by
    intro s t0 I
    have eT : (s.heap.push ({ cls := .type "tuple", data := .seq [Value.int 0 t0].toArray } : Obj)).get? s.heap.objs.size = some ({ cls := .type "tuple", data := .seq [Value.int 0 t0].toArray } : Obj) := Heap.get?_push_size _ rfl
    have I0 : Inv X pins σ (upd H s.heap.objs.size (.tup [.int 0])) { s with heap := s.heap.push ({ cls := .type "tuple", data := .seq [Value.int 0 t0].toArray } : Obj) } :=
      I.laid (t' := s.toks) (a := s.heap.objs.size) (fun b u e => Heap.get?_push_of_some _ e) (Nat.le_refl _) ⟨by show 1 ≤ sizeLine; decide, [.int 0 t0], .cons ⟨t0, rfl⟩ .nil, _, eT, rfl, ⟨_, rfl⟩⟩
    have h2 := h s.heap.objs.size (I.hok.fresh (Nat.le_refl _))
    have nT : H s.heap.objs.size = none := I.hok.fresh (Nat.le_refl _)
    have kT : ∀ b o, H b = some o → upd H s.heap.objs.size (.tup [.int 0]) b = some o := fun b o e => by rw [upd_ne (ne_of_none e nT)]; exact e
    have T0 : Tabs T (upd H s.heap.objs.size (.tup [.int 0])) := hT.ext kT
    generalize upd H s.heap.objs.size (.tup [.int 0]) = H0 at I0 h2 T0
    generalize s.heap.objs.size = td at h2
    generalize ({ s with heap := s.heap.push ({ cls := .type "tuple", data := .seq [Value.int 0 t0].toArray } : Obj) } : Shared) = s0 at I0
    obtain ⟨ps, hP, ht, ha⟩ := T0 _ hm
    have bP : s0.heap.BuiltinsAt X.mg P := TB.bm.keeps I0.bk
    have hP' : s0.heap.get? P = some { cls := .none, data := .fields ps } := I0.hok P _ hP
    cases hc : codeAmong pos ps.toList with
    | none => exact PySem.W.kld_tail (mg := X.mg) (c := c) (P := P) (ps := ps) (closure_ok hfree) I0.ok.glob (I0.mod.glob.keeps I0.bk) hcode (TB.code.keeps I0.bk) hP' ht hc TB.gP bP fun c' ctv h' tk hx hge hlt hrec htb => made_miss (F := mkLF X params body scope (some td)) I0 hm hu T0 hP ht ha hx hge hlt hrec htb h2
    | some cv =>
      obtain ⟨c', e, hco⟩ := ha pos cv hc
      subst e
      exact PySem.W.kld_tailHit (mg := X.mg) (c := c) (P := P) (ps := ps) (closure_ok hfree) I0.ok.glob (I0.mod.glob.keeps I0.bk) hcode (TB.code.keeps I0.bk) hP' ht hc bP fun ctv h' tk hx hsz => made_hit (F := mkLF X params body scope (some td)) I0 T0 hco hx hsz h2
  exact PySem.W.kld_eval hdef (he0 s _ fun t0 => ⟨fin _ t0 (I.tok _), fin _ t0 I⟩)
end
end RK
namespace RK
open PySem PySem.Spec PyProof.Rows L2 LamX
def LF.fd (F : LF) (pm ctv : Value) : FuncData := match F.td with
  | none => PySem.W.kla_fn "<lambda>" F.q F.params F.body F.scope F.cl pm (.ref F.c) ctv
  | some td => PySem.W.kld_fn "<lambda>" F.q F.params F.body F.scope F.cl (.ref td) pm (.ref F.c) ctv
theorem LF.ob_fd (F : LF) (pm ctv : Value) : F.ob pm ctv = { cls := .type "function", data := .func (F.fd pm ctv) } := by
  obtain ⟨q, params, body, scope, cl, c, td, dead⟩ := F
  cases td <;> rfl
theorem LF.fd_get (F : LF) (pm ctv : Value) : (F.fd pm ctv).scope = F.scope ∧ (F.fd pm ctv).body = .expr F.body ∧ (F.fd pm ctv).code = .ref F.c ∧ (F.fd pm ctv).qualname = F.q ∧ (F.fd pm ctv).closure = F.cl ∧ (F.fd pm ctv).globals = mainGlobals ∧ (F.fd pm ctv).builtins = builtinsNs := by
  obtain ⟨q, params, body, scope, cl, c, td, dead⟩ := F
  cases td <;> exact ⟨rfl, rfl, rfl, rfl, rfl, rfl, rfl⟩
def BindsL (F : LF) : Prop := ∀ (M : Model) (A : Around) (pm ctv : Value) (s1 : Shared) (E : Value → Shared → Prop) (Q : List (Str × Value) → Shared → Prop),
  (∀ t, F.td = some t → ∃ (t0 : Tok) (o : Obj) (n : Nat), s1.heap.get? t = some o ∧ o.data = .seq #[.int 0 t0] n) → (∀ bs : List (Str × Value), (∀ y ∈ bs, F.scope.names.lookup y.1 = some .local) → Q bs s1) → wpAny M A (bindArgs (F.fd pm ctv) ⟨[], []⟩) Q E s1
theorem bindsL_S {X : Cx} {params : Arguments} {body : Expr} {scope : Scope} {c' : Addr} (bd : ∀ (q : Str) (cl : List (Str × Addr)) (pm cv ctv : Value), bindArgs (PySem.W.kla_fn "<lambda>" q params body scope cl pm cv ctv) ⟨[], []⟩ = pure []) : BindsL (mkLF X params body scope none c') := fun M A pm ctv s1 E Q _ h => by
  show wpAny M A (bindArgs (PySem.W.kla_fn "<lambda>" _ params body scope _ pm (.ref c') ctv) ⟨[], []⟩) Q E s1
  rw [bd]
  exact wpAny_pure (h [] fun y hy => absurd hy (by simp))
theorem bindsL_D {X : Cx} {params : Arguments} {body : Expr} {scope : Scope} {c' td : Addr} {a0 : Str} (bd : ∀ (q : Str) (cl : List (Str × Addr)) (td : Addr) (t0 : Tok) (pm cv ctv : Value), ∃ kk, bindArgs (PySem.W.kld_fn "<lambda>" q params body scope cl (.ref td) pm cv ctv) ⟨[], []⟩ = seqItems? (.ref td) >>= kk ∧ kk (some #[.int 0 t0]) = pure [(a0, .int 0 t0)])
    (hl0 : scope.names.lookup a0 = some .local) : BindsL (mkLF X params body scope (some td) c') := fun M A pm ctv s1 E Q ht h => by
  obtain ⟨t0, o, n, h1, h2⟩ := ht td rfl
  show wpAny M A (bindArgs (PySem.W.kld_fn "<lambda>" _ params body scope _ (.ref td) pm (.ref c') ctv) ⟨[], []⟩) Q E s1
  obtain ⟨kk, b1, b2⟩ := bd (X.env.qual ++ "<lambda>") (cloFrom X.env.cells scope.names []) td t0 pm (.ref c') ctv
  rw [b1]
  refine wpAny_bind (wpAny_seqItems h1 h2 ?_)
  rw [b2]
  refine wpAny_pure (h _ fun y hy => ?_)
  have e : y = (a0, Value.int 0 t0) := by simpa using hy
  rw [e]
  exact hl0
section
variable {X : Cx} {pins : List (Addr × Obj)} {σ : L2.St} {H : Hp} {s : Shared}
theorem LamS.toD {N : List Str} {sc scope : Scope} (L : LamS sc scope) : LamD N sc scope where
  kind := L.kind
  co := L.co
  gen := L.gen
  own := fun y hy => ⟨(L.own y hy).2, fun e => absurd e (L.own y hy).1⟩
  free := L.free
end
end RK
namespace RK
open PySem PySem.Spec PyProof.Rows L2 LamX
section
variable {X : Cx}
structure Within (X : Cx) (σ : L2.St) (s0 : Shared) (H0 : Hp) (scope : Scope) (cenv : Env) (fp : List Addr) : Prop where
  out : ∀ (pins : List (Addr × Obj)) (σ2 : L2.St) (H : Hp) (s : Shared), Inv (X.blk s0 H0 scope cenv fp) pins σ2 H s → ∃ pins0, Inv X pins0 σ H s
end
end RK
namespace RK
open PySem PySem.Spec PyProof.Rows L2 LamX
structure LamT (X : Cx) (k : Nat) where
  params : Arguments
  body : Expr
  scope : Scope
  dfl : Bool
  t : XK → TE
  L : LamD X.N X.env.scope scope
  bd : ∀ (td : Option Addr) (c' : Addr), td.isSome = dfl → BindsL (mkLF X params body scope td c')
  hb : ∀ (A : Around) (outer : List Env) (s : Shared) (H : Hp) (E : XK) (f c' : Addr), Room k (A.deeper (lamEnv X scope s.heap.objs.size f c')) → PE (lamCx X A outer s H E scope f c') body (t E)
def LamT.is {X : Cx} {k : Nat} (l : LamT X k) (F : LF) : Prop := ∃ (td : Option Addr) (c' : Addr), td.isSome = l.dfl ∧ F = mkLF X l.params l.body l.scope td c'
def LfAt (H : Hp) (f : Addr) (F : LF) : Prop := H f = some (FnL f F) ∧ H F.c = some (CodeO F.c F.q) ∧ ∀ t, F.td = some t → H t = some (.tup [.int 0])
theorem try_and {K : PySem.W.Frag} {CD CM CL : Addr} {A : Hp → Prop} {tl : XK → Hp → VK → Prop} {H : Hp} {Q : VK} (a : A H) (h : TTry K CD CM CL tl H Q) : TTry K CD CM CL (fun E H Q => A H ∧ tl E H Q) H Q := ⟨a, h⟩
theorem pe_weak {X : Cx} {e : Expr} {t t' : TE} (h : PE X e t) (m : ∀ σ H Q, t' σ H Q → t σ H Q) : PE X e t' := ⟨fun pins s σ H Q I q => h.run pins s σ H Q I (m σ H Q q)⟩
section
variable {X : Cx} {CD CM CL : Addr}
end
end RK
namespace RK
open PySem PySem.Spec PyProof.Rows L2 LamX
structure Clo (N : List Str) (cl : List (Str × Addr)) (σ : L2.St) (H : Hp) (h : Heap) : Prop where
  inj : ∀ x y c, cl.lookup x = some c → cl.lookup y = some c → x = y
  val : ∀ (i : Nat) (y : Str) (v : V) (c : Addr), N[i]? = some y → σ[i]? = some (some v) → cl.lookup y = some c → ∃ u, RelV v u ∧ h.IsCell c (some u)
  cell : ∀ y c, cl.lookup y = some c → ∃ v, h.IsCell c v
  free : ∀ y c, cl.lookup y = some c → H c = none
  len : σ.length = N.length
abbrev lenv (G : LF) (L f : Addr) : Env := PySem.W.envX G.q G.scope L f (.ref G.c) G.cl
def lamG (P : Program) (w : World) (K : PySem.W.Frag) (mg : Str → Option Value) (base : Heap) (N : List Str) (G : LF) (A : Around) (outer : List Env) (s : Shared) (H : Hp) (E : XK) (f : Addr) : Cx where
  prog := P
  w := w
  K := K
  mg := mg
  base := base
  A := A.deeper (lenv G s.heap.objs.size f)
  N := N
  s_0 := s
  H_0 := H
  env := lenv G s.heap.objs.size f
  outer := outer
  stack := lenv G s.heap.objs.size f :: outer
  ex := []
  fn := fun _ => false
  calm := true
  pn := []
  xe := fun e s' => wpAny (model P w) (A.deeper (lenv G s.heap.objs.size f)) (leaving (lenv G s.heap.objs.size f) e) (fun _ s'' => L2.CX P w outer H s E e s'') (fun e' s'' => L2.CX P w outer H s E e' s'') s'
structure LamG (N : List Str) (G : LF) : Prop where
  kind : G.scope.kind = .function
  co : G.scope.isCoroutine = false
  gen : G.scope.isGenerator = false
  own : ∀ y ∈ G.scope.names, y.2 ≠ .cell ∧ (y.2 = .local → y.1 ∉ N)
  free : ∀ y ∈ G.scope.names, y.2 = .free → ∃ c, G.cl.lookup y.1 = some c
section
variable {P : Program} {w : World} {K : PySem.W.Frag} {mg : Str → Option Value} {base : Heap} {N : List Str} {G : LF} {σ : L2.St} {H HZ : Hp} {s s1 : Shared}
theorem lamG_start {A : Around} {outer fo : List Env} {E : XK} {f : Addr} {h₁ : Heap} {tk : Nat} {mm : Str → Option Value} (C : Clo N G.cl σ H s.heap) (L : LamG N G) (e0 : Env0 P w K mg base A outer s1 HZ) (hd : A.handled = none)
    (un : Un (frs fo) [] H HZ s.heap s1.heap) (hns : h₁.Ns s1.heap.objs.size mm) (kp : ∀ b o, s1.heap.get? b = some o → h₁.get? b = some o) :
    Inv (lamG P w K mg base N G A outer s1 HZ E f) [] σ HZ { s1 with heap := h₁, toks := tk } := by
  have toCell : ∀ {c : Addr} {v : Option Value}, H c = none → s.heap.IsCell c v → h₁.IsCell c v := fun {c v} n ⟨o, ho, hd⟩ => by
    obtain ⟨sl, q⟩ := un.any ho n (by simp)
    exact ⟨_, kp _ _ q, hd⟩
  have noX : ∀ b : Addr, b ∉ (lamG P w K mg base N G A outer s1 HZ E f).ex := fun b z => absurd (show b ∈ ([] : List Addr) from z) (by simp)
  refine ⟨⟨e0.mod, L.kind, rfl, rfl, Nat.le_refl _, fun y z c e1 e2 => C.inj y z c e1 e2, fun y hy => ?_, fun y c z _ => absurd (show false = true from z) (by decide), fun _ => hd, Around.frames_deeper e0.frames, .inr ⟨rfl, rfl⟩, fun b z => absurd z (noX b), e0.bs, e0.bsz, fun b _ _ => noX b,
      fun b z => absurd z (noX b), e0.funs, e0.frf⟩,
    rfl, e0.bare, Un.kept kp, ⟨_, hns, fun i y v e1 e2 e3 => ?_⟩, fun y c e => (let ⟨v, z⟩ := C.cell y c e; ⟨v, toCell (C.free y c e) z⟩), e0.hok.fresh (Nat.le_refl _), fun y c e => ?_,
    fun q hq => absurd (show q ∈ ([] : List (Addr × Obj)) ++ [] from hq) (by simp), e0.hok.kept kp, C.len⟩
  · have hy : G.scope.names.lookup y = some .cell ∨ G.scope.names.lookup y = some .free := hy
    rcases hy with hy | hy
    · exact absurd rfl (L.own _ (PySem.mem_of_lookup hy)).1
    · exact L.free _ (PySem.mem_of_lookup hy) rfl
  · have e3 : Vis G.scope y := e3
    have e1 : N[i]? = some y := e1
    rcases e3 with k | k | k
    · exact absurd (List.mem_of_getElem? e1) ((L.own _ (PySem.mem_of_lookup k)).2 rfl)
    · exact absurd rfl (L.own _ (PySem.mem_of_lookup k)).1
    · obtain ⟨c, hc⟩ := L.free _ (PySem.mem_of_lookup k) rfl
      obtain ⟨u, r, z⟩ := C.val i y v c e1 e2 hc
      exact ⟨u, r, .inr ⟨.inr k, c, hc, toCell (C.free y c hc) z⟩⟩
  · obtain ⟨v, o, ho, hd⟩ := C.cell y c e
    exact un.free c o ho (C.free y c e) (by simp)
theorem pe_actG {CXg : CXT} {Eg : XK} {Ng : List Str} {qg : Str} {sg : Scope} {g f : Addr} {cdg : Value} {k i : Nat} {a : Str} {pn : List (Addr × Obj)} {xe : Value → Shared → Prop} {W : WX} {E : XK} {tb : TE} {p1 p2 : Pos} {A0 : Around} {fo : List Env} (hd0 : A0.handled = none)
    (C : Clo N G.cl σ H s.heap) (L : LamG N G) (hbd : BindsL G)
    (tk : Takes ((cxOf CXg P w K mg base Ng qg sg g cdg A0 fo s H Eg).tr pn xe) W) (hW : ∀ cls d σ' H', E cls d H' → W cls d σ' H') (hr : Room (k + 1) (A0.deeper (envOfC qg sg s.heap.objs.size g cdg)))
    (hbody : ∀ (A : Around) (outer : List Env) (s : Shared) (H : Hp), Room k (A.deeper (lenv G s.heap.objs.size f)) → PE (lamG P w K mg base N G A outer s H E f) G.body tb)
    (hN : Ng[i]? = some a) (hv : Vis sg a) (hd : (a == ("__debug__" : Str)) = false := by decide) (hcd : (a == ("__classdict__" : Str)) = false := by decide) :
    PE ((cxOf CXg P w K mg base Ng qg sg g cdg A0 fo s H Eg).tr pn xe) (.Call (.Name a p1) [] [] p2)
      (fun σZ HZ Q => σZ[i]? = some (some (.ref f)) ∧ HZ G.c = some (CodeO G.c G.q) ∧ (HZ f = some (FnL f G) ∧ (∀ t, G.td = some t → HZ t = some (.tup [.int 0])) ∧ tb σ HZ Q)) := by
  refine ⟨fun pinsZ sZ σZ HZ Q IZ ⟨hs, hc, hf, ht, hb⟩ => ?_⟩
  refine wpAny_Call_Name_kw (thn ((pe_var (pos := p1) (i := i) hN hv hd hcd).run pinsZ sZ σZ HZ (fun v H1 => v = .ref f ∧ H1 = HZ) IZ ⟨.ref f, hs, rfl, rfl⟩) fun u s1 ⟨v, H1, I1, r1, ev, eH⟩ => ?_)
  subst ev
  subst eH
  obtain rfl : u = Value.ref f := r1
  obtain ⟨pm, ctv, of1⟩ := fnL_at I1.hok hf
  rw [LF.ob_fd] at of1
  obtain ⟨g1, g2, g3, g4, g5, g6, g7⟩ := LF.fd_get G pm ctv
  refine PySem.W.callWith_F0 ⟨_, _, _, _, of1⟩ ?_
  obtain ⟨⟨oc, vs, t, hoc, hdc, hvc⟩, _, _⟩ := I1.hok G.c _ hc
  have rc : codeAny (model P w) (A0.deeper (envOfC qg sg s.heap.objs.size g cdg)) (.call (.ref f) ⟨[], []⟩) (CR (L2.CX P w) (envOfC qg sg s.heap.objs.size g cdg :: fo) P w H1 s1 Q E) s1 := by
    refine PySem.W.kla_callFunE (body := G.body) hr.depth of1 rfl (by rw [g1]; exact L.co) (by rw [g1]; exact L.gen) g2 (by rw [g3, g4]; exact ⟨G.c, oc, vs, t, rfl, hoc, hdc, hvc⟩) ?_
    refine hbd _ _ pm ctv s1 _ _ (fun t e => ?_) fun bs hbs => ?_
    · obtain ⟨_, its, r, o, e1, e2, n, e3⟩ := I1.hok t _ (ht t e)
      cases r with
      | cons r0 r1 =>
        cases r1
        obtain ⟨t0, e4⟩ := r0
        subst e4
        exact ⟨t0, o, n, e1, e3⟩
    rw [g1, g3, g4, g5, g6, g7]
    refine wpAny_newFunctionEnv (fun y hy => (L.own y hy).1) hbs (fun h₁ hns hsb => ⟨I1.nolimit.fresh _ hsb, ?_⟩) L.kind
    show codeAny _ _ (.expr G.body (lenv G s1.heap.objs.size f)) _ _
    have kp : ∀ b o, s1.heap.get? b = some o → h₁.get? b = some o := fun b o e => hsb.extBut b o (Nat.ne_of_lt (Heap.lt_size e)) (Heap.get?_push_of_some _ e)
    have J : Inv (lamG P w K mg base N G (A0.deeper (envOfC qg sg s.heap.objs.size g cdg)) (envOfC qg sg s.heap.objs.size g cdg :: fo) s1 H1 E f) [] σ H1 { s1 with heap := h₁, toks := s1.toks + bs.length } :=
      lamG_start (fo := fo) C L I1.env0 hr.hd I1.base hns kp
    refine PySem.W.kla_codeExpr (wpAny_mono ((hbody _ _ s1 H1 (hr.deeper _)).run [] _ _ H1 Q J hb) (fun v s' hq => ?_) fun e s' hq => hq)
    obtain ⟨w', H', J', rv, q⟩ := hq
    exact ⟨w', H', J'.os, J'.bare, J'.base, J'.hok, rv, q⟩
  have hx : Passes (L2.CX P w) ((cxOf CXg P w K mg base Ng qg sg g cdg A0 fo s H Eg).tr pn xe) E := passes_call tk hW
  refine wpAny_call (codeAny_mono rc fun r s' hq => ?_)
  cases r with
  | error e => exact hx pinsZ σZ H1 s1 e s' I1 hq
  | ok fl => cases fl with
    | ret u => exact I1.after hq
    | next => exact False.elim hq
    | brk => exact False.elim hq
    | cont => exact False.elim hq
end
end RK
namespace RK
open PySem PySem.Spec PyProof.Rows L2 LamX
def delC (H : Hp) (cs : List (Str × Addr)) : Hp := fun a => if a ∈ cs.map (·.2) then none else H a
def addC (H H' : Hp) (cs : List (Str × Addr)) : Hp := fun a => if a ∈ cs.map (·.2) then H a else H' a
theorem delC_in {H : Hp} {cs : List (Str × Addr)} {a : Addr} (h : a ∈ cs.map (·.2)) : delC H cs a = none := if_pos h
theorem delC_out {H : Hp} {cs : List (Str × Addr)} {a : Addr} (h : a ∉ cs.map (·.2)) : delC H cs a = H a := if_neg h
theorem addC_in {H H' : Hp} {cs : List (Str × Addr)} {a : Addr} (h : a ∈ cs.map (·.2)) : addC H H' cs a = H a := if_pos h
theorem addC_out {H H' : Hp} {cs : List (Str × Addr)} {a : Addr} (h : a ∉ cs.map (·.2)) : addC H H' cs a = H' a := if_neg h
theorem delC_le {H : Hp} {cs : List (Str × Addr)} {a : Addr} {o : HO} (h : delC H cs a = some o) : H a = some o ∧ a ∉ cs.map (·.2) := by
  by_cases z : a ∈ cs.map (·.2)
  · rw [delC_in z] at h
    cases h
  · rw [delC_out z] at h
    exact ⟨h, z⟩
theorem delC_none {H : Hp} {cs : List (Str × Addr)} {a : Addr} (h : H a = none) : delC H cs a = none := by
  by_cases z : a ∈ cs.map (·.2)
  · exact delC_in z
  · rw [delC_out z]
    exact h
def IsCl (H : Hp) (cs : List (Str × Addr)) : Prop := ∀ a ∈ cs.map (·.2), ∃ v, H a = some (CellO a v)
theorem cells_is {N : Addr → Prop} {H : Hp} : ∀ {cs : List (Str × Addr)} {vs : List V}, CellsH N H cs vs → IsCl H cs
  | [], _, _ => fun a h => absurd h (by simp)
  | p :: ps, v :: vs, ⟨h, _, r⟩ => fun a ha => by
    rcases List.mem_cons.mp ha with e | e
    · exact ⟨v, by rw [e]; exact h⟩
    · exact cells_is r a e
section
variable {Y : Cx} {pins : List (Addr × Obj)} {σ : L2.St} {H H' : Hp} {s s2 : Shared} {cs : List (Str × Addr)}
theorem inv_del (I : Inv Y pins σ H s) (hc : IsCl H cs) : Inv Y pins σ (delC H cs) s := by
  have out : ∀ b o, H b = some o → (∀ φ, o ≠ .ext φ) → delC H cs b = some o := fun b o e n => by
    by_cases z : b ∈ cs.map (·.2)
    · obtain ⟨v, h⟩ := hc b z
      rw [e] at h
      exact absurd (Option.some.inj h) (n _)
    · rw [delC_out z]
      exact e
  exact {
    ok := I.ok
    os := I.os
    bare := I.bare
    base := { keep := I.base.keep, slot := I.base.slot, free := fun b o e n x => delC_none (I.base.free b o e n x), there := I.base.there,
              tups := fun b xs e => out b _ (I.base.tups b xs e) (fun φ z => by cases z), frzs := fun b o u e => out b _ (I.base.frzs b o u e) (fun φ z => by cases z),
              tbls := fun b ps e => (let ⟨more, h⟩ := I.base.tbls b ps e; ⟨more, out b _ h (fun φ z => by cases z)⟩) }
    loc := I.loc
    cell := I.cell
    free := delC_none I.free
    freeC := fun x c e => delC_none (I.freeC x c e)
    pin := fun p hp => (let ⟨a, b, c⟩ := I.pin p hp; ⟨a, delC_none b, c⟩)
    hok := fun a o e => (I.hok a o (delC_le e).1).stay (fun b u _ q => q) (fun b q => out b _ q (fun φ z => by cases z)) fun b xs q => out b _ q (fun φ z => by cases z)
    len := I.len }
theorem cell_raw (I : Inv Y pins σ H s) (hc : IsCl H cs) {a : Addr} (h : a ∈ cs.map (·.2)) : ∃ v o u, H a = some (CellO a v) ∧ s.heap.get? a = some o ∧ RelV v u ∧ o.data = .cell (some u) := by
  obtain ⟨v, e⟩ := hc a h
  obtain ⟨⟨u, r, o, ho, hd⟩, _, _⟩ := I.hok a _ e
  exact ⟨v, o, u, e, ho, r, hd⟩
theorem inv_add (I : Inv Y pins σ H s) (J : Inv Y pins σ H' s2) (hc : IsCl H cs) (un : Un (frs Y.stack) [] (delC H cs) H' s.heap s2.heap) : (∀ a ∈ cs.map (·.2), H' a = none) ∧ Inv Y pins σ (addC H H' cs) s2 := by
  have gone : ∀ a ∈ cs.map (·.2), H' a = none := fun a h => by
    obtain ⟨v, o, u, e, ho, r, hd⟩ := cell_raw I hc h
    exact un.free a o ho (delC_in h) (by simp)
  have out : ∀ b o, H' b = some o → addC H H' cs b = some o := fun b o e => by
    by_cases z : b ∈ cs.map (·.2)
    · rw [gone b z] at e
      cases e
    · rw [addC_out z]
      exact e
  have both : ∀ b o, H b = some o → H' b = some o → addC H H' cs b = some o := fun b o _ e => out b o e
  have non : ∀ b, H b = none → H' b = none → addC H H' cs b = none := fun b e1 e2 => by
    by_cases z : b ∈ cs.map (·.2)
    · rw [addC_in z]; exact e1
    · rw [addC_out z]; exact e2
  refine ⟨gone, {
    ok := J.ok
    os := J.os
    bare := J.bare
    base := { keep := J.base.keep, slot := J.base.slot, free := fun b o e n x => non b (I.base.free b o e n x) (J.base.free b o e n x), there := J.base.there,
              tups := fun b xs e => out b _ (J.base.tups b xs e), frzs := fun b o u e => out b _ (J.base.frzs b o u e),
              tbls := fun b ps e => (let ⟨more, h⟩ := J.base.tbls b ps e; ⟨more, out b _ h⟩) }
    loc := J.loc
    cell := J.cell
    free := non _ I.free J.free
    freeC := fun x c e => non _ (I.freeC x c e) (J.freeC x c e)
    pin := fun p hp => (let ⟨a, b, c⟩ := J.pin p hp; ⟨a, non _ (I.pin p hp).2.1 b, c⟩)
    hok := fun a o e => ?_
    len := J.len }⟩
  by_cases z : a ∈ cs.map (·.2)
  · rw [addC_in z] at e
    obtain ⟨v, ob, u, e2, ho, r, hd⟩ := cell_raw I hc z
    rw [e] at e2
    cases e2
    have na : a ∉ frs Y.stack := fun q => by
      rw [I.stkFree a q] at e
      cases e
    have ho2 := un.keep a ob ho (delC_in z) na (by simp)
    exact ⟨⟨u, r, ob, ho2, hd⟩, ⟨ob, ho2⟩, fun h1 h2 ⟨u, r, o, q1, q2⟩ st => ⟨u, r, o, st _ q1, q2⟩⟩
  · rw [addC_out z] at e
    exact (J.hok a o e).stay (fun b u _ q => q) (fun b q => out b _ q) fun b xs q => out b _ q
def capS (N : List Str) (cs : List (Str × Addr)) (vs : List V) : L2.St := N.map fun y => ((cs.map (·.1)).zip vs).lookup y
theorem clo_of {N : List Str} {NN : Addr → Prop} {vs : List V} (I : Inv Y pins σ H s) (h : CellsH NN H cs vs) (inj : ∀ x y c, cs.lookup x = some c → cs.lookup y = some c → x = y) : Clo N cs (capS N cs vs) (delC H cs) s.heap where
  inj := inj
  val := fun i y v c h1 h2 h3 => by
    have e : ((cs.map (·.1)).zip vs).lookup y = some v := by
      unfold capS at h2
      rw [List.getElem?_map, h1] at h2
      exact Option.some.inj h2
    have key : ∀ {cs : List (Str × Addr)} {vs : List V}, CellsH NN H cs vs → ((cs.map (·.1)).zip vs).lookup y = some v → cs.lookup y = some c → H c = some (CellO c v) := by
      intro cs
      induction cs with
      | nil => intro vs _ _ e; cases e
      | cons p ps ih =>
        intro vs h e1 e2
        cases vs with
        | nil => exact h.elim
        | cons w ws =>
          obtain ⟨h1, _, h3⟩ := h
          obtain ⟨n, c0⟩ := p
          simp only [List.map_cons, List.zip_cons_cons, List.lookup_cons] at e1 e2
          cases q : (y == n) with
          | true =>
            rw [q] at e1 e2
            cases e1
            cases e2
            exact h1
          | false =>
            rw [q] at e1 e2
            exact ih h3 e1 e2
    obtain ⟨⟨u, r, z⟩, _, _⟩ := I.hok c _ (key h e h3)
    exact ⟨u, r, z⟩
  cell := fun y c e => by
    have hm : c ∈ cs.map (·.2) := List.mem_map.mpr ⟨_, PySem.mem_of_lookup e, rfl⟩
    obtain ⟨v, o, u, _, ho, _, hd⟩ := cell_raw I (cells_is h) hm
    exact ⟨some u, o, ho, hd⟩
  free := fun y c e => delC_in (List.mem_map.mpr ⟨_, PySem.mem_of_lookup e, rfl⟩)
  len := by unfold capS; rw [List.length_map]
end
structure LamU (P : Program) (w : World) (K : PySem.W.Frag) (mg : Str → Option Value) (base : Heap) (k : Nat) (N : List Str) (G : LF) (t : XK → TE) : Prop where
  L : LamG N G
  inj : ∀ x y c, G.cl.lookup x = some c → G.cl.lookup y = some c → x = y
  bd : BindsL G
  hb : ∀ (A : Around) (outer : List Env) (s : Shared) (H : Hp) (E : XK) (f : Addr), Room k (A.deeper (lenv G s.heap.objs.size f)) → PE (lamG P w K mg base N G A outer s H E f) G.body (t E)
section
variable {Y : Cx} {pins : List (Addr × Obj)} {σ2 : L2.St} {H : Hp} {s : Shared} {CD CM CL : Addr}
theorem try_coreG {k : Nat} {x a : Str} {g : Addr} {pg : Arguments} {bg : List Stmt} {sg : Scope} {dV kV doc pm cdv ct oc : Value} {an od : Option Addr} {osl : Array (Option Value)} {Ng N : List Str} {Q : VK} {G : LF} {f : Addr} {vs : List V} {NN : Addr → Prop} {t : XK → TE}
    (I : Inv Y pins σ2 H s) (hd : Y.A.handled = none) (lk : Y.K.lookup g = some ⟨oc, od, .func (PySem.W.fnOf x x pg bg sg dV kV doc pm an cdv ct), osl⟩) (hcg : PySem.W.codeIn Y.K cdv x = true) (bx : L2.Binds Y.K (PySem.W.fnOf x x pg bg sg dV kV doc pm an cdv ct) [a] []) (Sg : FnScope Ng [a] sg) (hNg : Ng[0]? = some a) (hva : Vis sg a)
    (gv : GivesTo Y Ng x sg g cdv bg a G.q (TTry Y.K CD CM CL)) (hr : Room (k + 2) Y.A) (l : LamU Y.prog Y.w Y.K Y.mg Y.base k N G t) (ha : LfAt (delC H G.cl) f G) (hc : CellsH NN H G.cl vs)
    (ht : TTry Y.K CD CM CL (fun E H' Q' => t E (capS N G.cl vs) H' Q') (delC H G.cl) (fun v H' => (∀ a ∈ G.cl.map (·.2), H' a = none) → Q v (addC H H' G.cl)))
    (n2 : (a == ("__debug__" : Str)) = false) (n3 : (a == ("__classdict__" : Str)) = false) :
    wpAny (model Y.prog Y.w) Y.A (call (.ref g) [.ref f]) (EP Y pins σ2 Q) Y.xe s := by
  have It := inv_del I (cells_is hc)
  have C : Clo N G.cl (capS N G.cl vs) (delC H G.cl) s.heap := clo_of I hc l.inj
  obtain ⟨a1, a2, a3⟩ := ha
  have ca : codeAny (model Y.prog Y.w) Y.A (.call (.ref g) ⟨[.ref f], []⟩) (CR C8.CX0 Y.stack Y.prog Y.w (delC H G.cl) s (fun v H' => (∀ a ∈ G.cl.map (·.2), H' a = none) → Q v (addC H H' G.cl)) C8.E0) s :=
    run_ofS (N := Ng) (ps := [a]) (us := [.ref f]) (vs := [.ref f]) lk hcg Sg hr It.env0 (bx s [.ref f] It.kIn rfl) (.cons rfl .nil) rfl fun hr' => by
      obtain ⟨t', u1, u2⟩ := gv f G.c s (delC H G.cl) _ (fun E H' Q' => (H' f = some (FnL f G) ∧ (∀ t, G.td = some t → H' t = some (.tup [.int 0]))) ∧ t E (capS N G.cl vs) H' Q')
        (fun W pn xe E p1 p2 tk hW => pe_weak (pe_actG (i := 0) hd C l.L l.bd tk hW hr' (fun A outer s H hr2 => l.hb A outer s H E f hr2) hNg hva n2 n3) fun σZ HZ Q' ⟨z1, z2, z3, z4⟩ => ⟨z1, z2, z3.1, z3.2, z4⟩) a2 (try_and (A := fun H' => H' f = some (FnL f G) ∧ (∀ t, G.td = some t → H' t = some (.tup [.int 0]))) ⟨a1, a3⟩ ht)
      exact ⟨t', u1.nox, u2⟩
  refine wpAny_call (codeAny_mono ca fun r s2 hq => ?_)
  cases r with
  | error e => exact (show False from hq).elim
  | ok fl => cases fl with
    | ret u =>
      obtain ⟨v, H', os, bare, un, hok, rv, q⟩ := hq
      have J : Inv Y pins σ2 H' s2 := It.call' (ch := []) os un hok bare fun b hb => absurd hb (by simp)
      obtain ⟨gone, J2⟩ := inv_add I J (cells_is hc) un
      exact ⟨v, _, J2, rv, q gone⟩
    | next => exact False.elim hq
    | brk => exact False.elim hq
    | cont => exact False.elim hq
end
end RK
namespace RK
open PySem PySem.Spec PyProof.Rows L2 LamX
abbrev TR := L2.St → Hp → (V → L2.St → Hp → Prop) → Prop
def RP (X : Cx) (pins : List (Addr × Obj)) (R : V → L2.St → Hp → Prop) (fl : Flow) (s' : Shared) : Prop := match fl with
  | .ret u => ∃ v σ' H', Inv X pins σ' H' s' ∧ RelV v u ∧ R v σ' H'
  | _ => False
structure PR (X : Cx) (st : List Stmt) (t : TR) : Prop where
  run : ∀ (pins : List (Addr × Obj)) (s : Shared) (σ : L2.St) (H : Hp) (R : V → L2.St → Hp → Prop), Inv X pins σ H s → t σ H R → wpAny (model X.prog X.w) X.A (execs st X.env) (RP X pins R) X.xe s
section
variable {X : Cx} {e : Expr} {te : TE} {st : Stmt} {rest : List Stmt} {t : TS} {u : TR} {pos : Pos}
theorem pr_ret (he : PE X e te) : PR X [.Return (some e) pos] (fun σ H R => te σ H fun v H' => R v σ H') :=
  ⟨fun pins s σ H R I h => wpAny_execs_cons (thn (wpAny_Return_some (Q := RP X pins R) (thn (he.run pins s σ H _ I h) fun v s1 ⟨x, H1, I1, r1, q1⟩ => ⟨x, σ, H1, I1, r1, q1⟩)) fun f s1 q => by
    cases f with
    | ret v => exact q
    | next => exact q.elim
    | brk => exact q.elim
    | cont => exact q.elim)⟩
theorem pr_cons (h1 : PS X st t) (h2 : PR X rest u) : PR X (st :: rest) (fun σ H R => t { nx := fun σ' H' => u σ' H' R, rt := fun _ _ => False } σ H) :=
  ⟨fun pins s σ H R I h => wpAny_execs_cons (thn (h1.run pins s σ H _ I h) fun f s1 q => by
    cases f with
    | next =>
      obtain ⟨σ', H', I', q⟩ := q
      exact h2.run pins s1 σ' H' R I' q
    | ret v =>
      obtain ⟨_, _, _, _, _, q⟩ := q
      exact q.elim
    | brk =>
      obtain ⟨_, _, _, q⟩ := q
      exact q.elim
    | cont =>
      obtain ⟨_, _, _, q⟩ := q
      exact q.elim)⟩
theorem PR.mono {sts : List Stmt} {u' : TR} (h : PR X sts u) (m : ∀ σ H R, u' σ H R → u σ H R) : PR X sts u' := ⟨fun pins s σ H R I q => h.run pins s σ H R I (m σ H R q)⟩
end
def trkL (N : List Str) (cs : List (Str × Addr)) (σ : L2.St) : List (Addr × V) := (N.zip σ).filterMap fun p => match cs.lookup p.1, p.2 with
  | some c, some v => some (c, v)
  | _, _ => none
def cellH (N : List Str) (cs : List (Str × Addr)) (σ : L2.St) (H : Hp) : Hp := fun a => match (trkL N cs σ).lookup a with
  | some v => some (CellO a v)
  | none => H a
theorem zip_mem {y : Str} {x : Option V} : ∀ {N : List Str} {σ : L2.St}, (y, x) ∈ N.zip σ → ∃ i : Nat, N[i]? = some y ∧ σ[i]? = some x
  | [], _, h => by simp at h
  | _ :: _, [], h => by simp at h
  | n :: N, z :: σ, h => by
    rcases List.mem_cons.mp h with e | e
    · cases e
      exact ⟨0, rfl, rfl⟩
    · obtain ⟨i, a, b⟩ := zip_mem e
      exact ⟨i + 1, a, b⟩
theorem mem_look {β : Type} {a : Addr} {v : β} : ∀ {l : List (Addr × β)}, l.lookup a = some v → (a, v) ∈ l
  | [], h => by cases h
  | (b, x) :: r, h => by
    rw [List.lookup_cons] at h
    cases e : (a == b) with
    | true =>
      rw [e] at h
      cases h
      rw [eq_of_beq e]
      exact List.mem_cons_self
    | false =>
      rw [e] at h
      exact List.mem_cons_of_mem _ (mem_look h)
theorem trk_mem {N : List Str} {cs : List (Str × Addr)} {σ : L2.St} {a : Addr} {v : V} (h : (trkL N cs σ).lookup a = some v) : ∃ (i : Nat) (y : Str), N[i]? = some y ∧ σ[i]? = some (some v) ∧ cs.lookup y = some a := by
  have hm : (a, v) ∈ trkL N cs σ := mem_look h
  unfold trkL at hm
  obtain ⟨⟨y, x⟩, hp, e⟩ := List.mem_filterMap.mp hm
  obtain ⟨i, h1, h2⟩ := zip_mem hp
  cases q1 : cs.lookup y with
  | none => simp [q1] at e
  | some c => cases x with
    | none => simp [q1] at e
    | some v' =>
      simp only [q1, Option.some.injEq, Prod.mk.injEq] at e
      obtain ⟨e1, e2⟩ := e
      subst e1
      subst e2
      exact ⟨i, y, h1, h2, q1⟩
section
variable {P : Program} {w : World} {K : PySem.W.Frag} {mg : Str → Option Value} {base : Heap} {CX : CXT} {N ps : List Str} {qual : Str} {scope : Scope} {f : Addr} {cdv : Value} {A : Around} {outer : List Env} {s s' : Shared} {H H' : Hp} {E : XK} {σ' : L2.St}
theorem cells_end (J : Inv (cxOf CX P w K mg base N qual scope f cdv A outer s H E) [] σ' H' s') (uq : ∀ y ∈ scope.names, scope.names.lookup y.1 = some y.2) :
    HOk P w (cellH N (envOfC qual scope s.heap.objs.size f cdv).cells σ' H') s'.heap ∧ Un (frs outer) [] H (cellH N (envOfC qual scope s.heap.objs.size f cdv).cells σ' H') s.heap s'.heap := by
  have fact : ∀ a v, (trkL N (envOfC qual scope s.heap.objs.size f cdv).cells σ').lookup a = some v → H' a = none ∧ s.heap.objs.size ≤ a ∧ ∃ u, RelV v u ∧ s'.heap.IsCell a (some u) := fun a v h => by
    obtain ⟨i, y, h1, h2, h3⟩ := trk_mem h
    refine ⟨J.freeC y a h3, J.ok.cab y a rfl h3, ?_⟩
    have hk : scope.names.lookup y = some .cell := by
      have hm : (y, a) ∈ cellsFrom (s.heap.objs.size + 1) scope.names [] := PySem.mem_of_lookup h3
      rw [← Heap.size_push s.heap { cls := .type "dict", data := .dict #[] }] at hm
      rcases cells_mem hm with z | ⟨z, _⟩
      · cases z
      · exact uq _ z
    obtain ⟨m, _, hl⟩ := J.loc
    obtain ⟨u, r, q⟩ := hl i y v h1 h2 (.inr (.inl hk))
    refine ⟨u, r, ?_⟩
    rcases q with ⟨k, _⟩ | ⟨_, c, e, z⟩
    · have k : scope.names.lookup y = some .local := k
      rw [hk] at k
      cases k
    · have e : (envOfC qual scope s.heap.objs.size f cdv).cells.lookup y = some c := e
      rw [h3] at e
      cases e
      exact z
  have keep : ∀ b o, H' b = some o → cellH N (envOfC qual scope s.heap.objs.size f cdv).cells σ' H' b = some o := fun b o e => by
    unfold cellH
    cases q : (trkL N (envOfC qual scope s.heap.objs.size f cdv).cells σ').lookup b with
    | none => exact e
    | some v =>
      rw [(fact b v q).1] at e
      cases e
  refine ⟨fun a o e => ?_, { keep := J.base.keep, slot := J.base.slot, free := fun b o e n x => ?_, there := J.base.there, tups := fun b xs e => keep b _ (J.base.tups b xs e), frzs := fun b o u e => keep b _ (J.base.frzs b o u e), tbls := fun b ps e => (let ⟨more, h⟩ := J.base.tbls b ps e; ⟨more, keep b _ h⟩) }⟩
  · cases q : (trkL N (envOfC qual scope s.heap.objs.size f cdv).cells σ').lookup a with
    | some v =>
      have e : cellH N (envOfC qual scope s.heap.objs.size f cdv).cells σ' H' a = some o := e
      unfold cellH at e
      rw [q] at e
      cases e
      obtain ⟨_, _, u, r, ob, ho, hd⟩ := fact a v q
      exact ⟨⟨u, r, ob, ho, hd⟩, ⟨ob, ho⟩, fun h1 h2 ⟨u, r, o, q1, q2⟩ st => ⟨u, r, o, st _ q1, q2⟩⟩
    | none =>
      have e : cellH N (envOfC qual scope s.heap.objs.size f cdv).cells σ' H' a = some o := e
      unfold cellH at e
      rw [q] at e
      exact (J.hok a o e).stay (fun b u _ q => q) (fun b q => keep b _ q) fun b xs q => keep b _ q
  · unfold cellH
    cases q : (trkL N (envOfC qual scope s.heap.objs.size f cdv).cells σ').lookup b with
    | none => exact J.base.free b o e n x
    | some v => exact absurd (Nat.lt_of_lt_of_le (Heap.lt_size e) (fact b v q).2.1) (Nat.lt_irrefl _)
theorem run_ofR {k : Nat} {name : Str} {params : Arguments} {body : List Stmt} {dV kV doc pm ct oc : Value} {an od : Option Addr} {osl : Array (Option Value)} (lk : K.lookup f = some ⟨oc, od, .func (PySem.W.fnOf name qual params body scope dV kV doc pm an cdv ct), osl⟩) (hcd : PySem.W.codeIn K cdv qual = true) (S : FnScope N ps scope)
    (uq : ∀ y ∈ scope.names, scope.names.lookup y.1 = some y.2) {args : Args} {us : List Value} {vs : List V} {Q : VK} (hr : Room (k + 1) A) (e0 : Env0 P w K mg base A outer s H) (hb : BindsTo s (PySem.W.fnOf name qual params body scope dV kV doc pm an cdv ct) args (ps.zip us)) (r : Vals vs us) (hl : vs.length = ps.length)
    (hbody : Room k (A.deeper (envOfC qual scope s.heap.objs.size f cdv)) → (cxOf CX P w K mg base N qual scope f cdv A outer s H E).Ok → ∃ t, PR (cxOf CX P w K mg base N qual scope f cdv A outer s H E) body t ∧
      t (L2.start N vs) H fun v σ' H' => (cxOf CX P w K mg base N qual scope f cdv A outer s H E).Ok → (∀ y c, (envOfC qual scope s.heap.objs.size f cdv).cells.lookup y = some c → H' c = none) → Q v (cellH N (envOfC qual scope s.heap.objs.size f cdv).cells σ' H')) :
    codeAny (model P w) A (.call (.ref f) args) (CR CX outer P w H s Q E) s := by
  have KX : K.In s.heap := e0.mod.kin.keeps fun b o e => (e0.bs b o e).1
  have lim : s.heap.NoLimit := e0.mod.nolimit.keeps fun b o e => (e0.bs b o e).1
  have hkind : ∀ y ∈ ps.zip us, scope.names.lookup y.1 = some .local ∨ (scope.names.lookup y.1 = some .cell ∧ ((cellsFrom (s.heap.objs.size + 1) scope.names []).lookup y.1).isSome = true) := fun y hy =>
    (S.par y.1 (List.of_mem_zip (a := y.1) (b := y.2) hy).1).imp id fun q => ⟨q, PySem.W.cellsFrom_some _ _ _ (.inl q)⟩
  refine codeAny_call_function hr.depth (KX _ _ lk) rfl S.co S.gen rfl (PySem.W.codeRec_of KX hcd) (hb _ _ _ _ (wpAny_newFunctionEnv_cells S.kind hkind fun env he s1 x => ?_))
  subst he
  refine ⟨lim.keeps x.toInCall.keep, codeAny_func ?_⟩
  have I : Inv (cxOf CX P w K mg base N qual scope f cdv A outer s H E) [] (L2.start N vs) H s1 := inv_start S hr.hd e0 hl r x
  obtain ⟨t, ht, hq⟩ := hbody (hr.deeper _) I.ok
  refine wpAny_mono (ht.run [] s1 (L2.start N vs) H _ I hq) (fun fl s' hs => ?_) fun e s' hs => hs
  cases fl with
  | ret u =>
    obtain ⟨v, σ', H', J, rv, q⟩ := hs
    obtain ⟨c1, c2⟩ := cells_end J uq
    exact ⟨v, _, J.os, J.bare, c2, c1, rv, q J.ok J.freeC⟩
  | next => exact hs.elim
  | brk => exact hs.elim
  | cont => exact hs.elim
end
end RK
namespace DL
open PySem PySem.Spec PyProof.Rows L2 RK LamX
abbrev Rdl := LF → ((Er → Prop) → TDE) → Prop
def RdL (X : Cx) (k : Nat) (K : PySem.W.Frag) (T : List (Addr × Str)) : Rdl := fun G d => ∀ b s : Addr, ∃ l : LamT X k, l.is G ∧ l.t = tTryB ⟨K, some (b, s, T), fun _ => False, fun _ => none, false⟩ d
section
variable {F : Fx} {env : De} {σ : L2.St} {L : List Addr} {H H' : Hp} {b s : Addr} {T : List (Addr × Str)}
theorem no_ext (A : Abs F env σ L H) {a : Addr} {φ : Heap → Prop} (h : H a = some (.ext φ)) : ¬ F.N L a := fun n => by
  obtain ⟨⟨o, ho⟩, e⟩ := A.alN n
  rw [h] at e
  cases e
  exact ho
theorem no_tup (A : Abs F env σ L H) {a : Addr} {vs : List V} (h : H a = some (.tup vs)) : ¬ F.N L a := fun n => by
  obtain ⟨⟨o, ho⟩, e⟩ := A.alN n
  rw [h] at e
  cases e
  exact ho
theorem fn_dd (A : Abs F env σ L H) {f : Addr} {G : LF} (h : LfAt H f G) (d : G.dead = false) : Dd F.K (F.N L) F.W H (.ref f) (.fn G []) :=
  .fn (vs := []) ⟨h.1, no_ext A h.1, h.2.1, no_ext A h.2.1, fun t e => ⟨h.2.2 t e, no_tup A (h.2.2 t e)⟩, fun z => by rw [d] at z; cases z⟩ .nil
end
section
variable {X : Cx} {F : Fx} {b s c PT : Addr} {T : List (Addr × Str)} {k : Nat}
end
end DL
namespace DL
open PySem PySem.Spec PyProof.Rows L2 RK LamX
mutual
def D.nofn : D → Bool
  | .lst xs => D.nofnL xs
  | .tup xs => D.nofnL xs
  | .ktp xs => D.nofnL xs
  | .dic kvs => D.nofnK kvs
  | .dct kvs => D.nofnT kvs
  | .obj _ fs => D.nofnF fs
  | .fn _ _ => false
  | _ => true
def D.nofnL : List D → Bool
  | [] => true
  | x :: xs => x.nofn && D.nofnL xs
def D.nofnK : List (Key × D) → Bool
  | [] => true
  | (_, x) :: xs => x.nofn && D.nofnK xs
def D.nofnT : List (List Key × D) → Bool
  | [] => true
  | (_, x) :: xs => x.nofn && D.nofnT xs
def D.nofnF : List (Str × D) → Bool
  | [] => true
  | (_, x) :: xs => x.nofn && D.nofnF xs
end
theorem nofnK_map : ∀ kvs : List (Key × D), D.nofnK kvs = D.nofnL (kvs.map (·.2))
  | [] => rfl
  | (_, x) :: r => by
    show (x.nofn && D.nofnK r) = (x.nofn && D.nofnL (r.map (·.2)))
    rw [nofnK_map r]
theorem nofnT_map : ∀ kvs : List (List Key × D), D.nofnT kvs = D.nofnL (kvs.map (·.2))
  | [] => rfl
  | (_, x) :: r => by
    show (x.nofn && D.nofnT r) = (x.nofn && D.nofnL (r.map (·.2)))
    rw [nofnT_map r]
theorem nofnF_map : ∀ kvs : List (Str × D), D.nofnF kvs = D.nofnL (kvs.map (·.2))
  | [] => rfl
  | (_, x) :: r => by
    show (x.nofn && D.nofnF r) = (x.nofn && D.nofnL (r.map (·.2)))
    rw [nofnF_map r]
section
variable {K : PySem.W.Frag} {N : Addr → Prop} {W : Wd} {H H' : Hp}
theorem rd_nx (k : ∀ a o, H a = some o → (∀ φ, o ≠ .ext φ) → H' a = some o) {a : Addr} {o : HO} (n : ∀ φ, o ≠ .ext φ) (h : Rd H a o) : Rd H' a o := by
  rcases h with h | ⟨u, h⟩
  · exact .inl (k a _ h n)
  · exact .inr ⟨u, k a _ h fun φ z => by cases z⟩
mutual
theorem nofn_dd (k : ∀ a o, H a = some o → (∀ φ, o ≠ .ext φ) → H' a = some o) : ∀ {v : V} {d : D}, d.nofn = true → Dd K N W H v d → Dd K N W H' v d
  | _, _, _, .non => .non
  | _, _, _, .bl b => .bl b
  | _, _, _, .int i => .int i
  | _, _, _, .str x => .str x
  | _, _, p, .lst h q a => .lst (k _ _ h fun φ z => by cases z) q (nofn_ddL k (by unfold D.nofn at p; exact p) a)
  | _, _, p, .tup h q a => .tup (k _ _ h fun φ z => by cases z) q (nofn_ddL k (by unfold D.nofn at p; exact p) a)
  | _, _, p, .ktp h1 h2 h3 h4 h5 a => .ktp h1 h2 h3 h4 h5 (nofn_ddL k (by unfold D.nofn at p; exact p) a)
  | _, _, p, .dic h q e a => .dic (rd_nx k (fun φ z => by cases z) h) q e (nofn_ddL k (by unfold D.nofn at p; rw [← nofnK_map]; exact p) a)
  | _, _, p, .dct h q e a => .dct (rd_nx k (fun φ z => by cases z) h) q e (nofn_ddL k (by unfold D.nofn at p; rw [← nofnT_map]; exact p) a)
  | _, _, p, .obj h q e a => .obj (k _ _ h fun φ z => by cases z) q e (nofn_ddL k (by unfold D.nofn at p; rw [← nofnF_map]; exact p) a)
  | _, _, _, .bag e => .bag e
  | _, _, p, .fn _ _ => by unfold D.nofn at p; cases p
theorem nofn_ddL (k : ∀ a o, H a = some o → (∀ φ, o ≠ .ext φ) → H' a = some o) : ∀ {vs : List V} {ds : List D}, D.nofnL ds = true → DdAll K N W H vs ds → DdAll K N W H' vs ds
  | _, _, _, .nil => .nil
  | _, _, p, .cons h a => by
    unfold D.nofnL at p
    rw [Bool.and_eq_true] at p
    exact .cons (nofn_dd k p.1 h) (nofn_ddL k p.2 a)
end
end
def capE (N : List Str) (ns : List Str) (ds : List D) : De := N.map fun y => match (ns.zip ds).lookup y with | some d => .fz d | none => .no
theorem capE_hide (N ns : List Str) (ds : List D) : hideO (capE N ns ds) = capE N ns ds := by
  unfold hideO capE
  rw [List.map_map]
  refine List.map_congr_left fun y _ => ?_
  show En.hide (match (ns.zip ds).lookup y with | some d => .fz d | none => .no) = match (ns.zip ds).lookup y with | some d => .fz d | none => .no
  cases (ns.zip ds).lookup y <;> rfl
abbrev Rdc := LF → List D → ((Er → Prop) → (D → Prop) → Prop) → Prop
def RdC (P : Program) (w : World) (K : PySem.W.Frag) (mg : Str → Option Value) (base : Heap) (k : Nat) (T : List (Addr × Str)) : Rdc := fun G ds r => G.dead = true ∧ D.nofnL ds = true ∧
  ∃ (N : List Str) (d : (Er → Prop) → TDE), (∀ b s : Addr, LamU P w K mg base k N G (tTryB ⟨K, some (b, s, T), fun _ => False, fun _ => none, false⟩ d)) ∧ r = fun PX Pd => d PX (capE N (G.cl.map (·.1)) ds) Pd
def dTryG (ec : ErCl) (rc : Rdc) (iv : Nat) : TDE := fun env P => ∃ G ds r, env[iv]? = some (.fz (.fn G ds)) ∧ rc G ds r ∧ r (fun e => ec.has e ∧ P (.tup [.str e.w, e.val])) fun x => P (.tup [.str "value", x])
section
variable {Y : Cx} {F : Fx} {b s : Addr} {T : List (Addr × Str)} {k : Nat} {env : De} {σ2 : L2.St} {L : List Addr} {H : Hp} {st : Shared} {pins : List (Addr × Obj)}
theorem out_ext {cs : List (Str × Addr)} (hc : IsCl H cs) {a : Addr} {o : HO} (h : H a = some o) (n : ∀ φ, o ≠ .ext φ) : delC H cs a = some o := by
  by_cases z : a ∈ cs.map (·.2)
  · obtain ⟨v, e⟩ := hc a z
    rw [h] at e
    exact absurd (Option.some.inj e) (n _)
  · rw [delC_out z]
    exact h
theorem out_raw {cs : List (Str × Addr)} (I : Inv Y pins σ2 H st) (hc : IsCl H cs) {a : Addr} {o : HO} {ob : Obj} (h : H a = some o) (e : st.heap.get? a = some ob) (n : ∀ u, ob.data ≠ .cell u) : delC H cs a = some o := by
  by_cases z : a ∈ cs.map (·.2)
  · obtain ⟨v, o', u, _, ho, _, hd⟩ := cell_raw I hc z
    rw [e] at ho
    cases ho
    exact absurd hd (n _)
  · rw [delC_out z]
    exact h
theorem ok_del {cs : List (Str × Addr)} (I : Inv Y pins σ2 H st) (hc : IsCl H cs) (ok : Wd.ok (some (b, s, T)) H) : Wd.ok (some (b, s, T)) (delC H cs) := by
  obtain ⟨⟨ns, i, big, salt, B⟩, tb, nt⟩ := ok
  refine ⟨⟨ns, i, big, salt, out_ext hc B.hb (fun φ z => by cases z), out_ext hc B.hs (fun φ z => by cases z), B.ne, B.hi, B.hn, B.h0, B.h1, B.h2⟩, fun p hp => ?_, fun ne a ps h => nt ne a ps (delC_le h).1⟩
  obtain ⟨ps, h1, h2, h3⟩ := tb p hp
  refine ⟨ps, out_ext hc h1 (fun φ z => by cases z), h2, fun pos cv hcv => ?_⟩
  obtain ⟨c, e, hcd⟩ := h3 pos cv hcv
  obtain ⟨⟨oc, vs, t, ho, hd, _⟩, _, _⟩ := I.hok c _ hcd
  exact ⟨c, e, out_raw I hc hcd ho fun u z => by rw [hd] at z; cases z⟩
theorem zip_dd {K : PySem.W.Frag} {N : Addr → Prop} {W : Wd} {H : Hp} {y : Str} {d : D} : ∀ {ns : List Str} {vs : List V} {ds : List D}, DdAll K N W H vs ds → (ns.zip ds).lookup y = some d → ∃ v, (ns.zip vs).lookup y = some v ∧ Dd K N W H v d
  | [], _, _, _, h => by cases h
  | _ :: _, _, _, .nil, h => by cases h
  | n :: ns, _, _, .cons (v := v) (d := d') q a, h => by
    simp only [List.zip_cons_cons, List.lookup_cons] at h ⊢
    cases e : (y == n) with
    | true =>
      rw [e] at h
      cases h
      exact ⟨v, rfl, q⟩
    | false =>
      rw [e] at h
      exact zip_dd a h
theorem cap_abs {N : List Str} {cs : List (Str × Addr)} {vs : List V} {ds : List D} (hW : F.W = some (b, s, T)) (I : Inv Y pins σ2 H st) (A : Abs F env σ2 L H) (hc : IsCl H cs) (da : DdAll F.K (F.N L) F.W H vs ds) (nf : D.nofnL ds = true) :
    Abs ⟨F.K, F.W, F.N L, delC H cs, false⟩ (capE N (cs.map (·.1)) ds) (capS N cs vs) [] (delC H cs) where
  ok := by
    have ok := A.ok
    show F.W.ok _
    rw [hW] at ok ⊢
    exact ok_del I hc ok
  al := fun a h => by
    obtain ⟨⟨o, ho⟩, e⟩ := A.alN h
    exact ⟨⟨o, ho⟩, out_ext hc e fun φ z => by subst z; exact ho⟩
  wn := fun a h => .inl (A.wn a h)
  kp := .refl _ _
  fr := fun a h => by cases h
  ls := by unfold capE capS; rw [List.length_map, List.length_map]
  sep := fun i j a ei ej h1 _ h3 _ _ _ => by
    unfold capE at h1
    rw [List.getElem?_map] at h1
    obtain ⟨y, _, rfl⟩ := Option.map_eq_some_iff.mp h1
    split at h3 <;> cases h3
  so := fun i e c h hb => by
    unfold capE at h
    rw [List.getElem?_map] at h
    obtain ⟨y, _, rfl⟩ := Option.map_eq_some_iff.mp h
    split at hb <;> cases hb
  en := fun i e x h1 h2 => by
    unfold capE at h1
    unfold capS at h2
    rw [List.getElem?_map] at h1 h2
    obtain ⟨y, hy, rfl⟩ := Option.map_eq_some_iff.mp h1
    rw [hy] at h2
    cases h2
    cases q : ((cs.map (·.1)).zip ds).lookup y with
    | none => exact True.intro
    | some d =>
      obtain ⟨v, hv, dd⟩ := zip_dd da q
      show EnOk _ [] _ (.fz d) (((cs.map (·.1)).zip vs).lookup y)
      rw [hv]
      have nd : d.nofn = true := by
        have key : ∀ {ns : List Str} {ds : List D}, D.nofnL ds = true → (ns.zip ds).lookup y = some d → d.nofn = true := by
          intro ns
          induction ns with
          | nil => intro ds _ h; cases h
          | cons n ns ih =>
            intro ds p h
            cases ds with
            | nil => cases h
            | cons x xs =>
              unfold D.nofnL at p
              rw [Bool.and_eq_true] at p
              simp only [List.zip_cons_cons, List.lookup_cons] at h
              cases e : (y == n) with
              | true => rw [e] at h; cases h; exact p.1
              | false => rw [e] at h; exact ih p.2 h
        exact key nf q
      have z : Dd F.K (F.N L) F.W (delC H cs) v d := nofn_dd (fun a o e n => out_ext hc e n) nd dd
      exact Dd.keep (fun _ _ _ h => h) (fun a h => n_nil.mp h) z
theorem newV_lift {F' : Fx} {L' : List Addr} {H' : Hp} {a : Addr} (k : ∀ x o, ¬ F.N (a :: L) x → H x = some o → ¬ F'.N (a :: L') x ∧ H' x = some o) (ka : ∀ o, H a = some o → H' a = some o) (hK : F'.K = F.K) (hW : F'.W = F.W) : ∀ {x : D}, NewV F L H a x → NewV F' L' H' a x
  | .lst ds, ⟨vs, h, g⟩ => ⟨vs, ka _ h, by rw [hK, hW]; exact g.pres k⟩
  | .tup ds, ⟨vs, h, g⟩ => ⟨vs, ka _ h, by rw [hK, hW]; exact g.pres k⟩
  | .dic ds, ⟨vs, h, e, g⟩ => ⟨vs, ka _ h, e, by rw [hK, hW]; exact g.pres k⟩
  | .dct ds, ⟨vs, h, e, g⟩ => ⟨vs, ka _ h, e, by rw [hK, hW]; exact g.pres k⟩
theorem newV_some {a : Addr} : ∀ {x : D}, NewV F L H a x → ∃ o, H a = some o
  | .lst _, ⟨_, h, _⟩ => ⟨_, h⟩
  | .tup _, ⟨_, h, _⟩ => ⟨_, h⟩
  | .dic _, ⟨_, h, _⟩ => ⟨_, h⟩
  | .dct _, ⟨_, h, _⟩ => ⟨_, h⟩
theorem dn_tryG {CD CM CL : Addr} {ec : ErCl} {iv : Nat} {x a v : Str} {g : Addr} {pg : Arguments} {bg : List Stmt} {sg : Scope} {dV kV doc pm cdv ct oc : Value} {an od : Option Addr} {osl : Array (Option Value)} {Ng : List Str} {p pv pos : Pos}
    (hW : F.W = some (b, s, T)) (ne : T ≠ []) (hK : F.K = Y.K) (hcl : ∀ k ∈ ec, ClOk F.K CD CM CL k)
    (hN : Y.N[iv]? = some v) (hv : Vis Y.env.scope v) (gx : Gl Y x) (mx : Y.mg x = some (.ref g)) (kx : PySem.W.keepIn Y.K (.ref g) = true)
    (lk : Y.K.lookup g = some ⟨oc, od, .func (PySem.W.fnOf x x pg bg sg dV kV doc pm an cdv ct), osl⟩) (hcg : PySem.W.codeIn Y.K cdv x = true) (bx : L2.Binds Y.K (PySem.W.fnOf x x pg bg sg dV kV doc pm an cdv ct) [a] []) (Sg : FnScope Ng [a] sg) (hNg : Ng[0]? = some a) (hva : Vis sg a)
    (gv : ∀ q : Str, GivesTo Y Ng x sg g cdv bg a q (TTry Y.K CD CM CL)) (hr : Room (k + 2) Y.A) (hh : Y.A.handled = none)
    (m1 : (v == ("__debug__" : Str)) = false := by decide) (m2 : (v == ("__classdict__" : Str)) = false := by decide)
    (n1 : (x == ("__debug__" : Str)) = false := by decide) (n2 : (a == ("__debug__" : Str)) = false := by decide) (n3 : (a == ("__classdict__" : Str)) = false := by decide) :
    PE Y (.Call (.Name x p) [.Name v pv] [] pos) (lN F (dTryG ec (RdC Y.prog Y.w Y.K Y.mg Y.base k T) iv)) := by
  refine ⟨fun pins st0 σ2 H Q I0 ⟨env, L, P, A, ⟨G, ds, r, h1, ⟨hdead, nf, N, d, hU, er⟩, h5⟩, q⟩ => ?_⟩
  obtain ⟨w, hw, hd⟩ := abs_at A h1 (by intro z; cases z)
  have hd : Dd F.K (F.N L) F.W H w (.fn G ds) := hd
  obtain ⟨f, vs, ev, fh, da⟩ : ∃ f vs, w = .ref f ∧ FnH (F.N L) H f G vs ∧ DdAll F.K (F.N L) F.W H vs ds := by
    cases hd with
    | fn fh da => exact ⟨_, _, rfl, fh, da⟩
  subst ev
  refine wpAny_Call_Name_kw (ld_glob I0 gx mx (PySem.W.callWith_K (h₀ := Y.base) I0.ok.mod.kin kx ?_ (by rfl) (by rfl)) n1)
  refine Calls.spliced_cons (thn ((pe_var (X := Y) (pos := pv) (i := iv) hN hv m1 m2).run pins st0 σ2 H (fun v H1 => v = .ref f ∧ H1 = H) I0 ⟨.ref f, hw, rfl, rfl⟩) fun u st ⟨w, H1, I, r1, ev, eH⟩ => ?_)
  subst ev
  subst eH
  obtain rfl : u = Value.ref f := r1
  have hcells := fh.cells hdead
  have hc := cells_is hcells
  have A0 := cap_abs (N := N) hW I A hc da nf
  have lf : LfAt (delC H1 G.cl) f G := by
    refine ⟨?_, ?_, fun t e => out_ext hc (fh.td t e).1 fun φ z => by cases z⟩
    · obtain ⟨pm, ctv, of1⟩ := fnL_at I.hok fh.at_
      rw [LF.ob_fd] at of1
      exact out_raw I hc fh.at_ of1 fun u z => by cases z
    · obtain ⟨⟨oc, vs, t, ho, hd, _⟩, _, _⟩ := I.hok G.c _ fh.code
      exact out_raw I hc fh.code ho fun u z => by rw [hd] at z; cases z
  refine Calls.spliced_nil ⟨I.kIn, try_coreG (N := N) (NN := F.N L) (t := tTryB ⟨F.K, F.W, F.N L, delC H1 G.cl, false⟩ d) I hh lk hcg bx Sg hNg hva (gv G.q) hr ?_ lf hcells ?_ n2 n3⟩
  · have z := hU b s
    rw [← hK, ← hW] at z
    rw [← hK]
    exact z
  · have z := l_try (F := ⟨F.K, F.W, F.N L, delC H1 G.cl, false⟩) (CD := CD) (CM := CM) (CL := CL) (ec := ec) (d := d) hW ne hcl (capS N G.cl vs) (delC H1 G.cl) (fun v H' => (∀ a ∈ G.cl.map (·.2), H' a = none) → Q v (addC H1 H' G.cl))
      ⟨capE N (G.cl.map (·.1)) ds, [], P, A0, ?_, fun x a H' px kk ok na nv gone => ?_⟩
    · have z2 := z.2 (delC H1 G.cl) (ExtN.refl _) (fun a ps h => ⟨ps, h⟩) z.1
      rw [← hK]
      exact z2
    · subst er
      show d _ (hideO (capE N (G.cl.map (·.1)) ds)) _
      rw [capE_hide]
      exact h5
    · obtain ⟨o, ho⟩ := newV_some nv
      have na2 : a ∉ G.cl.map (·.2) := fun z => by
        rw [gone a z] at ho
        cases ho
      have up : ∀ y o, H' y = some o → addC H1 H' G.cl y = some o := fun y o h => by
        by_cases z : y ∈ G.cl.map (·.2)
        · rw [gone y z] at h
          cases h
        · rw [addC_out z]
          exact h
      refine q x a _ px (fun y o nw h => ?_) ?_ (by rw [delC_out na2] at na; exact na) (newV_lift (F := ⟨F.K, F.W, F.N L, delC H1 G.cl, false⟩) (F' := F) (fun y o n h => ⟨fun z => n ?_, up y o h⟩) (fun o h => up a o h) rfl rfl nv)
      · by_cases z : y ∈ G.cl.map (·.2)
        · rw [addC_in z]
          exact h
        · exact up y o (kk y o nw (by rw [delC_out z]; exact h))
      · refine Wd.st ok (fun y o h _ => up y o h) fun y ps h => ?_
        by_cases z : y ∈ G.cl.map (·.2)
        · rw [addC_in z] at h
          obtain ⟨v, e⟩ := hc y z
          rw [h] at e
          cases e
        · rw [addC_out z] at h
          exact ⟨ps, h⟩
      · rcases z with z | z
        · exact .inl (.inl z)
        · rcases List.mem_cons.mp z with z | z
          · exact .inr (by rw [z]; exact List.mem_cons_self)
          · exact .inl (.inr z)
end
end DL
namespace DL
open PySem PySem.Spec PyProof.Rows L2 RK LamX
abbrev TDR := De → (D → De → Prop) → Prop
def lR (F : Fx) (d : TDR) : TR := fun σ H R => ∃ env L P, Abs F env σ L H ∧ d env P ∧ ∀ x env' v σ' L' H', P x env' → Abs F env' σ' L' H' → Dd F.K (F.N L') F.W H' v x → R v σ' H'
def rRet (te : TDE) : TDR := fun env P => te env fun x => P x env
def rSeq (s : TDS) (d : TDR) : TDR := fun env P => s { nx := fun env' => d env' P, rt := fun _ => False } env
section
variable {X : Cx} {F : Fx} {e : Expr} {te : TDE} {st : Stmt} {rest : List Stmt} {ds : TDS} {d : TDR} {pos : Pos}
theorem r_ret (he : PE X e (lC F te)) : PR X [.Return (some e) pos] (lR F (rRet te)) := PR.mono (pr_ret he) fun σ H R ⟨env, L, P, A, p, q⟩ =>
  ⟨env, L, fun x => P x env, A, p, fun x v H' px k o dd => q x env v σ L H' px (A.step k o) dd⟩
theorem r_cons (h1 : PS X st (lS F ds)) (h2 : PR X rest (lR F d)) : PR X (st :: rest) (lR F (rSeq ds d)) := PR.mono (pr_cons h1 h2) fun σ H R ⟨env, L, P, A, p, q⟩ =>
  ⟨env, L, _, A, p, fun env' σ' L' H' pp B _ => ⟨env', L', P, B, pp, q⟩, fun x v H' z _ => z.elim, fun _ _ _ _ z => z.elim, fun _ _ _ _ z => z.elim⟩
end
abbrev Rdm := LF → List Str → ((Er → Prop) → TDE) → Prop
def RdM (X : Cx) (k : Nat) (K : PySem.W.Frag) (T : List (Addr × Str)) : Rdm := fun G caps d => RdL X k K T G d ∧ G.cl.map (·.1) = caps ∧ ∃ scope : Scope, G.cl = cloFrom X.env.cells scope.names [] ∧ ∀ y ∈ scope.names, y.2 = .free → ∃ c, X.env.cells.lookup y.1 = some c
def dLamM (rm : Rdm) (caps : List Str) (d : (Er → Prop) → TDE) : TDE := fun _ P => ∀ G, rm G caps d → P (.fn G [])
abbrev kill (G : LF) : LF := { G with dead := true }
section
variable {X : Cx} {F : Fx} {b s c PT : Addr} {T : List (Addr × Str)} {k : Nat}
theorem dd_lamSM {caps : List Str} {d : (Er → Prop) → TDE} {params : Arguments} {body : Expr} {scope : Scope} {pos : Pos} (hW : F.W = some (b, s, T)) (ne : T ≠ []) (L : LamD X.N X.env.scope scope) (TB : TabB X.base X.mg c PT) (hcode : X.env.code = .ref c)
    (hm : (PT, X.env.qual ++ "<lambda>") ∈ T) (hu : ∀ p ∈ T, p.1 = PT → p.2 = X.env.qual ++ "<lambda>") (hdef : defaultsOf params X.env = ([], []))
    (bd : ∀ (q : Str) (cl : List (Str × Addr)) (pm cv ctv : Value), bindArgs (PySem.W.kla_fn "<lambda>" q params body scope cl pm cv ctv) ⟨[], []⟩ = pure []) (hcap : (cloFrom X.env.cells scope.names []).map (·.1) = caps)
    (hb : ∀ (b s0 : Addr) (A : Around) (outer : List Env) (s : Shared) (H : Hp) (E : XK) (f c' : Addr), Room k (A.deeper (lamEnv X scope s.heap.objs.size f c')) → PE (lamCx X A outer s H E scope f c') body (tTryB ⟨F.K, some (b, s0, T), fun _ => False, fun _ => none, false⟩ d E)) :
    PE X (.Lambda params body scope pos) (lC F (dLamM (RdM X k F.K T) caps d)) := by
  refine ⟨fun pins s' σ H Q I ⟨env, L', P, A, p, q⟩ => ?_⟩
  have ok := A.ok
  rw [hW] at ok
  refine lamS_make I TB hcode hm hu ok.2.1 hdef (L.has I.ok) fun f c' H1 s1 I1 eN nT t1 nf ef ec => ?_
  have k1 : KeepW F.W H H1 := by rw [hW]; exact ext_keep ok ne eN
  have o1 : F.W.ok H1 := by rw [hW]; exact ext_ok ok ne eN nT t1
  have A1 := A.step k1 o1
  refine ⟨.ref f, H1, I1, rfl, q _ _ H1 (p _ ⟨fun b0 s0 => ⟨⟨params, body, scope, false, _, L, fun td c' e => ?_, hb b0 s0⟩, ⟨none, c', rfl, rfl⟩, rfl⟩, hcap, scope, rfl, L.has I.ok⟩) k1 o1 (fn_dd A1 (G := mkLF X params body scope none c') ⟨ef, ec, fun t e => by cases e⟩ rfl)⟩
  cases td with
  | none => exact bindsL_S bd
  | some _ => cases e
theorem dd_lamDM {caps : List Str} {d : (Er → Prop) → TDE} {params : Arguments} {body e0 : Expr} {scope : Scope} {pos : Pos} {a0 : Str} (hW : F.W = some (b, s, T)) (ne : T ≠ []) (L : LamD X.N X.env.scope scope) (TB : TabB X.base X.mg c PT) (hcode : X.env.code = .ref c)
    (hm : (PT, X.env.qual ++ "<lambda>") ∈ T) (hu : ∀ p ∈ T, p.1 = PT → p.2 = X.env.qual ++ "<lambda>") (hdef : defaultsOf params X.env = ([eval e0 X.env], []))
    (he0 : ∀ (s : Shared) (Q E : Value → Shared → Prop), (∀ t, Q (.int 0 t) { s with toks := s.toks + 1 } ∧ Q (.int 0 t) s) → wpAny (model X.prog X.w) X.A (eval e0 X.env) Q E s)
    (bd : ∀ (q : Str) (cl : List (Str × Addr)) (td : Addr) (t0 : Tok) (pm cv ctv : Value), ∃ kk, bindArgs (PySem.W.kld_fn "<lambda>" q params body scope cl (.ref td) pm cv ctv) ⟨[], []⟩ = seqItems? (.ref td) >>= kk ∧ kk (some #[.int 0 t0]) = pure [(a0, .int 0 t0)]) (hl0 : scope.names.lookup a0 = some .local)
    (hcap : (cloFrom X.env.cells scope.names []).map (·.1) = caps)
    (hb : ∀ (b s0 : Addr) (A : Around) (outer : List Env) (s : Shared) (H : Hp) (E : XK) (f c' : Addr), Room k (A.deeper (lamEnv X scope s.heap.objs.size f c')) → PE (lamCx X A outer s H E scope f c') body (tTryB ⟨F.K, some (b, s0, T), fun _ => False, fun _ => none, false⟩ d E)) :
    PE X (.Lambda params body scope pos) (lC F (dLamM (RdM X k F.K T) caps d)) := by
  refine ⟨fun pins s' σ H Q I ⟨env, L', P, A, p, q⟩ => ?_⟩
  have ok := A.ok
  rw [hW] at ok
  refine lamD_make2 I TB hcode hm hu ok.2.1 hdef (fun s Q => he0 s Q _) (L.has I.ok) fun td ntd f c' H1 s1 I1 eN nT t1 nf ef ec => ?_
  have e0N : ExtN H (upd H td (.tup [.int 0])) := .of fun a o h => by rw [upd_ne (ne_of_none h ntd)]; exact h
  have n0 : NoT H (upd H td (.tup [.int 0])) := noT_upd True.intro
  have eN2 := e0N.trans eN
  have nT2 : NoT H H1 := fun a ps h => (let ⟨qs, q⟩ := nT a ps h; n0 a qs q)
  have k1 : KeepW F.W H H1 := by rw [hW]; exact ext_keep ok ne eN2
  have o1 : F.W.ok H1 := by rw [hW]; exact ext_ok ok ne eN2 nT2 t1
  have A1 := A.step k1 o1
  refine ⟨.ref f, H1, I1, rfl, q _ _ H1 (p _ ⟨fun b0 s0 => ⟨⟨params, body, scope, true, _, L, fun td c' e => ?_, hb b0 s0⟩, ⟨some td, c', rfl, rfl⟩, rfl⟩, hcap, scope, rfl, L.has I.ok⟩) k1 o1 (fn_dd A1 (G := mkLF X params body scope (some td) c') ⟨ef, ec, fun t e => by
    cases e
    exact eN td _ upd_same fun ps z => by cases z⟩ rfl)⟩
  cases td with
  | none => cases e
  | some _ => exact bindsL_D bd hl0
theorem kill_rdc {G : LF} {caps : List Str} {d : (Er → Prop) → TDE} {ds : List D} (ok : X.Ok) (h : RdM X k X.K T G caps d) (nf : D.nofnL ds = true) : RdC X.prog X.w X.K X.mg X.base k T (kill G) ds (fun PX Pd => d PX (capE X.N caps ds) Pd) := by
  obtain ⟨hl, hc, scope, hcl, hs⟩ := h
  refine ⟨rfl, nf, X.N, d, fun b s => ?_, by rw [show (kill G).cl = G.cl from rfl, hc]⟩
  obtain ⟨l, ⟨td, c', e1, rfl⟩, ht⟩ := hl b s
  have has := l.L.has ok
  refine ⟨⟨l.L.kind, l.L.co, l.L.gen, l.L.own, fun y hy e => ?_⟩, fun x y c e1 e2 => ?_, l.bd td c' e1, fun A outer s H E f hr => ?_⟩
  · obtain ⟨n, kd⟩ := y
    cases e
    exact mem_lookup (cloFrom_has (cells := X.env.cells) (acc := []) hy)
  · have cm : ∀ {y c}, (cloFrom X.env.cells l.scope.names []).lookup y = some c → X.env.cells.lookup y = some c := fun {y c} e => by
      rcases cloFrom_mem (PySem.mem_of_lookup e) with hm | ⟨h1, h2⟩
      · cases hm
      · obtain ⟨c1, hc⟩ := has _ h1 rfl
        have hc : X.env.cells.lookup y = some c1 := hc
        rw [hc]
        rw [h2, hc]
        rfl
    exact ok.inj x y c (cm e1) (cm e2)
  · have z := l.hb A outer s H E f c' hr
    rw [ht] at z
    exact z
end
def datO (N : List Str) (env : De) (y : Str) : Option D := match (N.zip env).lookup y with | some (.fz d) => some d | _ => none
def dat (N : List Str) (env : De) (y : Str) : D := (datO N env y).getD .non
def FinM (rm : Rdm) (N : List Str) (P : D → Prop) : D → De → Prop := fun x env' => ∃ gs : List (LF × List Str), x = .lst (gs.map fun p => .fn p.1 []) ∧ (∀ p ∈ gs, (∃ d, rm p.1 p.2 d) ∧ ∀ y ∈ p.2, ∃ d, datO N env' y = some d ∧ d.nofn = true) ∧
  P (.lst (gs.map fun p => .fn (kill p.1) (p.2.map (dat N env'))))
theorem zip_memE {y : Str} {x : En} : ∀ {N : List Str} {σ : De}, (y, x) ∈ N.zip σ → ∃ i : Nat, N[i]? = some y ∧ σ[i]? = some x
  | [], _, h => by simp at h
  | _ :: _, [], h => by simp at h
  | n :: N, z :: σ, h => by
    rcases List.mem_cons.mp h with e | e
    · cases e
      exact ⟨0, rfl, rfl⟩
    · obtain ⟨i, a, b⟩ := zip_memE e
      exact ⟨i + 1, a, b⟩
theorem look_of_mem {β : Type} {a : Addr} {v : β} : ∀ {l : List (Addr × β)}, (a, v) ∈ l → ∃ v', l.lookup a = some v'
  | (b, x) :: r, h => by
    rw [List.lookup_cons]
    cases e : (a == b) with
    | true => exact ⟨x, rfl⟩
    | false =>
      rcases List.mem_cons.mp h with z | z
      · cases z
        simp at e
      · exact look_of_mem z
theorem trk_look {N : List Str} {cs : List (Str × Addr)} {σ : L2.St} {i : Nat} {y : Str} {c : Addr} {v : V} (hN : N.Nodup) (inj : ∀ x y c, cs.lookup x = some c → cs.lookup y = some c → x = y) (h1 : N[i]? = some y) (h2 : σ[i]? = some (some v)) (h3 : cs.lookup y = some c) : (trkL N cs σ).lookup c = some v := by
  have hm : (c, v) ∈ trkL N cs σ := by
    unfold trkL
    refine List.mem_filterMap.mpr ⟨(y, some v), ?_, by simp [h3]⟩
    refine List.mem_iff_getElem?.mpr ⟨i, ?_⟩
    rw [List.getElem?_zip_eq_some]
    exact ⟨h1, h2⟩
  obtain ⟨v', hv⟩ := look_of_mem hm
  obtain ⟨j, z, g1, g2, g3⟩ := trk_mem hv
  have e := inj z y c g3 h3
  subst e
  have e := nodup_ix hN g1 h1
  subst e
  rw [g2] at h2
  cases h2
  exact hv
section
variable {X : Cx} {F : Fx} {b s : Addr} {T : List (Addr × Str)} {k : Nat} {env' : De} {σ' : L2.St} {L' : List Addr} {H' : Hp}
theorem maker_end {v : V} {gs : List (LF × List Str)} (hN : X.N.Nodup) (ok : X.Ok) (A : Abs F env' σ' L' H') (gone : ∀ y c, X.env.cells.lookup y = some c → H' c = none) (hd : Dd F.K (F.N L') F.W H' v (.lst (gs.map fun p => .fn p.1 [])))
    (hg : ∀ p ∈ gs, (∃ d, RdM X k F.K T p.1 p.2 d) ∧ ∀ y ∈ p.2, ∃ d, datO X.N env' y = some d ∧ d.nofn = true) :
    KeepW F.W F.H0 (cellH X.N X.env.cells σ' H') ∧ F.W.ok (cellH X.N X.env.cells σ' H') ∧ Dd F.K F.N0 F.W (cellH X.N X.env.cells σ' H') v (.lst (gs.map fun p => .fn (kill p.1) (p.2.map (dat X.N env')))) := by
  have up : ∀ a o, H' a = some o → cellH X.N X.env.cells σ' H' a = some o := fun a o e => by
    unfold cellH
    cases q : (trkL X.N X.env.cells σ').lookup a with
    | none => exact e
    | some v =>
      obtain ⟨_, y, _, _, g3⟩ := trk_mem q
      rw [gone y a g3] at e
      cases e
  have pr : ∀ a o, ¬ F.N L' a → H' a = some o → ¬ F.N0 a ∧ cellH X.N X.env.cells σ' H' a = some o := fun a o n e => ⟨fun z => n (.inl z), up a o e⟩
  have n0 : ∀ a, H' a = none → ¬ F.N0 a := fun a e z => by
    obtain ⟨o, q⟩ := A.alO (.inl z)
    rw [e] at q
    cases q
  refine ⟨A.kp.trans fun a o _ e => up a o e, Wd.st A.ok (fun a o e _ => up a o e) (fun a ps e => ?_), ?_⟩
  · unfold cellH at e
    cases q : (trkL X.N X.env.cells σ').lookup a with
    | none => rw [q] at e; exact ⟨ps, e⟩
    | some v => rw [q] at e; cases e
  have one : ∀ cl : List (Str × Addr), (∀ p ∈ cl, X.env.cells.lookup p.1 = some p.2 ∧ ∃ d, datO X.N env' p.1 = some d) →
      ∃ vs, CellsH F.N0 (cellH X.N X.env.cells σ' H') cl vs ∧ DdAll F.K F.N0 F.W (cellH X.N X.env.cells σ' H') vs ((cl.map (·.1)).map (dat X.N env')) := by
    intro cl
    induction cl with
    | nil => exact fun _ => ⟨[], True.intro, .nil⟩
    | cons p ps ih =>
      intro h
      obtain ⟨vs, h1, h2⟩ := ih fun q hq => h q (List.mem_cons_of_mem _ hq)
      obtain ⟨hc, d, hdat⟩ := h p List.mem_cons_self
      have hz : (X.N.zip env').lookup p.1 = some (.fz d) := by
        unfold datO at hdat
        split at hdat
        · rename_i d' e
          cases hdat
          exact e
        · cases hdat
      obtain ⟨i, g1, g2⟩ := zip_memE (PySem.mem_of_lookup hz)
      obtain ⟨w, g3, g4⟩ := abs_at A g2 (by intro z; cases z)
      have g4 : Dd F.K (F.N L') F.W H' w d := g4
      have lk := trk_look hN (fun x y c a b => ok.inj x y c a b) g1 g3 hc
      have ed : dat X.N env' p.1 = d := by
        unfold dat
        rw [hdat]
        rfl
      refine ⟨w :: vs, ⟨?_, n0 _ (gone _ _ hc), h1⟩, ?_⟩
      · unfold cellH
        rw [lk]
      · show DdAll _ _ _ _ (w :: vs) (dat X.N env' p.1 :: _)
        rw [ed]
        exact .cons (g4.pres pr) h2
  cases hd with
  | lst h q a =>
    refine .lst (up _ _ h) (fun z => q (.inl z)) ?_
    clear h q
    rename_i us
    induction gs generalizing us with
    | nil =>
      cases a
      exact .nil
    | cons p ps ih =>
      cases a with
      | cons h1 h2 =>
        refine .cons ?_ (ih (fun q hq => hg q (List.mem_cons_of_mem _ hq)) h2)
        obtain ⟨⟨d, hr⟩, hcap⟩ := hg p List.mem_cons_self
        obtain ⟨_, ec, scope, ecl, hs⟩ := hr
        have cl_ok : ∀ q ∈ p.1.cl, X.env.cells.lookup q.1 = some q.2 ∧ ∃ d, datO X.N env' q.1 = some d := fun q hq => by
          constructor
          · have hq2 : (q.1, q.2) ∈ cloFrom X.env.cells scope.names [] := by rw [← ecl]; exact hq
            rcases cloFrom_mem hq2 with hm | ⟨g1, g2⟩
            · cases hm
            · obtain ⟨c1, hc⟩ := hs _ g1 rfl
              have hc : X.env.cells.lookup q.1 = some c1 := hc
              rw [hc, g2, hc]
              rfl
          · obtain ⟨d, g, _⟩ := hcap q.1 (by rw [← ec]; exact List.mem_map.mpr ⟨q, hq, rfl⟩)
            exact ⟨d, g⟩
        obtain ⟨vs, c1, c2⟩ := one p.1.cl cl_ok
        rw [ec] at c2
        cases h1 with
        | fn fh _ => exact .fn (vs := vs) ⟨up _ _ fh.at_, fun z => fh.nf (.inl z), up _ _ fh.code, fun z => fh.nc (.inl z), fun t e => ⟨up _ _ (fh.td t e).1, fun z => (fh.td t e).2 (.inl z)⟩, fun _ => c1⟩ c2
theorem fn_maker {K : PySem.W.Frag} {W : Wd} {N0 : Addr → Prop} {H : Hp} {fr : Fr} {vs : List V} {ds : List D} {P : D → Prop} {Q : VK} {d : TDR} (hN : X.N.Nodup) (al : ∀ a, N0 a → ∃ o : HoN, H a = some o.1) (wn : ∀ a, W.own a → N0 a) (ok : W.ok H) (dd : DdAll K N0 W H vs ds)
    (q : ∀ x v H', P x → KeepW W H H' → W.ok H' → Dd K N0 W H' v x → Q v H') (h : d (startE X.N ds) (FinM (RdM X k K T) X.N P)) :
    lR ⟨K, W, N0, H, fr⟩ d (start X.N vs) H fun v σ' H' => X.Ok → (∀ y c, X.env.cells.lookup y = some c → H' c = none) → Q v (cellH X.N X.env.cells σ' H') :=
  ⟨_, [], _, abs_start al wn ok dd, h, fun x env' v σ' L' H' ⟨gs, ex, hg, hp⟩ A hd xok gone => by
    subst ex
    obtain ⟨m1, m2, m3⟩ := maker_end (F := ⟨K, W, N0, H, fr⟩) hN xok A gone hd hg
    exact q _ v _ hp m1 m2 m3⟩
end
end DL
namespace DL
open PySem PySem.Spec PyProof.Rows L2 RK LamX
theorem pr_nox {X : Cx} {sts : List Stmt} {t : TR} (h : PR X.nox sts t) : PR X sts t := ⟨fun pins s σ H R I hw =>
  wpAny_mono (h.run pins s σ H R (I.wish _) hw) (fun fl s' q => by
    cases fl with
    | ret u =>
      obtain ⟨v, σ', H', J, r, q⟩ := q
      exact ⟨v, σ', H', J.unwish, r, q⟩
    | next => exact q.elim
    | brk => exact q.elim
    | cont => exact q.elim) fun _ _ z => False.elim z⟩
def lSpW (K : PySem.W.Frag) (T : List (Addr × Str)) (fr : Fr) (sp : DSp) : Sp := fun vs H Q _ => ∃ (b s : Addr) (N0 : Addr → Prop) (ds : List D) (P : D → Prop), (∀ a, N0 a → ∃ o : HoN, H a = some o.1) ∧ (∀ a, Wd.own (some (b, s, T)) a → N0 a) ∧ Wd.ok (some (b, s, T)) H ∧ DdAll K N0 (some (b, s, T)) H vs ds ∧ sp ds P ∧
  ∀ x v H', P x → KeepW (some (b, s, T)) H H' → Wd.ok (some (b, s, T)) H' → Dd K N0 (some (b, s, T)) H' v x → Q v H'
section
variable {X : Cx} {F : Fx} {e : Expr} {es : List Expr} {ds : TDA} {pos p : Pos} {b s : Addr} {T : List (Addr × Str)}
theorem lcallW {fr : Fr} {sp : DSp} {E : XK} {K : PySem.W.Frag} (hW : F.W = some (b, s, T)) (hK : F.K = K) : ∀ σ H Q, lC F (dCall sp ds) σ H Q → tCall (lSpW K T fr sp) [] E (lA F ds) σ H Q := fun σ H Q ⟨env, L, P, A, pp, q⟩ => by
  subst hK
  refine ⟨env, L, _, A, pp, fun xs vs H1 px k1 o1 d1 => ⟨b, s, F.N L, xs, P, fun a h => (A.step k1 o1).alN h, fun a h => .inl (A.wn a (by rw [hW]; exact h)), by rw [← hW]; exact o1, by rw [List.append_nil, ← hW]; exact d1, px, fun x v H2 p2 k2 o2 d2 => ?_⟩⟩
  rw [← hW] at k2 o2 d2
  exact q x v H2 p2 (k1.trans k2) o2 d2
variable {CX : CXT} {k : Nat} {f : Addr} {fd : FuncData} {ps ks : List Str} {sp : DSp} {E : XK} {x : Str} {fr : Fr} {K : PySem.W.Frag}
theorem dd_callW (hW : F.W = some (b, s, T)) (G : FnOk X.prog X.w X.K X.mg X.base CX k f fd ps (lSpW K T fr sp)) (hr : Room k X.A) (hg : Gl X x) (hm : X.mg x = some (.ref f)) (hk : PySem.W.keepIn X.K (.ref f) = true) (hb : Binds X.K fd ps []) (hx : Passes CX X E) (ha : PA X (e :: es) (lA F ds)) (hK : F.K = K := by rfl)
    (he : starEach (e :: es) X.env = (false, eval e X.env) :: starEach es X.env := by rfl) (hpl : (backTo pos (starEach es X.env)).any (·.1) = false := by rfl) (hdb : (x == ("__debug__" : Str)) = false := by decide) :
    PE X (.Call (.Name x p) (e :: es) [] pos) (lC F (dCall sp ds)) := PE.mono (pe_call G hr hg hm hk hb .nil hx ha hdb he hpl) (lcallW hW hK)
end
section
variable {P : Program} {w : World} {K : PySem.W.Frag} {mg : Str → Option Value} {base : Heap} {CX : CXT} {N ps : List Str} {qual name : Str} {scope : Scope} {f : Addr} {cdv : Value} {k kk : Nat} {params : Arguments} {body : List Stmt} {dV kV doc pm ct oc : Value} {an od : Option Addr} {osl : Array (Option Value)} {T : List (Addr × Str)} {sp : DSp}
theorem maker_ok (lk : K.lookup f = some ⟨oc, od, .func (PySem.W.fnOf name qual params body scope dV kV doc pm an cdv ct), osl⟩) (hcd : PySem.W.codeIn K cdv qual = true) (S : FnScope N ps scope) (uq : ∀ y ∈ scope.names, scope.names.lookup y.1 = some y.2)
    (ln : ∀ ds P, sp ds P → ds.length = ps.length)
    (hb : ∀ (A : Around) (outer : List Env) (s : Shared) (H : Hp) (E : XK) (b s0 : Addr) (N0 : Addr → Prop), Room k (A.deeper (envOfC qual scope s.heap.objs.size f cdv)) → ∃ d : TDR, PR (cxOf CX P w K mg base N qual scope f cdv A outer s H E).nox body (lR ⟨K, some (b, s0, T), N0, H, false⟩ d) ∧
      ((cxOf CX P w K mg base N qual scope f cdv A outer s H E).nox.Ok → ∀ ds Pd, sp ds Pd → d (startE N ds) (FinM (RdM (cxOf CX P w K mg base N qual scope f cdv A outer s H E).nox kk K T) N Pd))) :
    FnOk P w K mg base CX (k + 1) f (PySem.W.fnOf name qual params body scope dV kV doc pm an cdv ct) ps (lSpW K T false sp) where
  len := fun vs H Q E ⟨b, s0, N0, ds, Pd, _, _, _, dd, h, _⟩ => by
    rw [dd.len]
    exact ln ds Pd h
  run := fun A outer s H args us vs Q E hr e0 hbn rv ⟨b, s0, N0, ds, Pd, al, wn, ok, dd, h, q⟩ => by
    refine run_ofR lk hcd S uq hr e0 hbn rv (by rw [dd.len]; exact ln ds Pd h) fun hr' xok => ?_
    obtain ⟨d, h1, h2⟩ := hb A outer s H E b s0 N0 hr'
    have z := fn_maker (X := (cxOf CX P w K mg base N qual scope f cdv A outer s H E).nox) (k := kk) (T := T) (fr := false) (Q := Q) S.nd al wn ok dd q (h2 (xok.wish _) ds Pd h)
    refine ⟨_, pr_nox h1, ?_⟩
    obtain ⟨env, L, PP, A1, p1, q1⟩ := z
    exact ⟨env, L, PP, A1, p1, fun x env' v σ' L' H' px B hd => (fun xok gone => q1 x env' v σ' L' H' px B hd (xok.wish _) gone)⟩
end
end DL
namespace RK
open PySem PySem.Spec PyProof.Rows L2
open PySem.Sem (wp)
inductive Out : Value → Prop
  | no : Out .none
  | num (T : Addr) : Out (rawInt T)
abbrev ZR (h : Heap) (z : Addr) (o f : Value) (p q : Addr) : Prop :=
  h.get? z = some { cls := .type "zip", dict := none, data := .fields #[o, f, .bool false, .ref p, .ref q], slots := #[] }
theorem lives {prog : Program} {w : World} {A : Around} {E : Value → Shared → Prop} {s : Shared} {t : Addr} {Q : Option Obj → Shared → Prop} (h : Q (s.heap.get? t) s) : wpAny (model prog w) A (loadIfAlive t) Q E s := fun _ _ _ => h
theorem raised {prog : Program} {w : World} {A : Around} {E : Value → Shared → Prop} {s : Shared} {z e p q : Addr} {o f : Value} {Q : Unit → Shared → Prop} (r : ZR s.heap z o f p q) (x : ∃ u, s.heap.get? e = some u ∧ u.cls = .type "StopIteration")
    (k : ∀ h', Heap.SameBut z s.heap h' → (∃ u, h'.get? e = some u ∧ u.cls = .type "StopIteration") → Q () { s with heap := h' }) : wpAny (model prog w) A (setField (.ref z) 0 .none) Q E s :=
  wpAny_setField_rec r (by simp) fun h' _ k1 => k h' k1 (by
    obtain ⟨u, e1, e2⟩ := x
    refine ⟨u, k1.extBut _ _ (fun y => ?_) e1, e2⟩
    subst y
    rw [r] at e1
    cases e1
    exact absurd (show Value.type "zip" = .type "StopIteration" from e2) (by decide))
section
variable {prog : Program} {w : World} {A : Around} {E : Value → Shared → Prop} {z TI TO i1 i2 : Addr} {fp1 fp2 : List Addr} {n1 n2 : Nat} {P1 P2 : Nat → Value → Prop} {St1 St2 : Nat → Heap → Prop}
structure Zs (z TI TO i1 i2 : Addr) (St1 St2 : Nat → Heap → Prop) (h0 : Heap) (m : Nat) (o : Value) (f : Bool) (j1 j2 : Nat) (a b : Value) (h : Heap) : Prop where
  rcd : ZR h z o (.bool f) TI TO
  ins : IsPair h TI (.ref i1) (.ref i2)
  out : IsPair h TO a b
  s1 : St1 j1 h
  s2 : St2 j2 h
  num : h.objs.size = m
  rest : ∀ c u, c ≠ z → c ≠ TO → c ≠ i1 → c ≠ i2 → h0.get? c = some u → h.get? c = some u
variable (S : ZipSep2 z TI TO i1 i2 fp1 fp2) (D1 : Draws prog w A i1 fp1 n1 P1 St1) (D2 : Draws prog w A i2 fp2 n2 P2 St2)
variable {h0 h h' : Heap} {m : Nat} {o o' : Value} {f f' : Bool} {j1 j2 : Nat} {a b a' b' : Value}
include S D1 D2
theorem Zs.note (q : Zs z TI TO i1 i2 St1 St2 h0 m o f j1 j2 a b h) (k : Heap.SameBut z h h') (r : ZR h' z o' (.bool f') TI TO) : Zs z TI TO i1 i2 St1 St2 h0 m o' f' j1 j2 a b h' :=
  ⟨r, k.extBut _ _ S.TIz q.ins, k.extBut _ _ S.TOz q.out, D1.over q.s1 k S.zf1, D2.over q.s2 k S.zf2, k.1.trans q.num, fun c u e1 e2 e3 e4 x => k.extBut _ _ e1 (q.rest c u e1 e2 e3 e4 x)⟩
theorem Zs.write (q : Zs z TI TO i1 i2 St1 St2 h0 m o f j1 j2 a b h) (k : Heap.SameBut TO h h') (r : IsPair h' TO a' b') : Zs z TI TO i1 i2 St1 St2 h0 m o f j1 j2 a' b' h' :=
  ⟨k.extBut _ _ S.TOz.symm q.rcd, k.extBut _ _ S.TITO q.ins, r, D1.over q.s1 k S.Tf1, D2.over q.s2 k S.Tf2, k.1.trans q.num, fun c u e1 e2 e3 e4 x => k.extBut _ _ e2 (q.rest c u e1 e2 e3 e4 x)⟩
theorem Zs.one (q : Zs z TI TO i1 i2 St1 St2 h0 m o f j1 j2 a b h) (k : Heap.SameBut i1 h h') (r : St1 (j1 + 1) h') : Zs z TI TO i1 i2 St1 St2 h0 m o f (j1 + 1) j2 a b h' :=
  ⟨k.extBut _ _ S.zi1 q.rcd, k.extBut _ _ S.TIi1 q.ins, k.extBut _ _ S.Ti1 q.out, r, D2.over q.s2 k S.sep1_2, k.1.trans q.num, fun c u e1 e2 e3 e4 x => k.extBut _ _ e3 (q.rest c u e1 e2 e3 e4 x)⟩
theorem Zs.two (q : Zs z TI TO i1 i2 St1 St2 h0 m o f j1 j2 a b h) (k : Heap.SameBut i2 h h') (r : St2 (j2 + 1) h') : Zs z TI TO i1 i2 St1 St2 h0 m o f j1 (j2 + 1) a b h' :=
  ⟨k.extBut _ _ S.zi2 q.rcd, k.extBut _ _ S.TIi2 q.ins, k.extBut _ _ S.Ti2 q.out, D1.over q.s1 k S.sep2_1, r, k.1.trans q.num, fun c u e1 e2 e3 e4 x => k.extBut _ _ e4 (q.rest c u e1 e2 e3 e4 x)⟩
theorem Zs.more (q : Zs z TI TO i1 i2 St1 St2 h0 m o f j1 j2 a b h) (t : Obj) : Zs z TI TO i1 i2 St1 St2 h0 (m + 1) o f j1 j2 a b (h.push t) := by
  have up : ∀ c u, h.get? c = some u → (h.push t).get? c = some u := fun c u e => Heap.get?_push_of_some _ e
  exact ⟨up _ _ q.rcd, up _ _ q.ins, up _ _ q.out, D1.frame _ _ _ q.s1 fun c _ u e => up c u e, D2.frame _ _ _ q.s2 fun c _ u e => up c u e, by rw [Heap.size_push, q.num], fun c u e1 e2 e3 e4 x => up c u (q.rest c u e1 e2 e3 e4 x)⟩
theorem Zs.draw1 {s : Shared} {Q : Value → Shared → Prop} (q : Zs z TI TO i1 i2 St1 St2 h0 m o f j1 j2 a b s.heap) (l : j1 < n1)
    (k : ∀ x h' t, P1 j1 x → Zs z TI TO i1 i2 St1 St2 h0 m o f (j1 + 1) j2 a b h' → Q x { s with heap := h', toks := t }) : wpAny (model prog w) A (Builtin.SmallTypes.nextOf (.ref i1)) Q E s :=
  D1.item j1 s Q E l q.s1 fun x h' t p st sb => k x h' t p (q.one S D1 D2 sb st)
theorem Zs.draw2 {s : Shared} {Q : Value → Shared → Prop} (q : Zs z TI TO i1 i2 St1 St2 h0 m o f j1 j2 a b s.heap) (l : j2 < n2)
    (k : ∀ x h' t, P2 j2 x → Zs z TI TO i1 i2 St1 St2 h0 m o f j1 (j2 + 1) a b h' → Q x { s with heap := h', toks := t }) : wpAny (model prog w) A (Builtin.SmallTypes.nextOf (.ref i2)) Q E s :=
  D2.item j2 s Q E l q.s2 fun x h' t p st sb => k x h' t p (q.two S D1 D2 sb st)
theorem Zs.ask {s : Shared} {Q : Bool → Shared → Prop} (q : Zs z TI TO i1 i2 St1 St2 h0 m o f j1 j2 a b s.heap) (ho : Out o)
    (k : ∀ y h' f', Zs z TI TO i1 i2 St1 St2 h0 m o f' j1 j2 a b h' → Q y { s with heap := h' }) : wpAny (model prog w) A (Builtin.SmallTypes.ownedTupleIsFree (.ref z)) Q E s := by
  unfold Builtin.SmallTypes.ownedTupleIsFree
  refine wpAny_bind (wpAny_field q.rcd rfl (x := o) rfl ?_)
  cases ho with
  | no => exact wpAny_pure (k true s.heap f q)
  | num T =>
    refine wpAny_bind (lives ?_)
    generalize s.heap.get? _ = al
    cases al with
    | none => exact wpAny_pure (k true s.heap f q)
    | some u =>
      refine wpAny_bind (wpAny_field q.rcd rfl (x := .bool f) rfl ?_)
      cases f with
      | true => exact wpAny_pure (k false s.heap true q)
      | false => exact wpAny_bind (wpAny_setField_rec q.rcd (by simp) fun h' r sb => wpAny_pure (k false h' true (q.note S D1 D2 sb r)))
theorem Zs.put {s : Shared} {β : Type} {r : Sem β} {Q : β → Shared → Prop} {x : Value} (q : Zs z TI TO i1 i2 St1 St2 h0 m o f j1 j2 a b s.heap) (n : Nat) (e : (#[a, b] : Array Value).setIfInBounds n x = #[a', b'])
    (k : ∀ h', Zs z TI TO i1 i2 St1 St2 h0 m o f j1 j2 a' b' h' → wpAny (model prog w) A r Q E { s with heap := h' }) :
    wpAny (model prog w) A (do let some kept ← seqItems? (.ref TO) | unsupported "internal:zip.__next__"
                               updateSeq TO (·.setIfInBounds n x)
                               letGo [kept.getD n .none]
                               r) Q E s := by
  refine wpAny_bind (wpAny_seqItems q.out rfl (wpAny_bind (wpAny_updateSeq q.out rfl (wpAny_bind (wpAny_letGo (k _ (q.write S D1 D2 (Heap.SameBut.update ..) ?_)))))))
  show Heap.get? _ _ = _
  rw [Heap.get?_update_self _ q.out rfl, ← e]
  simp [Obj.mapSeq]
theorem Zs.next {s : Shared} {Q : Value → Shared → Prop} {j : Nat} (q : Zs z TI TO i1 i2 St1 St2 s.heap s.heap.objs.size o f j j a b s.heap) (ho : Out o) (l1 : j < n1) (l2 : j < n2)
    (k : ∀ x y h' t o' f' a' b', P1 j x → P2 j y → Out o' → IsPair h' s.heap.objs.size x y → Zs z TI TO i1 i2 St1 St2 s.heap (s.heap.objs.size + 1) o' f' (j + 1) (j + 1) a' b' h' → Q (.ref s.heap.objs.size) { s with heap := h', toks := t }) :
    wpAny (model prog w) A (Builtin.«zip.__next__» ⟨[.ref z], []⟩) (fun v s' => ∃ u, v = .done (.ret u) ∧ Q u s') E s := by
  have lz : z < s.heap.objs.size := Heap.lt_size q.rcd
  show wpAny _ _ (field (.ref z) 2 >>= _) _ _ _
  refine wpAny_bind (wpAny_field q.rcd rfl (x := .bool false) rfl (wpAny_bind (wpAny_field q.rcd rfl (x := .ref TI) rfl (wpAny_bind (wpAny_seqItems q.ins rfl ?_)))))
  refine wpAny_bind (q.ask S D1 D2 ho fun y h1 f1 q1 => ?_)
  cases y
  · refine wpAny_bind ?_
    rw [← Array.forIn_toList]
    simp only [List.forIn_cons, List.forIn_nil]
    refine wpAny_bind (wpAny_bind (wpAny_holding (wpAny_bind (Zs.draw1 S D1 D2 (s := { s with heap := h1 }) q1 l1 fun x h2 t2 px q2 => wpAny_pure (wpAny_pure ?_)))))
    refine wpAny_bind (wpAny_bind (wpAny_holding (wpAny_bind (Zs.draw2 S D1 D2 (s := { s with heap := h2, toks := t2 }) q2 l2 fun y h3 t3 py q3 => wpAny_pure (wpAny_pure (wpAny_pure ?_))))))
    refine wpAny_bind (wpAny_newTuple (hsz := by show 2 ≤ sizeLine; decide) (wpAny_pure ⟨_, rfl, ?_⟩))
    have e := Heap.get?_push_size h3 (o := { cls := .type "tuple", data := .seq #[x, y] }) rfl
    rw [q3.num] at e
    have g := k x y _ t3 o f1 a b px py ho e (q3.more S D1 D2 _)
    rw [← q3.num] at g
    exact g
  · refine wpAny_bind (wpAny_rule (wpAny_bind (wpAny_field q1.rcd rfl (x := .ref TO) rfl (wpAny_bind (wpAny_setField_rec q1.rcd (by simp) fun h2 r2 k2 => ?_)))))
    have q2 : Zs z TI TO i1 i2 St1 St2 s.heap s.heap.objs.size .ellipsis f1 j j a b h2 := q1.note S D1 D2 k2 r2
    refine wpAny_bind ?_
    simp only [List.zipIdx_cons, List.zipIdx_nil, List.forIn_cons, List.forIn_nil]
    refine wpAny_bind (wpAny_bind (wpAny_onRaise (wpAny_bind (Zs.draw1 S D1 D2 (s := { s with heap := h2 }) q2 l1 fun x h3 t3 px q3 => wpAny_pure ?_))))
    refine Zs.put S D1 D2 (s := { s with heap := h3, toks := t3 }) q3 0 (a' := x) (b' := b) rfl fun h4 q4 => wpAny_pure ?_
    refine wpAny_bind (wpAny_bind (wpAny_onRaise (wpAny_bind (Zs.draw2 S D1 D2 (s := { s with heap := h4, toks := t3 }) q4 l2 fun y h5 t5 py q5 => wpAny_pure ?_))))
    refine Zs.put S D1 D2 (s := { s with heap := h5, toks := t5 }) q5 1 (a' := x) (b' := y) rfl fun h6 q6 => wpAny_pure (wpAny_pure ?_)
    refine wpAny_bind (wpAny_seqItems q6.out rfl (wpAny_bind (wpAny_newTuple (hsz := by show 2 ≤ sizeLine; decide) ?_)))
    have e := Heap.get?_push_size h6 (o := { cls := .type "tuple", data := .seq #[x, y] }) rfl
    have q7 := q6.more S D1 D2 { cls := .type "tuple", data := .seq #[x, y] }
    refine wpAny_bind (wpAny_bind (wpAny_setField_rec q7.rcd (by simp) fun h8 r8 k8 => ?_))
    refine wpAny_setField_rec r8 (by simp) fun h9 r9 k9 => wpAny_pure ⟨_, rfl, ?_⟩
    have q9 : Zs z TI TO i1 i2 St1 St2 s.heap (s.heap.objs.size + 1) (rawInt h6.objs.size) false (j + 1) (j + 1) x y h9 := (q7.note S D1 D2 (o' := rawInt h6.objs.size) (f' := f1) k8 r8).note S D1 D2 k9 r9
    have e9 : IsPair h9 h6.objs.size x y := by
      have ne : h6.objs.size ≠ z := by rw [q6.num]; exact Nat.ne_of_gt lz
      exact k9.extBut _ _ ne (k8.extBut _ _ ne e)
    rw [q6.num] at e9
    have g := k x y _ t5 _ false x y px py (.num _) e9 q9
    rw [← q6.num] at g
    exact g
theorem Zs.over {s : Shared} {Q : Fin → Shared → Prop} {j : Nat} (q : Zs z TI TO i1 i2 St1 St2 s.heap s.heap.objs.size o f j j a b s.heap) (ho : Out o) (l : j = n1 ∨ (j < n1 ∧ j = n2))
    (k : ∀ h' t e, (∀ c u, c ≠ z → c ≠ TO → c ≠ i1 → c ≠ i2 → s.heap.get? c = some u → h'.get? c = some u) → (∃ u, h'.get? e = some u ∧ u.cls = .type "StopIteration") → E (.ref e) { s with heap := h', toks := t }) :
    wpAny (model prog w) A (Builtin.«zip.__next__» ⟨[.ref z], []⟩) Q E s := by
  show wpAny _ _ (field (.ref z) 2 >>= _) _ _ _
  refine wpAny_bind (wpAny_field q.rcd rfl (x := .bool false) rfl (wpAny_bind (wpAny_field q.rcd rfl (x := .ref TI) rfl (wpAny_bind (wpAny_seqItems q.ins rfl ?_)))))
  refine wpAny_bind (q.ask S D1 D2 ho fun y h1 f1 q1 => ?_)
  cases y
  · refine wpAny_bind ?_
    rw [← Array.forIn_toList]
    simp only [List.forIn_cons, List.forIn_nil]
    refine wpAny_bind (wpAny_bind (wpAny_holding (wpAny_bind ?_)))
    rcases l with rfl | ⟨l1, rfl⟩
    · exact D1.done { s with heap := h1 } _ _ q1.s1 fun h2 e k2 x => k h2 s.toks e (fun c u e1 e2 e3 e4 y => k2 _ _ e3 (q1.rest c u e1 e2 e3 e4 y)) x
    · refine Zs.draw1 S D1 D2 (s := { s with heap := h1 }) q1 l1 fun x h2 t2 px q2 => wpAny_pure (wpAny_pure ?_)
      refine wpAny_bind (wpAny_bind (wpAny_holding (wpAny_bind ?_)))
      exact D2.done { s with heap := h2, toks := t2 } _ _ q2.s2 fun h3 e k3 x => k h3 t2 e (fun c u e1 e2 e3 e4 y => k3 _ _ e4 (q2.rest c u e1 e2 e3 e4 y)) x
  · refine wpAny_bind (wpAny_rule (wpAny_bind (wpAny_field q1.rcd rfl (x := .ref TO) rfl (wpAny_bind (wpAny_setField_rec q1.rcd (by simp) fun h2 r2 k2 => ?_)))))
    have q2 : Zs z TI TO i1 i2 St1 St2 s.heap s.heap.objs.size .ellipsis f1 j j a b h2 := q1.note S D1 D2 k2 r2
    refine wpAny_bind ?_
    simp only [List.zipIdx_cons, List.zipIdx_nil, List.forIn_cons, List.forIn_nil]
    refine wpAny_bind (wpAny_bind (wpAny_onRaise (wpAny_bind ?_)))
    rcases l with rfl | ⟨l1, rfl⟩
    · exact D1.done { s with heap := h2 } _ _ q2.s1 fun h3 e k3 x => raised (s := { s with heap := h3 }) (k3 _ _ S.zi1 q2.rcd) x fun h4 k4 y => k h4 s.toks e (fun c u e1 e2 e3 e4 y => k4.extBut _ _ e1 (k3 _ _ e3 (q2.rest c u e1 e2 e3 e4 y))) y
    · refine Zs.draw1 S D1 D2 (s := { s with heap := h2 }) q2 l1 fun x h3 t3 px q3 => wpAny_pure ?_
      refine Zs.put S D1 D2 (s := { s with heap := h3, toks := t3 }) q3 0 (a' := x) (b' := b) rfl fun h4 q4 => wpAny_pure ?_
      refine wpAny_bind (wpAny_bind (wpAny_onRaise (wpAny_bind ?_)))
      exact D2.done { s with heap := h4, toks := t3 } _ _ q4.s2 fun h5 e k5 x => raised (s := { s with heap := h5, toks := t3 }) (k5 _ _ S.zi2 q4.rcd) x fun h6 k6 y => k h6 t3 e (fun c u e1 e2 e3 e4 y => k6.extBut _ _ e1 (k5 _ _ e4 (q4.rest c u e1 e2 e3 e4 y))) y
end
section
variable {prog : Program} {w : World} {A : Around} {E : Value → Shared → Prop} {z TI TO i1 i2 : Addr} {fp1 fp2 : List Addr} {n1 n2 : Nat} {P1 P2 : Nat → Value → Prop} {St1 St2 : Nat → Heap → Prop} {o : Value} {f : Bool} {a b : Value}
end
structure Kin (Sq : PySem.W.Frag → Hp → Addr → List V → Prop) (Has : Heap → Addr → Array Value → Prop) (Itr : Heap → Addr → Addr → Nat → Prop) : Prop where
  stay : ∀ {h h' : Heap} {i l : Addr} {k : Nat}, Itr h i l k → (∀ u, h.get? i = some u → h'.get? i = some u) → Itr h' i l k
  live : ∀ {h : Heap} {i l : Addr} {k : Nat}, Itr h i l k → ∃ u, h.get? i = some u ∧ ∀ v, u.data ≠ .cell v
  lt : ∀ {h : Heap} {l : Addr} {xs : Array Value}, Has h l xs → l < h.objs.size
  items : ∀ {X : Cx} {pins : List (Addr × Obj)} {σ : L2.St} {H : Hp} {s : Shared} {l : Addr} {xs : List V}, Inv X pins σ H s → Sq X.K H l xs → ∃ its : List Value, Vals xs its ∧ Has s.heap l its.toArray
  inj : ∀ {X : Cx} {pins : List (Addr × Obj)} {σ : L2.St} {H : Hp} {s : Shared} {l : Addr} {xs ys : List V}, Inv X pins σ H s → Sq X.K H l xs → Sq X.K H l ys → xs = ys
  goes : ∀ {prog : Program} {w : World} {A : Around}, A.handled = none → ∀ (i l : Addr) (xs : Array Value), l ≠ i → Draws prog w A i [i, l] xs.size (fun k v => xs[k]? = some v) (fun k h => Itr h i l k ∧ Has h l xs)
  ends : ∀ {prog : Program} {w : World} {A : Around}, A.handled = none → ∀ (i l : Addr) (xs : Array Value) (n : Nat), l ≠ i → xs.size ≤ n → Draws prog w A i [i, l] n (fun _ _ => False) (fun k h => k = n ∧ Itr h i l n ∧ Has h l xs)
section
variable {Sq : PySem.W.Frag → Hp → Addr → List V → Prop} {Has : Heap → Addr → Array Value → Prop} {Itr : Heap → Addr → Addr → Nat → Prop}
def ZipAt (Itr : Heap → Addr → Addr → Nat → Prop) (z TI TO i1 i2 l1 l2 : Addr) (i : Nat) (h : Heap) : Prop :=
  ∃ o f a b, Out o ∧ ZR h z o (.bool f) TI TO ∧ IsPair h TI (.ref i1) (.ref i2) ∧ IsPair h TO a b ∧ Itr h i1 l1 i ∧ Itr h i2 l2 i
theorem made {X : Cx} {pins : List (Addr × Obj)} {σ : L2.St} {H : Hp} {s : Shared} {h' : Heap} {l1 l2 : Addr} {x : String} {px : Pos} {J : It} {R : It → Hp → Prop} (kin : Kin Sq Has Itr) (I : Inv X pins σ H s) (e1 : l1 < s.heap.objs.size) (e2 : l2 < s.heap.objs.size)
    (k : ∀ c u, s.heap.get? c = some u → h'.get? c = some u) (at0 : ZipAt Itr (s.heap.objs.size + 4) (s.heap.objs.size + 2) (s.heap.objs.size + 3) s.heap.objs.size (s.heap.objs.size + 1) l1 l2 0 h')
    (t : Turn X.prog X.w X.K (.Name x px) J [s.heap.objs.size + 4, s.heap.objs.size + 2, s.heap.objs.size + 3, s.heap.objs.size, s.heap.objs.size + 1] (s.heap.objs.size + 4) (ZipAt Itr (s.heap.objs.size + 4) (s.heap.objs.size + 2) (s.heap.objs.size + 3) s.heap.objs.size (s.heap.objs.size + 1) l1 l2)) (q : R J H) :
    PIE X pins σ (.Name x px) R (.ref (s.heap.objs.size + 4)) { s with heap := h' } := by
  refine ⟨_, _, _, J, H, rfl, I.kept (t' := s.toks) k, t, at0, fun c hc => ?_, q⟩
  have le : s.heap.objs.size ≤ c := by
    simp only [List.mem_cons, List.not_mem_nil, or_false] at hc
    rcases hc with rfl | rfl | rfl | rfl | rfl
    all_goals first | exact Nat.le_add_right _ _ | exact Nat.le_refl _
  exact I.fpOk le (I.hok.fresh le)
end
end RK
namespace RK
open PySem PySem.Spec PyProof.Rows L2
section
variable {X : Cx} {pins : List (Addr × Obj)} {σ τ : L2.St} {s0 s : Shared} {H0 H : Hp} {sco : Scope} {own : List (Str × Nat)} {tg : Expr} {J : It} {fp : List Addr} {it : Addr} {tn : Nat → Heap → Prop} {i : Nat}
abbrev bEnv (X : Cx) (sco : Scope) (s0 : Shared) : Env := compEnvC sco (cellsFrom (s0.heap.objs.size + 1) sco.names (cloFrom X.env.cells sco.names [])) s0.heap.objs.size X.env
abbrev bCx (X : Cx) (sco : Scope) (fp : List Addr) (s0 : Shared) (H0 : Hp) : Cx := X.blk s0 H0 sco (bEnv X sco s0) fp
structure Outer (X : Cx) (pins : List (Addr × Obj)) (σ : L2.St) (s0 : Shared) (H0 : Hp) (fp : List Addr) : Prop where
  inv : Inv X pins σ H0 s0
  cells : ∀ b ∈ fp, FpOk X pins H0 b ∧ b < s0.heap.objs.size
structure Inner (X : Cx) (sco : Scope) (fp : List Addr) (s0 : Shared) (H0 : Hp) (tn : Nat → Heap → Prop) (τ : L2.St) (i : Nat) (H : Hp) (s : Shared) : Prop where
  inv : Inv (bCx X sco fp s0 H0) [] τ H s
  at_ : tn i s.heap
  out : ∀ b ∈ fp, H b = none
theorem Inner.cells (B : Inner X sco fp s0 H0 tn τ i H s) : ∀ b ∈ fp, FpOk (bCx X sco fp s0 H0) [] H b := fun b hb =>
  ⟨B.out b hb, (B.inv.ok.exf b hb).1, B.inv.ok.exfs b hb, .inl hb, (B.inv.ok.exf b hb).2, fun _ h => nomatch h⟩
theorem Outer.back (O : Outer X pins σ s0 H0 fp) (I : Inv (bCx X sco fp s0 H0) [] τ H s) : Inv X pins σ H s ∧ FpOk X pins H s0.heap.objs.size ∧ ∃ m, s.heap.Ns s0.heap.objs.size m :=
  ⟨O.inv.call' (ch := fp) I.os I.base I.hok I.bare fun b hb => let ⟨_, f1, _, f3, f4, f5⟩ := (O.cells b hb).1; ⟨f3, f1, f4, f5⟩, O.inv.fpOk (Nat.le_refl _) I.free, let ⟨m, h, _⟩ := I.loc; ⟨m, h⟩⟩
theorem Inner.stop (B : Inner X sco fp s0 H0 tn τ i H s) (O : Outer X pins σ s0 H0 fp) (calm : X.calm = true) (T : Turn X.prog X.w X.K tg J fp it tn) (e : J.stop i H) {E : Value → Shared → Prop} :
    wpAny (model X.prog X.w) X.A (pyNext (.ref it)) (fun r s1 => r = none ∧ Inv X pins σ H s1 ∧ FpOk X pins H s0.heap.objs.size ∧ ∃ m, s1.heap.Ns s0.heap.objs.size m) E s :=
  thn (T.done (bCx X sco fp s0 H0) rfl rfl rfl calm i [] s τ H E B.inv B.cells B.at_ e) fun _ _ h => ⟨h.1, O.back h.2⟩
theorem Inner.take (B : Inner X sco fp s0 H0 tn τ i H s) (calm : X.calm = true) (T : Turn X.prog X.w X.K tg J fp it tn) (e : J.go i H) {E : Value → Shared → Prop} :
    wpAny (model X.prog X.w) X.A (pyNext (.ref it)) (fun r s1 => ∃ u, r = some u ∧ wpAny (model X.prog X.w) X.A (letOwnedTupleGo tg (.ref it) u) (fun _ s2 =>
      ∃ x H2, RelV x u ∧ J.yld i H x H2 ∧ Inv (bCx X sco fp s0 H0) ([] ++ pinsAt fp s2.heap) τ H2 s2 ∧
        ∀ τ3 H3 s3, Inv (bCx X sco fp s0 H0) ([] ++ pinsAt fp s2.heap) τ3 H3 s3 → Inner X sco fp s0 H0 tn τ3 (i + 1) H3 s3) E s1) E s := by
  refine thn (T.item (bCx X sco fp s0 H0) rfl rfl rfl calm i [] s τ H E B.inv B.cells B.at_ e) fun r s1 ⟨u, hr, h⟩ => ⟨u, hr, thn h fun _ s2 ⟨x, H2, I2, rx, y, t2, n2⟩ => ?_⟩
  have B2 : Inner X sco fp s0 H0 tn τ (i + 1) H2 s2 := ⟨I2, t2, n2⟩
  refine ⟨x, H2, rx, y, I2.pinned B2.cells (T.obj _ _ t2), fun τ3 H3 s3 I3 => ?_⟩
  have pin : ∀ b ∈ fp, ∀ o, s2.heap.get? b = some o → s3.heap.get? b = some o ∧ H3 b = none := fun b hb o e =>
    let p := I3.pin (b, o) (List.mem_append_right _ (List.mem_append_right _ (mem_pinsAt hb e)))
    ⟨p.1, p.2.1⟩
  exact ⟨I3.unpinned, T.keep _ _ _ t2 fun b hb o e => (pin b hb o e).1, fun b hb => let ⟨o, e, _⟩ := T.obj _ _ t2 b hb; (pin b hb o e).2⟩
end
end RK
namespace DL
open PySem PySem.Spec PyProof.Rows L2 RK
section
variable {X : Cx} {F : Fx} {e a b c tg iter : Expr} {es : List Expr} {d da db dc : TDE} {ds : TDA} {pos p : Pos} {i j l : Nat}
end
end DL
namespace DL
open PySem PySem.Spec PyProof.Rows L2 RK
section
variable {X : Cx} {F : Fx} {e : Expr} {es : List Expr} {d : TDE} {ds : TDA} {p : Pos}
end
end DL
namespace DL
open PySem PySem.Spec PyProof.Rows L2 RK
section
variable {X : Cx}
end
section
variable {X : Cx} {F : Fx} {e : Expr} {d : TDE} {pos p : Pos}
end
end DL
namespace DL
open PySem PySem.Spec PyProof.Rows L2 RK
structure AbY (F : Fx) (env : De) (σ : L2.St) (L : List Addr) (H : Hp) (i j : Nat) (H0 : Hp) : Prop where
  a : Abs F env σ L H
  y : ∀ xs ys, env[i]? = some (.fz (.tup xs)) → xs[j]? = some (.lst ys) → ∃ t vs c us, σ[i]? = some (some (.ref t)) ∧ H t = some (.tup vs) ∧ vs[j]? = some (.ref c) ∧ H0 c = none ∧ H c = some (.lst us) ∧ Lone (env.set i .no) σ c ∧ Abs F (env.set i .no) σ (c :: L) H
section
variable {X : Cx} {F : Fx} {e c o : Expr} {d : TDE} {pos p : Pos} {i j : Nat} {sa rest : List Stmt} {r r2 : TDS} {t : TDT}
theorem AbY.step {env : De} {σ : L2.St} {L : List Addr} {H H' H0 : Hp} (A : AbY F env σ L H i j H0) (k : KeepW F.W H H') (ok : F.W.ok H') : AbY F env σ L H' i j H0 := by
  refine ⟨A.a.step k ok, fun xs ys h1 h2 => ?_⟩
  obtain ⟨t, vs, c, us, a1, a2, a3, a4, a5, lo, B⟩ := A.y xs ys h1 h2
  have hv := A.a.en i _ _ h1 a1
  have nt : ¬ F.W.own t := by
    cases hv with | tup g1 g2 _ => exact nw_of A.a g2
  have nc : ¬ F.W.own c := fun z => B.out List.mem_cons_self (B.wn c z)
  exact ⟨t, vs, c, us, a1, k _ _ nt a2, a3, a4, k _ _ nc a5, lo, B.step k ok⟩
end
end DL
namespace DL
open PySem PySem.Spec PyProof.Rows L2 RK
section
variable {X : Cx} {F : Fx} {e : Expr} {es : List Expr} {ds dk : TDA} {pos p : Pos} {CX : CXT} {k n m : Nat} {f : Addr} {fd : FuncData} {ps ks : List Str} {sp : DSp} {E : XK} {x : Str} {fr : Fr} {K : PySem.W.Frag}
variable {a b c : Expr} {d da db dc : TDE} {i j : Nat} {kk : Nat}
end
end DL
namespace DL
open PySem PySem.Spec PyProof.Rows L2 RK
section
variable {X : Cx} {F : Fx} {o : Expr} {d : TDE} {dk : TDA} {pos apos : Pos} {CX : CXT} {k q : Nat} {f C : Addr} {fd : FuncData} {ps ks : List Str} {sp : DSp} {E : XK} {m : Str} {fr : Fr} {K : PySem.W.Frag} {pl : Sem Bool}
end
end DL
namespace RK
open PySem PySem.Spec PyProof.Rows L2
section
variable {prog : Program} {w : World} {A : Around} {R : Result → Shared → Prop} {I : Addr} {fp wr : List Addr} {n : Nat} {P : Nat → Value → Prop} {St : Nat → Heap → Prop} {kw : List (Str × Value)}
end
section
variable {prog : Program} {w : World} {A : Around} {E : Value → Shared → Prop} {s : Shared} {l : Addr} {its : List Value} {ns : List Int}
end
section
variable {X : Cx}
end
end RK
namespace DL
open PySem PySem.Spec PyProof.Rows L2 RK
section
variable {X : Cx} {F : Fx} {e a b c : Expr} {d da db dc : TDE} {ds dk : TDA} {pos p : Pos} {k : Nat}
end
end DL
namespace DL
open PySem PySem.Spec PyProof.Rows L2 RK
section
variable {K : PySem.W.Frag} {N : Addr → Prop} {W : Wd} {H H' : Hp} {d : Addr} {kvs : List (Key × V)}
structure LkR (H H' : Hp) (d : Addr) (kvs : List (Key × V)) : Prop where
  o : ∀ a, a ≠ d → H' a = H a
  l : Rd H d (.dK kvs)
  r : Rd H' d (.dK kvs)
theorem LkR.symm (h : LkR H H' d kvs) : LkR H' H d kvs := ⟨fun a n => (h.o a n).symm, h.r, h.l⟩
theorem LkR.keep (h : LkR H H' d kvs) {a : Addr} {u : HO} (e : H a = some u) (n : ∀ o, u ≠ .dK kvs ∧ u ≠ .frz o (.dK kvs)) : H' a = some u := by
  by_cases z : a = d
  · subst z
    rcases h.l with q | ⟨o, q⟩
    · rw [q] at e
      exact absurd (Option.some.inj e).symm (n (Classical.choice ⟨default⟩)).1
    · rw [q] at e
      exact absurd (Option.some.inj e).symm (n o).2
  · rw [h.o a z]; exact e
theorem LkR.rd (h : LkR H H' d kvs) {a : Addr} {us : List (Key × V)} (e : Rd H a (.dK us)) : Rd H' a (.dK us) := by
  by_cases z : a = d
  · subst z
    have : us = kvs := by
      rcases h.l with q | ⟨o, q⟩ <;> rcases e with e | ⟨o', e⟩ <;> rw [q] at e <;> cases e <;> rfl
    rw [this]
    exact h.r
  · rcases e with e | ⟨o, e⟩
    · exact .inl (by rw [h.o a z]; exact e)
    · exact .inr ⟨o, by rw [h.o a z]; exact e⟩
theorem LkR.rdT (h : LkR H H' d kvs) {a : Addr} {us : List (List Key × V)} (e : Rd H a (.dT us)) : Rd H' a (.dT us) := by
  rcases e with e | ⟨o, e⟩
  · exact .inl (h.keep e fun o => ⟨fun z => (by cases z), fun z => (by cases z)⟩)
  · exact .inr ⟨o, h.keep e fun o => ⟨fun z => (by cases z), fun z => (by cases z)⟩⟩
theorem cells_lk {N : Addr → Prop} (h : LkR H H' d kvs) : ∀ {ps : List (Str × Addr)} {vs : List V}, CellsH N H ps vs → CellsH N H' ps vs
  | [], [], _ => True.intro
  | _ :: _, _ :: _, ⟨e, n, r⟩ => ⟨h.keep e fun o => ⟨fun z => (by cases z), fun z => (by cases z)⟩, n, cells_lk h r⟩
  | [], _ :: _, e => e.elim
  | _ :: _, [], e => e.elim
theorem fnH_lk {N : Addr → Prop} (h : LkR H H' d kvs) {f : Addr} {F : LF} {vs : List V} (q : FnH N H f F vs) : FnH N H' f F vs where
  at_ := h.keep q.at_ fun o => ⟨fun z => (by cases z), fun z => (by cases z)⟩
  nf := q.nf
  code := h.keep q.code fun o => ⟨fun z => (by cases z), fun z => (by cases z)⟩
  nc := q.nc
  td := fun t e => ⟨h.keep (q.td t e).1 fun o => ⟨fun z => (by cases z), fun z => (by cases z)⟩, (q.td t e).2⟩
  cells := fun e => cells_lk h (q.cells e)
mutual
theorem Dd.lk (h : LkR H H' d kvs) : ∀ {v : V} {x : D}, Dd K N W H v x → Dd K N W H' v x
  | _, _, .non => .non
  | _, _, .bl b => .bl b
  | _, _, .int i => .int i
  | _, _, .str x => .str x
  | _, _, .lst e q a => .lst (h.keep e fun o => ⟨fun z => (by cases z), fun z => (by cases z)⟩) q (DdAll.lk h a)
  | _, _, .tup e q a => .tup (h.keep e fun o => ⟨fun z => (by cases z), fun z => (by cases z)⟩) q (DdAll.lk h a)
  | _, _, .ktp h1 h2 h3 h4 h5 a => .ktp h1 h2 h3 h4 h5 (DdAll.lk h a)
  | _, _, .dic e q z a => .dic (h.rd e) q z (DdAll.lk h a)
  | _, _, .dct e q z a => .dct (h.rdT e) q z (DdAll.lk h a)
  | _, _, .obj e q z a => .obj (h.keep e fun o => ⟨fun z => (by cases z), fun z => (by cases z)⟩) q z (DdAll.lk h a)
  | _, _, .bag e => .bag e
  | _, _, .fn q a => .fn (fnH_lk h q) (DdAll.lk h a)
theorem DdAll.lk (h : LkR H H' d kvs) : ∀ {vs : List V} {xs : List D}, DdAll K N W H vs xs → DdAll K N W H' vs xs
  | _, _, .nil => .nil
  | _, _, .cons e a => .cons (Dd.lk h e) (DdAll.lk h a)
end
theorem LkR.ok (h : LkR H H' d kvs) (k : W.ok H) (nd : ¬ W.own d) : W.ok H' := by
  refine Wd.st k (fun a o e n => ?_) (fun a ps e => ?_)
  · by_cases ad : a = d
    · subst ad
      exfalso
      rcases n with n | n
      · exact nd n
      · rcases h.l with q | ⟨z, q⟩ <;> rw [q] at e <;> cases e <;> exact n True.intro
    · rw [h.o a ad]; exact e
  · exact ⟨ps, h.symm.keep e fun z => ⟨fun q => (by cases q), fun q => (by cases q)⟩⟩
end
def En.hk : En → En
  | .fz d => .fz d
  | _ => .no
def hidK (env : De) : De := env.map En.hk
theorem En.hk_ow : ∀ e : En, e.hk.isOw = false
  | .no => rfl
  | .fz _ => rfl
  | .ow _ => rfl
  | .od _ => rfl
  | .ot _ => rfl
  | .oo _ _ _ => rfl
  | .fe _ => rfl
theorem nk_nil {N : Addr → Prop} {a : Addr} {K : PySem.W.Frag} {W : Wd} {H0 : Hp} {fr : Fr} : Fx.N ⟨K, W, N, H0, fr⟩ [] a ↔ N a := ⟨fun h => h.elim id (fun z => by cases z), fun h => .inl h⟩
section
variable {F : Fx} {env : De} {σ : L2.St} {L : List Addr} {H H' : Hp} {d : Addr} {kvs : List (Key × V)}
theorem Abs.lk (A : Abs F env σ L H) (h : LkR H H' d kvs) (nd : ¬ F.N L d) : Abs ⟨F.K, F.W, F.N L, H', false⟩ (hidK env) σ [] H' where
  ok := h.ok A.ok fun z => nd (.inl (A.wn d z))
  al := fun a n => by
    obtain ⟨o, e⟩ := A.alN n
    by_cases z : a = d
    · exact absurd (z ▸ n) nd
    · exact ⟨o, (h.o a z).trans e⟩
  wn := fun a h => .inl (A.wn a h)
  kp := .refl _ _
  fr := fun a h => by cases h
  ls := by unfold hidK; rw [List.length_map]; exact A.ls
  sep := fun i j a ei ej h1 _ h3 _ _ _ => by
    unfold hidK at h1
    rw [List.getElem?_map] at h1
    obtain ⟨e, _, rfl⟩ := Option.map_eq_some_iff.mp h1
    rw [En.hk_ow] at h3
    cases h3
  so := fun i e b h hb => by
    unfold hidK at h
    rw [List.getElem?_map] at h
    obtain ⟨e, _, rfl⟩ := Option.map_eq_some_iff.mp h
    cases e <;> cases hb
  en := fun i e x h1 h2 => by
    unfold hidK at h1
    rw [List.getElem?_map] at h1
    obtain ⟨e, he, rfl⟩ := Option.map_eq_some_iff.mp h1
    have h3 := A.en i e x he h2
    cases e with
    | fz y =>
      cases x with
      | none => exact h3.elim
      | some v => exact Dd.keep (fun a o _ h => h) (fun a h => nk_nil.mp h) (Dd.lk h h3)
    | _ => exact trivial
end
end DL
namespace DL
open PySem PySem.Spec PyProof.Rows L2 RK
section
variable {X : Cx} {F : Fx} {e : Expr} {i : Nat} {pos p apos cpos : Pos}
variable {o f : Expr} {d dk dv : TDE}
end
theorem pss_dead {X : Cx} {F : Fx} {sts : List Stmt} : PSs X sts (lS F sNever) := ⟨fun pins s σ H E I ⟨_, _, _, _, pp, _⟩ => pp.elim⟩
end DL
namespace DL
open PySem PySem.Spec PyProof.Rows L2 RK
section
variable {X : Cx} {F : Fx} {e : Expr} {es : List Expr} {ds dk : TDA} {pos p : Pos} {CX : CXT} {k n m : Nat} {f : Addr} {fd : FuncData} {ps ks : List Str} {sp : DSpX} {E : XK} {x : Str} {fr : Fr} {K : PySem.W.Frag} {PX : Er → Prop}
end
end DL
namespace RK
open PySem PySem.Spec PyProof.Rows L2
section
variable {K : PySem.W.Frag} {x qual : Str} {params : Arguments} {body : List Stmt} {scope : Scope} {kws : List (Str × V)} {f : Addr} {fd : FuncData} {ps : List Str}
theorem kbinds0 (F : FunD K x qual params body scope [] kws f fd) (n : Nat) (ks : List Str) (ms : List (Str × V)) (g : {α : Type} → List α → List α → List α → List α) (hk : kws ≠ []) (hms : ∀ q ∈ ms, q ∈ kws)
    (hrel : ∀ {vs mz zs : List V} {us mv ws : List Value}, Vals vs us → Vals mz mv → Vals zs ws → Vals (g vs mz zs) (g us mv ws))
    (h : ∀ (D : Addr) (doc pm : Value) (an : Option Addr) (cdv ct : Value) (us mv ws : List Value), us.length = n → mv.length = ms.length → ws.length = ks.length →
      KwChain D ((ms.map (·.1)).zip mv) (bindArgs (PySem.W.fnOf x qual params body scope .none (.ref D) doc pm an cdv ct) ⟨us, ks.zip ws⟩) (ps.zip (g us mv ws))) :
    ∃ mv : List Value, KBn K fd ps n ks (fun us ws => g us mv ws) (fun vs zs => g vs (ms.map (·.2)) zs) := by
  obtain ⟨oc, od, dV, kV, doc, pm, an, cdv, ct, osl, rfl, lk, hcd, hD, hK⟩ := F.ex
  rcases hD with ⟨_, rfl⟩ | ⟨e, _⟩
  · rcases hK with e | ⟨D, rfl, hq⟩
    · exact absurd e hk
    · obtain ⟨mv, hl, rk, hks⟩ := kwd_vals (ms := ms) fun q hm => hq q (hms q hm)
      exact ⟨mv, ⟨fun s us ws X l1 l2 => BindsTo.of_looks fun M => KwChain.looks X hks (h D doc pm an cdv ct us mv ws l1 hl l2), fun r1 r2 => hrel r1 rk r2⟩⟩
  · exact absurd rfl e
end
abbrev ag (s : Str) : Arg := { arg := s, annotation := none, pos := ⟨0, 0, 0, 0⟩ }
example {D : Addr} {doc pm : Value} {an : Option Addr} {cdv ct : Value} {x qual : Str} {body : List Stmt} {scope : Scope} {e1 e2 : Expr} (u1 u2 m w : Value) :
    KwChain D [(("fixed" : Str), m)] (bindArgs (PySem.W.fnOf x qual { posonlyargs := [], args := [ag "order", ag "wish"], vararg := none, kwonlyargs := [ag "costs", ag "fixed"], kw_defaults := [some e1, some e2], kwarg := none, defaults := [] } body scope .none (.ref D) doc pm an cdv ct) ⟨[u1, u2], [("costs", w)]⟩)
      [(("order" : Str), u1), ("wish", u2), ("costs", w), ("fixed", m)] := by
  exact ⟨_, _, _, _, _, _, rfl, rfl, rfl⟩
end RK
namespace DL
open PySem PySem.Spec PyProof.Rows L2 RK
def dCallNX (sp : DSpX) (PX : Er → Prop) (n m : Nat) (gD : List D → List D → List D) (ds dk : TDA) : TDE := fun env P => ds env fun xs => dk env fun ys => xs.length = n ∧ ys.length = m ∧ sp (gD xs ys) P PX
section
variable {X : Cx} {F : Fx} {e : Expr} {es : List Expr} {ds dk : TDA} {pos p : Pos} {CX : CXT} {k n m : Nat} {f : Addr} {fd : FuncData} {ps ks : List Str} {E : XK} {x : Str} {fr : Fr} {K : PySem.W.Frag} {PX : Er → Prop} {g : List Value → List Value → List Value} {gV : List V → List V → List V} {gD : List D → List D → List D} {kws : List Keyword}
theorem dd_callNX {sp : DSpX} (hE : ErOk F PX E) (G : FnOk X.prog X.w X.K X.mg X.base CX k f fd ps (lSpX K fr sp)) (hr : Room k X.A) (hg : Gl X x) (hm : X.mg x = some (.ref f)) (hk : PySem.W.keepIn X.K (.ref f) = true) (hb : KBn X.K fd ps n ks g gV) (hx : Passes CX X E) (ha : PA X (e :: es) (lA F ds)) (hkw : PK X kws (lA F dk))
    (hD : ∀ {N : Addr → Prop} {W : Wd} {H : Hp} {us zs : List V} {xs ys : List D}, DdAll K N W H us xs → DdAll K N W H zs ys → xs.length = n → ys.length = m → DdAll K N W H (gV us zs) (gD xs ys)) (hlm : ks.length = m := by rfl) (hK : F.K = K := by rfl)
    (hall : (backToKw pos (keywordEach kws X.env)).all (·.1.isSome) = true := by rfl) (hks : (backToKw pos (keywordEach kws X.env)).filterMap (·.1) = ks := by rfl) (hdb : (x == ("__debug__" : Str)) = false := by decide)
    (he : starEach (e :: es) X.env = (false, eval e X.env) :: starEach es X.env := by rfl)
    (hpl : ((backTo pos (starEach (e :: es) X.env)).any (·.1) || (backToKw pos (keywordEach kws X.env)).any (·.1.isNone)) = false := by rfl) :
    PE X (.Call (.Name x p) (e :: es) kws pos) (lC F (dCallNX sp PX n m gD ds dk)) := by
  subst hlm
  refine PE.mono (pe_callN G hr hg hm hk hb hx ha hkw hall hks hdb he hpl) fun σ H Q ⟨env, L, P, A, pp, q⟩ => ?_
  subst hK
  exact ⟨env, L, _, A, pp, fun xs vs H1 px k1 o1 d1 => ⟨env, L, _, A.step k1 o1, px, fun ys zs H2 ⟨l1, l2, py⟩ k2 o2 d2 => ⟨by rw [d1.len]; exact l1, by rw [d2.len]; exact l2,
    F.W, F.N L, gD xs ys, P, PX, fun a h => ((A.step k1 o1).step k2 o2).alN h, fun a h => .inl (A.wn a h), o2, hD ((A.step k1 o1).kda k2 d1) d2 l1 l2, py, fun x v H3 p3 k3 o3 d3 _ => q x v H3 p3 ((k1.trans k2).trans k3) o3 d3, hE.up ((A.step k1 o1).step k2 o2)⟩⟩⟩
end
theorem emp_ktp {K : PySem.W.Frag} {N : Addr → Prop} {W : Wd} {H : Hp} {T : Addr} {o : Obj} {n : Nat} (h : K.lookup T = some o) (hc : o.cls = .type "tuple") (hd : o.data = .seq #[] n) : Dd K N W H (.ref T) (.ktp []) := .ktp h hc hd (by show 0 ≤ sizeLine; decide) .nil .nil
end DL
namespace DL
open PySem PySem.Spec PyProof.Rows L2 RK
section
variable {X : Cx} {F : Fx} {c : Expr} {pos : Pos} {i j : Nat} {sa rest : List Stmt} {r r2 : TDS} {t : TDT}
end
end DL
namespace DL
open PySem PySem.Spec PyProof.Rows L2 RK
section
variable {X : Cx} {F : Fx} {e1 k0 : Expr} {dk dv : TDE} {pos : Pos}
def dDisp1 (dk dv : TDE) : TDE := fun env P => dk env fun k => dv env fun v => ob (keyD k) fun key => P (.dic [(key, v)])
theorem l_disp1 : ∀ σ H Q, lN F (dDisp1 dk dv) σ H Q → tDisp [(lC F dk, lC F dv)] σ H Q := fun σ H Q ⟨env, L, P, A, pp, q⟩ p hp => by
  have A1 : Abs F env σ (p :: L) (upd H p (.dK [])) := A.hold (x := .dic []) (.new hp) (ok_new A.ok hp) hp ⟨[], upd_same, rfl, .nil⟩
  have lo1 : Lone env σ p := A.lone hp
  refine ⟨env, p :: L, _, A1, pp, fun k kv H2 pk k2 o2 bk => ?_⟩
  have A2 := A1.step k2 o2
  refine ⟨env, p :: L, _, A2, pk, fun y yv H3 py k3 o3 by3 => ?_⟩
  obtain ⟨key, ek, py⟩ := ob_elim py
  have A3 := A2.step k3 o3
  have np : ¬ F.W.own p := fun z => A3.out List.mem_cons_self (A3.wn p z)
  have hp3 : H3 p = some (.dK []) := k3 p _ np (k2 p _ np upd_same)
  have hkv := keyD_v (.inl bk : Bw F (p :: L) H2 kv k) ek
  have A4 : Abs F env σ (p :: L) (upd H3 p (.dK [(key, yv)])) := A3.poke List.mem_cons_self lo1
  refine ⟨hp3, [(key, yv)], by rw [hkv]; rfl, by simp, q _ p _ py (fun a u w h => ?_) A4.ok hp ⟨_, upd_same, rfl, .cons (by3.keep (fun x u w h => ?_) fun _ z => z) .nil⟩⟩
  · have ap : a ≠ p := fun w => by rw [w, hp] at h; cases h
    rw [upd_ne ap]
    exact k3 a u w (k2 a u w (by rw [upd_ne ap]; exact h))
  · have xp : x ≠ p := fun z0 => w (.inr (by rw [z0]; exact List.mem_cons_self))
    rw [upd_ne xp]
    exact h
theorem dn_disp1 (hk : PE X k0 (lC F dk)) (h2 : PE X e1 (lC F dv)) : PE X (.Dict [some k0] [e1] pos) (lN F (dDisp1 dk dv)) := PE.mono (pe_disp (pps_cons hk h2 pps_nil) (by rfl) (by rfl) (by simp) (by simp)) l_disp1
end
end DL
namespace DL
open PySem PySem.Spec PyProof.Rows L2 RK
theorem bIx_l {xs : List D} {j : Nat} {x : D} (h : xs[j]? = some x) : bIx (.lst xs) (.int (j : Nat)) = some x := by
  show (atI xs (j : Int)).or _ = some x
  rw [atI_nat h]
  rfl
theorem bIx_tp {xs : List D} {j : Nat} {x : D} (h : xs[j]? = some x) : bIx (.tup xs) (.int (j : Nat)) = some x := by
  show (atI xs (j : Int)).or _ = some x
  rw [atI_nat h]
  rfl
theorem bIx_s {z : Str} (hz : z.length ≤ sizeLine) {j : Nat} {c : Nat} (h : z.cps.toList[j]? = some c) : bIx (.str z) (.int (j : Nat)) = some (.str ⟨#[c]⟩) := by
  show (none : Option D).or ((if z.length ≤ sizeLine then (atI z.cps.toList (j : Int)).map (fun c => D.str ⟨#[c]⟩) else none).or _) = _
  rw [if_pos hz, atI_nat h]
  rfl
theorem allD_map (bs : List Bool) : allD [.lst (bs.map D.bl)] = some (.bl (bs.all id)) := by
  show (blsD (bs.map D.bl)).map _ = _
  rw [blsD_map]
  rfl
theorem allD_f {α : Type} (l : List α) (f : α → Bool) : allD [.lst (l.map fun a => D.bl (f a))] = some (.bl (l.all f)) := by
  have : (l.map fun a => D.bl (f a)) = (l.map f).map D.bl := by rw [List.map_map]; rfl
  rw [this, allD_map, List.all_map]
  rfl
theorem szM {n : Nat} (h : n ≤ 1000000) : n < sizeLine := Nat.lt_of_le_of_lt h (by rw [sizeLine_eq]; decide)
theorem comp_map {α : Type} {g : TDG} {tt : TDT} {te : TDE} {P : D → Prop} {env : De} (enc f : α → D) : ∀ (l : List α) (acc : List D), (∀ a ∈ l, ∀ (Q : D → Prop) (Z : Prop), Q (f a) → g (enc a) env fun env' => tt env' fun b => if b = true then te env' Q else Z) → acc.length + l.length ≤ 1000000 →
    P (.lst (acc ++ l.map f)) → dComp g tt te P env (l.map enc) acc
  | [], acc, _, _, q => by
    rw [List.map_nil, List.append_nil] at q
    exact q
  | a :: l, acc, h, hl, q => h a List.mem_cons_self _ _ (by
      refine ⟨szM (by simp at hl; omega), comp_map enc f l (acc ++ [f a]) (fun b hb => h b (List.mem_cons_of_mem _ hb)) (by simp at hl ⊢; omega) ?_⟩
      rw [List.append_assoc]
      exact q)
theorem comp_filter {α : Type} {g : TDG} {tt : TDT} {te : TDE} {P : D → Prop} {env : De} (enc f : α → D) (p : α → Bool) : ∀ (l : List α) (acc : List D), (∀ a ∈ l, ∀ (Q : D → Prop) (Z : Prop), (p a = true → Q (f a)) → (p a = false → Z) → g (enc a) env fun env' => tt env' fun b => if b = true then te env' Q else Z) → acc.length + l.length ≤ 1000000 →
    P (.lst (acc ++ (l.filter p).map f)) → dComp g tt te P env (l.map enc) acc
  | [], acc, _, _, q => by
    rw [List.filter_nil, List.map_nil, List.append_nil] at q
    exact q
  | a :: l, acc, h, hl, q => by
    refine h a List.mem_cons_self _ _ (fun hp => ⟨szM (by simp at hl; omega), comp_filter enc f p l (acc ++ [f a]) (fun b hb => h b (List.mem_cons_of_mem _ hb)) (by simp at hl ⊢; omega) ?_⟩) (fun hp => comp_filter enc f p l acc (fun b hb => h b (List.mem_cons_of_mem _ hb)) (by simp at hl ⊢; omega) ?_)
    · rw [List.filter_cons_of_pos hp, List.map_cons] at q
      rw [List.append_assoc]
      exact q
    · rw [List.filter_cons_of_neg (by rw [hp]; exact Bool.false_ne_true)] at q
      exact q
theorem loop_inv {α : Type} {g : TDG} {body : TDS} {P : DEnds} (enc : α → D) (l : List α) (I : List α → De → Prop)
    (step : ∀ (pre : List α) (a : α) (post : List α) (env : De), l = pre ++ a :: post → I pre env → ∀ k : De → Prop, (∀ env', I (pre ++ [a]) env' → k env') → g (enc a) env fun env' => body { nx := k, rt := P.rt, bk := P.nx, ct := k } env') (done : ∀ env, I l env → P.nx env) :
    ∀ (post pre : List α) (env : De), l = pre ++ post → I pre env → sLoop g body P (post.map enc) env
  | [], pre, env, e, h => by
    rw [List.append_nil] at e
    exact done env (e ▸ h)
  | a :: post, pre, env, e, h => step pre a post env e h _ fun env' h' => loop_inv enc l I step done post (pre ++ [a]) env' (by rw [List.append_assoc]; exact e) h'
theorem loop_all {α : Type} {g : TDG} {body : TDS} {P : DEnds} {env : De} (enc : α → D) (l : List α) (I : List α → De → Prop) (h0 : I [] env)
    (step : ∀ (pre : List α) (a : α) (post : List α) (env : De), l = pre ++ a :: post → I pre env → ∀ k : De → Prop, (∀ env', I (pre ++ [a]) env' → k env') → g (enc a) env fun env' => body { nx := k, rt := P.rt, bk := P.nx, ct := k } env') (done : ∀ env, I l env → P.nx env) :
    sLoop g body P (l.map enc) env := loop_inv enc l I step done l [] env rfl h0
theorem loop_rng {g : TDG} {body : TDS} {P : DEnds} {env : De} {lo : Int} {n : Nat} (I : Nat → De → Prop) (h0 : I 0 env)
    (step : ∀ (i : Nat) (env : De), i < n → I i env → ∀ k : De → Prop, (∀ env', I (i + 1) env' → k env') → g (.int (lo + (i : Nat))) env fun env' => body { nx := k, rt := P.rt, bk := P.nx, ct := k } env') (done : ∀ env, I n env → P.nx env) :
    sLoop g body P (rngD lo n) env := by
  unfold rngD
  refine loop_all (fun k : Nat => D.int (lo + (k : Nat))) (List.range n) (fun pre env => I pre.length env) h0 (fun pre a post env e h k hk => ?_) (fun env h => done env (by rw [List.length_range] at h; exact h))
  have hl : pre.length < n := by
    have := congrArg List.length e
    simp at this
    omega
  have ha : a = pre.length := by
    have h1 : (List.range n)[pre.length]? = some a := by rw [e]; simp
    rw [List.getElem?_range hl] at h1
    exact (Option.some.inj h1).symm
  rw [ha]
  exact step pre.length env hl h k fun env' h' => hk env' (by rw [List.length_append]; exact h')
def sp_of : DSp := fun ds P => (∃ xs, (ds = [.bag, .lst xs] ∨ ds = [.bag, .tup xs]) ∧ 1 ≤ xs.length ∧ xs.length ≤ 1000000 ∧ ∀ x ∈ xs, P x) ∨ (∃ z : Str, ds = [.bag, .str z] ∧ 1 ≤ z.length ∧ z.length ≤ 1000000 ∧ ∀ c ∈ z.cps.toList, P (.str ⟨#[c]⟩))
def d_of : TDS := (sRet (dO2 bIx (dV 1) (dCall sp_pull (aCons (dV 0) (aCons (dCa lenD (aCons (dV 1) aNil)) aNil)))))
theorem rd_of {ds : List D} {P : D → Prop} (h : sp_of ds P) : d_of (fin false P) (st 2 ds) := by
  rcases h with ⟨xs, h | h, l1, l2, q⟩ | ⟨z, rfl, l1, l2, q⟩
  · subst h
    simp only [d_of, dC, dV, dB, dO2, ob_some, dT, dAndT, dOrT, dNotT, dIf, dAndV, dOrV, dNotV, dChain, aNil, aCons, dTup, dLst, dCut, oNone, oSome, dRev, dNeg, dTru, dCa, dIs, dIsA, dCall, dCallK, sNil, sSeq, sNever, sBrk, sCont, sIf, sRet, sRetO, sRetE, sSet, sSetO, sDrop, sPar, sPar3, kn, enOf, owD, sAsg, gNm, gsNil, gsCons, gTp, sApp, sIns, sExt, sClr, sRev, sPut, sFrz, owAt, fin, st, iRng, iRngB, iSeq, lstD, tupD, sFor, dLc, dDc, wipeE, tYesD, dIndex, dSort, dDictZip, dMeth, dFld, dMk, List.map_cons, List.map_nil, List.length_cons, List.length_nil, List.replicate_succ, List.replicate_zero, List.cons_append, List.nil_append, List.append_nil, List.getElem?_cons_zero, List.getElem?_cons_succ, List.set_cons_zero, List.set_cons_succ, Option.bind_some, Option.map_some, Nat.reduceSub, Nat.reduceAdd, kwP, List.getD_cons_zero, List.getD_cons_succ, lenD]
    refine ⟨_, rfl, by omega, by omega, fun r r0 r1 => ?_⟩
    obtain ⟨j, rfl⟩ : ∃ j : Nat, r = (j : Int) := ⟨r.toNat, by omega⟩
    show ob (bIx (.lst xs) (.int (j : Nat))) P
    rw [bIx_l (List.getElem?_eq_getElem (by omega))]
    exact q _ (List.getElem_mem _)
  · subst h
    simp only [d_of, dC, dV, dB, dO2, ob_some, dT, dAndT, dOrT, dNotT, dIf, dAndV, dOrV, dNotV, dChain, aNil, aCons, dTup, dLst, dCut, oNone, oSome, dRev, dNeg, dTru, dCa, dIs, dIsA, dCall, dCallK, sNil, sSeq, sNever, sBrk, sCont, sIf, sRet, sRetO, sRetE, sSet, sSetO, sDrop, sPar, sPar3, kn, enOf, owD, sAsg, gNm, gsNil, gsCons, gTp, sApp, sIns, sExt, sClr, sRev, sPut, sFrz, owAt, fin, st, iRng, iRngB, iSeq, lstD, tupD, sFor, dLc, dDc, wipeE, tYesD, dIndex, dSort, dDictZip, dMeth, dFld, dMk, List.map_cons, List.map_nil, List.length_cons, List.length_nil, List.replicate_succ, List.replicate_zero, List.cons_append, List.nil_append, List.append_nil, List.getElem?_cons_zero, List.getElem?_cons_succ, List.set_cons_zero, List.set_cons_succ, Option.bind_some, Option.map_some, Nat.reduceSub, Nat.reduceAdd, kwP, List.getD_cons_zero, List.getD_cons_succ, lenD]
    refine ⟨_, rfl, by omega, by omega, fun r r0 r1 => ?_⟩
    obtain ⟨j, rfl⟩ : ∃ j : Nat, r = (j : Int) := ⟨r.toNat, by omega⟩
    show ob (bIx (.tup xs) (.int (j : Nat))) P
    rw [bIx_tp (List.getElem?_eq_getElem (by omega))]
    exact q _ (List.getElem_mem _)
  · have hz : z.length ≤ sizeLine := Nat.le_of_lt (szM l2)
    simp only [d_of, dC, dV, dB, dO2, ob_some, dT, dAndT, dOrT, dNotT, dIf, dAndV, dOrV, dNotV, dChain, aNil, aCons, dTup, dLst, dCut, oNone, oSome, dRev, dNeg, dTru, dCa, dIs, dIsA, dCall, dCallK, sNil, sSeq, sNever, sBrk, sCont, sIf, sRet, sRetO, sRetE, sSet, sSetO, sDrop, sPar, sPar3, kn, enOf, owD, sAsg, gNm, gsNil, gsCons, gTp, sApp, sIns, sExt, sClr, sRev, sPut, sFrz, owAt, fin, st, iRng, iRngB, iSeq, lstD, tupD, sFor, dLc, dDc, wipeE, tYesD, dIndex, dSort, dDictZip, dMeth, dFld, dMk, List.map_cons, List.map_nil, List.length_cons, List.length_nil, List.replicate_succ, List.replicate_zero, List.cons_append, List.nil_append, List.append_nil, List.getElem?_cons_zero, List.getElem?_cons_succ, List.set_cons_zero, List.set_cons_succ, Option.bind_some, Option.map_some, Nat.reduceSub, Nat.reduceAdd, kwP, List.getD_cons_zero, List.getD_cons_succ, lenD, if_pos hz]
    refine ⟨_, rfl, by omega, by omega, fun r r0 r1 => ?_⟩
    obtain ⟨j, rfl⟩ : ∃ j : Nat, r = (j : Int) := ⟨r.toNat, by omega⟩
    have hj : j < z.cps.toList.length := by rw [← str_len]; omega
    show ob (bIx (.str z) (.int (j : Nat))) P
    rw [bIx_s hz (List.getElem?_eq_getElem hj)]
    exact q _ (List.getElem_mem _)
def sp_mixed : DSp := fun ds P => ∃ xs, (ds = [.bag, .lst xs] ∨ ds = [.bag, .tup xs]) ∧ xs.length ≤ 100000 ∧ ∀ ys : List D, ys.Perm xs → P (.lst ys)
def d_mixed : TDS := (sSeq (sSetO 2 (dLst aNil))
  (sSeq (sFor (iSeq (dV 1)) (gNm 3) (sIns 2 (dCall sp_pull (aCons (dV 0) (aCons (dO2 bAdd (dCa lenD (aCons (dB 2) aNil)) (dC (.int 1))) aNil))) (dV 3)))
  (sRetO 2)))
theorem rd_mixed {ds : List D} {P : D → Prop} (h : sp_mixed ds P) : d_mixed (fin true P) (st 4 ds) := by
  obtain ⟨xs, h, l2, q⟩ := h
  have loop : ∀ y : D, sLoop (gNm 3) (sIns 2 (dCall sp_pull (aCons (dV 0) (aCons (dO2 bAdd (dCa lenD (aCons (dB 2) aNil)) (dC (.int 1))) aNil))) (dV 3)) { fin true P with nx := sRetO 2 (fin true P) } xs [.fz .bag, .fz y, .ow [], .no] := fun y => by
    have := loop_all (g := gNm 3) (body := sIns 2 (dCall sp_pull (aCons (dV 0) (aCons (dO2 bAdd (dCa lenD (aCons (dB 2) aNil)) (dC (.int 1))) aNil))) (dV 3)) (P := { fin true P with nx := sRetO 2 (fin true P) }) (env := [.fz .bag, .fz y, .ow [], .no]) id xs (fun pre env => ∃ ys e, env = [.fz .bag, .fz y, .ow ys, e] ∧ ys.Perm pre) ⟨[], .no, rfl, .nil⟩ (fun pre a post env e h k hk => ?_) (fun env h => ?_)
    · rw [List.map_id] at this
      exact this
    · obtain ⟨ys, e2, rfl, hp⟩ := h
      have hl : ys.length < 100001 := by
        have h1 := hp.length_eq
        have h2 := congrArg List.length e
        simp at h2
        omega
      simp only [dC, dV, dB, dO2, ob_some, dT, dAndT, dOrT, dNotT, dIf, dAndV, dOrV, dNotV, dChain, aNil, aCons, dTup, dLst, dCut, oNone, oSome, dRev, dNeg, dTru, dCa, dIs, dIsA, dCall, dCallK, sNil, sSeq, sNever, sBrk, sCont, sIf, sRet, sRetO, sRetE, sSet, sSetO, sDrop, sPar, sPar3, kn, enOf, owD, sAsg, gNm, gsNil, gsCons, gTp, sApp, sIns, sExt, sClr, sRev, sPut, sFrz, owAt, fin, st, iRng, iRngB, iSeq, lstD, tupD, sFor, dLc, dDc, wipeE, tYesD, dIndex, dSort, dDictZip, dMeth, dFld, dMk, List.map_cons, List.map_nil, List.length_cons, List.length_nil, List.replicate_succ, List.replicate_zero, List.cons_append, List.nil_append, List.append_nil, List.getElem?_cons_zero, List.getElem?_cons_succ, List.set_cons_zero, List.set_cons_succ, Option.bind_some, Option.map_some, Nat.reduceSub, Nat.reduceAdd, kwP, List.getD_cons_zero, List.getD_cons_succ, lenD, bAdd, iI0, Option.some_or]
      refine ⟨_, rfl, by omega, by omega, fun r r0 r1 => ⟨szM (by omega), r0, by omega, hk _ ⟨_, _, rfl, ?_⟩⟩⟩
      have e3 : ys = ys.take r.toNat ++ ys.drop r.toNat := (List.take_append_drop _ _).symm
      rw [List.append_assoc]
      refine (List.perm_middle).trans ?_
      show (a :: (ys.take r.toNat ++ ys.drop r.toNat)).Perm (pre ++ [a])
      rw [← e3]
      exact (List.Perm.cons a hp).trans (List.perm_append_singleton a pre).symm
    · obtain ⟨ys, e2, rfl, hp⟩ := h
      simp only [dC, dV, dB, dO2, ob_some, dT, dAndT, dOrT, dNotT, dIf, dAndV, dOrV, dNotV, dChain, aNil, aCons, dTup, dLst, dCut, oNone, oSome, dRev, dNeg, dTru, dCa, dIs, dIsA, dCall, dCallK, sNil, sSeq, sNever, sBrk, sCont, sIf, sRet, sRetO, sRetE, sSet, sSetO, sDrop, sPar, sPar3, kn, enOf, owD, sAsg, gNm, gsNil, gsCons, gTp, sApp, sIns, sExt, sClr, sRev, sPut, sFrz, owAt, fin, st, iRng, iRngB, iSeq, lstD, tupD, sFor, dLc, dDc, wipeE, tYesD, dIndex, dSort, dDictZip, dMeth, dFld, dMk, List.map_cons, List.map_nil, List.length_cons, List.length_nil, List.replicate_succ, List.replicate_zero, List.cons_append, List.nil_append, List.append_nil, List.getElem?_cons_zero, List.getElem?_cons_succ, List.set_cons_zero, List.set_cons_succ, Option.bind_some, Option.map_some, Nat.reduceSub, Nat.reduceAdd, kwP, List.getD_cons_zero, List.getD_cons_succ]
      exact q ys hp
  rcases h with h | h
  · subst h
    simp only [d_mixed, dC, dV, dB, dO2, ob_some, dT, dAndT, dOrT, dNotT, dIf, dAndV, dOrV, dNotV, dChain, aNil, aCons, dTup, dLst, dCut, oNone, oSome, dRev, dNeg, dTru, dCa, dIs, dIsA, dCall, dCallK, sNil, sSeq, sNever, sBrk, sCont, sIf, sRet, sRetO, sRetE, sSet, sSetO, sDrop, sPar, sPar3, kn, enOf, owD, sAsg, gNm, gsNil, gsCons, gTp, sApp, sIns, sExt, sClr, sRev, sPut, sFrz, owAt, fin, st, iRng, iRngB, iSeq, lstD, tupD, sFor, dLc, dDc, wipeE, tYesD, dIndex, dSort, dDictZip, dMeth, dFld, dMk, List.map_cons, List.map_nil, List.length_cons, List.length_nil, List.replicate_succ, List.replicate_zero, List.cons_append, List.nil_append, List.append_nil, List.getElem?_cons_zero, List.getElem?_cons_succ, List.set_cons_zero, List.set_cons_succ, Option.bind_some, Option.map_some, Nat.reduceSub, Nat.reduceAdd, kwP, List.getD_cons_zero, List.getD_cons_succ]
    exact ⟨Nat.zero_le _, .inl (loop _)⟩
  · subst h
    simp only [d_mixed, dC, dV, dB, dO2, ob_some, dT, dAndT, dOrT, dNotT, dIf, dAndV, dOrV, dNotV, dChain, aNil, aCons, dTup, dLst, dCut, oNone, oSome, dRev, dNeg, dTru, dCa, dIs, dIsA, dCall, dCallK, sNil, sSeq, sNever, sBrk, sCont, sIf, sRet, sRetO, sRetE, sSet, sSetO, sDrop, sPar, sPar3, kn, enOf, owD, sAsg, gNm, gsNil, gsCons, gTp, sApp, sIns, sExt, sClr, sRev, sPut, sFrz, owAt, fin, st, iRng, iRngB, iSeq, lstD, tupD, sFor, dLc, dDc, wipeE, tYesD, dIndex, dSort, dDictZip, dMeth, dFld, dMk, List.map_cons, List.map_nil, List.length_cons, List.length_nil, List.replicate_succ, List.replicate_zero, List.cons_append, List.nil_append, List.append_nil, List.getElem?_cons_zero, List.getElem?_cons_succ, List.set_cons_zero, List.set_cons_succ, Option.bind_some, Option.map_some, Nat.reduceSub, Nat.reduceAdd, kwP, List.getD_cons_zero, List.getD_cons_succ]
    exact ⟨Nat.zero_le _, .inr (.inl (loop _))⟩
end DL
namespace DL
open PySem PySem.Spec PyProof.Rows L2 RK
def rectD (p : R) : D := .tup [.int p.l, .int p.t, .int p.r, .int p.b]
theorem abc_get {j : Nat} (h : j < 26) : abc.cps.toList[j]? = some (97 + j) := by
  rw [abc_codes, List.getElem?_range' h, Nat.one_mul]
def sp_names : DSp := fun ds P => ∃ n : Int, ds = [.bag, .int n] ∧ 0 ≤ n ∧ n ≤ 26 ∧ ∀ zs : List Str, zs.length = n.toNat → (∀ z ∈ zs, NameOk z) → zs.Nodup → P (.lst (zs.map D.str))
def d_names : TDS := (sSeq (sAsg (dTup (aCons (dC (.str "abcdefghijklmnopqrstuvwxyz")) (aCons (dC (.str "")) aNil))) (gTp 2 (gsCons (gNm 2) (gsCons (gNm 3) gsNil))))
  (sSeq (sFor (iRng (aCons (dCall sp_pull (aCons (dV 0) (aCons (dC (.int 6)) aNil))) aNil)) (gNm 4) (sSet 3 (dO2 bAdd (dV 3) (dCall sp_of (aCons (dV 0) (aCons (dV 2) aNil))))))
  (sSeq (sIf (dT (dO2 (bEqN false) (dCall sp_pull (aCons (dV 0) (aCons (dC (.int 4)) aNil))) (dC (.int 0)))) (sRet (dLc (iRng (aCons (dV 1) aNil)) (gNm 4) tYesD (dO2 bMul (dO2 bIx (dV 2) (dO2 bMod (dO2 bAdd (dCa lenD (aCons (dV 3) aNil)) (dO2 bMul (dC (.int 7)) (dV 4))) (dC (.int 26)))) (dO2 bAdd (dC (.int 1)) (dO2 bMod (dO2 bAdd (dCa lenD (aCons (dV 3) aNil)) (dO2 bMul (dC (.int 5)) (dV 4))) (dC (.int 4))))) [4])) sNil)
  (sSeq (sAsg (dTup (aCons (dCall sp_pull (aCons (dV 0) (aCons (dO2 bAdd (dCa lenD (aCons (dV 3) aNil)) (dC (.int 1))) aNil))) (aCons (dCall sp_pull (aCons (dV 0) (aCons (dC (.int 26)) aNil))) (aCons (dCall sp_of (aCons (dV 0) (aCons (dLst (aCons (dC (.int 1)) (aCons (dC (.int 3)) (aCons (dC (.int 5)) (aCons (dC (.int 7)) (aCons (dC (.int 9)) aNil)))))) aNil))) aNil)))) (gTp 3 (gsCons (gNm 5) (gsCons (gNm 6) (gsCons (gNm 7) gsNil)))))
  (sRet (dLc (iRng (aCons (dV 1) aNil)) (gNm 4) tYesD (dO2 bAdd (dO2 bAdd (dCut cutA (dV 3) oNone (oSome (dV 5))) (dO2 bIx (dV 2) (dO2 bMod (dO2 bAdd (dV 6) (dO2 bMul (dV 7) (dV 4))) (dC (.int 26))))) (dCut cutA (dV 3) (oSome (dV 5)) oNone)) [4]))))))
theorem nodup_map_range {β : Type} {n : Nat} {f : Nat → β} (h : ∀ i j, i < n → j < n → f i = f j → i = j) : ((List.range n).map f).Nodup := by
  rw [List.nodup_iff_pairwise_ne, List.pairwise_map]
  refine List.Pairwise.imp_of_mem (fun {a b} ha hb hab e => ?_) (List.nodup_iff_pairwise_ne.mp List.nodup_range)
  exact hab (h a b (List.mem_range.mp ha) (List.mem_range.mp hb) e)
theorem bMul_i {i j : Int} (h : -(2 ^ 64) < i) (h' : i < 2 ^ 64) : bMul (.int i) (.int j) = some (.int (i * j)) := by
  show (if decide _ = true then some (D.int (i * j)) else none).or _ = _
  rw [if_pos (decide_eq_true (.inl ⟨h, h'⟩))]
  rfl
theorem bMod_i {i j : Int} (h : 0 < j) : bMod (.int i) (.int j) = some (.int (i % j)) := by
  show (if decide _ = true then some (D.int (i % j)) else none) = _
  rw [if_pos (decide_eq_true h)]
theorem bAdd_i (i j : Int) : bAdd (.int i) (.int j) = some (.int (i + j)) := rfl
theorem bAdd_s {x y : Str} (h : x.length + y.length ≤ sizeLine) : bAdd (.str x) (.str y) = some (.str (x ++ y)) := by
  show (none : Option D).or ((if x.length + y.length ≤ sizeLine then some (D.str (x ++ y)) else none).or _) = _
  rw [if_pos h]
  rfl
theorem bEq_i (i j : Int) : bEqN false (.int i) (.int j) = some (.bl (decide (i = j))) := by
  show (some (D.bl (false ^^ decide (i = j)))).or _ = _
  rw [Bool.false_xor]
  rfl
theorem bIx_abc {j : Nat} (h : j < 26) : bIx (.str abc) (.int (j : Nat)) = some (.str ⟨#[97 + j]⟩) := bIx_s (by rw [abc_len]; exact Nat.le_of_lt (szM (by decide))) (abc_get h)
theorem rd_names {ds : List D} {P : D → Prop} (h : sp_names ds P) : d_names (fin true P) (st 8 ds) := by
  obtain ⟨n, rfl, n0, n1, q⟩ := h
  simp only [d_names, dC, dV, dB, dO2, ob_some, dT, dAndT, dOrT, dNotT, dIf, dAndV, dOrV, dNotV, dChain, aNil, aCons, dTup, dLst, dCut, oNone, oSome, dRev, dNeg, dTru, dCa, dIs, dIsA, dCall, dCallK, sNil, sSeq, sNever, sBrk, sCont, sIf, sRet, sRetO, sRetE, sSet, sSetO, sDrop, sPar, sPar3, kn, enOf, owD, sAsg, gNm, gsNil, gsCons, gTp, sApp, sIns, sExt, sClr, sRev, sPut, sFrz, owAt, fin, st, iRng, iRngB, iSeq, lstD, tupD, sFor, dLc, dDc, wipeE, tYesD, dIndex, dSort, dDictZip, dMeth, dFld, dMk, List.map_cons, List.map_nil, List.length_cons, List.length_nil, List.replicate_succ, List.replicate_zero, List.cons_append, List.nil_append, List.append_nil, List.getElem?_cons_zero, List.getElem?_cons_succ, List.set_cons_zero, List.set_cons_succ, Option.bind_some, Option.map_some, Nat.reduceSub, Nat.reduceAdd, kwP, List.getD_cons_zero, List.getD_cons_succ]
  refine ⟨by decide, trivial, trivial, ⟨_, rfl, by decide, by decide, fun r r0 r1 => ⟨by omega, by omega, ?_⟩⟩⟩
  refine loop_rng (fun i env => ∃ e4 bs, env = [.fz .bag, .fz (.int n), .fz (.str abc), .fz (.str bs), e4, .no, .no, .no] ∧ bs.length = i ∧ ∀ c ∈ bs.cps.toList, Low c) ⟨.no, "", rfl, by decide +kernel, by intro c hc; exact absurd hc (by decide +kernel +revert)⟩ (fun i env hi h k hk => ?_) (fun env h => ?_)
  · obtain ⟨e4, bs, rfl, hl, hc⟩ := h
    simp only [dC, dV, dB, dO2, ob_some, dT, dAndT, dOrT, dNotT, dIf, dAndV, dOrV, dNotV, dChain, aNil, aCons, dTup, dLst, dCut, oNone, oSome, dRev, dNeg, dTru, dCa, dIs, dIsA, dCall, dCallK, sNil, sSeq, sNever, sBrk, sCont, sIf, sRet, sRetO, sRetE, sSet, sSetO, sDrop, sPar, sPar3, kn, enOf, owD, sAsg, gNm, gsNil, gsCons, gTp, sApp, sIns, sExt, sClr, sRev, sPut, sFrz, owAt, fin, st, iRng, iRngB, iSeq, lstD, tupD, sFor, dLc, dDc, wipeE, tYesD, dIndex, dSort, dDictZip, dMeth, dFld, dMk, List.map_cons, List.map_nil, List.length_cons, List.length_nil, List.replicate_succ, List.replicate_zero, List.cons_append, List.nil_append, List.append_nil, List.getElem?_cons_zero, List.getElem?_cons_succ, List.set_cons_zero, List.set_cons_succ, Option.bind_some, Option.map_some, Nat.reduceSub, Nat.reduceAdd, kwP, List.getD_cons_zero, List.getD_cons_succ]
    refine .inr ⟨abc, rfl, by rw [abc_len]; decide, by rw [abc_len]; decide, fun c hm => ?_⟩
    dsimp only
    rw [bAdd_s (by rw [one_len, hl]; exact Nat.le_of_lt (szM (by omega)))]
    refine hk _ ⟨_, _, rfl, ?_, fun c' hc' => ?_⟩
    · rw [str_len, app_codes, List.length_append, ← str_len, hl]
      rfl
    · rw [app_codes] at hc'
      rcases List.mem_append.mp hc' with h | h
      · exact hc c' h
      · have h := List.mem_singleton.mp h
        subst h
        exact abc_mem.mp hm
  · obtain ⟨e4, bs, rfl, hl, hc⟩ := h
    have hb5 : bs.length ≤ 5 := by omega
    have hbs : bs.length ≤ sizeLine := Nat.le_of_lt (szM (by omega))
    simp only [dC, dV, dB, dO2, ob_some, dT, dAndT, dOrT, dNotT, dIf, dAndV, dOrV, dNotV, dChain, aNil, aCons, dTup, dLst, dCut, oNone, oSome, dRev, dNeg, dTru, dCa, dIs, dIsA, dCall, dCallK, sNil, sSeq, sNever, sBrk, sCont, sIf, sRet, sRetO, sRetE, sSet, sSetO, sDrop, sPar, sPar3, kn, enOf, owD, sAsg, gNm, gsNil, gsCons, gTp, sApp, sIns, sExt, sClr, sRev, sPut, sFrz, owAt, fin, st, iRng, iRngB, iSeq, lstD, tupD, sFor, dLc, dDc, wipeE, tYesD, dIndex, dSort, dDictZip, dMeth, dFld, dMk, List.map_cons, List.map_nil, List.length_cons, List.length_nil, List.replicate_succ, List.replicate_zero, List.cons_append, List.nil_append, List.append_nil, List.getElem?_cons_zero, List.getElem?_cons_succ, List.set_cons_zero, List.set_cons_succ, Option.bind_some, Option.map_some, Nat.reduceSub, Nat.reduceAdd, kwP, List.getD_cons_zero, List.getD_cons_succ, lenD, if_pos hbs, bEq_i, bAdd_i]
    refine ⟨_, rfl, by decide, by decide, fun r2 _ _ => ite2 (fun c4 => ?_) (fun c4 => ?_)⟩
    · -- one letter, again and again
      refine ⟨by omega, by omega, ?_⟩
      have hm : ∀ k : Nat, ((bs.length : Int) + 7 * (0 + (k : Nat))) % 26 = ((bs.length + 7 * k) % 26 : Nat) := fun k => by omega
      have hm2 : ∀ k : Nat, 1 + ((bs.length : Int) + 5 * (0 + (k : Nat))) % 4 = ((1 + (bs.length + 5 * k) % 4 : Nat) : Int) := fun k => by omega
      refine comp_map (fun k : Nat => D.int (0 + (k : Nat))) (fun k => D.str (PySem.Txt.mul ⟨#[97 + (bs.length + 7 * k) % 26]⟩ ((1 + (bs.length + 5 * k) % 4 : Nat) : Int))) (List.range n.toNat) [] (fun k hk Q Z hQ => ?_) (by simp; omega) ?_
      · simp only [dC, dV, dB, dO2, ob_some, dT, dAndT, dOrT, dNotT, dIf, dAndV, dOrV, dNotV, dChain, aNil, aCons, dTup, dLst, dCut, oNone, oSome, dRev, dNeg, dTru, dCa, dIs, dIsA, dCall, dCallK, sNil, sSeq, sNever, sBrk, sCont, sIf, sRet, sRetO, sRetE, sSet, sSetO, sDrop, sPar, sPar3, kn, enOf, owD, sAsg, gNm, gsNil, gsCons, gTp, sApp, sIns, sExt, sClr, sRev, sPut, sFrz, owAt, fin, st, iRng, iRngB, iSeq, lstD, tupD, sFor, dLc, dDc, wipeE, tYesD, dIndex, dSort, dDictZip, dMeth, dFld, dMk, List.map_cons, List.map_nil, List.length_cons, List.length_nil, List.replicate_succ, List.replicate_zero, List.cons_append, List.nil_append, List.append_nil, List.getElem?_cons_zero, List.getElem?_cons_succ, List.set_cons_zero, List.set_cons_succ, Option.bind_some, Option.map_some, Nat.reduceSub, Nat.reduceAdd, kwP, List.getD_cons_zero, List.getD_cons_succ, lenD, if_pos hbs, bAdd_i, bMod_i (show (0 : Int) < 26 by decide), bMod_i (show (0 : Int) < 4 by decide), bMul_i (show (-(2 ^ 64) : Int) < 7 by decide) (by decide), bMul_i (show (-(2 ^ 64) : Int) < 5 by decide) (by decide), hm, hm2, bIx_abc (Nat.mod_lt _ (by decide)), if_true]
        have e : bMul (.str ⟨#[97 + (bs.length + 7 * k) % 26]⟩) (.int ((1 + (bs.length + 5 * k) % 4 : Nat) : Int)) = some (.str (PySem.Txt.mul ⟨#[97 + (bs.length + 7 * k) % 26]⟩ ((1 + (bs.length + 5 * k) % 4 : Nat) : Int))) := by
          show (none : Option D).or ((none : Option D).or (if 1 ≤ ((1 + (bs.length + 5 * k) % 4 : Nat) : Int) ∧ ((1 + (bs.length + 5 * k) % 4 : Nat) : Int) ≤ 1000 then some _ else none)) = _
          rw [if_pos ⟨by omega, by omega⟩]
          rfl
        rw [e]
        exact hQ
      · rw [List.nil_append, show (fun k => D.str (PySem.Txt.mul ⟨#[97 + (bs.length + 7 * k) % 26]⟩ ((1 + (bs.length + 5 * k) % 4 : Nat) : Int))) = D.str ∘ fun k => PySem.Txt.mul ⟨#[97 + (bs.length + 7 * k) % 26]⟩ ((1 + (bs.length + 5 * k) % 4 : Nat) : Int) from rfl, ← List.map_map]
        refine q _ (by simp) (fun z hz => ?_) (nodup_map_range fun i j hi hj e => ?_)
        · obtain ⟨k, _, rfl⟩ := List.mem_map.mp hz
          obtain ⟨m, h1, h2⟩ := mul_codes (97 + (bs.length + 7 * k) % 26) (1 + (bs.length + 5 * k) % 4) (by omega)
          have hl2 : (PySem.Txt.mul ⟨#[97 + (bs.length + 7 * k) % 26]⟩ ((1 + (bs.length + 5 * k) % 4 : Nat) : Int)).length = m := by rw [str_len, h1, List.length_replicate]
          refine ⟨by omega, by omega, fun c hc => ?_⟩
          rw [h1] at hc
          have := (List.mem_replicate.mp hc).2
          unfold Low
          omega
        · obtain ⟨m, h1, h2⟩ := mul_codes (97 + (bs.length + 7 * i) % 26) (1 + (bs.length + 5 * i) % 4) (by omega)
          obtain ⟨m2, h3, h4⟩ := mul_codes (97 + (bs.length + 7 * j) % 26) (1 + (bs.length + 5 * j) % 4) (by omega)
          have e2 : List.replicate m (97 + (bs.length + 7 * i) % 26) = List.replicate m2 (97 + (bs.length + 7 * j) % 26) := by rw [← h1, ← h3, e]
          have e3 : (97 + (bs.length + 7 * i) % 26) ∈ List.replicate m2 (97 + (bs.length + 7 * j) % 26) := by rw [← e2]; exact List.mem_replicate.mpr ⟨by omega, rfl⟩
          have := (List.mem_replicate.mp e3).2
          omega
    · refine ⟨_, rfl, by omega, by omega, fun sp s0 s1 => ⟨_, rfl, by decide, by decide, fun fi f0 f1 => ⟨by decide, .inl ⟨_, .inl rfl, by decide, by decide, fun x hx => ?_⟩⟩⟩⟩
      obtain ⟨w, rfl, hw⟩ : ∃ w : Nat, x = .int (w : Int) ∧ (w = 1 ∨ w = 3 ∨ w = 5 ∨ w = 7 ∨ w = 9) := by
        simp only [List.mem_cons, List.not_mem_nil, or_false] at hx
        rcases hx with rfl | rfl | rfl | rfl | rfl
        · exact ⟨1, rfl, by omega⟩
        · exact ⟨3, rfl, by omega⟩
        · exact ⟨5, rfl, by omega⟩
        · exact ⟨7, rfl, by omega⟩
        · exact ⟨9, rfl, by omega⟩
      obtain ⟨sp, rfl⟩ : ∃ j : Nat, sp = (j : Int) := ⟨sp.toNat, by omega⟩
      obtain ⟨fi, rfl⟩ : ∃ j : Nat, fi = (j : Int) := ⟨fi.toNat, by omega⟩
      refine ⟨by decide, trivial, trivial, by omega, by omega, ?_⟩
      have hm : ∀ k : Nat, ((fi : Int) + (w : Int) * (0 + (k : Nat))) % 26 = ((fi + w * k) % 26 : Nat) := fun k => by
        rw [Int.zero_add]
        norm_cast
      have c1 : cutA (.str bs) none (some (sp : Int)) = some (.str (cutS bs none (some (sp : Int)))) := if_pos hbs
      have c2 : cutA (.str bs) (some (sp : Int)) none = some (.str (cutS bs (some (sp : Int)) none)) := if_pos hbs
      have k1 : (cutS bs none (some (sp : Int))).cps.toList = bs.cps.toList.take sp := by
        rw [cut_codes, HT.sIx_none, HT.sIx_nat, List.drop_zero, Nat.sub_zero]
        exact congrArg (fun m => List.take m bs.cps.toList) (by omega)
      have k2 : (cutS bs (some (sp : Int)) none).cps.toList = bs.cps.toList.drop sp := by
        rw [cut_codes, HT.sIx_none, HT.sIx_nat]
        have : min sp bs.length = sp := by omega
        rw [this]
        exact List.take_of_length_le (by rw [List.length_drop, ← str_len]; exact Nat.le_refl _)
      have l1 : (cutS bs none (some (sp : Int))).length = sp := by rw [str_len, k1, List.length_take, ← str_len]; omega
      have l2 : (cutS bs (some (sp : Int)) none).length = bs.length - sp := by rw [str_len, k2, List.length_drop, ← str_len]
      have codes : ∀ k : Nat, (cutS bs none (some (sp : Int)) ++ ⟨#[97 + (fi + w * k) % 26]⟩ ++ cutS bs (some (sp : Int)) none).cps.toList = bs.cps.toList.take sp ++ [97 + (fi + w * k) % 26] ++ bs.cps.toList.drop sp := fun k => by
        rw [app_codes, app_codes, k1, k2]
      refine comp_map (fun k : Nat => D.int (0 + (k : Nat))) (fun k => D.str (cutS bs none (some (sp : Int)) ++ ⟨#[97 + (fi + w * k) % 26]⟩ ++ cutS bs (some (sp : Int)) none)) (List.range n.toNat) [] (fun k hk Q Z hQ => ?_) (by simp; omega) ?_
      · simp only [dC, dV, dB, dO2, ob_some, dT, dAndT, dOrT, dNotT, dIf, dAndV, dOrV, dNotV, dChain, aNil, aCons, dTup, dLst, dCut, oNone, oSome, dRev, dNeg, dTru, dCa, dIs, dIsA, dCall, dCallK, sNil, sSeq, sNever, sBrk, sCont, sIf, sRet, sRetO, sRetE, sSet, sSetO, sDrop, sPar, sPar3, kn, enOf, owD, sAsg, gNm, gsNil, gsCons, gTp, sApp, sIns, sExt, sClr, sRev, sPut, sFrz, owAt, fin, st, iRng, iRngB, iSeq, lstD, tupD, sFor, dLc, dDc, wipeE, tYesD, dIndex, dSort, dDictZip, dMeth, dFld, dMk, List.map_cons, List.map_nil, List.length_cons, List.length_nil, List.replicate_succ, List.replicate_zero, List.cons_append, List.nil_append, List.append_nil, List.getElem?_cons_zero, List.getElem?_cons_succ, List.set_cons_zero, List.set_cons_succ, Option.bind_some, Option.map_some, Nat.reduceSub, Nat.reduceAdd, kwP, List.getD_cons_zero, List.getD_cons_succ, c1, c2, bMul_i (show (-(2 ^ 64) : Int) < (w : Int) by omega) (show (w : Int) < 2 ^ 64 by omega), bAdd_i, bMod_i (show (0 : Int) < 26 by decide), hm, bIx_abc (Nat.mod_lt _ (by decide)), if_true]
        rw [bAdd_s (by rw [one_len, l1]; exact Nat.le_of_lt (szM (by omega))), ob_some, bAdd_s (by rw [str_len, app_codes, List.length_append, ← str_len, l1, l2]; exact Nat.le_of_lt (szM (by show sp + 1 + (bs.length - sp) ≤ _; omega)))]
        exact hQ
      · rw [List.nil_append, show (fun k => D.str (cutS bs none (some (sp : Int)) ++ ⟨#[97 + (fi + w * k) % 26]⟩ ++ cutS bs (some (sp : Int)) none)) = D.str ∘ fun k => cutS bs none (some (sp : Int)) ++ ⟨#[97 + (fi + w * k) % 26]⟩ ++ cutS bs (some (sp : Int)) none from rfl, ← List.map_map]
        refine q _ (by simp) (fun z hz => ?_) (nodup_map_range fun i j hi hj e => ?_)
        · obtain ⟨k, _, rfl⟩ := List.mem_map.mp hz
          have hl2 : (cutS bs none (some (sp : Int)) ++ ⟨#[97 + (fi + w * k) % 26]⟩ ++ cutS bs (some (sp : Int)) none).length = bs.length + 1 := by
            rw [str_len, codes, List.length_append, List.length_append, List.length_take, List.length_drop, ← str_len]
            simp
            omega
          refine ⟨by omega, by omega, fun c hc' => ?_⟩
          rw [codes, List.append_assoc] at hc'
          rcases List.mem_append.mp hc' with h | h
          · exact hc c (List.mem_of_mem_take h)
          · rcases List.mem_append.mp h with h | h
            · have := List.mem_singleton.mp h
              unfold Low
              omega
            · exact hc c (List.mem_of_mem_drop h)
        · have e2 : bs.cps.toList.take sp ++ [97 + (fi + w * i) % 26] ++ bs.cps.toList.drop sp = bs.cps.toList.take sp ++ [97 + (fi + w * j) % 26] ++ bs.cps.toList.drop sp := by rw [← codes, ← codes, e]
          rw [List.append_assoc, List.append_assoc] at e2
          have e3 := (List.cons.inj (List.append_cancel_left e2)).1
          rcases hw with rfl | rfl | rfl | rfl | rfl <;> omega
end DL
namespace DL
open PySem PySem.Spec PyProof.Rows L2 RK
mutual
def toP : D → PyData
  | .non => .none
  | .bl b => .bool b
  | .int i => .int i
  | .str x => .str x
  | .lst xs => .list (toPA xs)
  | .tup xs => .tuple (toPA xs)
  | _ => .none
def toPA : List D → List PyData
  | [] => []
  | x :: xs => toP x :: toPA xs
end
def sh : Nat → D → Bool
  | _, .non => true
  | _, .int _ => true
  | _, .str x => PyData.strOk x
  | n + 1, .lst xs => xs.all (sh n)
  | n + 1, .tup xs => xs.all (sh n)
  | _, _ => false
theorem sh_py : ∀ (n : Nat) (x : D), sh n x = true → toPy x = some (toP x) ∧ (toP x).canLay0 = true ∧ (toP x).depth ≤ n := by
  have lists : ∀ (n : Nat), (∀ x : D, sh n x = true → toPy x = some (toP x) ∧ (toP x).canLay0 = true ∧ (toP x).depth ≤ n) → ∀ xs : List D, xs.all (sh n) = true → toPyA xs = some (toPA xs) ∧ PyData.canLayAll0 (toPA xs) = true ∧ PyData.depthAll (toPA xs) ≤ n := by
    intro n ih xs
    induction xs with
    | nil => intro _; exact ⟨rfl, rfl, Nat.zero_le _⟩
    | cons x xs ihx =>
      intro h
      rw [List.all_cons, Bool.and_eq_true] at h
      obtain ⟨h1, h2, h3⟩ := ih x h.1
      obtain ⟨g1, g2, g3⟩ := ihx h.2
      refine ⟨?_, ?_, ?_⟩
      · show (toPy x).bind _ = _
        rw [h1]
        show (toPyA xs).map _ = _
        rw [g1]
        rfl
      · show (PyData.canLay0 (toP x) && PyData.canLayAll0 (toPA xs)) = true
        rw [h2, g2]
        rfl
      · show max (PyData.depth (toP x)) (PyData.depthAll (toPA xs)) ≤ n
        omega
  intro n
  induction n with
  | zero =>
    intro x h
    cases x with
    | non => exact ⟨rfl, rfl, Nat.le_refl _⟩
    | int i => exact ⟨rfl, rfl, Nat.le_refl _⟩
    | str z => exact ⟨rfl, h, Nat.le_refl _⟩
    | _ => cases h
  | succ n ih =>
    intro x h
    cases x with
    | non => exact ⟨rfl, rfl, Nat.zero_le _⟩
    | int i => exact ⟨rfl, rfl, Nat.zero_le _⟩
    | str z => exact ⟨rfl, h, Nat.zero_le _⟩
    | lst xs =>
      obtain ⟨h1, h2, h3⟩ := lists n ih xs h
      refine ⟨?_, h2, ?_⟩
      · show (toPyA xs).map _ = _
        rw [h1]
        rfl
      · show PyData.depthAll (toPA xs) + 1 ≤ n + 1
        omega
    | tup xs =>
      obtain ⟨h1, h2, h3⟩ := lists n ih xs h
      refine ⟨?_, h2, ?_⟩
      · show (toPyA xs).map _ = _
        rw [h1]
        rfl
      · show PyData.depthAll (toPA xs) + 1 ≤ n + 1
        omega
    | _ => cases h
theorem eqv_iff : ∀ (n : Nat) (x y : D), sh n x = true → sh n y = true → (PyData.eqv (toP x) (toP y) = true ↔ x = y) := by
  have lists : ∀ (n : Nat), (∀ x y : D, sh n x = true → sh n y = true → (PyData.eqv (toP x) (toP y) = true ↔ x = y)) → ∀ xs ys : List D, xs.all (sh n) = true → ys.all (sh n) = true → (PyData.eqvAll (toPA xs) (toPA ys) = true ↔ xs = ys) := by
    intro n ih xs
    induction xs with
    | nil =>
      intro ys _ _
      cases ys with
      | nil => exact ⟨fun _ => rfl, fun _ => rfl⟩
      | cons y ys => exact ⟨fun h => (by cases h), fun h => (by cases h)⟩
    | cons x xs ihx =>
      intro ys hx hy
      cases ys with
      | nil => exact ⟨fun h => (by cases h), fun h => (by cases h)⟩
      | cons y ys =>
        rw [List.all_cons, Bool.and_eq_true] at hx hy
        have h1 := ih x y hx.1 hy.1
        have h2 := ihx ys hx.2 hy.2
        show (PyData.eqv (toP x) (toP y) && PyData.eqvAll (toPA xs) (toPA ys)) = true ↔ _
        rw [Bool.and_eq_true, h1, h2]
        exact ⟨fun ⟨a, b⟩ => by rw [a, b], fun h => ⟨(List.cons.inj h).1, (List.cons.inj h).2⟩⟩
  intro n
  induction n with
  | zero =>
    intro x y hx hy
    cases x <;> try cases hx
    all_goals cases y <;> try cases hy
    all_goals simp [toP, PyData.eqv]
  | succ n ih =>
    intro x y hx hy
    cases x <;> try cases hx
    all_goals cases y <;> try cases hy
    any_goals (simp [toP, PyData.eqv]; done)
    · rename_i xs ys
      have := lists n ih xs ys hx hy
      simp only [toP, PyData.eqv, D.lst.injEq]
      exact this
    · rename_i xs ys
      have := lists n ih xs ys hx hy
      simp only [toP, PyData.eqv, D.tup.injEq]
      exact this
theorem shaped_of {n : Nat} {x : D} (hn : n ≤ 64) (h : sh n x = true) : SeqAt.shaped (toP x) = true := by
  obtain ⟨_, h2, h3⟩ := sh_py n x h
  unfold SeqAt.shaped
  rw [h2, Bool.true_and]
  exact decide_eq_true (by omega)
theorem eqS_iff {neg : Bool} {x y z : D} (h : eqS neg x y = some z) : ∃ b, z = .bl (neg ^^ b) ∧ (b = true ↔ x = y) := by
  cases x <;> try cases h
  all_goals cases y <;> try cases h
  · exact ⟨_, rfl, by rw [decide_eq_true_eq]; exact ⟨fun h => by rw [h], fun h => by cases h; rfl⟩⟩
  · exact ⟨_, rfl, by rw [decide_eq_true_eq]; exact ⟨fun h => by rw [h], fun h => by cases h; rfl⟩⟩
  · exact ⟨_, rfl, by rw [decide_eq_true_eq]; exact ⟨fun h => by rw [h], fun h => by cases h; rfl⟩⟩
theorem beq_iff {neg : Bool} {n : Nat} {x y : D} (hn : n ≤ 64) (hx : sh n x = true) (hy : sh n y = true) : ∃ b, bEqN neg x y = some (.bl (neg ^^ b)) ∧ (b = true ↔ x = y) := by
  cases e : eqS neg x y with
  | some z =>
    obtain ⟨b, rfl, h⟩ := eqS_iff e
    exact ⟨b, by unfold bEqN; rw [e]; rfl, h⟩
  | none =>
    refine ⟨PyData.eqv (toP x) (toP y), ?_, eqv_iff n x y hx hy⟩
    unfold bEqN
    rw [e]
    show eqP neg x y = _
    unfold eqP
    rw [(sh_py n x hx).1, (sh_py n y hy).1]
    exact if_pos ⟨shaped_of hn hx, shaped_of hn hy⟩
theorem name_ok {z : Str} (h : NameOk z) : PyData.strOk z = true := by
  unfold PyData.strOk
  rw [← Array.all_toList, List.all_eq_true]
  intro c hc
  have := h.2.2 c hc
  unfold Low at this
  exact decide_eq_true (by omega)
end DL
namespace DL
open PySem PySem.Spec PyProof.Rows L2 RK
abbrev Win := Str × R
def wk (w : Win) : Key × D := (Sum.inr w.1, rectD w.2)
def nms (ws : List Win) : List Str := ws.map (·.1)
structure WOk (ws : List Win) : Prop where
  nd : (nms ws).Nodup
  nm : ∀ w ∈ ws, NameOk w.1
  gd : ∀ w ∈ ws, w.2.good
theorem WOk.perm {ws us : List Win} (h : WOk ws) (p : us.Perm ws) : WOk us := ⟨(p.map _).nodup_iff.mpr h.nd, fun w hw => h.nm w (p.mem_iff.mp hw), fun w hw => h.gd w (p.mem_iff.mp hw)⟩
theorem perm_str {ys : List D} {zs : List Str} (h : ys.Perm (zs.map D.str)) : ∃ us : List Str, ys = us.map D.str ∧ us.Perm zs := by
  have key : ∀ (ys : List D), (∀ y ∈ ys, ∃ z, y = D.str z) → ∃ us : List Str, ys = us.map D.str := by
    intro ys
    induction ys with
    | nil => intro _; exact ⟨[], rfl⟩
    | cons y ys ih =>
      intro h
      obtain ⟨z, rfl⟩ := h y List.mem_cons_self
      obtain ⟨us, rfl⟩ := ih fun w hw => h w (List.mem_cons_of_mem _ hw)
      exact ⟨z :: us, rfl⟩
  obtain ⟨us, rfl⟩ := key ys fun y hy => by
    obtain ⟨z, _, e⟩ := List.mem_map.mp (h.mem_iff.mp hy)
    exact ⟨z, e.symm⟩
  refine ⟨us, rfl, ?_⟩
  have h2 := h.map fun d => match d with | D.str z => z | _ => Str.empty
  rw [List.map_map, List.map_map] at h2
  have e : ((fun d => match d with | D.str z => z | _ => Str.empty) ∘ D.str) = id := rfl
  rw [e, List.map_id, List.map_id] at h2
  exact h2
end DL
namespace DL
open PySem PySem.Spec PyProof.Rows L2 RK
instance (p : R) : Decidable p.good := by unfold R.good; infer_instance
instance (p : R) (x y : Int) : Decidable (p.has x y) := by unfold R.has; infer_instance
instance (c : Nat) : Decidable (Low c) := by unfold Low; infer_instance
instance (z : Str) : Decidable (NameOk z) := by unfold NameOk; infer_instance
end DL
namespace DL
open PySem PySem.Spec PyProof.Rows L2 RK
def look (us : List Win) (z : Str) : Option R := (us.find? fun w => decide (w.1 = z)).map (·.2)
theorem any_str (zs : List Str) (n : Str) : ((zs.map D.str).any fun y => eqF y (.str n)) = decide (n ∈ zs) := by
  induction zs with
  | nil => rfl
  | cons z zs ih =>
    rw [List.map_cons, List.any_cons, ih]
    show ((z == n) || decide (n ∈ zs)) = _
    by_cases h : z = n
    · subst h
      simp
    · have : (z == n) = false := beq_eq_false_iff_ne.mpr h
      rw [this, Bool.false_or]
      exact decide_eq_decide.mpr ⟨fun h => List.mem_cons_of_mem _ h, fun h2 => (List.mem_cons.mp h2).elim (fun e => (h e.symm).elim) id⟩
theorem leaf_strs (zs : List Str) : (zs.map D.str).all D.leaf = true := by
  rw [List.all_eq_true]
  intro d hd
  obtain ⟨z, _, rfl⟩ := List.mem_map.mp hd
  rfl
def IsSeq (d : D) (zs : List Str) : Prop := d = .lst (zs.map D.str) ∨ d = .tup (zs.map D.str)
theorem bIn_strs {neg : Bool} {d : D} {zs : List Str} (h : IsSeq d zs) (n : Str) : bIn neg (.str n) d = some (.bl (neg ^^ decide (n ∈ zs))) := by
  rcases h with rfl | rfl
  · show ((if D.leaf (.str n) = true ∧ (zs.map D.str).all D.leaf = true then some (D.bl (neg ^^ (zs.map D.str).any fun y => eqF y (.str n))) else none)).or _ = _
    rw [if_pos ⟨rfl, leaf_strs zs⟩, any_str]
    rfl
  · show ((if D.leaf (.str n) = true ∧ (zs.map D.str).all D.leaf = true then some (D.bl (neg ^^ (zs.map D.str).any fun y => eqF y (.str n))) else none)).or _ = _
    rw [if_pos ⟨rfl, leaf_strs zs⟩, any_str]
    rfl
def SortW (us : List Win) : Prop := (nms us).Pairwise leS
end DL
namespace DL
open PySem PySem.Spec PyProof.Rows L2 RK
theorem ln_of {ds : List D} {P : D → Prop} (h : sp_of ds P) : ds.length = 2 := by
  rcases h with ⟨xs, h | h, _⟩ | ⟨z, h, _⟩ <;> (subst h; rfl)
theorem ln_mixed {ds : List D} {P : D → Prop} (h : sp_mixed ds P) : ds.length = 2 := by
  rcases h with ⟨xs, h | h, _⟩ <;> (subst h; rfl)
theorem ln_names {ds : List D} {P : D → Prop} (h : sp_names ds P) : ds.length = 2 := by obtain ⟨_, rfl, _⟩ := h; rfl
end DL
namespace DL
open PySem PySem.Spec PyProof.Rows L2 RK
def mx (i j : Int) : Int := if j > i then j else i
def mn (i j : Int) : Int := if j < i then j else i
def meetB (p q : R) : Bool := decide (mx p.l q.l < mn p.r q.r) && decide (mx p.t q.t < mn p.b q.b)
def ovl (us : List Win) (a b : Str) : Bool := match look us a, look us b with | some p, some q => meetB p q | _, _ => false
def prs (ov : Str → Str → Bool) : List Str → List SP
  | [] => []
  | n :: r => (r.filter (ov n)).map (fun m => (n, m)) ++ prs ov r
def ltS (a b : Str) : Bool := decide (a.cps.toList < b.cps.toList)
theorem bAdd_l {xs ys : List D} (h : xs.length + ys.length ≤ 1000000) : bAdd (.lst xs) (.lst ys) = some (.lst (xs ++ ys)) := by
  show (none : Option D).or ((none : Option D).or (if xs.length + ys.length ≤ sizeLine then some (.lst (xs ++ ys)) else none)) = _
  rw [if_pos (Nat.le_of_lt (szM h))]
  rfl
def ixS : List Str → Str → Nat
  | [], _ => 0
  | y :: r, z => if y = z then 0 else ixS r z + 1
theorem index_ixS : ∀ (zs : List Str) (z : Str), z ∈ zs → indexOf (zs.map D.str) (.str z) = some (ixS zs z)
  | [], _, h => by cases h
  | y :: r, z, h => by
    unfold indexOf
    rw [List.map_cons, List.findIdx?_cons]
    have e : eqF (.str y) (.str z) = (y == z) := rfl
    rw [e, ixS]
    by_cases hz : y = z
    · rw [if_pos hz, if_pos (beq_iff_eq.mpr hz)]
    · have hz2 : ¬ ((y == z) = true) := fun q => hz (beq_iff_eq.mp q)
      rw [if_neg hz, if_neg hz2]
      have := index_ixS r z ((List.mem_cons.mp h).resolve_left fun e => hz e.symm)
      unfold indexOf at this
      rw [this]
      rfl
end DL
namespace DL
open PySem PySem.Spec PyProof.Rows L2 RK
def keysOf (kds : List (Key × D)) : List Key := kds.map (·.1)
theorem has_key (kds : List (Key × D)) (z : Key) : (valD kds z).isSome = true ↔ z ∈ keysOf kds := by
  unfold valD keysOf
  rw [Option.isSome_map, List.find?_isSome]
  constructor
  · rintro ⟨q, hq, e⟩
    rw [← of_decide_eq_true e]
    exact List.mem_map.mpr ⟨q, hq, rfl⟩
  · intro h
    obtain ⟨q, hq, e⟩ := List.mem_map.mp h
    exact ⟨q, hq, decide_eq_true e⟩
theorem keys_put (kds : List (Key × D)) (k : Key) (y : D) (z : Key) : z ∈ keysOf (putD kds k y) ↔ z ∈ keysOf kds ∨ z = k := by
  unfold putD
  by_cases h : (kds.any fun kd => decide (kd.1 = k)) = true
  · rw [if_pos h]
    have e : keysOf (kds.map fun kv => if kv.1 = k then (kv.1, y) else kv) = keysOf kds := by
      unfold keysOf
      rw [List.map_map]
      refine List.map_congr_left fun q _ => ?_
      show (if q.1 = k then (q.1, y) else q).1 = q.1
      by_cases g : q.1 = k
      · rw [if_pos g]
      · rw [if_neg g]
    rw [e]
    refine ⟨.inl, fun g => g.elim id fun g => ?_⟩
    obtain ⟨q, hq, e2⟩ := List.any_eq_true.mp h
    rw [g, ← of_decide_eq_true e2]
    exact List.mem_map.mpr ⟨q, hq, rfl⟩
  · rw [if_neg h]
    unfold keysOf
    rw [List.map_append, List.mem_append]
    simp
theorem put_len (kds : List (Key × D)) (k : Key) (y : D) : (putD kds k y).length ≤ kds.length + 1 := by
  unfold putD
  by_cases h : (kds.any fun kd => decide (kd.1 = k)) = true
  · rw [if_pos h, List.length_map]; omega
  · rw [if_neg h]; simp
theorem dcomp_keys {α : Type} {g : TDG} {tt : TDT} {tk tv : TDE} {P : D → Prop} {env : De} (enc : α → D) (key : α → Key) (v : D) : ∀ (l : List α) (acc : List (Key × D)), (∀ a ∈ l, ∀ (Q : Key → D → Prop) (Z : Prop), Q (key a) v → g (enc a) env fun env' => tt env' fun b => if b = true then tk env' fun k => tv env' fun y => ob (keyD k) fun k => Q k y else Z) →
    acc.length + l.length ≤ 1000000 → (∀ kds : List (Key × D), (∀ z, z ∈ keysOf kds ↔ z ∈ keysOf acc ∨ z ∈ l.map key) → P (.dic kds)) → dDcomp g tt tk tv P env (l.map enc) acc
  | [], acc, _, _, q => q acc fun z => by simp
  | a :: l, acc, h, hl, q => by
    refine h a List.mem_cons_self (fun k y => acc.length < sizeLine ∧ dDcomp g tt tk tv P env (l.map enc) (putD acc k y)) _ ⟨szM (by simp at hl; omega), ?_⟩
    refine dcomp_keys enc key v l _ (fun b hb => h b (List.mem_cons_of_mem _ hb)) (by have := put_len acc (key a) v; simp at hl; omega) fun kds hk => q kds fun z => ?_
    rw [hk, keys_put, List.map_cons, List.mem_cons]
    constructor
    · rintro ((h | h) | h)
      · exact .inl h
      · exact .inr (.inl h)
      · exact .inr (.inr h)
    · rintro (h | h | h)
      · exact .inl (.inl h)
      · exact .inl (.inr h)
      · exact .inr h
def Knows (kds : List (Key × D)) (p : Str → Prop) : Prop := ∀ z : Str, (Sum.inr z : Key) ∈ keysOf kds ↔ p z
theorem bIn_kn {neg : Bool} {kds : List (Key × D)} {p : Str → Prop} [DecidablePred p] (h : Knows kds p) (z : Str) : bIn neg (.str z) (.dic kds) = some (.bl (neg ^^ decide (p z))) := by
  show (none : Option D).or ((some (D.bl (neg ^^ (valD kds (Sum.inr z : Key)).isSome))).or _) = _
  have e : (valD kds (Sum.inr z : Key)).isSome = decide (p z) := by
    rw [Bool.eq_iff_iff, has_key, h z, decide_eq_true_iff]
  rw [e]
  rfl
theorem enu_zipG {α : Type} (enc : α → D) : ∀ (l : List α) (k : Nat), enuD k (l.map enc) = (l.zipIdx k).map fun p => .tup [.int ((p.2 : Nat) : Int), enc p.1]
  | [], _ => rfl
  | z :: zs, k => by rw [List.map_cons, enuD, enu_zipG enc zs (k + 1), List.zipIdx_cons, List.map_cons]
end DL
namespace DL
open PySem PySem.Spec PyProof.Rows L2 RK
inductive Sc where
  | mv (up : Bool) (ns : List Str)
  | pl (n : Str) (r : R)
  | rp (c : Int) (ss : List Sc)
def Sc.word : Sc → Str
  | .mv true _ => "raise"
  | .mv false _ => "lower"
  | .pl _ _ => "place"
  | .rp _ _ => "repeat"
mutual
def Sc.d : Sc → D
  | .mv true ns => .tup [.str "raise", .lst (ns.map D.str)]
  | .mv false ns => .tup [.str "lower", .lst (ns.map D.str)]
  | .pl n r => .tup [.str "place", .str n, rectD r]
  | .rp c ss => .tup [.str "repeat", .int c, .lst (Sc.ds ss)]
def Sc.ds : List Sc → List D
  | [] => []
  | s :: ss => s.d :: Sc.ds ss
end
theorem Sc.items (s : Sc) : ∃ xs, s.d = .tup (.str s.word :: xs) := by
  cases s with
  | mv up ns => cases up <;> exact ⟨_, by rw [Sc.d]; rfl⟩
  | pl n r => exact ⟨_, by rw [Sc.d]; rfl⟩
  | rp c ss => exact ⟨_, by rw [Sc.d]; rfl⟩
def Sc.isRp : Sc → Bool
  | .rp _ _ => true
  | _ => false
end DL
namespace DL
open PySem PySem.Spec PyProof.Rows L2 RK
inductive Dp : Nat → Sc → Prop
  | mv {n : Nat} {up : Bool} {ns : List Str} : Dp n (.mv up ns)
  | pl {n : Nat} {x : Str} {r : R} : Dp n (.pl x r)
  | rp {n : Nat} {c : Int} {ss : List Sc} : (∀ s ∈ ss, Dp n s) → Dp (n + 1) (.rp c ss)
theorem Dp.up {n : Nat} {s : Sc} (h : Dp n s) : Dp (n + 1) s := by
  induction h with
  | mv => exact .mv
  | pl => exact .pl
  | rp _ ih => exact .rp ih
mutual
def Sc.sz : Sc → Nat
  | .mv _ _ => 1
  | .pl _ _ => 1
  | .rp _ ss => 1 + Sc.szs ss
def Sc.szs : List Sc → Nat
  | [] => 0
  | s :: ss => s.sz + Sc.szs ss
end
end DL
namespace DL
open PySem PySem.Spec PyProof.Rows L2 RK
def RtM (nm ns : List Str) : Prop := ns ≠ [] ∧ ns.Nodup ∧ (∀ n ∈ ns, n ∈ nm) ∧ ns.length ≤ 1000
inductive Rt (nm : List Str) : Sc → Prop
  | mv {up : Bool} {ns : List Str} : RtM nm ns → Rt nm (.mv up ns)
  | pl {n : Str} {r : R} : n ∈ nm → r.good → Rt nm (.pl n r)
  | rp {c : Int} {ss : List Sc} : 0 ≤ c → c ≤ 1000000000000000000 → ss.length ≤ 100000 → (∀ s ∈ ss, Rt nm s) → Rt nm (.rp c ss)
end DL
namespace DL
open PySem PySem.Spec PyProof.Rows L2 RK
mutual
def Sc.fl : Sc → List Sc
  | .mv up ns => [.mv up ns]
  | .pl n r => [.pl n r]
  | .rp c ss => if c = 0 then [] else Sc.fls ss
def Sc.fls : List Sc → List Sc
  | [] => []
  | s :: ss => s.fl ++ Sc.fls ss
end
mutual
theorem fl_len : ∀ s : Sc, s.fl.length ≤ s.sz
  | .mv up ns => by rw [Sc.fl, Sc.sz]; exact Nat.le_refl _
  | .pl n r => by rw [Sc.fl, Sc.sz]; exact Nat.le_refl _
  | .rp c ss => by
    rw [Sc.fl, Sc.sz]
    have := fls_len ss
    split
    · simp
    · omega
theorem fls_len : ∀ ss : List Sc, (Sc.fls ss).length ≤ Sc.szs ss
  | [] => by rw [Sc.fls, Sc.szs]; exact Nat.le_refl _
  | s :: ss => by
    rw [Sc.fls, Sc.szs, List.length_append]
    have := fl_len s
    have := fls_len ss
    omega
end
end DL
namespace DL
open PySem PySem.Spec PyProof.Rows L2 RK
def plW (us : List Win) (n : Str) (r : R) : List Win := us.map fun w => if w.1 = n then (n, r) else w
theorem nms_pl (us : List Win) (n : Str) (r : R) : nms (plW us n r) = nms us := by
  unfold nms plW
  rw [List.map_map]
  refine List.map_congr_left fun w _ => ?_
  show (if w.1 = n then (n, r) else w).1 = w.1
  by_cases h : w.1 = n
  · rw [if_pos h]; exact h.symm
  · rw [if_neg h]
theorem pl_ok {us : List Win} (W : WOk us) {n : Str} {r : R} (g : r.good) (hn : n ∈ nms us) : WOk (plW us n r) := by
  refine ⟨by rw [nms_pl]; exact W.nd, fun w hw => ?_, fun w hw => ?_⟩
  · obtain ⟨v, hv, rfl⟩ := List.mem_map.mp hw
    by_cases h : v.1 = n
    · rw [if_pos h]; rw [← h]; exact W.nm v hv
    · rw [if_neg h]; exact W.nm v hv
  · obtain ⟨v, hv, rfl⟩ := List.mem_map.mp hw
    by_cases h : v.1 = n
    · rw [if_pos h]; exact g
    · rw [if_neg h]; exact W.gd v hv
structure DkOk (us : List Win) : Prop where
  w : WOk us
  s : SortW us
  l1 : 1 ≤ us.length
  l2 : us.length ≤ 24
theorem DkOk.pl {us : List Win} (h : DkOk us) {n : Str} {r : R} (g : r.good) (hn : n ∈ nms us) : DkOk (plW us n r) :=
  ⟨pl_ok h.w g hn, by unfold SortW; rw [nms_pl]; exact h.s, by unfold plW; rw [List.length_map]; exact h.l1, by unfold plW; rw [List.length_map]; exact h.l2⟩
def stW (us : List Win) : Sc → List Win
  | .pl n r => plW us n r
  | _ => us
def aftW (us : List Win) (ps : List Sc) : List Win := ps.foldl stW us
def Plain (nm : List Str) (ps : List Sc) : Prop := ∀ s ∈ ps, s.isRp = false ∧ Rt nm s
theorem DkOk.st {us : List Win} (h : DkOk us) {s : Sc} (hp : s.isRp = false ∧ Rt (nms us) s) : DkOk (stW us s) := by
  obtain ⟨h1, h2⟩ := hp
  cases h2 with
  | mv _ => exact h
  | pl hn g => exact h.pl g hn
  | rp _ _ _ _ => cases h1
end DL
namespace DL
open PySem PySem.Spec PyProof.Rows L2 RK
structure WNm (ws : List Win) : Prop where
  nd : (nms ws).Nodup
  nm : ∀ w ∈ ws, NameOk w.1
  l1 : 1 ≤ ws.length
  l2 : ws.length ≤ 24
end DL
namespace DL
open PySem PySem.Spec PyProof.Rows L2 RK
def sp_is_pairW : DSp := fun ds P => ∃ (kds : List (Key × D)) (zs : List Str) (p : SP), ds = [.dic kds, pairD p] ∧ Knows kds (· ∈ zs) ∧ PyData.strOk p.1 = true ∧ PyData.strOk p.2 = true ∧ P (.bl (decide (p.1 ∈ zs ∧ p.2 ∈ zs ∧ p.1 ≠ p.2)))
def d_is_pairW : TDS := (sSeq (sIf (dOrT (dNotT (dT (dIs "tuple" (dV 1)))) (dT (dO2 (bEqN true) (dCa lenD (aCons (dV 1) aNil)) (dC (.int 2))))) (sRet (dC (.bl false))) sNil)
  (sRet (dAndV (dCa allD (aCons (dLc (iSeq (dV 1)) (gNm 2) tYesD (dAndV (dIs "str" (dV 2)) (dO2 (bIn false) (dV 2) (dV 0))) [2]) aNil)) (dO2 (bEqN true) (dO2 bIx (dV 1) (dC (.int 0))) (dO2 bIx (dV 1) (dC (.int 1)))))))
theorem ln_is_pairW {ds : List D} {P : D → Prop} (h : sp_is_pairW ds P) : ds.length = 2 := by obtain ⟨_, _, _, rfl, _⟩ := h; rfl
theorem rd_is_pairW {ds : List D} {P : D → Prop} (h : sp_is_pairW ds P) : d_is_pairW (fin false P) (st 3 ds) := by
  obtain ⟨kds, zs, p, rfl, hk, n1, n2, q⟩ := h
  have i1 := bIn_kn (neg := false) hk p.1
  have i2 := bIn_kn (neg := false) hk p.2
  simp only [Bool.false_xor] at i1 i2
  have en : bEqN true (.str p.1) (.str p.2) = some (.bl (decide (p.1 ≠ p.2))) := by
    obtain ⟨b, e, hb⟩ := beq_iff (neg := true) (n := 0) (x := .str p.1) (y := .str p.2) (by decide) n1 n2
    rw [e]
    cases b with
    | true => simp [D.str.inj (hb.mp rfl)]
    | false =>
      have ne : p.1 ≠ p.2 := fun z => absurd (hb.mpr (congrArg D.str z)) (by decide)
      simp [ne]
  have t1 : isD "tuple" (.tup [.str p.1, .str p.2]) = some true := rfl
  have t2 : ∀ x : Str, isD "str" (.str x) = some true := fun _ => rfl
  have l2 : lenD [.tup [.str p.1, .str p.2]] = some (.int 2) := rfl
  have e2 : bEqN true (.int 2) (.int 2) = some (.bl false) := rfl
  have x0 : bIx (.tup [.str p.1, .str p.2]) (.int 0) = some (.str p.1) := rfl
  have x1 : bIx (.tup [.str p.1, .str p.2]) (.int 1) = some (.str p.2) := rfl
  simp only [d_is_pairW, dC, dV, dB, dO2, ob_some, dT, dAndT, dOrT, dNotT, dIf, dAndV, dOrV, dNotV, dChain, aNil, aCons, dTup, dLst, dCut, oNone, oSome, dRev, dNeg, dTru, dCa, dIs, dIsA, dCall, dCallK, sNil, sSeq, sNever, sBrk, sCont, sIf, sRet, sRetO, sRetE, sSet, sSetO, sDrop, sPar, sPar3, kn, enOf, owD, sAsg, gNm, gsNil, gsCons, gTp, sApp, sIns, sExt, sClr, sRev, sPut, sFrz, owAt, fin, st, iRng, iRngB, iSeq, lstD, tupD, sFor, dLc, dDc, wipeE, tYesD, dIndex, dSort, dDictZip, dMeth, dFld, dMk, List.map_cons, List.map_nil, List.length_cons, List.length_nil, List.replicate_succ, List.replicate_zero, List.cons_append, List.nil_append, List.append_nil, List.getElem?_cons_zero, List.getElem?_cons_succ, List.set_cons_zero, List.set_cons_succ, Option.bind_some, Option.map_some, Nat.reduceSub, Nat.reduceAdd, kwP, List.getD_cons_zero, List.getD_cons_succ, pairD, t1, l2, e2, Bool.not_true, Bool.false_eq_true, if_false]
  refine .inr (.inl ?_)
  refine comp_map D.str (fun z => D.bl (decide (z ∈ zs))) [p.1, p.2] [] (fun z hz Q Z hQ => ?_) (by simp) ?_
  · have iz : bIn false (.str z) (.dic kds) = some (.bl (decide (z ∈ zs))) := by
      simp only [List.mem_cons, List.not_mem_nil, or_false] at hz
      rcases hz with rfl | rfl
      · exact i1
      · exact i2
    simp only [dC, dV, dB, dO2, ob_some, dT, dAndT, dOrT, dNotT, dIf, dAndV, dOrV, dNotV, dChain, aNil, aCons, dTup, dLst, dCut, oNone, oSome, dRev, dNeg, dTru, dCa, dIs, dIsA, dCall, dCallK, sNil, sSeq, sNever, sBrk, sCont, sIf, sRet, sRetO, sRetE, sSet, sSetO, sDrop, sPar, sPar3, kn, enOf, owD, sAsg, gNm, gsNil, gsCons, gTp, sApp, sIns, sExt, sClr, sRev, sPut, sFrz, owAt, fin, st, iRng, iRngB, iSeq, lstD, tupD, sFor, dLc, dDc, wipeE, tYesD, dIndex, dSort, dDictZip, dMeth, dFld, dMk, List.map_cons, List.map_nil, List.length_cons, List.length_nil, List.replicate_succ, List.replicate_zero, List.cons_append, List.nil_append, List.append_nil, List.getElem?_cons_zero, List.getElem?_cons_succ, List.set_cons_zero, List.set_cons_succ, Option.bind_some, Option.map_some, Nat.reduceSub, Nat.reduceAdd, kwP, List.getD_cons_zero, List.getD_cons_succ, t2, iz, if_true]
    exact hQ
  · have ea : allD [.lst ([] ++ [p.1, p.2].map fun z => D.bl (decide (z ∈ zs)))] = some (.bl (decide (p.1 ∈ zs) && decide (p.2 ∈ zs))) := by
      by_cases h1 : p.1 ∈ zs <;> by_cases h2 : p.2 ∈ zs <;> simp [h1, h2] <;> rfl
    simp only [ea, ob_some, x0, x1, en]
    by_cases h1 : p.1 ∈ zs <;> by_cases h2 : p.2 ∈ zs <;> by_cases h3 : p.1 = p.2 <;> simp [h1, h2, h3] at q ⊢ <;> exact q
def gdW (zs : List Str) (p : SP) : Prop := p.1 ∈ zs ∧ p.2 ∈ zs ∧ p.1 ≠ p.2
def WBad (zs : List Str) (ps : List SP) (k : Nat) : Prop := zs.length ≤ 100000 ∧ ps.length ≤ 100000 ∧ (∀ p ∈ ps, PyData.strOk p.1 = true ∧ PyData.strOk p.2 = true) ∧ ∃ pre p post, ps = pre ++ p :: post ∧ pre.length = k ∧ (∀ q ∈ pre, gdW zs q) ∧ ¬ gdW zs p
def spxW (c : Cls) (m : Nat) : DSpX := fun ds P PX => ∃ (zs : List Str) (ps : List SP) (k : Nat) (rest : List D), ds = .lst (zs.map D.str) :: .lst (ps.map pairD) :: rest ∧ rest.length = m ∧ WBad zs ps k ∧ PX ⟨c.BadWish, "BadWish", some ("at", .int ((k : Nat) : Int))⟩
abbrev spx_check_wish (c : Cls) : DSpX := spxW c 0
theorem lnx_check_wish {c : Cls} {ds : List D} {P : D → Prop} {PX : Er → Prop} (h : spx_check_wish c ds P PX) : ds.length = 2 := by obtain ⟨_, _, _, r, rfl, h, _⟩ := h; simp [h]
def dx_check_wish (c : Cls) (PX : Er → Prop) : TDS := (sSeq (sSet 2 (dDc (iSeq (dV 0)) (gNm 5) tYesD (dV 5) (dC (.bl true)) [5]))
  (sFor (iEnu (dV 1)) (gTp 2 (gsCons (gNm 3) (gsCons (gNm 4) gsNil))) (sIf (dNotT (dT (dCall sp_is_pairW (aCons (dV 2) (aCons (dV 4) aNil))))) (sRaiseI PX c.BadWish "BadWish" "at" (dV 3)) sNil)))
theorem rdx_check_wish {c : Cls} {ds : List D} {P : D → Prop} {PX : Er → Prop} (h : spx_check_wish c ds P PX) : dx_check_wish c PX (fin false P) (st 6 ds) := by
  obtain ⟨zs, ps, k, rest, rfl, hr, ⟨lz, lp, ok, pre, p, post, rfl, hk, hg, hb⟩, px⟩ := h
  have lk : k ≤ 100000 := by
    rw [← hk]
    simp only [List.length_append, List.length_cons] at lp
    omega
  cases rest with
  | cons _ _ => cases hr
  | nil =>
  simp only [dx_check_wish, dC, dV, dB, dO2, ob_some, dT, dAndT, dOrT, dNotT, dIf, dAndV, dOrV, dNotV, dChain, aNil, aCons, dTup, dLst, dCut, oNone, oSome, dRev, dNeg, dTru, dCa, dIs, dIsA, dCall, dCallK, sNil, sSeq, sNever, sBrk, sCont, sIf, sRet, sRetO, sRetE, sSet, sSetO, sDrop, sPar, sPar3, kn, enOf, owD, sAsg, gNm, gsNil, gsCons, gTp, sApp, sIns, sExt, sClr, sRev, sPut, sFrz, owAt, fin, st, iRng, iRngB, iSeq, lstD, tupD, sFor, dLc, dDc, wipeE, tYesD, dIndex, dSort, dDictZip, dMeth, dFld, dMk, List.map_cons, List.map_nil, List.length_cons, List.length_nil, List.replicate_succ, List.replicate_zero, List.cons_append, List.nil_append, List.append_nil, List.getElem?_cons_zero, List.getElem?_cons_succ, List.set_cons_zero, List.set_cons_succ, Option.bind_some, Option.map_some, Nat.reduceSub, Nat.reduceAdd, kwP, List.getD_cons_zero, List.getD_cons_succ, iEnu]
  refine .inl ?_
  refine dcomp_keys D.str Sum.inr (.bl true) zs [] (fun z hz Q Z hQ => ?_) (by simp; omega) (fun kds hkd => ?_)
  · simp only [dC, dV, dB, dO2, ob_some, dT, dAndT, dOrT, dNotT, dIf, dAndV, dOrV, dNotV, dChain, aNil, aCons, dTup, dLst, dCut, oNone, oSome, dRev, dNeg, dTru, dCa, dIs, dIsA, dCall, dCallK, sNil, sSeq, sNever, sBrk, sCont, sIf, sRet, sRetO, sRetE, sSet, sSetO, sDrop, sPar, sPar3, kn, enOf, owD, sAsg, gNm, gsNil, gsCons, gTp, sApp, sIns, sExt, sClr, sRev, sPut, sFrz, owAt, fin, st, iRng, iRngB, iSeq, lstD, tupD, sFor, dLc, dDc, wipeE, tYesD, dIndex, dSort, dDictZip, dMeth, dFld, dMk, List.map_cons, List.map_nil, List.length_cons, List.length_nil, List.replicate_succ, List.replicate_zero, List.cons_append, List.nil_append, List.append_nil, List.getElem?_cons_zero, List.getElem?_cons_succ, List.set_cons_zero, List.set_cons_succ, Option.bind_some, Option.map_some, Nat.reduceSub, Nat.reduceAdd, kwP, List.getD_cons_zero, List.getD_cons_succ, keyD, if_true]
    exact hQ
  · have kn : Knows kds (· ∈ zs) := fun z => by
      rw [hkd]
      constructor
      · rintro (h | h)
        · cases h
        · obtain ⟨y, hy, e⟩ := List.mem_map.mp h
          rw [← Sum.inr.inj e]
          exact hy
      · exact fun h => .inr (List.mem_map.mpr ⟨z, h, rfl⟩)
    refine .inl ?_
    rw [enu_zipG]
    have go : ∀ (PP : DEnds) (pre : List SP) (j : Nat) (e1 e3 e4 e5 : En), j + pre.length = k → (∀ q ∈ pre, gdW zs q) → (∀ q ∈ pre ++ p :: post, PyData.strOk q.1 = true ∧ PyData.strOk q.2 = true) →
        sLoop (gTp 2 (gsCons (gNm 3) (gsCons (gNm 4) gsNil))) (sIf (dNotT (dT (dCall sp_is_pairW (aCons (dV 2) (aCons (dV 4) aNil))))) (sRaiseI PX c.BadWish "BadWish" "at" (dV 3)) sNil) PP (((pre ++ p :: post).zipIdx j).map fun r => .tup [.int ((r.2 : Nat) : Int), pairD r.1])
          [.fz (.lst (zs.map D.str)), e1, .fz (.dic kds), e3, e4, e5] := by
      intro PP pre
      induction pre with
      | nil =>
        intro j e1 e3 e4 e5 hj _ ok2
        obtain ⟨o1, o2⟩ := ok2 p (by simp)
        show sLoop _ _ _ (_ :: _) _
        rw [sLoop]
        simp only [dC, dV, dB, dO2, ob_some, dT, dAndT, dOrT, dNotT, dIf, dAndV, dOrV, dNotV, dChain, aNil, aCons, dTup, dLst, dCut, oNone, oSome, dRev, dNeg, dTru, dCa, dIs, dIsA, dCall, dCallK, sNil, sSeq, sNever, sBrk, sCont, sIf, sRet, sRetO, sRetE, sSet, sSetO, sDrop, sPar, sPar3, kn, enOf, owD, sAsg, gNm, gsNil, gsCons, gTp, sApp, sIns, sExt, sClr, sRev, sPut, sFrz, owAt, fin, st, iRng, iRngB, iSeq, lstD, tupD, sFor, dLc, dDc, wipeE, tYesD, dIndex, dSort, dDictZip, dMeth, dFld, dMk, List.map_cons, List.map_nil, List.length_cons, List.length_nil, List.replicate_succ, List.replicate_zero, List.cons_append, List.nil_append, List.append_nil, List.getElem?_cons_zero, List.getElem?_cons_succ, List.set_cons_zero, List.set_cons_succ, Option.bind_some, Option.map_some, Nat.reduceSub, Nat.reduceAdd, kwP, List.getD_cons_zero, List.getD_cons_succ]
        refine ⟨trivial, trivial, kds, zs, p, rfl, kn, o1, o2, ?_⟩
        have hb2 : decide (p.1 ∈ zs ∧ p.2 ∈ zs ∧ p.1 ≠ p.2) = false := decide_eq_false hb
        rw [hb2]
        simp only [Bool.not_false, if_true, sRaiseI, dC, dV, dB, dO2, ob_some, dT, dAndT, dOrT, dNotT, dIf, dAndV, dOrV, dNotV, dChain, aNil, aCons, dTup, dLst, dCut, oNone, oSome, dRev, dNeg, dTru, dCa, dIs, dIsA, dCall, dCallK, sNil, sSeq, sNever, sBrk, sCont, sIf, sRet, sRetO, sRetE, sSet, sSetO, sDrop, sPar, sPar3, kn, enOf, owD, sAsg, gNm, gsNil, gsCons, gTp, sApp, sIns, sExt, sClr, sRev, sPut, sFrz, owAt, fin, st, iRng, iRngB, iSeq, lstD, tupD, sFor, dLc, dDc, wipeE, tYesD, dIndex, dSort, dDictZip, dMeth, dFld, dMk, List.map_cons, List.map_nil, List.length_cons, List.length_nil, List.replicate_succ, List.replicate_zero, List.cons_append, List.nil_append, List.append_nil, List.getElem?_cons_zero, List.getElem?_cons_succ, List.set_cons_zero, List.set_cons_succ, Option.bind_some, Option.map_some, Nat.reduceSub, Nat.reduceAdd, kwP, List.getD_cons_zero, List.getD_cons_succ]
        have ej : j = k := by simpa using hj
        subst ej
        exact ⟨by rw [Int.natAbs_natCast]; exact Nat.lt_of_le_of_lt lk (by decide +kernel), px⟩
      | cons q pre ih =>
        intro j e1 e3 e4 e5 hj hg2 ok2
        obtain ⟨o1, o2⟩ := ok2 q (by simp)
        have hq2 : decide (q.1 ∈ zs ∧ q.2 ∈ zs ∧ q.1 ≠ q.2) = true := decide_eq_true (hg2 q List.mem_cons_self)
        show sLoop _ _ _ (_ :: _) _
        rw [sLoop]
        simp only [dC, dV, dB, dO2, ob_some, dT, dAndT, dOrT, dNotT, dIf, dAndV, dOrV, dNotV, dChain, aNil, aCons, dTup, dLst, dCut, oNone, oSome, dRev, dNeg, dTru, dCa, dIs, dIsA, dCall, dCallK, sNil, sSeq, sNever, sBrk, sCont, sIf, sRet, sRetO, sRetE, sSet, sSetO, sDrop, sPar, sPar3, kn, enOf, owD, sAsg, gNm, gsNil, gsCons, gTp, sApp, sIns, sExt, sClr, sRev, sPut, sFrz, owAt, fin, st, iRng, iRngB, iSeq, lstD, tupD, sFor, dLc, dDc, wipeE, tYesD, dIndex, dSort, dDictZip, dMeth, dFld, dMk, List.map_cons, List.map_nil, List.length_cons, List.length_nil, List.replicate_succ, List.replicate_zero, List.cons_append, List.nil_append, List.append_nil, List.getElem?_cons_zero, List.getElem?_cons_succ, List.set_cons_zero, List.set_cons_succ, Option.bind_some, Option.map_some, Nat.reduceSub, Nat.reduceAdd, kwP, List.getD_cons_zero, List.getD_cons_succ]
        refine ⟨trivial, trivial, kds, zs, q, rfl, kn, o1, o2, ?_⟩
        rw [hq2]
        simp only [Bool.not_true, Bool.false_eq_true, if_false]
        exact ih (j + 1) _ _ _ _ (by simp only [List.length_cons] at hj; omega) (fun x hx => hg2 x (List.mem_cons_of_mem _ hx)) fun x hx => ok2 x (List.mem_cons_of_mem _ hx)
    exact go _ pre 0 _ _ _ _ (by omega) hg ok
abbrev spx_ring (c : Cls) : DSpX := spxW c 0
theorem lnx_ring {c : Cls} {ds : List D} {P : D → Prop} {PX : Er → Prop} (h : spx_ring c ds P PX) : ds.length = 2 := by obtain ⟨_, _, _, r, rfl, h, _⟩ := h; simp [h]
def dx_ring (c : Cls) (PX : Er → Prop) : TDS := (sSeq (sDrop (dCallX (spx_check_wish c) PX (aCons (dV 0) (aCons (dV 1) aNil))))
  sNever)
abbrev spx_is_ring (c : Cls) : DSpX := spxW c 1
theorem lnx_is_ring {c : Cls} {ds : List D} {P : D → Prop} {PX : Er → Prop} (h : spx_is_ring c ds P PX) : ds.length = 3 := by obtain ⟨_, _, _, r, rfl, h, _⟩ := h; simp [h]
def dx_is_ring (c : Cls) (PX : Er → Prop) : TDS := (sSeq (sDrop (dCallX (spx_check_wish c) PX (aCons (dV 0) (aCons (dV 1) aNil))))
  sNever)
abbrev spx_keeps (c : Cls) : DSpX := spxW c 0
theorem lnx_keeps {c : Cls} {ds : List D} {P : D → Prop} {PX : Er → Prop} (h : spx_keeps c ds P PX) : ds.length = 2 := by obtain ⟨_, _, _, r, rfl, h, _⟩ := h; simp [h]
def dx_keeps (c : Cls) (PX : Er → Prop) : TDS := (sSeq (sDrop (dCallX (spx_check_wish c) PX (aCons (dV 0) (aCons (dV 1) aNil))))
  sNever)
abbrev spx_least_keeping (c : Cls) : DSpX := spxW c 0
theorem lnx_least_keeping {c : Cls} {ds : List D} {P : D → Prop} {PX : Er → Prop} (h : spx_least_keeping c ds P PX) : ds.length = 2 := by obtain ⟨_, _, _, r, rfl, h, _⟩ := h; simp [h]
def dx_least_keeping (c : Cls) (PX : Er → Prop) : TDS := (sSeq (sDrop (dCallX (spx_check_wish c) PX (aCons (dV 0) (aCons (dV 1) aNil))))
  sNever)
abbrev spx_group_plan (c : Cls) : DSpX := spxW c 0
theorem lnx_group_plan {c : Cls} {ds : List D} {P : D → Prop} {PX : Er → Prop} (h : spx_group_plan c ds P PX) : ds.length = 2 := by obtain ⟨_, _, _, r, rfl, h, _⟩ := h; simp [h]
def dx_group_plan (c : Cls) (PX : Er → Prop) : TDS := (sSeq (sSet 2 (dCallX (spx_ring c) PX (aCons (dV 0) (aCons (dV 1) aNil))))
  sNever)
abbrev spx_chain_count (c : Cls) : DSpX := spxW c 1
theorem lnx_chain_count {c : Cls} {ds : List D} {P : D → Prop} {PX : Er → Prop} (h : spx_chain_count c ds P PX) : ds.length = 3 := by obtain ⟨_, _, _, r, rfl, h, _⟩ := h; simp [h]
def dx_chain_count (c : Cls) (PX : Er → Prop) : TDS := (sSeq (sDrop (dCallX (spx_check_wish c) PX (aCons (dV 0) (aCons (dV 1) aNil))))
  sNever)
abbrev spx_checked_prices (c : Cls) : DSpX := spxW c 2
theorem lnx_checked_prices {c : Cls} {ds : List D} {P : D → Prop} {PX : Er → Prop} (h : spx_checked_prices c ds P PX) : ds.length = 4 := by obtain ⟨_, _, _, r, rfl, h, _⟩ := h; simp [h]
def dx_checked_prices (c : Cls) (PX : Er → Prop) : TDS := (sSeq (sDrop (dCallX (spx_check_wish c) PX (aCons (dV 0) (aCons (dV 1) aNil))))
  sNever)
abbrev spx_plan (c : Cls) : DSpX := spxW c 2
theorem lnx_plan {c : Cls} {ds : List D} {P : D → Prop} {PX : Er → Prop} (h : spx_plan c ds P PX) : ds.length = 4 := by obtain ⟨_, _, _, r, rfl, h, _⟩ := h; simp [h]
def dx_plan (c : Cls) (PX : Er → Prop) : TDS := (sSeq (sSet 4 (dCallX (spx_checked_prices c) PX (aCons (dV 0) (aCons (dV 1) (aCons (dV 2) (aCons (dV 3) aNil))))))
  sNever)
abbrev spx_is_bundle (c : Cls) : DSpX := spxW c 3
theorem lnx_is_bundle {c : Cls} {ds : List D} {P : D → Prop} {PX : Er → Prop} (h : spx_is_bundle c ds P PX) : ds.length = 5 := by obtain ⟨_, _, _, r, rfl, h, _⟩ := h; simp [h]
def dx_is_bundle (c : Cls) (PX : Er → Prop) : TDS := (sSeq (sSet 5 (dCallX (spx_checked_prices c) PX (aCons (dV 0) (aCons (dV 1) (aCons (dV 3) (aCons (dV 4) aNil))))))
  sNever)
theorem rdx_ring {c : Cls} {ds : List D} {P : D → Prop} {PX : Er → Prop} (h : spx_ring c ds P PX) : dx_ring c PX (fin false P) (st 9 ds) := by
  obtain ⟨zs, ps, k, rest, rfl, hr, wb, px⟩ := h
  match rest, hr with
  | [], _ =>
    simp only [dx_ring, dC, dV, dB, dO2, ob_some, dT, dAndT, dOrT, dNotT, dIf, dAndV, dOrV, dNotV, dChain, aNil, aCons, dTup, dLst, dCut, oNone, oSome, dRev, dNeg, dTru, dCa, dIs, dIsA, dCall, dCallK, sNil, sSeq, sNever, sBrk, sCont, sIf, sRet, sRetO, sRetE, sSet, sSetO, sDrop, sPar, sPar3, kn, enOf, owD, sAsg, gNm, gsNil, gsCons, gTp, sApp, sIns, sExt, sClr, sRev, sPut, sFrz, owAt, fin, st, iRng, iRngB, iSeq, lstD, tupD, sFor, dLc, dDc, wipeE, tYesD, dIndex, dSort, dDictZip, dMeth, dFld, dMk, List.map_cons, List.map_nil, List.length_cons, List.length_nil, List.replicate_succ, List.replicate_zero, List.cons_append, List.nil_append, List.append_nil, List.getElem?_cons_zero, List.getElem?_cons_succ, List.set_cons_zero, List.set_cons_succ, Option.bind_some, Option.map_some, Nat.reduceSub, Nat.reduceAdd, kwP, List.getD_cons_zero, List.getD_cons_succ, dCallX, sNever]
    exact ⟨zs, ps, k, [], rfl, rfl, wb, px⟩
theorem rdx_is_ring {c : Cls} {ds : List D} {P : D → Prop} {PX : Er → Prop} (h : spx_is_ring c ds P PX) : dx_is_ring c PX (fin false P) (st 3 ds) := by
  obtain ⟨zs, ps, k, rest, rfl, hr, wb, px⟩ := h
  match rest, hr with
  | [_], _ =>
    simp only [dx_is_ring, dC, dV, dB, dO2, ob_some, dT, dAndT, dOrT, dNotT, dIf, dAndV, dOrV, dNotV, dChain, aNil, aCons, dTup, dLst, dCut, oNone, oSome, dRev, dNeg, dTru, dCa, dIs, dIsA, dCall, dCallK, sNil, sSeq, sNever, sBrk, sCont, sIf, sRet, sRetO, sRetE, sSet, sSetO, sDrop, sPar, sPar3, kn, enOf, owD, sAsg, gNm, gsNil, gsCons, gTp, sApp, sIns, sExt, sClr, sRev, sPut, sFrz, owAt, fin, st, iRng, iRngB, iSeq, lstD, tupD, sFor, dLc, dDc, wipeE, tYesD, dIndex, dSort, dDictZip, dMeth, dFld, dMk, List.map_cons, List.map_nil, List.length_cons, List.length_nil, List.replicate_succ, List.replicate_zero, List.cons_append, List.nil_append, List.append_nil, List.getElem?_cons_zero, List.getElem?_cons_succ, List.set_cons_zero, List.set_cons_succ, Option.bind_some, Option.map_some, Nat.reduceSub, Nat.reduceAdd, kwP, List.getD_cons_zero, List.getD_cons_succ, dCallX, sNever]
    exact ⟨zs, ps, k, [], rfl, rfl, wb, px⟩
theorem rdx_keeps {c : Cls} {ds : List D} {P : D → Prop} {PX : Er → Prop} (h : spx_keeps c ds P PX) : dx_keeps c PX (fin false P) (st 5 ds) := by
  obtain ⟨zs, ps, k, rest, rfl, hr, wb, px⟩ := h
  match rest, hr with
  | [], _ =>
    simp only [dx_keeps, dC, dV, dB, dO2, ob_some, dT, dAndT, dOrT, dNotT, dIf, dAndV, dOrV, dNotV, dChain, aNil, aCons, dTup, dLst, dCut, oNone, oSome, dRev, dNeg, dTru, dCa, dIs, dIsA, dCall, dCallK, sNil, sSeq, sNever, sBrk, sCont, sIf, sRet, sRetO, sRetE, sSet, sSetO, sDrop, sPar, sPar3, kn, enOf, owD, sAsg, gNm, gsNil, gsCons, gTp, sApp, sIns, sExt, sClr, sRev, sPut, sFrz, owAt, fin, st, iRng, iRngB, iSeq, lstD, tupD, sFor, dLc, dDc, wipeE, tYesD, dIndex, dSort, dDictZip, dMeth, dFld, dMk, List.map_cons, List.map_nil, List.length_cons, List.length_nil, List.replicate_succ, List.replicate_zero, List.cons_append, List.nil_append, List.append_nil, List.getElem?_cons_zero, List.getElem?_cons_succ, List.set_cons_zero, List.set_cons_succ, Option.bind_some, Option.map_some, Nat.reduceSub, Nat.reduceAdd, kwP, List.getD_cons_zero, List.getD_cons_succ, dCallX, sNever]
    exact ⟨zs, ps, k, [], rfl, rfl, wb, px⟩
theorem rdx_least_keeping {c : Cls} {ds : List D} {P : D → Prop} {PX : Er → Prop} (h : spx_least_keeping c ds P PX) : dx_least_keeping c PX (fin false P) (st 3 ds) := by
  obtain ⟨zs, ps, k, rest, rfl, hr, wb, px⟩ := h
  match rest, hr with
  | [], _ =>
    simp only [dx_least_keeping, dC, dV, dB, dO2, ob_some, dT, dAndT, dOrT, dNotT, dIf, dAndV, dOrV, dNotV, dChain, aNil, aCons, dTup, dLst, dCut, oNone, oSome, dRev, dNeg, dTru, dCa, dIs, dIsA, dCall, dCallK, sNil, sSeq, sNever, sBrk, sCont, sIf, sRet, sRetO, sRetE, sSet, sSetO, sDrop, sPar, sPar3, kn, enOf, owD, sAsg, gNm, gsNil, gsCons, gTp, sApp, sIns, sExt, sClr, sRev, sPut, sFrz, owAt, fin, st, iRng, iRngB, iSeq, lstD, tupD, sFor, dLc, dDc, wipeE, tYesD, dIndex, dSort, dDictZip, dMeth, dFld, dMk, List.map_cons, List.map_nil, List.length_cons, List.length_nil, List.replicate_succ, List.replicate_zero, List.cons_append, List.nil_append, List.append_nil, List.getElem?_cons_zero, List.getElem?_cons_succ, List.set_cons_zero, List.set_cons_succ, Option.bind_some, Option.map_some, Nat.reduceSub, Nat.reduceAdd, kwP, List.getD_cons_zero, List.getD_cons_succ, dCallX, sNever]
    exact ⟨zs, ps, k, [], rfl, rfl, wb, px⟩
theorem rdx_group_plan {c : Cls} {ds : List D} {P : D → Prop} {PX : Er → Prop} (h : spx_group_plan c ds P PX) : dx_group_plan c PX (fin false P) (st 9 ds) := by
  obtain ⟨zs, ps, k, rest, rfl, hr, wb, px⟩ := h
  match rest, hr with
  | [], _ =>
    simp only [dx_group_plan, dC, dV, dB, dO2, ob_some, dT, dAndT, dOrT, dNotT, dIf, dAndV, dOrV, dNotV, dChain, aNil, aCons, dTup, dLst, dCut, oNone, oSome, dRev, dNeg, dTru, dCa, dIs, dIsA, dCall, dCallK, sNil, sSeq, sNever, sBrk, sCont, sIf, sRet, sRetO, sRetE, sSet, sSetO, sDrop, sPar, sPar3, kn, enOf, owD, sAsg, gNm, gsNil, gsCons, gTp, sApp, sIns, sExt, sClr, sRev, sPut, sFrz, owAt, fin, st, iRng, iRngB, iSeq, lstD, tupD, sFor, dLc, dDc, wipeE, tYesD, dIndex, dSort, dDictZip, dMeth, dFld, dMk, List.map_cons, List.map_nil, List.length_cons, List.length_nil, List.replicate_succ, List.replicate_zero, List.cons_append, List.nil_append, List.append_nil, List.getElem?_cons_zero, List.getElem?_cons_succ, List.set_cons_zero, List.set_cons_succ, Option.bind_some, Option.map_some, Nat.reduceSub, Nat.reduceAdd, kwP, List.getD_cons_zero, List.getD_cons_succ, dCallX, sNever]
    exact ⟨zs, ps, k, [], rfl, rfl, wb, px⟩
theorem rdx_chain_count {c : Cls} {ds : List D} {P : D → Prop} {PX : Er → Prop} (h : spx_chain_count c ds P PX) : dx_chain_count c PX (fin false P) (st 3 ds) := by
  obtain ⟨zs, ps, k, rest, rfl, hr, wb, px⟩ := h
  match rest, hr with
  | [_], _ =>
    simp only [dx_chain_count, dC, dV, dB, dO2, ob_some, dT, dAndT, dOrT, dNotT, dIf, dAndV, dOrV, dNotV, dChain, aNil, aCons, dTup, dLst, dCut, oNone, oSome, dRev, dNeg, dTru, dCa, dIs, dIsA, dCall, dCallK, sNil, sSeq, sNever, sBrk, sCont, sIf, sRet, sRetO, sRetE, sSet, sSetO, sDrop, sPar, sPar3, kn, enOf, owD, sAsg, gNm, gsNil, gsCons, gTp, sApp, sIns, sExt, sClr, sRev, sPut, sFrz, owAt, fin, st, iRng, iRngB, iSeq, lstD, tupD, sFor, dLc, dDc, wipeE, tYesD, dIndex, dSort, dDictZip, dMeth, dFld, dMk, List.map_cons, List.map_nil, List.length_cons, List.length_nil, List.replicate_succ, List.replicate_zero, List.cons_append, List.nil_append, List.append_nil, List.getElem?_cons_zero, List.getElem?_cons_succ, List.set_cons_zero, List.set_cons_succ, Option.bind_some, Option.map_some, Nat.reduceSub, Nat.reduceAdd, kwP, List.getD_cons_zero, List.getD_cons_succ, dCallX, sNever]
    exact ⟨zs, ps, k, [], rfl, rfl, wb, px⟩
theorem rdx_checked_prices {c : Cls} {ds : List D} {P : D → Prop} {PX : Er → Prop} (h : spx_checked_prices c ds P PX) : dx_checked_prices c PX (fin false P) (st 6 ds) := by
  obtain ⟨zs, ps, k, rest, rfl, hr, wb, px⟩ := h
  match rest, hr with
  | [_, _], _ =>
    simp only [dx_checked_prices, dC, dV, dB, dO2, ob_some, dT, dAndT, dOrT, dNotT, dIf, dAndV, dOrV, dNotV, dChain, aNil, aCons, dTup, dLst, dCut, oNone, oSome, dRev, dNeg, dTru, dCa, dIs, dIsA, dCall, dCallK, sNil, sSeq, sNever, sBrk, sCont, sIf, sRet, sRetO, sRetE, sSet, sSetO, sDrop, sPar, sPar3, kn, enOf, owD, sAsg, gNm, gsNil, gsCons, gTp, sApp, sIns, sExt, sClr, sRev, sPut, sFrz, owAt, fin, st, iRng, iRngB, iSeq, lstD, tupD, sFor, dLc, dDc, wipeE, tYesD, dIndex, dSort, dDictZip, dMeth, dFld, dMk, List.map_cons, List.map_nil, List.length_cons, List.length_nil, List.replicate_succ, List.replicate_zero, List.cons_append, List.nil_append, List.append_nil, List.getElem?_cons_zero, List.getElem?_cons_succ, List.set_cons_zero, List.set_cons_succ, Option.bind_some, Option.map_some, Nat.reduceSub, Nat.reduceAdd, kwP, List.getD_cons_zero, List.getD_cons_succ, dCallX, sNever]
    exact ⟨zs, ps, k, [], rfl, rfl, wb, px⟩
theorem rdx_plan {c : Cls} {ds : List D} {P : D → Prop} {PX : Er → Prop} (h : spx_plan c ds P PX) : dx_plan c PX (fin false P) (st 13 ds) := by
  obtain ⟨zs, ps, k, rest, rfl, hr, wb, px⟩ := h
  match rest, hr with
  | [_, _], _ =>
    simp only [dx_plan, dC, dV, dB, dO2, ob_some, dT, dAndT, dOrT, dNotT, dIf, dAndV, dOrV, dNotV, dChain, aNil, aCons, dTup, dLst, dCut, oNone, oSome, dRev, dNeg, dTru, dCa, dIs, dIsA, dCall, dCallK, sNil, sSeq, sNever, sBrk, sCont, sIf, sRet, sRetO, sRetE, sSet, sSetO, sDrop, sPar, sPar3, kn, enOf, owD, sAsg, gNm, gsNil, gsCons, gTp, sApp, sIns, sExt, sClr, sRev, sPut, sFrz, owAt, fin, st, iRng, iRngB, iSeq, lstD, tupD, sFor, dLc, dDc, wipeE, tYesD, dIndex, dSort, dDictZip, dMeth, dFld, dMk, List.map_cons, List.map_nil, List.length_cons, List.length_nil, List.replicate_succ, List.replicate_zero, List.cons_append, List.nil_append, List.append_nil, List.getElem?_cons_zero, List.getElem?_cons_succ, List.set_cons_zero, List.set_cons_succ, Option.bind_some, Option.map_some, Nat.reduceSub, Nat.reduceAdd, kwP, List.getD_cons_zero, List.getD_cons_succ, dCallX, sNever]
    exact ⟨zs, ps, k, _, rfl, rfl, wb, px⟩
theorem rdx_is_bundle {c : Cls} {ds : List D} {P : D → Prop} {PX : Er → Prop} (h : spx_is_bundle c ds P PX) : dx_is_bundle c PX (fin false P) (st 9 ds) := by
  obtain ⟨zs, ps, k, rest, rfl, hr, wb, px⟩ := h
  match rest, hr with
  | [_, _, _], _ =>
    simp only [dx_is_bundle, dC, dV, dB, dO2, ob_some, dT, dAndT, dOrT, dNotT, dIf, dAndV, dOrV, dNotV, dChain, aNil, aCons, dTup, dLst, dCut, oNone, oSome, dRev, dNeg, dTru, dCa, dIs, dIsA, dCall, dCallK, sNil, sSeq, sNever, sBrk, sCont, sIf, sRet, sRetO, sRetE, sSet, sSetO, sDrop, sPar, sPar3, kn, enOf, owD, sAsg, gNm, gsNil, gsCons, gTp, sApp, sIns, sExt, sClr, sRev, sPut, sFrz, owAt, fin, st, iRng, iRngB, iSeq, lstD, tupD, sFor, dLc, dDc, wipeE, tYesD, dIndex, dSort, dDictZip, dMeth, dFld, dMk, List.map_cons, List.map_nil, List.length_cons, List.length_nil, List.replicate_succ, List.replicate_zero, List.cons_append, List.nil_append, List.append_nil, List.getElem?_cons_zero, List.getElem?_cons_succ, List.set_cons_zero, List.set_cons_succ, Option.bind_some, Option.map_some, Nat.reduceSub, Nat.reduceAdd, kwP, List.getD_cons_zero, List.getD_cons_succ, dCallX, sNever]
    exact ⟨zs, ps, k, _, rfl, rfl, wb, px⟩
end DL
namespace DL
open PySem PySem.Spec PyProof.Rows L2 RK
def prt (s : Sc) (a b : Str) : Bool := match s with
  | .mv _ ns => decide (a ∈ ns) != decide (b ∈ ns)
  | _ => false
def pov (s : Sc) (a : Str) : Bool := match s with
  | .mv up ns => up == decide (a ∈ ns)
  | _ => false
def lastP (ps : List Sc) (a b : Str) : Option Sc := (ps.filter fun s => prt s a b).getLast?
def wordP (ps : List Sc) (a b : Str) : Str := match lastP ps a b with
  | none => "left"
  | some s => if pov s a = true then "over" else "under"
theorem plain_fl {nm : List Str} : ∀ {n : Nat} {s : Sc}, Dp n s → Rt nm s → Plain nm s.fl := by
  intro n s h
  induction h with
  | mv => intro rt t ht; rw [Sc.fl, List.mem_singleton] at ht; rw [ht]; exact ⟨rfl, rt⟩
  | pl => intro rt t ht; rw [Sc.fl, List.mem_singleton] at ht; rw [ht]; exact ⟨rfl, rt⟩
  | rp _ ih =>
    rename_i c ss _
    intro rt t ht
    rw [Sc.fl] at ht
    split at ht
    · cases ht
    · cases rt with
      | rp _ _ _ h4 =>
        have key : ∀ ts : List Sc, (∀ s ∈ ts, s ∈ ss) → t ∈ Sc.fls ts → t.isRp = false ∧ Rt nm t := by
          intro ts
          induction ts with
          | nil => intro _ h; rw [Sc.fls] at h; cases h
          | cons s ts ih2 =>
            intro hs h
            rw [Sc.fls] at h
            rcases List.mem_append.mp h with h | h
            · exact ih s (hs s List.mem_cons_self) (h4 s (hs s List.mem_cons_self)) t h
            · exact ih2 (fun x hx => hs x (List.mem_cons_of_mem _ hx)) h
        exact key ss (fun _ h => h) ht
theorem plain_fls {nm : List Str} {n : Nat} : ∀ {ss : List Sc}, (∀ s ∈ ss, Rt nm s ∧ Dp n s) → Plain nm (Sc.fls ss)
  | [], _ => fun t ht => by rw [Sc.fls] at ht; cases ht
  | s :: ss, h => fun t ht => by
    rw [Sc.fls] at ht
    rcases List.mem_append.mp ht with ht | ht
    · exact plain_fl (h s List.mem_cons_self).2 (h s List.mem_cons_self).1 t ht
    · exact plain_fls (fun x hx => h x (List.mem_cons_of_mem _ hx)) t ht
def RtS (nm : List Str) (ss : List Sc) : Prop := (∀ s ∈ ss, Rt nm s ∧ Dp 5 s) ∧ Sc.szs ss ≤ 400
theorem RtS.plain {nm : List Str} {ss : List Sc} (h : RtS nm ss) : Plain nm (Sc.fls ss) := plain_fls h.1
def effP (us : List Win) (ps : List Sc) : List SP := prs (ovl (aftW us ps)) (nms us)
end DL
namespace DL
open PySem PySem.Spec PyProof.Rows L2 RK
instance decR : DecidableEq R := fun a b => decidable_of_iff (a.l = b.l ∧ a.t = b.t ∧ a.r = b.r ∧ a.b = b.b) ⟨fun ⟨h1, h2, h3, h4⟩ => by cases a; cases b; cases h1; cases h2; cases h3; cases h4; rfl, fun h => by rw [h]; exact ⟨rfl, rfl, rfl, rfl⟩⟩
end DL
namespace DL
open PySem PySem.Spec PyProof.Rows L2 RK
def Alk (us : List Win) (a b : List Sc) : Prop := aftW us a = aftW us b ∧ ∀ p ∈ effP us a, wordP a p.1 p.2 = wordP b p.1 p.2
theorem Alk.refl (us : List Win) (a : List Sc) : Alk us a a := ⟨rfl, fun _ _ => rfl⟩
theorem Alk.trans {us : List Win} {a b c : List Sc} (h : Alk us a b) (g : Alk us b c) : Alk us a c := ⟨h.1.trans g.1, fun p hp => (h.2 p hp).trans (g.2 p (by unfold effP at hp ⊢; rw [← h.1]; exact hp))⟩
end DL
namespace DL
open PySem PySem.Spec PyProof.Rows L2 RK
end DL
namespace DL
open PySem PySem.Spec PyProof.Rows L2 RK
end DL
namespace DL
open PySem PySem.Spec PyProof.Rows L2 RK
end DL
namespace DL
open PySem PySem.Spec PyProof.Rows L2 RK
end DL
namespace DL
open PySem PySem.Spec PyProof.Rows L2 RK
end DL
namespace DL
open PySem PySem.Spec PyProof.Rows L2 RK
end DL
namespace DL
open PySem PySem.Spec PyProof.Rows L2 RK
theorem lt_nn (i j : Nat) : bLt (.int ((i : Nat) : Int)) (.int ((j : Nat) : Int)) = some (.bl (decide (i < j))) := by
  show some (D.bl (decide (((i : Nat) : Int) < ((j : Nat) : Int)))) = _
  have e : decide (((i : Nat) : Int) < ((j : Nat) : Int)) = decide (i < j) := decide_eq_decide.mpr (by omega)
  rw [e]
theorem beq_s (neg : Bool) (a b : Str) : bEqN neg (.str a) (.str b) = some (.bl (neg ^^ decide (a = b))) := by simp [bEqN, eqS]
def WsOk (ns : List Str) (ps : List SP) : Prop := ∀ p ∈ ps, p.1 ∈ ns ∧ p.2 ∈ ns ∧ p.1 ≠ p.2
def sp_wish : DSp := fun ds P => ∃ (ns : List Str) (n : Int), ds = [.bag, .lst (ns.map D.str), .int n] ∧ ns ≠ [] ∧ ns.length ≤ 1000 ∧ 0 ≤ n ∧ n ≤ 100 ∧ ∀ ps : List SP, ps.length ≤ 100 → WsOk ns ps → P (.lst (ps.map pairD))
def d_wish : TDS := (sSeq (sPar 3 4 false true (dCall sp_mixed (aCons (dV 0) (aCons (dV 1) aNil))) (dLst aNil))
  (sSeq (sFor (iRng (aCons (dCall sp_pull (aCons (dV 0) (aCons (dO2 bAdd (dV 2) (dC (.int 1))) aNil))) aNil)) (gNm 5) (sSeq (sPar 6 7 false false (dCall sp_of (aCons (dV 0) (aCons (dV 1) aNil))) (dCall sp_of (aCons (dV 0) (aCons (dV 1) aNil))))
  (sIf (dT (dO2 (bEqN true) (dV 6) (dV 7))) (sSeq (sSet 8 (dOrV (dO2 bLt (dIndex (dV 3) (dV 6)) (dIndex (dV 3) (dV 7))) (dO2 (bEqN false) (dCall sp_pull (aCons (dV 0) (aCons (dC (.int 12)) aNil))) (dC (.int 0)))))
  (sApp 4 (dIf (dTru (dV 8)) (dTup (aCons (dV 6) (aCons (dV 7) aNil))) (dTup (aCons (dV 7) (aCons (dV 6) aNil)))))) sNil)))
  (sRetO 4)))
theorem ln_wish {ds : List D} {P : D → Prop} (h : sp_wish ds P) : ds.length = 3 := by obtain ⟨_, _, rfl, _⟩ := h; rfl
theorem rd_wish {ds : List D} {P : D → Prop} (h : sp_wish ds P) : d_wish (fin true P) (st 9 ds) := by
  obtain ⟨ns, n, rfl, ne, ln, n0, n1, q⟩ := h
  have a1 : bAdd (.int n) (.int 1) = some (.int (n + 1)) := rfl
  simp only [d_wish, dC, dV, dB, dO2, ob_some, dT, dAndT, dOrT, dNotT, dIf, dAndV, dOrV, dNotV, dChain, aNil, aCons, dTup, dLst, dCut, oNone, oSome, dRev, dNeg, dTru, dCa, dIs, dIsA, dCall, dCallK, sNil, sSeq, sNever, sBrk, sCont, sIf, sRet, sRetO, sRetE, sSet, sSetO, sDrop, sPar, sPar3, kn, enOf, owD, sAsg, gNm, gsNil, gsCons, gTp, sApp, sIns, sExt, sClr, sRev, sPut, sFrz, owAt, fin, st, iRng, iRngB, iSeq, lstD, tupD, sFor, dLc, dDc, wipeE, tYesD, dIndex, dSort, dDictZip, dMeth, dFld, dMk, List.map_cons, List.map_nil, List.length_cons, List.length_nil, List.replicate_succ, List.replicate_zero, List.cons_append, List.nil_append, List.append_nil, List.getElem?_cons_zero, List.getElem?_cons_succ, List.set_cons_zero, List.set_cons_succ, Option.bind_some, Option.map_some, Nat.reduceSub, Nat.reduceAdd, kwP, List.getD_cons_zero, List.getD_cons_succ, a1]
  refine ⟨_, .inl rfl, by rw [List.length_map]; omega, fun bs0 hb0 => ?_⟩
  obtain ⟨bs, rfl, hb⟩ := perm_str hb0
  refine ⟨by decide, n + 1, rfl, by omega, by omega, fun r r0 r1 => ⟨by omega, by omega, ?_⟩⟩
  refine loop_rng (fun i env => ∃ (ps : List SP) (e5 e6 e7 e8 : En), env = [.fz .bag, .fz (.lst (ns.map D.str)), .fz (.int n), .fz (.lst (bs.map D.str)), .ow (ps.map pairD), e5, e6, e7, e8] ∧ ps.length ≤ i ∧ WsOk ns ps) ⟨[], _, _, _, _, rfl, Nat.le_refl _, fun p hp => nomatch hp⟩ (fun i env hi h k hk => ?_) (fun env h => ?_)
  · obtain ⟨ps, e5, e6, e7, e8, rfl, hl, ok⟩ := h
    have dr : ∀ Q : D → Prop, (∀ a ∈ ns, Q (.str a)) → sp_of [.bag, .lst (ns.map D.str)] Q := fun Q h => by
      refine .inl ⟨_, .inl rfl, ?_, by rw [List.length_map]; omega, fun x hx => ?_⟩
      · rw [List.length_map]
        exact List.length_pos_iff.mpr ne
      · obtain ⟨a, ha, rfl⟩ := List.mem_map.mp hx
        exact h a ha
    simp only [dC, dV, dB, dO2, ob_some, dT, dAndT, dOrT, dNotT, dIf, dAndV, dOrV, dNotV, dChain, aNil, aCons, dTup, dLst, dCut, oNone, oSome, dRev, dNeg, dTru, dCa, dIs, dIsA, dCall, dCallK, sNil, sSeq, sNever, sBrk, sCont, sIf, sRet, sRetO, sRetE, sSet, sSetO, sDrop, sPar, sPar3, kn, enOf, owD, sAsg, gNm, gsNil, gsCons, gTp, sApp, sIns, sExt, sClr, sRev, sPut, sFrz, owAt, fin, st, iRng, iRngB, iSeq, lstD, tupD, sFor, dLc, dDc, wipeE, tYesD, dIndex, dSort, dDictZip, dMeth, dFld, dMk, List.map_cons, List.map_nil, List.length_cons, List.length_nil, List.replicate_succ, List.replicate_zero, List.cons_append, List.nil_append, List.append_nil, List.getElem?_cons_zero, List.getElem?_cons_succ, List.set_cons_zero, List.set_cons_succ, Option.bind_some, Option.map_some, Nat.reduceSub, Nat.reduceAdd, kwP, List.getD_cons_zero, List.getD_cons_succ]
    refine dr _ fun a ha => dr _ fun b hb' => ?_
    simp only [dC, dV, dB, dO2, ob_some, dT, dAndT, dOrT, dNotT, dIf, dAndV, dOrV, dNotV, dChain, aNil, aCons, dTup, dLst, dCut, oNone, oSome, dRev, dNeg, dTru, dCa, dIs, dIsA, dCall, dCallK, sNil, sSeq, sNever, sBrk, sCont, sIf, sRet, sRetO, sRetE, sSet, sSetO, sDrop, sPar, sPar3, kn, enOf, owD, sAsg, gNm, gsNil, gsCons, gTp, sApp, sIns, sExt, sClr, sRev, sPut, sFrz, owAt, fin, st, iRng, iRngB, iSeq, lstD, tupD, sFor, dLc, dDc, wipeE, tYesD, dIndex, dSort, dDictZip, dMeth, dFld, dMk, List.map_cons, List.map_nil, List.length_cons, List.length_nil, List.replicate_succ, List.replicate_zero, List.cons_append, List.nil_append, List.append_nil, List.getElem?_cons_zero, List.getElem?_cons_succ, List.set_cons_zero, List.set_cons_succ, Option.bind_some, Option.map_some, Nat.reduceSub, Nat.reduceAdd, kwP, List.getD_cons_zero, List.getD_cons_succ, beq_s]
    by_cases g : a = b
    · rw [decide_eq_true g]
      have tt : (true ^^ true) = false := rfl
      simp only [tt, Bool.false_eq_true, if_false]
      exact hk _ ⟨ps, _, _, _, _, rfl, by omega, ok⟩
    · rw [decide_eq_false g]
      have tt : (true ^^ false) = true := rfl
      have ia := index_ixS bs a (hb.mem_iff.mpr ha)
      have ib := index_ixS bs b (hb.mem_iff.mpr hb')
      simp only [tt, if_true, leaf_strs, D.leaf, ia, ib, ob_some, lt_nn]
      have put : ∀ (p : SP) (e8' : En), p = (a, b) ∨ p = (b, a) → 2 ≤ sizeLine ∧ (ps.map pairD).length < sizeLine ∧ k [.fz .bag, .fz (.lst (ns.map D.str)), .fz (.int n), .fz (.lst (bs.map D.str)), .ow (ps.map pairD ++ [pairD p]), .fz (.int (0 + (i : Nat))), .fz (.str a), .fz (.str b), e8'] := fun p e8' hp => by
        have e2 : ps.map pairD ++ [pairD p] = (ps ++ [p]).map pairD := by simp
        rw [e2]
        refine ⟨by decide, szM (by simp; omega), hk _ ⟨ps ++ [p], _, _, _, _, rfl, by simp; omega, fun y hy => ?_⟩⟩
        rcases List.mem_append.mp hy with h | h
        · exact ok y h
        · have : y = p := by simpa using h
          rw [this]
          rcases hp with rfl | rfl
          · exact ⟨ha, hb', g⟩
          · exact ⟨hb', ha, fun z => g z.symm⟩
      have tb : ∀ c : Bool, truD (.bl c) = some c := fun _ => rfl
      refine ⟨trivial, trivial, trivial, trivial, ?_⟩
      by_cases g2 : ixS bs a < ixS bs b
      · rw [decide_eq_true g2, if_pos rfl]
        simp only [tb, ob_some, if_true]
        exact put (a, b) _ (.inl rfl)
      · rw [decide_eq_false g2, if_neg Bool.false_ne_true]
        refine ⟨12, rfl, by decide, by decide, fun r2 _ _ => ?_⟩
        simp only [bEq_i, ob_some, tb]
        cases decide (r2 = 0) with
        | true =>
          simp only [if_true]
          exact put (a, b) _ (.inl rfl)
        | false =>
          simp only [Bool.false_eq_true, if_false]
          exact put (b, a) _ (.inr rfl)
  · obtain ⟨ps, e5, e6, e7, e8, rfl, hl, ok⟩ := h
    simp only [dC, dV, dB, dO2, ob_some, dT, dAndT, dOrT, dNotT, dIf, dAndV, dOrV, dNotV, dChain, aNil, aCons, dTup, dLst, dCut, oNone, oSome, dRev, dNeg, dTru, dCa, dIs, dIsA, dCall, dCallK, sNil, sSeq, sNever, sBrk, sCont, sIf, sRet, sRetO, sRetE, sSet, sSetO, sDrop, sPar, sPar3, kn, enOf, owD, sAsg, gNm, gsNil, gsCons, gTp, sApp, sIns, sExt, sClr, sRev, sPut, sFrz, owAt, fin, st, iRng, iRngB, iSeq, lstD, tupD, sFor, dLc, dDc, wipeE, tYesD, dIndex, dSort, dDictZip, dMeth, dFld, dMk, List.map_cons, List.map_nil, List.length_cons, List.length_nil, List.replicate_succ, List.replicate_zero, List.cons_append, List.nil_append, List.append_nil, List.getElem?_cons_zero, List.getElem?_cons_succ, List.set_cons_zero, List.set_cons_succ, Option.bind_some, Option.map_some, Nat.reduceSub, Nat.reduceAdd, kwP, List.getD_cons_zero, List.getD_cons_succ]
    exact q _ (by omega) ok
end DL
namespace DL
open PySem PySem.Spec PyProof.Rows L2 RK
abbrev asksN : List Str := ["_law_names_here", "_law_wish_here", "_law_asks_here"]
def Tell (c : Cls) (k : Nat) (r : (Er → Prop) → (D → Prop) → Prop) : Prop := ∀ (PX : Er → Prop) (Pd : D → Prop), PX ⟨c.BadWish, "BadWish", some ("at", .int ((k : Nat) : Int))⟩ → r PX Pd
def sp_asks (rc : Rdc) (c : Cls) : DSp := fun ds P => ∃ zs ps k, ds = [.lst (zs.map D.str), .lst (ps.map pairD)] ∧ WBad zs ps k ∧ ∀ gs : List (LF × List D), gs.length = 8 → (∀ p ∈ gs, ∃ r, rc p.1 p.2 r ∧ Tell c k r) → P (.lst (gs.map fun p => .fn p.1 p.2))
theorem ln_asks {rc : Rdc} {c : Cls} {ds : List D} {P : D → Prop} (h : sp_asks rc c ds P) : ds.length = 2 := by obtain ⟨_, _, _, rfl, _⟩ := h; rfl
def d_asks (rm : Rdm) (c : Cls) : TDR := (rSeq (sSet 2 (dLst (aCons (dLamM rm ["_law_wish_here", "_law_names_here"] (fun PX => (dCallX (spx_ring c) PX (aCons (dV 0) (aCons (dV 1) aNil))))) (aCons (dLamM rm ["_law_wish_here", "_law_names_here"] (fun PX => (dCallX (spx_is_ring c) PX (aCons (dV 0) (aCons (dV 1) (aCons (dLst aNil) aNil)))))) (aCons (dLamM rm ["_law_wish_here", "_law_names_here"] (fun PX => (dCallX (spx_keeps c) PX (aCons (dV 0) (aCons (dV 1) aNil))))) aNil)))))
  (rSeq (sSet 2 (dO2 bAdd (dV 2) (dLst (aCons (dLamM rm ["_law_wish_here", "_law_names_here"] (fun PX => (dCallX (spx_least_keeping c) PX (aCons (dV 0) (aCons (dV 1) aNil))))) (aCons (dLamM rm ["_law_wish_here", "_law_names_here"] (fun PX => (dCallNX (spx_plan c) PX 2 1 (fun xs ys => xs ++ [ys.getD 0 .non, .ktp []]) (aCons (dV 0) (aCons (dV 1) aNil)) (aCons (dDisp1 (dC (.str "A")) (dC (.int 0))) aNil)))) (aCons (dLamM rm ["_law_wish_here", "_law_names_here"] (fun PX => (dCallX (spx_group_plan c) PX (aCons (dV 0) (aCons (dV 1) aNil))))) aNil))))))
  (rRet (dO2 bAdd (dV 2) (dLst (aCons (dLamM rm ["_law_wish_here", "_law_names_here"] (fun PX => (dCallX (spx_chain_count c) PX (aCons (dV 0) (aCons (dV 1) (aCons (dLst aNil) aNil)))))) (aCons (dLamM rm ["_law_wish_here", "_law_names_here"] (fun PX => (dCallNX (spx_is_bundle c) PX 3 1 (fun xs ys => xs ++ [.non, ys.getD 0 .non]) (aCons (dV 0) (aCons (dV 1) (aCons (dLst aNil) aNil))) (aCons (dLst (aCons (dC (.str "A")) aNil)) aNil)))) aNil)))))))
theorem nofn_strs : ∀ zs : List Str, D.nofnL (zs.map D.str) = true
  | [] => rfl
  | z :: zs => by
    show (true && D.nofnL (zs.map D.str)) = true
    rw [nofn_strs zs]
    rfl
theorem nofn_prs : ∀ ps : List SP, D.nofnL (ps.map pairD) = true
  | [] => rfl
  | p :: ps => by
    show (true && D.nofnL (ps.map pairD)) = true
    rw [nofn_prs ps]
    rfl
theorem rd_asks {rm : Rdm} {rc : Rdc} {c : Cls} (link : ∀ G caps d ds, rm G caps d → D.nofnL ds = true → rc (kill G) ds (fun PX Pd => d PX (capE asksN caps ds) Pd)) {ds : List D} {P : D → Prop} (h : sp_asks rc c ds P) : d_asks rm c (st 3 ds) (FinM rm asksN P) := by
  obtain ⟨zs, ps, k, rfl, wb, q⟩ := h
  have nf : D.nofnL [D.lst (ps.map pairD), D.lst (zs.map D.str)] = true := by
    show (D.nofnL (ps.map pairD) && (D.nofnL (zs.map D.str) && true)) = true
    rw [nofn_strs, nofn_prs]
    rfl
  simp only [d_asks, rSeq, rRet, dC, dV, dB, dO2, ob_some, dT, dAndT, dOrT, dNotT, dIf, dAndV, dOrV, dNotV, dChain, aNil, aCons, dTup, dLst, dCut, oNone, oSome, dRev, dNeg, dTru, dCa, dIs, dIsA, dCall, dCallK, sNil, sSeq, sNever, sBrk, sCont, sIf, sRet, sRetO, sRetE, sSet, sSetO, sDrop, sPar, sPar3, kn, enOf, owD, sAsg, gNm, gsNil, gsCons, gTp, sApp, sIns, sExt, sClr, sRev, sPut, sFrz, owAt, fin, st, iRng, iRngB, iSeq, lstD, tupD, sFor, dLc, dDc, wipeE, tYesD, dIndex, dSort, dDictZip, dMeth, dFld, dMk, List.map_cons, List.map_nil, List.length_cons, List.length_nil, List.replicate_succ, List.replicate_zero, List.cons_append, List.nil_append, List.append_nil, List.getElem?_cons_zero, List.getElem?_cons_succ, List.set_cons_zero, List.set_cons_succ, Option.bind_some, Option.map_some, Nat.reduceSub, Nat.reduceAdd, kwP, List.getD_cons_zero, List.getD_cons_succ, dLamM]
  refine fun G1 h1 G2 h2 G3 h3 => ⟨by decide, fun G4 h4 G5 h5 G6 h6 => ⟨by decide, ?_⟩⟩
  have a1 : bAdd (.lst [.fn G1 [], .fn G2 [], .fn G3 []]) (.lst [.fn G4 [], .fn G5 [], .fn G6 []]) = some (.lst [.fn G1 [], .fn G2 [], .fn G3 [], .fn G4 [], .fn G5 [], .fn G6 []]) := rfl
  rw [a1, ob_some]
  refine fun G7 h7 G8 h8 => ⟨by decide, ?_⟩
  have a2 : bAdd (.lst [.fn G1 [], .fn G2 [], .fn G3 [], .fn G4 [], .fn G5 [], .fn G6 []]) (.lst [.fn G7 [], .fn G8 []]) = some (.lst [.fn G1 [], .fn G2 [], .fn G3 [], .fn G4 [], .fn G5 [], .fn G6 [], .fn G7 [], .fn G8 []]) := rfl
  rw [a2, ob_some]
  generalize hw : D.lst (ps.map pairD) = w at *
  generalize ha : D.lst (zs.map D.str) = a at *
  have eC : capE asksN ["_law_wish_here", "_law_names_here"] [w, a] = [.fz a, .fz w, .no] := rfl
  have t0 : ∀ (m : Nat) (rest : List D), rest.length = m → ∀ (PX : Er → Prop) (Pd : D → Prop), PX ⟨c.BadWish, "BadWish", some ("at", .int ((k : Nat) : Int))⟩ → spxW c m (a :: w :: rest) Pd PX := fun m rest hr PX Pd px => ⟨zs, ps, k, rest, by rw [hw, ha], hr, wb, px⟩
  have tl : ∀ (f : DSpX) (m : Nat), f = spxW c m → m = 0 → Tell c k (fun PX Pd => dCallX f PX (aCons (dV 0) (aCons (dV 1) aNil)) (capE asksN ["_law_wish_here", "_law_names_here"] [w, a]) Pd) := fun f m e1 e2 PX Pd px => by
    subst e1 e2
    rw [eC]
    exact t0 0 [] rfl PX Pd px
  have tl1 : Tell c k (fun PX Pd => dCallX (spxW c 1) PX (aCons (dV 0) (aCons (dV 1) (aCons (dLst aNil) aNil))) (capE asksN ["_law_wish_here", "_law_names_here"] [w, a]) Pd) := fun PX Pd px => by
    rw [eC]
    exact ⟨by decide, t0 1 [_] rfl PX Pd px⟩
  have nw : w.nofn = true := by unfold D.nofnL at nf; rw [Bool.and_eq_true] at nf; exact nf.1
  have na : a.nofn = true := by unfold D.nofnL at nf; rw [Bool.and_eq_true] at nf; have n2 := nf.2; unfold D.nofnL at n2; rw [Bool.and_eq_true] at n2; exact n2.1
  have hcap : ∀ y ∈ (["_law_wish_here", "_law_names_here"] : List Str), ∃ d, datO asksN [.fz a, .fz w, .fz (.lst [.fn G1 [], .fn G2 [], .fn G3 [], .fn G4 [], .fn G5 [], .fn G6 []])] y = some d ∧ d.nofn = true := fun y hy => by
    rcases List.mem_cons.mp hy with rfl | hy
    · exact ⟨w, rfl, nw⟩
    · rcases List.mem_cons.mp hy with rfl | hy
      · exact ⟨a, rfl, na⟩
      · cases hy
  refine ⟨[(G1, ["_law_wish_here", "_law_names_here"]), (G2, ["_law_wish_here", "_law_names_here"]), (G3, ["_law_wish_here", "_law_names_here"]), (G4, ["_law_wish_here", "_law_names_here"]), (G5, ["_law_wish_here", "_law_names_here"]), (G6, ["_law_wish_here", "_law_names_here"]), (G7, ["_law_wish_here", "_law_names_here"]), (G8, ["_law_wish_here", "_law_names_here"])], rfl, fun p hp => ⟨?_, ?_⟩, ?_⟩
  · simp only [List.mem_cons, List.not_mem_nil, or_false] at hp
    rcases hp with rfl | rfl | rfl | rfl | rfl | rfl | rfl | rfl
    · exact ⟨_, h1⟩
    · exact ⟨_, h2⟩
    · exact ⟨_, h3⟩
    · exact ⟨_, h4⟩
    · exact ⟨_, h5⟩
    · exact ⟨_, h6⟩
    · exact ⟨_, h7⟩
    · exact ⟨_, h8⟩
  · have e2 : p.2 = (["_law_wish_here", "_law_names_here"] : List Str) := by
      simp only [List.mem_cons, List.not_mem_nil, or_false] at hp
      rcases hp with rfl | rfl | rfl | rfl | rfl | rfl | rfl | rfl <;> rfl
    rw [e2]
    exact hcap
  · refine q [(kill G1, [w, a]), (kill G2, [w, a]), (kill G3, [w, a]), (kill G4, [w, a]), (kill G5, [w, a]), (kill G6, [w, a]), (kill G7, [w, a]), (kill G8, [w, a])] rfl fun p hp => ?_
    simp only [List.mem_cons, List.not_mem_nil, or_false] at hp
    rcases hp with rfl | rfl | rfl | rfl | rfl | rfl | rfl | rfl
    · exact ⟨_, link G1 _ _ _ h1 nf, tl _ 0 rfl rfl⟩
    · exact ⟨_, link G2 _ _ _ h2 nf, tl1⟩
    · exact ⟨_, link G3 _ _ _ h3 nf, tl _ 0 rfl rfl⟩
    · exact ⟨_, link G4 _ _ _ h4 nf, tl _ 0 rfl rfl⟩
    · refine ⟨_, link G5 _ _ _ h5 nf, fun PX Pd px => ?_⟩
      rw [eC]
      exact ⟨rfl, rfl, t0 2 [_, _] rfl PX Pd px⟩
    · exact ⟨_, link G6 _ _ _ h6 nf, tl _ 0 rfl rfl⟩
    · exact ⟨_, link G7 _ _ _ h7 nf, tl1⟩
    · refine ⟨_, link G8 _ _ _ h8 nf, fun PX Pd px => ?_⟩
      rw [eC]
      exact ⟨by decide, by decide, rfl, rfl, t0 3 [_, _, _] rfl PX Pd px⟩
theorem beq_strs {neg : Bool} {a b : Str} (ha : PyData.strOk a = true) (hb : PyData.strOk b = true) : bEqN neg (.str a) (.str b) = some (.bl (neg ^^ decide (a = b))) := by
  obtain ⟨x, e, h⟩ := beq_iff (neg := neg) (n := 0) (x := .str a) (y := .str b) (by decide) ha hb
  rw [e]
  cases x with
  | true => rw [decide_eq_true (D.str.inj (h.mp rfl))]
  | false => rw [decide_eq_false fun z => absurd (h.mpr (congrArg D.str z)) (by decide)]
theorem all_tru {α : Type} (l : List α) : allD [.lst (l.map fun _ => D.bl true)] = some (.bl true) := by
  have h := allD_f l fun _ => true
  rw [h]
  simp
theorem first_bad {zs : List Str} : ∀ {ps : List SP}, (∃ p ∈ ps, ¬ gdW zs p) → ∃ pre p post, ps = pre ++ p :: post ∧ (∀ q ∈ pre, gdW zs q) ∧ ¬ gdW zs p
  | [], h => by obtain ⟨_, h, _⟩ := h; cases h
  | p :: ps, h => by
    by_cases g : gdW zs p
    · obtain ⟨pre, q, post, e, h1, h2⟩ := first_bad (ps := ps) (by
        obtain ⟨q, hq, hb⟩ := h
        rcases List.mem_cons.mp hq with rfl | hq
        · exact absurd g hb
        · exact ⟨q, hq, hb⟩)
      exact ⟨p :: pre, q, post, by rw [e]; rfl, fun x hx => (List.mem_cons.mp hx).elim (fun z => z ▸ g) (h1 x), h2⟩
    · exact ⟨[], p, ps, rfl, fun x hx => absurd hx (by simp), g⟩
def badB (zs : List Str) (p : SP) : Bool := decide (p.1 = p.2) || (!decide (p.1 ∈ zs) || !decide (p.2 ∈ zs))
theorem badB_iff {zs : List Str} {p : SP} : badB zs p = true ↔ ¬ gdW zs p := by
  unfold badB gdW
  by_cases h1 : p.1 = p.2 <;> by_cases h2 : p.1 ∈ zs <;> by_cases h3 : p.2 ∈ zs <;> simp [h1, h2, h3]
def d_tail (rc : Rdc) (c : Cls) : TDS := (sSeq (sSet 10 (dLc (iEnu (dV 4)) (gTp 2 (gsCons (gNm 7) (gsCons (gNm 11) gsNil))) (dOrT (dT (dO2 (bEqN false) (dO2 bIx (dV 11) (dC (.int 0))) (dO2 bIx (dV 11) (dC (.int 1))))) (dOrT (dT (dO2 (bIn true) (dO2 bIx (dV 11) (dC (.int 0))) (dV 3))) (dT (dO2 (bIn true) (dO2 bIx (dV 11) (dC (.int 1))) (dV 3))))) (dV 7) [7, 11]))
  (sIf (dNotT (dT (dCa allD (aCons (dLc (iSeq (dCall (sp_asks rc c) (aCons (dV 3) (aCons (dV 4) aNil)))) (gNm 12) tYesD (dO2 (bEqN false) (dTryG [(c.BadWish, "BadWish", some "at"), (c.BadCost, "BadCost", some "name"), (c.Impossible, "Impossible", none), (c.Unknown, "Unknown", some "name"), (c.NothingLeft, "NothingLeft", none)] rc 12) (dTup (aCons (dC (.str "BadWish")) (aCons (dO2 bIx (dV 10) (dC (.int 0))) aNil)))) [12]) aNil)))) (sRet (dC (.bl false))) sNil))
def d_law (rc : Rdc) (c : Cls) : TDS := (sSeq (sFor (iRng (aCons (dC (.int 4)) aNil)) (gNm 2) (sSeq (sSet 3 (dCall sp_mixed (aCons (dV 1) (aCons (dCall sp_names (aCons (dV 1) (aCons (dO2 bAdd (dC (.int 1)) (dCall sp_pull (aCons (dV 1) (aCons (dC (.int 6)) aNil)))) aNil))) aNil))))
  (sSeq (sPar 4 5 false false (dCall sp_wish (aCons (dV 1) (aCons (dV 3) (aCons (dC (.int 6)) aNil)))) (dLst aNil))
  (sSeq (sFor (iRng (aCons (dO2 bAdd (dC (.int 1)) (dCall sp_pull (aCons (dV 1) (aCons (dC (.int 2)) aNil)))) aNil)) (gNm 6) (sSeq (sPar 7 8 false false (dCall sp_pull (aCons (dV 1) (aCons (dO2 bAdd (dCa lenD (aCons (dV 4) aNil)) (dC (.int 1))) aNil))) (dCall sp_of (aCons (dV 1) (aCons (dV 3) aNil))))
  (sSeq (sSet 9 (dCall sp_of (aCons (dV 1) (aCons (dLst (aCons (dTup (aCons (dC (.str "A")) (aCons (dV 8) aNil))) (aCons (dTup (aCons (dV 8) (aCons (dC (.str "A")) aNil))) (aCons (dTup (aCons (dV 8) (aCons (dV 8) aNil))) (aCons (dTup (aCons (dC (.str "")) (aCons (dC (.str "zzzzzzz")) aNil))) (aCons (dTup (aCons (dV 8) (aCons (dC (.str "")) aNil))) aNil)))))) aNil))))
  (sSet 4 (dO2 bAdd (dO2 bAdd (dCut cutA (dV 4) oNone (oSome (dV 7))) (dLst (aCons (dV 9) aNil))) (dCut cutA (dV 4) (oSome (dV 7)) oNone))))))
  (d_tail rc c)))))
  (sRet (dC (.bl true))))
theorem rd_tail {rc : Rdc} {c : Cls} {PP : DEnds} {zs : List Str} {ps : List SP} {e2 e5 e6 e7 e8 e9 e10 e11 e12 : En} (nz : ∀ z ∈ zs, PyData.strOk z = true) (np : ∀ p ∈ ps, PyData.strOk p.1 = true ∧ PyData.strOk p.2 = true) (lz : zs.length ≤ 1000) (lp : ps.length ≤ 1000) (bad : ∃ p ∈ ps, ¬ gdW zs p)
    (hk : ∀ e10, PP.nx [.no, .fz .bag, e2, .fz (.lst (zs.map D.str)), .fz (.lst (ps.map pairD)), e5, e6, e7, e8, e9, e10, e11, e12]) :
    d_tail rc c PP [.no, .fz .bag, e2, .fz (.lst (zs.map D.str)), .fz (.lst (ps.map pairD)), e5, e6, e7, e8, e9, e10, e11, e12] := by
  obtain ⟨pre, p, post, eps, hg, hb⟩ := first_bad bad
  simp only [d_tail, dC, dV, dB, dO2, ob_some, dT, dAndT, dOrT, dNotT, dIf, dAndV, dOrV, dNotV, dChain, aNil, aCons, dTup, dLst, dCut, oNone, oSome, dRev, dNeg, dTru, dCa, dIs, dIsA, dCall, dCallK, sNil, sSeq, sNever, sBrk, sCont, sIf, sRet, sRetO, sRetE, sSet, sSetO, sDrop, sPar, sPar3, kn, enOf, owD, sAsg, gNm, gsNil, gsCons, gTp, sApp, sIns, sExt, sClr, sRev, sPut, sFrz, owAt, fin, st, iRng, iRngB, iSeq, lstD, tupD, sFor, dLc, dDc, wipeE, tYesD, dIndex, dSort, dDictZip, dMeth, dFld, dMk, List.map_cons, List.map_nil, List.length_cons, List.length_nil, List.replicate_succ, List.replicate_zero, List.cons_append, List.nil_append, List.append_nil, List.getElem?_cons_zero, List.getElem?_cons_succ, List.set_cons_zero, List.set_cons_succ, Option.bind_some, Option.map_some, Nat.reduceSub, Nat.reduceAdd, kwP, List.getD_cons_zero, List.getD_cons_succ, iEnu]
  refine .inl ?_
  rw [enu_zipG]
  refine comp_filter (fun r : SP × Nat => D.tup [.int ((r.2 : Nat) : Int), pairD r.1]) (fun r => .int ((r.2 : Nat) : Int)) (fun r => badB zs r.1) ps.zipIdx [] (fun r hr Q Z h1 h2 => ?_) (by simp; omega) ?_
  · have hm : r.1 ∈ ps := by
      have h2 : r.1 ∈ (ps.zipIdx).map Prod.fst := List.mem_map.mpr ⟨r, hr, rfl⟩
      rw [List.zipIdx_map_fst] at h2
      exact h2
    obtain ⟨o1, o2⟩ := np r.1 hm
    have b0 := beq_strs (neg := false) o1 o2
    have i1 := bIn_strs (neg := true) (d := .lst (zs.map D.str)) (.inl rfl) r.1.1
    have i2 := bIn_strs (neg := true) (d := .lst (zs.map D.str)) (.inl rfl) r.1.2
    have x0 : bIx (.tup [.str r.1.1, .str r.1.2]) (.int 0) = some (.str r.1.1) := rfl
    have x1 : bIx (.tup [.str r.1.1, .str r.1.2]) (.int 1) = some (.str r.1.2) := rfl
    simp only [pairD, dC, dV, dB, dO2, ob_some, dT, dAndT, dOrT, dNotT, dIf, dAndV, dOrV, dNotV, dChain, aNil, aCons, dTup, dLst, dCut, oNone, oSome, dRev, dNeg, dTru, dCa, dIs, dIsA, dCall, dCallK, sNil, sSeq, sNever, sBrk, sCont, sIf, sRet, sRetO, sRetE, sSet, sSetO, sDrop, sPar, sPar3, kn, enOf, owD, sAsg, gNm, gsNil, gsCons, gTp, sApp, sIns, sExt, sClr, sRev, sPut, sFrz, owAt, fin, st, iRng, iRngB, iSeq, lstD, tupD, sFor, dLc, dDc, wipeE, tYesD, dIndex, dSort, dDictZip, dMeth, dFld, dMk, List.map_cons, List.map_nil, List.length_cons, List.length_nil, List.replicate_succ, List.replicate_zero, List.cons_append, List.nil_append, List.append_nil, List.getElem?_cons_zero, List.getElem?_cons_succ, List.set_cons_zero, List.set_cons_succ, Option.bind_some, Option.map_some, Nat.reduceSub, Nat.reduceAdd, kwP, List.getD_cons_zero, List.getD_cons_succ, x0, x1, b0, i1, i2]
    refine ⟨trivial, trivial, ?_⟩
    unfold badB at h1 h2
    by_cases g1 : r.1.1 = r.1.2 <;> by_cases g2 : r.1.1 ∈ zs <;> by_cases g3 : r.1.2 ∈ zs <;> simp [g1, g2, g3] at h1 h2 ⊢ <;> first | exact h1 | exact h2 | (simp [← g1, g2] at h1 h2 ⊢; first | exact h1 | exact h2)
  · rw [List.nil_append]
    refine .inl ⟨zs, ps, pre.length, rfl, ⟨by omega, by omega, np, pre, p, post, eps, rfl, hg, hb⟩, fun gs lg hgs => ?_⟩
    have hix : ∃ rest, (ps.zipIdx.filter fun r => badB zs r.1).map (fun r => D.int ((r.2 : Nat) : Int)) = .int ((pre.length : Nat) : Int) :: rest := by
      have f0 : (pre.zipIdx.filter fun r => badB zs r.1) = [] := by
        rw [List.filter_eq_nil_iff]
        intro r hr hbd
        have h2 : r.1 ∈ (pre.zipIdx).map Prod.fst := List.mem_map.mpr ⟨r, hr, rfl⟩
        rw [List.zipIdx_map_fst] at h2
        exact badB_iff.mp hbd (hg _ h2)
      rw [eps, List.zipIdx_append, List.filter_append, f0, List.nil_append, List.zipIdx_cons, List.filter_cons_of_pos (by exact badB_iff.mpr hb), List.map_cons, Nat.zero_add]
      exact ⟨_, rfl⟩
    obtain ⟨rest, hix⟩ := hix
    rw [hix]
    have ix0 : bIx (.lst (.int ((pre.length : Nat) : Int) :: rest)) (.int 0) = some (.int ((pre.length : Nat) : Int)) := bIx_l (j := 0) rfl
    simp only [ob_some]
    refine comp_map (fun p : LF × List D => D.fn p.1 p.2) (fun _ => D.bl true) gs [] (fun q hq Q Z hQ => ?_) (by rw [lg]; decide) ?_
    · simp only [dC, dV, dB, dO2, ob_some, dT, dAndT, dOrT, dNotT, dIf, dAndV, dOrV, dNotV, dChain, aNil, aCons, dTup, dLst, dCut, oNone, oSome, dRev, dNeg, dTru, dCa, dIs, dIsA, dCall, dCallK, sNil, sSeq, sNever, sBrk, sCont, sIf, sRet, sRetO, sRetE, sSet, sSetO, sDrop, sPar, sPar3, kn, enOf, owD, sAsg, gNm, gsNil, gsCons, gTp, sApp, sIns, sExt, sClr, sRev, sPut, sFrz, owAt, fin, st, iRng, iRngB, iSeq, lstD, tupD, sFor, dLc, dDc, wipeE, tYesD, dIndex, dSort, dDictZip, dMeth, dFld, dMk, List.map_cons, List.map_nil, List.length_cons, List.length_nil, List.replicate_succ, List.replicate_zero, List.cons_append, List.nil_append, List.append_nil, List.getElem?_cons_zero, List.getElem?_cons_succ, List.set_cons_zero, List.set_cons_succ, Option.bind_some, Option.map_some, Nat.reduceSub, Nat.reduceAdd, kwP, List.getD_cons_zero, List.getD_cons_succ, if_true, dTryG]
      obtain ⟨r, hr, ht⟩ := hgs q hq
      refine ⟨q.1, q.2, r, rfl, hr, ht _ _ ⟨?_, ?_⟩⟩
      · exact ⟨.head _, fun p hp => by cases hp; rfl⟩
      · rw [ix0]
        have eq : bEqN false (.tup [.str "BadWish", .int ((pre.length : Nat) : Int)]) (.tup [.str "BadWish", .int ((pre.length : Nat) : Int)]) = some (.bl true) := by
          have hs : sh 2 (.tup [.str "BadWish", .int ((pre.length : Nat) : Int)]) = true := by
            show List.all [D.str "BadWish", D.int ((pre.length : Nat) : Int)] (sh 1) = true
            have h1 : sh 1 (.str "BadWish") = true := by decide +kernel
            simp only [List.all_cons, List.all_nil, h1, Bool.true_and, Bool.and_true]
            rfl
          obtain ⟨b, e, h⟩ := beq_iff (neg := false) (n := 2) (x := .tup [.str "BadWish", .int ((pre.length : Nat) : Int)]) (y := .tup [.str "BadWish", .int ((pre.length : Nat) : Int)]) (by decide) hs hs
          rw [e]
          cases b with
          | true => rfl
          | false => exact absurd (h.mpr rfl) (by decide)
        rw [ob_some]
        refine ⟨by decide, ?_⟩
        show ob (bEqN false (.tup [.str "BadWish", .int ((pre.length : Nat) : Int)]) (.tup [.str "BadWish", .int ((pre.length : Nat) : Int)])) Q
        rw [eq]
        exact hQ
    · rw [List.nil_append, all_tru gs, ob_some]
      simp only [Bool.not_true, Bool.false_eq_true, if_false]
      exact hk _
theorem cut_pre (xs : List D) (j : Nat) : cutD xs none (some (j : Int)) = xs.take j := by
  unfold cutD
  rw [HT.sIx_nat, HT.sIx_none, List.drop_zero, Nat.sub_zero]
  rcases Nat.le_total j xs.length with h | h
  · rw [Nat.min_eq_left h]
  · rw [Nat.min_eq_right h, List.take_of_length_le (Nat.le_refl _), List.take_of_length_le h]
theorem cut_suf (xs : List D) (k : Nat) (h : k ≤ xs.length) : cutD xs (some (k : Int)) none = xs.drop k := by
  unfold cutD
  rw [HT.sIx_nat, HT.sIx_none, Nat.min_eq_left h]
  exact List.take_of_length_le (by rw [List.length_drop]; exact Nat.le_refl _)
theorem rd_law {rc : Rdc} {c : Cls} : d_law rc c { nx := fun _ => False, rt := fun x => x = .bl true } (.no :: .fz .bag :: List.replicate 11 .no) := by
  unfold d_law
  have hT := fun (PP : DEnds) (zs : List Str) (ps : List SP) (e2 e5 e6 e7 e8 e9 e10 e11 e12 : En) a1 a2 a3 a4 a5 hk => rd_tail (rc := rc) (c := c) (PP := PP) (zs := zs) (ps := ps) (e2 := e2) (e5 := e5) (e6 := e6) (e7 := e7) (e8 := e8) (e9 := e9) (e10 := e10) (e11 := e11) (e12 := e12) a1 a2 a3 a4 a5 hk
  generalize d_tail rc c = TL at hT ⊢
  simp only [dC, dV, dB, dO2, ob_some, dT, dAndT, dOrT, dNotT, dIf, dAndV, dOrV, dNotV, dChain, aNil, aCons, dTup, dLst, dCut, oNone, oSome, dRev, dNeg, dTru, dCa, dIs, dIsA, dCall, dCallK, sNil, sSeq, sNever, sBrk, sCont, sIf, sRet, sRetO, sRetE, sSet, sSetO, sDrop, sPar, sPar3, kn, enOf, owD, sAsg, gNm, gsNil, gsCons, gTp, sApp, sIns, sExt, sClr, sRev, sPut, sFrz, owAt, fin, st, iRng, iRngB, iSeq, lstD, tupD, sFor, dLc, dDc, wipeE, tYesD, dIndex, dSort, dDictZip, dMeth, dFld, dMk, List.map_cons, List.map_nil, List.length_cons, List.length_nil, List.replicate_succ, List.replicate_zero, List.cons_append, List.nil_append, List.append_nil, List.getElem?_cons_zero, List.getElem?_cons_succ, List.set_cons_zero, List.set_cons_succ, Option.bind_some, Option.map_some, Nat.reduceSub, Nat.reduceAdd, kwP, List.getD_cons_zero, List.getD_cons_succ]
  refine ⟨by decide, by decide, ?_⟩
  refine loop_rng (fun _ env => ∃ e2 e3 e4 e5 e6 e7 e8 e9 e10 e11 e12, env = [.no, .fz .bag, e2, e3, e4, e5, e6, e7, e8, e9, e10, e11, e12]) ⟨_, _, _, _, _, _, _, _, _, _, _, rfl⟩ (fun turn env _ h k hk => ?_) (fun env h => ?_)
  · obtain ⟨e2, e3, e4, e5, e6, e7, e8, e9, e10, e11, e12, rfl⟩ := h
    simp only [dC, dV, dB, dO2, ob_some, dT, dAndT, dOrT, dNotT, dIf, dAndV, dOrV, dNotV, dChain, aNil, aCons, dTup, dLst, dCut, oNone, oSome, dRev, dNeg, dTru, dCa, dIs, dIsA, dCall, dCallK, sNil, sSeq, sNever, sBrk, sCont, sIf, sRet, sRetO, sRetE, sSet, sSetO, sDrop, sPar, sPar3, kn, enOf, owD, sAsg, gNm, gsNil, gsCons, gTp, sApp, sIns, sExt, sClr, sRev, sPut, sFrz, owAt, fin, st, iRng, iRngB, iSeq, lstD, tupD, sFor, dLc, dDc, wipeE, tYesD, dIndex, dSort, dDictZip, dMeth, dFld, dMk, List.map_cons, List.map_nil, List.length_cons, List.length_nil, List.replicate_succ, List.replicate_zero, List.cons_append, List.nil_append, List.append_nil, List.getElem?_cons_zero, List.getElem?_cons_succ, List.set_cons_zero, List.set_cons_succ, Option.bind_some, Option.map_some, Nat.reduceSub, Nat.reduceAdd, kwP, List.getD_cons_zero, List.getD_cons_succ]
    refine ⟨6, rfl, by decide, by decide, fun r r0 r1 => ?_⟩
    simp only [bAdd_i, ob_some]
    refine ⟨_, rfl, by omega, by omega, fun zs lz nm nd => ?_⟩
    refine ⟨_, .inl rfl, by rw [List.length_map]; omega, fun os ho => ?_⟩
    obtain ⟨ys, rfl, hp⟩ := perm_str ho
    have ly : ys.length = zs.length := hp.length_eq
    have ny : ∀ z ∈ ys, NameOk z := fun z hz => nm z (hp.mem_iff.mp hz)
    have lyn : (ys.length : Int) = 1 + r := by rw [ly, lz]; omega
    have ne : ys ≠ [] := fun z => by rw [z] at lyn; simp at lyn; omega
    have noA : (("A" : Str)) ∉ ys := fun z => absurd (ny _ z) (by decide +kernel)
    have no0 : (("" : Str)) ∉ ys := fun z => absurd (ny _ z) (by decide +kernel)
    refine ⟨ys, 6, rfl, ne, by omega, by decide, by decide, fun ps lp wk => ⟨by decide, ?_⟩⟩
    refine ⟨2, rfl, by decide, by decide, fun y y0 y1 => ?_⟩
    simp only [bAdd_i, ob_some]
    refine ⟨by omega, by omega, ?_⟩
    refine loop_rng (fun i env => ∃ (qs : List SP) (e6 e7 e8 e9 e10 e11 e12 : En), env = [.no, .fz .bag, .fz (.int (0 + ((turn : Nat) : Int))), .fz (.lst (ys.map D.str)), .fz (.lst (qs.map pairD)), .fz (.lst []), e6, e7, e8, e9, e10, e11, e12] ∧ qs.length ≤ 100 + i ∧ (∀ p ∈ qs, PyData.strOk p.1 = true ∧ PyData.strOk p.2 = true) ∧ (0 < i → ∃ p ∈ qs, ¬ gdW ys p))
      ⟨ps, _, _, _, _, _, _, _, rfl, by omega, fun p hp => ⟨name_ok (ny _ (wk p hp).1), name_ok (ny _ (wk p hp).2.1)⟩, fun z => absurd z (by omega)⟩ (fun i env hi h k2 hk2 => ?_) (fun env h => ?_)
    · obtain ⟨qs, f6, f7, f8, f9, f10, f11, f12, rfl, lq, tq, bq⟩ := h
      have el : lenD [.lst (qs.map pairD)] = some (.int ((qs.length : Nat) : Int)) := by
        show some (D.int _) = _
        rw [List.length_map]
      simp only [dC, dV, dB, dO2, ob_some, dT, dAndT, dOrT, dNotT, dIf, dAndV, dOrV, dNotV, dChain, aNil, aCons, dTup, dLst, dCut, oNone, oSome, dRev, dNeg, dTru, dCa, dIs, dIsA, dCall, dCallK, sNil, sSeq, sNever, sBrk, sCont, sIf, sRet, sRetO, sRetE, sSet, sSetO, sDrop, sPar, sPar3, kn, enOf, owD, sAsg, gNm, gsNil, gsCons, gTp, sApp, sIns, sExt, sClr, sRev, sPut, sFrz, owAt, fin, st, iRng, iRngB, iSeq, lstD, tupD, sFor, dLc, dDc, wipeE, tYesD, dIndex, dSort, dDictZip, dMeth, dFld, dMk, List.map_cons, List.map_nil, List.length_cons, List.length_nil, List.replicate_succ, List.replicate_zero, List.cons_append, List.nil_append, List.append_nil, List.getElem?_cons_zero, List.getElem?_cons_succ, List.set_cons_zero, List.set_cons_succ, Option.bind_some, Option.map_some, Nat.reduceSub, Nat.reduceAdd, kwP, List.getD_cons_zero, List.getD_cons_succ, el, bAdd_i, ob_some]
      refine ⟨_, rfl, by omega, by omega, fun at_ t0 t1 => ?_⟩
      obtain ⟨j, rfl⟩ : ∃ j : Nat, at_ = (j : Int) := ⟨at_.toNat, by omega⟩
      refine .inl ⟨_, .inl rfl, by rw [List.length_map]; omega, by rw [List.length_map]; omega, fun x hx => ?_⟩
      obtain ⟨o, ho, rfl⟩ := List.mem_map.mp hx
      have oo := name_ok (ny o ho)
      refine ⟨by decide, by decide, by decide, by decide, by decide, by decide, .inl ⟨_, .inl rfl, by simp, by simp, fun x hx => ?_⟩⟩
      have kA : PyData.strOk "A" = true := by decide +kernel
      have k0 : PyData.strOk "" = true := by decide +kernel
      have kz : PyData.strOk "zzzzzzz" = true := by decide +kernel
      obtain ⟨p, rfl, p1, p2, pb⟩ : ∃ p : SP, x = pairD p ∧ PyData.strOk p.1 = true ∧ PyData.strOk p.2 = true ∧ ¬ gdW ys p := by
        simp only [List.mem_cons, List.not_mem_nil, or_false] at hx
        rcases hx with rfl | rfl | rfl | rfl | rfl
        · exact ⟨("A", o), rfl, kA, oo, fun z => noA z.1⟩
        · exact ⟨(o, "A"), rfl, oo, kA, fun z => noA z.2.1⟩
        · exact ⟨(o, o), rfl, oo, oo, fun z => z.2.2 rfl⟩
        · exact ⟨("", "zzzzzzz"), rfl, k0, kz, fun z => no0 z.1⟩
        · exact ⟨(o, ""), rfl, oo, k0, fun z => no0 z.2.1⟩
      have lj : j ≤ (qs.map pairD).length := by rw [List.length_map]; omega
      have s1 : ((qs.map pairD).take j).length + [pairD p].length ≤ 1000000 := by
        rw [List.length_take, List.length_map]
        simp
        omega
      have s2 : ((qs.map pairD).take j ++ [pairD p]).length + ((qs.map pairD).drop j).length ≤ 1000000 := by
        rw [List.length_append, List.length_take, List.length_drop, List.length_map]
        simp
        omega
      simp only [cutA, cut_pre, cut_suf _ _ lj, ob_some, bAdd_l s1, bAdd_l s2]
      have eL : (qs.map pairD).take j ++ [pairD p] ++ (qs.map pairD).drop j = (qs.take j ++ p :: qs.drop j).map pairD := by
        rw [List.map_append, List.map_cons, List.map_take, List.map_drop, List.append_assoc]
        rfl
      rw [eL]
      refine ⟨by decide, hk2 _ ⟨qs.take j ++ p :: qs.drop j, _, _, _, _, _, _, _, rfl, ?_, fun q hq => ?_, fun _ => ⟨p, by simp, pb⟩⟩⟩
      · rw [List.length_append, List.length_cons, List.length_take, List.length_drop]
        omega
      · rcases List.mem_append.mp hq with h | h
        · exact tq q (List.mem_of_mem_take h)
        · rcases List.mem_cons.mp h with rfl | h
          · exact ⟨p1, p2⟩
          · exact tq q (List.mem_of_mem_drop h)
    · obtain ⟨qs, f6, f7, f8, f9, f10, f11, f12, rfl, lq, tq, bq⟩ := h
      exact hT _ ys qs _ _ _ _ _ _ _ _ _ (fun z hz => name_ok (ny z hz)) tq (by omega) (by omega) (bq (by omega)) fun e10 => hk _ ⟨_, _, _, _, _, _, _, _, _, _, _, rfl⟩
  · obtain ⟨e2, e3, e4, e5, e6, e7, e8, e9, e10, e11, e12, rfl⟩ := h
    simp only [dC, dV, dB, dO2, ob_some, dT, dAndT, dOrT, dNotT, dIf, dAndV, dOrV, dNotV, dChain, aNil, aCons, dTup, dLst, dCut, oNone, oSome, dRev, dNeg, dTru, dCa, dIs, dIsA, dCall, dCallK, sNil, sSeq, sNever, sBrk, sCont, sIf, sRet, sRetO, sRetE, sSet, sSetO, sDrop, sPar, sPar3, kn, enOf, owD, sAsg, gNm, gsNil, gsCons, gTp, sApp, sIns, sExt, sClr, sRev, sPut, sFrz, owAt, fin, st, iRng, iRngB, iSeq, lstD, tupD, sFor, dLc, dDc, wipeE, tYesD, dIndex, dSort, dDictZip, dMeth, dFld, dMk, List.map_cons, List.map_nil, List.length_cons, List.length_nil, List.replicate_succ, List.replicate_zero, List.cons_append, List.nil_append, List.append_nil, List.getElem?_cons_zero, List.getElem?_cons_succ, List.set_cons_zero, List.set_cons_succ, Option.bind_some, Option.map_some, Nat.reduceSub, Nat.reduceAdd, kwP, List.getD_cons_zero, List.getD_cons_succ]
end DL
namespace RK
open PySem PySem.Spec PyProof.Rows L2 DL
def topS (i : Nat) : Stmt := PySem.Challenge.pw_raisekeys_k18_wrong_wishes.main.body.getD i (.Pass ⟨0, 0, 0, 0⟩)
abbrev s_DeskError___init : Stmt := inClass (topS 1) 0
abbrev s_BadWish___init : Stmt := inClass (topS 2) 0
abbrev s_BadCost___init : Stmt := inClass (topS 3) 0
abbrev s_Impossible___init : Stmt := inClass (topS 4) 0
abbrev s_Missing___init : Stmt := inClass (topS 5) 0
abbrev s_Unknown___init : Stmt := inClass (topS 6) 0
abbrev s_NothingLeft___init : Stmt := inClass (topS 7) 0
abbrev s_check_known : Stmt := topS 9
abbrev s_check_wish : Stmt := topS 10
abbrev s_is_pair : Stmt := topS 11
abbrev s_places : Stmt := topS 12
abbrev s_keeps : Stmt := topS 13
abbrev s_settled : Stmt := topS 14
abbrev s_least_keeping : Stmt := topS 15
abbrev s_ring : Stmt := topS 16
abbrev s_is_ring : Stmt := topS 17
abbrev s_is_linked : Stmt := topS 18
abbrev s_wrong_count : Stmt := topS 20
abbrev s_all_trails : Stmt := topS 21
abbrev s_trail : Stmt := topS 22
abbrev s_wrong_ends : Stmt := topS 23
abbrev s_wrong_chain : Stmt := topS 24
abbrev s_Flow___init : Stmt := inClass (topS 28) 0
abbrev s_Flow_fill : Stmt := inClass (topS 28) 1
abbrev s_Flow_search : Stmt := inClass (topS 28) 2
abbrev s_Flow_nodes_after : Stmt := inClass (topS 28) 3
abbrev s_Flow_send : Stmt := inClass (topS 28) 4
abbrev s_Flow_carry : Stmt := inClass (topS 28) 5
abbrev s_Flow_amounts : Stmt := inClass (topS 28) 6
abbrev s_Flow_full_begins : Stmt := inClass (topS 28) 7
abbrev s_Flow_full_ends : Stmt := inClass (topS 28) 8
abbrev s_Flow_last_search : Stmt := inClass (topS 28) 9
abbrev s_way_to : Stmt := topS 29
abbrev s_plan : Stmt := topS 32
abbrev s_checked_prices : Stmt := topS 33
abbrev s_limits_of : Stmt := topS 34
abbrev s_moves : Stmt := topS 35
abbrev s_is_bundle : Stmt := topS 36
abbrev s_fits : Stmt := topS 37
abbrev s_chain_count : Stmt := topS 38
abbrev s_steps_for : Stmt := topS 40
abbrev s_group_plan : Stmt := topS 41
abbrev s_heights : Stmt := topS 42
abbrev s_greatest : Stmt := topS 43
abbrev s_sorting_raises : Stmt := topS 44
abbrev s_highest_way : Stmt := topS 45
abbrev s_bag : Stmt := topS 47
abbrev s_pull : Stmt := topS 48
abbrev s_of : Stmt := topS 49
abbrev s_mixed : Stmt := topS 50
abbrev s_names : Stmt := topS 51
abbrev s_field : Stmt := topS 52
abbrev s_try : Stmt := topS 53
abbrev s_wish : Stmt := topS 54
abbrev s_asks : Stmt := topS 55
abbrev s_law : Stmt := topS 56
theorem sc_check_wish : FnScope ["names", "wish", "known", "at", "item", "name"] ["names", "wish"] (defScope s_check_wish) := ⟨rfl, rfl, rfl, by decide +kernel, rfl, by decide +kernel, by decide +kernel⟩
theorem sc_is_pair : FnScope ["known", "item", "name"] ["known", "item"] (defScope s_is_pair) := ⟨rfl, rfl, rfl, by decide +kernel, rfl, by decide +kernel, by decide +kernel⟩
theorem sc_keeps : FnScope ["order", "wish", "place", "low", "high"] ["order", "wish"] (defScope s_keeps) := ⟨rfl, rfl, rfl, by decide +kernel, rfl, by decide +kernel, by decide +kernel⟩
theorem sc_least_keeping : FnScope ["names", "wish", "found"] ["names", "wish"] (defScope s_least_keeping) := ⟨rfl, rfl, rfl, by decide +kernel, rfl, by decide +kernel, by decide +kernel⟩
theorem sc_ring : FnScope ["names", "wish", "free", "lows", "held", "way", "low", "high", "name"] ["names", "wish"] (defScope s_ring) := ⟨rfl, rfl, rfl, by decide +kernel, rfl, by decide +kernel, by decide +kernel⟩
theorem sc_is_ring : FnScope ["names", "wish", "claimed"] ["names", "wish", "claimed"] (defScope s_is_ring) := ⟨rfl, rfl, rfl, by decide +kernel, rfl, by decide +kernel, by decide +kernel⟩
theorem sc_plan : FnScope ["order", "wish", "costs", "fixed", "prices", "found", "trails", "begin", "links", "end", "flow", "bundle", "amount"] ["order", "wish", "costs", "fixed"] (defScope s_plan) := ⟨rfl, rfl, rfl, by decide +kernel, rfl, by decide +kernel, by decide +kernel⟩
theorem sc_checked_prices : FnScope ["order", "wish", "costs", "fixed", "given", "name"] ["order", "wish", "costs", "fixed"] (defScope s_checked_prices) := ⟨rfl, rfl, rfl, by decide +kernel, rfl, by decide +kernel, by decide +kernel⟩
theorem sc_is_bundle : FnScope ["order", "wish", "bundle", "costs", "fixed", "prices", "chain", "amount", "name"] ["order", "wish", "bundle", "costs", "fixed"] (defScope s_is_bundle) := ⟨rfl, rfl, rfl, by decide +kernel, rfl, by decide +kernel, by decide +kernel⟩
theorem sc_chain_count : FnScope ["order", "wish", "chain"] ["order", "wish", "chain"] (defScope s_chain_count) := ⟨rfl, rfl, rfl, by decide +kernel, rfl, by decide +kernel, by decide +kernel⟩
theorem sc_group_plan : FnScope ["order", "wish", "found", "place", "links", "height", "before", "low", "high"] ["order", "wish"] (defScope s_group_plan) := ⟨rfl, rfl, rfl, by decide +kernel, rfl, by decide +kernel, by decide +kernel⟩
theorem sc_bag : FnScope ["_law_script", "_law_salt", "_law_cell"] ["_law_script"] (defScope s_bag) := ⟨rfl, rfl, rfl, by decide +kernel, rfl, by decide +kernel, by decide +kernel⟩
theorem sc_pull : FnScope ["_law_bag_here", "_law_amount", "_law_cell", "_law_got", "_law_seed"] ["_law_bag_here", "_law_amount"] (defScope s_pull) := ⟨rfl, rfl, rfl, by decide +kernel, rfl, by decide +kernel, by decide +kernel⟩
theorem sc_of : FnScope ["_law_bag_here", "_law_things"] ["_law_bag_here", "_law_things"] (defScope s_of) := ⟨rfl, rfl, rfl, by decide +kernel, rfl, by decide +kernel, by decide +kernel⟩
theorem sc_mixed : FnScope ["_law_bag_here", "_law_things", "_law_found", "_law_thing"] ["_law_bag_here", "_law_things"] (defScope s_mixed) := ⟨rfl, rfl, rfl, by decide +kernel, rfl, by decide +kernel, by decide +kernel⟩
theorem sc_names : FnScope ["_law_bag_here", "_law_count", "_law_letters", "_law_base", "_law_k", "_law_spot", "_law_first", "_law_step"] ["_law_bag_here", "_law_count"] (defScope s_names) := ⟨rfl, rfl, rfl, by decide +kernel, rfl, by decide +kernel, by decide +kernel⟩
theorem sc_field : FnScope ["_law_e"] ["_law_e"] (defScope s_field) := ⟨rfl, rfl, rfl, by decide +kernel, rfl, by decide +kernel, by decide +kernel⟩
theorem sc_try : FnScope ["_law_ask", "_law_e"] ["_law_ask"] (defScope s_try) := ⟨rfl, rfl, rfl, by decide +kernel, rfl, by decide +kernel, by decide +kernel⟩
theorem sc_wish : FnScope ["_law_bag_here", "_law_names_here", "_law_most", "_law_base", "_law_found", "_law_k", "_law_one", "_law_other", "_law_good"] ["_law_bag_here", "_law_names_here", "_law_most"] (defScope s_wish) := ⟨rfl, rfl, rfl, by decide +kernel, rfl, by decide +kernel, by decide +kernel⟩
theorem sc_asks : FnScope ["_law_names_here", "_law_wish_here", "_law_asks_here"] ["_law_names_here", "_law_wish_here"] (defScope s_asks) := ⟨rfl, rfl, rfl, by decide +kernel, rfl, by decide +kernel, by decide +kernel⟩
theorem sc_law : FnScope ["_law_script", "_law_bag_here", "_law_turn", "_law_names_here", "_law_wish_here", "_law_spots", "_law_k", "_law_at", "_law_one", "_law_odd", "_law_bad", "_law_pair", "_law_ask"] ["_law_script"] (defScope s_law) := ⟨rfl, rfl, rfl, by decide +kernel, rfl, by decide +kernel, by decide +kernel⟩
theorem sc_DeskError___init : FnScope ["self", "word", "why"] ["self", "word", "why"] (defScope s_DeskError___init) := ⟨rfl, rfl, rfl, by decide +kernel, rfl, by decide +kernel, by decide +kernel⟩
theorem sc_BadWish___init : FnScope ["self", "at"] ["self", "at"] (defScope s_BadWish___init) := ⟨rfl, rfl, rfl, by decide +kernel, rfl, by decide +kernel, by decide +kernel⟩
structure Txt (K : PySem.W.Frag) (mg : Str → Option Value) where
  f_check_wish : Addr
  fd_check_wish : FuncData
  F_check_wish : Fun K "check_wish" "check_wish" s_check_wish f_check_wish fd_check_wish
  g_check_wish : mg "check_wish" = some (.ref f_check_wish)
  b_check_wish : Binds K fd_check_wish ["names", "wish"] []
  f_is_pair : Addr
  fd_is_pair : FuncData
  F_is_pair : Fun K "is_pair" "is_pair" s_is_pair f_is_pair fd_is_pair
  g_is_pair : mg "is_pair" = some (.ref f_is_pair)
  b_is_pair : Binds K fd_is_pair ["known", "item"] []
  f_keeps : Addr
  fd_keeps : FuncData
  F_keeps : Fun K "keeps" "keeps" s_keeps f_keeps fd_keeps
  g_keeps : mg "keeps" = some (.ref f_keeps)
  b_keeps : Binds K fd_keeps ["order", "wish"] []
  f_least_keeping : Addr
  fd_least_keeping : FuncData
  F_least_keeping : Fun K "least_keeping" "least_keeping" s_least_keeping f_least_keeping fd_least_keeping
  g_least_keeping : mg "least_keeping" = some (.ref f_least_keeping)
  b_least_keeping : Binds K fd_least_keeping ["names", "wish"] []
  f_ring : Addr
  fd_ring : FuncData
  F_ring : Fun K "ring" "ring" s_ring f_ring fd_ring
  g_ring : mg "ring" = some (.ref f_ring)
  b_ring : Binds K fd_ring ["names", "wish"] []
  f_is_ring : Addr
  fd_is_ring : FuncData
  F_is_ring : Fun K "is_ring" "is_ring" s_is_ring f_is_ring fd_is_ring
  g_is_ring : mg "is_ring" = some (.ref f_is_ring)
  b_is_ring : Binds K fd_is_ring ["names", "wish", "claimed"] []
  f_plan : Addr
  fd_plan : FuncData
  F_plan : Fun K "plan" "plan" s_plan f_plan fd_plan
  KD_plan : ∃ (T : Addr) (o : Obj) (n : Nat), K.lookup T = some o ∧ o.cls = .type "tuple" ∧ o.data = .seq #[] n ∧ FunD K "plan" "plan" (defArgs s_plan) (defBody s_plan) (defScope s_plan) [] [("costs", .non), ("fixed", .ref T)] f_plan fd_plan
  g_plan : mg "plan" = some (.ref f_plan)
  f_checked_prices : Addr
  fd_checked_prices : FuncData
  F_checked_prices : Fun K "checked_prices" "checked_prices" s_checked_prices f_checked_prices fd_checked_prices
  g_checked_prices : mg "checked_prices" = some (.ref f_checked_prices)
  b_checked_prices : Binds K fd_checked_prices ["order", "wish", "costs", "fixed"] []
  f_is_bundle : Addr
  fd_is_bundle : FuncData
  F_is_bundle : Fun K "is_bundle" "is_bundle" s_is_bundle f_is_bundle fd_is_bundle
  KD_is_bundle : ∃ (T : Addr) (o : Obj) (n : Nat), K.lookup T = some o ∧ o.cls = .type "tuple" ∧ o.data = .seq #[] n ∧ FunD K "is_bundle" "is_bundle" (defArgs s_is_bundle) (defBody s_is_bundle) (defScope s_is_bundle) [] [("costs", .non), ("fixed", .ref T)] f_is_bundle fd_is_bundle
  g_is_bundle : mg "is_bundle" = some (.ref f_is_bundle)
  f_chain_count : Addr
  fd_chain_count : FuncData
  F_chain_count : Fun K "chain_count" "chain_count" s_chain_count f_chain_count fd_chain_count
  g_chain_count : mg "chain_count" = some (.ref f_chain_count)
  b_chain_count : Binds K fd_chain_count ["order", "wish", "chain"] []
  f_group_plan : Addr
  fd_group_plan : FuncData
  F_group_plan : Fun K "group_plan" "group_plan" s_group_plan f_group_plan fd_group_plan
  g_group_plan : mg "group_plan" = some (.ref f_group_plan)
  b_group_plan : Binds K fd_group_plan ["order", "wish"] []
  f_bag : Addr
  fd_bag : FuncData
  F_bag : Fun K "_law_bag" "_law_bag" s_bag f_bag fd_bag
  g_bag : mg "_law_bag" = some (.ref f_bag)
  b_bag : Binds K fd_bag ["_law_script"] []
  f_pull : Addr
  fd_pull : FuncData
  F_pull : Fun K "_law_pull" "_law_pull" s_pull f_pull fd_pull
  g_pull : mg "_law_pull" = some (.ref f_pull)
  b_pull : Binds K fd_pull ["_law_bag_here", "_law_amount"] []
  f_of : Addr
  fd_of : FuncData
  F_of : Fun K "_law_of" "_law_of" s_of f_of fd_of
  g_of : mg "_law_of" = some (.ref f_of)
  b_of : Binds K fd_of ["_law_bag_here", "_law_things"] []
  f_mixed : Addr
  fd_mixed : FuncData
  F_mixed : Fun K "_law_mixed" "_law_mixed" s_mixed f_mixed fd_mixed
  g_mixed : mg "_law_mixed" = some (.ref f_mixed)
  b_mixed : Binds K fd_mixed ["_law_bag_here", "_law_things"] []
  f_names : Addr
  fd_names : FuncData
  F_names : Fun K "_law_names" "_law_names" s_names f_names fd_names
  g_names : mg "_law_names" = some (.ref f_names)
  b_names : Binds K fd_names ["_law_bag_here", "_law_count"] []
  f_field : Addr
  fd_field : FuncData
  F_field : Fun K "_law_field" "_law_field" s_field f_field fd_field
  g_field : mg "_law_field" = some (.ref f_field)
  b_field : Binds K fd_field ["_law_e"] []
  f_try : Addr
  fd_try : FuncData
  F_try : Fun K "_law_try" "_law_try" s_try f_try fd_try
  g_try : mg "_law_try" = some (.ref f_try)
  b_try : Binds K fd_try ["_law_ask"] []
  f_wish : Addr
  fd_wish : FuncData
  F_wish : Fun K "_law_wish" "_law_wish" s_wish f_wish fd_wish
  g_wish : mg "_law_wish" = some (.ref f_wish)
  b_wish : Binds K fd_wish ["_law_bag_here", "_law_names_here", "_law_most"] []
  f_asks : Addr
  fd_asks : FuncData
  F_asks : Fun K "_law_asks" "_law_asks" s_asks f_asks fd_asks
  g_asks : mg "_law_asks" = some (.ref f_asks)
  b_asks : Binds K fd_asks ["_law_names_here", "_law_wish_here"] []
  f_law : Addr
  fd_law : FuncData
  F_law : Fun K "law" "law" s_law f_law fd_law
  g_law : mg "law" = some (.ref f_law)
  b_law : Binds K fd_law ["_law_script"] []
  C_DeskError : Addr
  g_DeskError : mg "DeskError" = some (.ref C_DeskError)
  f_DeskError___init : Addr
  fd_DeskError___init : FuncData
  F_DeskError___init : RK.FunA K "__init__" "DeskError.__init__" s_DeskError___init f_DeskError___init fd_DeskError___init
  b_DeskError___init : Binds K fd_DeskError___init ["self", "word", "why"] []
  x_DeskError : RK.OexG K C_DeskError PySem.OEG.bdV
  xi_DeskError : PySem.W.findIn K (.ref C_DeskError) "__init__" = some (some (.ref f_DeskError___init))
  xt_DeskError : PySem.W.typeIn K (.ref f_DeskError___init) = some (.type "function")
  nx_DeskError_word : PySem.W.findIn K (.ref C_DeskError) "word" = some none
  cr_DeskError : ClX.CRead K C_DeskError (.type "type")
  ci_DeskError : PySem.W.findCls K (.ref C_DeskError) (.type "type") "__init__" = some (.val (.ref f_DeskError___init))
  xf_DeskError : XfC K C_DeskError
  C_BadWish : Addr
  g_BadWish : mg "BadWish" = some (.ref C_BadWish)
  f_BadWish___init : Addr
  fd_BadWish___init : FuncData
  F_BadWish___init : RK.FunA K "__init__" "BadWish.__init__" s_BadWish___init f_BadWish___init fd_BadWish___init
  b_BadWish___init : Binds K fd_BadWish___init ["self", "at"] []
  x_BadWish : RK.OexG K C_BadWish PySem.OEG.bdV
  xi_BadWish : PySem.W.findIn K (.ref C_BadWish) "__init__" = some (some (.ref f_BadWish___init))
  xt_BadWish : PySem.W.typeIn K (.ref f_BadWish___init) = some (.type "function")
  nx_BadWish_word : PySem.W.findIn K (.ref C_BadWish) "word" = some none
  nx_BadWish_at : PySem.W.findIn K (.ref C_BadWish) "at" = some none
  cr_BadWish : ClX.CRead K C_BadWish (.type "type")
  ci_BadWish : PySem.W.findCls K (.ref C_BadWish) (.type "type") "__init__" = some (.val (.ref f_BadWish___init))
  xf_BadWish : XfC K C_BadWish
  C_BadCost : Addr
  g_BadCost : mg "BadCost" = some (.ref C_BadCost)
  f_BadCost___init : Addr
  fd_BadCost___init : FuncData
  F_BadCost___init : RK.FunA K "__init__" "BadCost.__init__" s_BadCost___init f_BadCost___init fd_BadCost___init
  b_BadCost___init : Binds K fd_BadCost___init ["self", "name"] []
  x_BadCost : RK.OexG K C_BadCost PySem.OEG.bdV
  xi_BadCost : PySem.W.findIn K (.ref C_BadCost) "__init__" = some (some (.ref f_BadCost___init))
  xt_BadCost : PySem.W.typeIn K (.ref f_BadCost___init) = some (.type "function")
  nx_BadCost_word : PySem.W.findIn K (.ref C_BadCost) "word" = some none
  nx_BadCost_name : PySem.W.findIn K (.ref C_BadCost) "name" = some none
  cr_BadCost : ClX.CRead K C_BadCost (.type "type")
  ci_BadCost : PySem.W.findCls K (.ref C_BadCost) (.type "type") "__init__" = some (.val (.ref f_BadCost___init))
  xf_BadCost : XfC K C_BadCost
  C_Impossible : Addr
  g_Impossible : mg "Impossible" = some (.ref C_Impossible)
  f_Impossible___init : Addr
  fd_Impossible___init : FuncData
  F_Impossible___init : RK.FunA K "__init__" "Impossible.__init__" s_Impossible___init f_Impossible___init fd_Impossible___init
  b_Impossible___init : Binds K fd_Impossible___init ["self"] []
  x_Impossible : RK.OexG K C_Impossible PySem.OEG.bdV
  xi_Impossible : PySem.W.findIn K (.ref C_Impossible) "__init__" = some (some (.ref f_Impossible___init))
  xt_Impossible : PySem.W.typeIn K (.ref f_Impossible___init) = some (.type "function")
  nx_Impossible_word : PySem.W.findIn K (.ref C_Impossible) "word" = some none
  cr_Impossible : ClX.CRead K C_Impossible (.type "type")
  ci_Impossible : PySem.W.findCls K (.ref C_Impossible) (.type "type") "__init__" = some (.val (.ref f_Impossible___init))
  xf_Impossible : XfC K C_Impossible
  C_Missing : Addr
  g_Missing : mg "Missing" = some (.ref C_Missing)
  f_Missing___init : Addr
  fd_Missing___init : FuncData
  F_Missing___init : RK.FunA K "__init__" "Missing.__init__" s_Missing___init f_Missing___init fd_Missing___init
  b_Missing___init : Binds K fd_Missing___init ["self", "word", "why"] []
  x_Missing : RK.OexG K C_Missing PySem.OEG.bdL
  xi_Missing : PySem.W.findIn K (.ref C_Missing) "__init__" = some (some (.ref f_Missing___init))
  xt_Missing : PySem.W.typeIn K (.ref f_Missing___init) = some (.type "function")
  nx_Missing_word : PySem.W.findIn K (.ref C_Missing) "word" = some none
  cr_Missing : ClX.CRead K C_Missing (.type "type")
  ci_Missing : PySem.W.findCls K (.ref C_Missing) (.type "type") "__init__" = some (.val (.ref f_Missing___init))
  xf_Missing : XfC K C_Missing
  C_Unknown : Addr
  g_Unknown : mg "Unknown" = some (.ref C_Unknown)
  f_Unknown___init : Addr
  fd_Unknown___init : FuncData
  F_Unknown___init : RK.FunA K "__init__" "Unknown.__init__" s_Unknown___init f_Unknown___init fd_Unknown___init
  b_Unknown___init : Binds K fd_Unknown___init ["self", "name"] []
  x_Unknown : RK.OexG K C_Unknown PySem.OEG.bdL
  xi_Unknown : PySem.W.findIn K (.ref C_Unknown) "__init__" = some (some (.ref f_Unknown___init))
  xt_Unknown : PySem.W.typeIn K (.ref f_Unknown___init) = some (.type "function")
  nx_Unknown_word : PySem.W.findIn K (.ref C_Unknown) "word" = some none
  nx_Unknown_name : PySem.W.findIn K (.ref C_Unknown) "name" = some none
  cr_Unknown : ClX.CRead K C_Unknown (.type "type")
  ci_Unknown : PySem.W.findCls K (.ref C_Unknown) (.type "type") "__init__" = some (.val (.ref f_Unknown___init))
  xf_Unknown : XfC K C_Unknown
  C_NothingLeft : Addr
  g_NothingLeft : mg "NothingLeft" = some (.ref C_NothingLeft)
  f_NothingLeft___init : Addr
  fd_NothingLeft___init : FuncData
  F_NothingLeft___init : RK.FunA K "__init__" "NothingLeft.__init__" s_NothingLeft___init f_NothingLeft___init fd_NothingLeft___init
  b_NothingLeft___init : Binds K fd_NothingLeft___init ["self"] []
  x_NothingLeft : RK.OexG K C_NothingLeft PySem.OEG.bdI
  xi_NothingLeft : PySem.W.findIn K (.ref C_NothingLeft) "__init__" = some (some (.ref f_NothingLeft___init))
  xt_NothingLeft : PySem.W.typeIn K (.ref f_NothingLeft___init) = some (.type "function")
  nx_NothingLeft_word : PySem.W.findIn K (.ref C_NothingLeft) "word" = some none
  cr_NothingLeft : ClX.CRead K C_NothingLeft (.type "type")
  ci_NothingLeft : PySem.W.findCls K (.ref C_NothingLeft) (.type "type") "__init__" = some (.val (.ref f_NothingLeft___init))
  xf_NothingLeft : XfC K C_NothingLeft
  xm_DeskError : PySem.W.exmAny K (.ref C_DeskError) [.ref C_DeskError, .ref C_Missing] = some true
  xm_BadWish : PySem.W.exmAny K (.ref C_BadWish) [.ref C_DeskError, .ref C_Missing] = some true
  xm_BadCost : PySem.W.exmAny K (.ref C_BadCost) [.ref C_DeskError, .ref C_Missing] = some true
  xm_Impossible : PySem.W.exmAny K (.ref C_Impossible) [.ref C_DeskError, .ref C_Missing] = some true
  xm_Missing : PySem.W.exmAny K (.ref C_Missing) [.ref C_DeskError, .ref C_Missing] = some true
  xm_Unknown : PySem.W.exmAny K (.ref C_Unknown) [.ref C_DeskError, .ref C_Missing] = some true
  xm_NothingLeft : PySem.W.exmAny K (.ref C_NothingLeft) [.ref C_DeskError, .ref C_Missing] = some false
  xn_NothingLeft : PySem.W.exmAny K (.ref C_NothingLeft) [.ref C_NothingLeft] = some true
  t_BEGIN : Tok
  c_BEGIN : mg "BEGIN" = some (.int 0 t_BEGIN)
  t_END : Tok
  c_END : mg "END" = some (.int 1 t_END)
  t_MOST_COST : Tok
  c_MOST_COST : mg "MOST_COST" = some (.int 1000 t_MOST_COST)
  m_ValueError : mg "ValueError" = none
  m_all : mg "all" = none
  m_enumerate : mg "enumerate" = none
  m_isinstance : mg "isinstance" = none
  m_len : mg "len" = none
  m_list : mg "list" = none
  m_range : mg "range" = none
  m_str : mg "str" = none
  m_tuple : mg "tuple" = none
def cls {K : PySem.W.Frag} {mg : Str → Option Value} (T : Txt K mg) : Cls := { BadWish := T.C_BadWish, BadCost := T.C_BadCost, Impossible := T.C_Impossible, Unknown := T.C_Unknown, NothingLeft := T.C_NothingLeft }
theorem kn_is_bundle_3_fixed {K : PySem.W.Frag} {mg : Str → Option Value} (T : Txt K mg) : ∃ (g : List Value → List Value → List Value) (gV : List V → List V → List V), KBn K T.fd_is_bundle ["order", "wish", "bundle", "costs", "fixed"] 3 ["fixed"] g gV ∧ ∀ {N : Addr → Prop} {W : Wd} {H : Hp} {us zs : List V} {xs ys : List D}, DdAll K N W H us xs → DdAll K N W H zs ys → xs.length = 3 → ys.length = 1 → DdAll K N W H (gV us zs) (xs ++ [.non, ys.getD 0 .non]) := by
  obtain ⟨Tt, o, n, h1, h2, h3, F⟩ := T.KD_is_bundle
  obtain ⟨mv, hb⟩ := RK.kbinds0 (ps := ["order", "wish", "bundle", "costs", "fixed"]) F 3 ["fixed"] [("costs", .non)] (fun vs mz zs => vs ++ (mz ++ zs)) (by simp) (by simp) (fun r1 r2 r3 => r1.append (r2.append r3)) (fun D doc pm an cdv ct us mv ws l1 l2 l3 => match us, mv, ws, l1, l2, l3 with | [_, _, _], [_], [_], _, _, _ => ⟨_, _, _, _, _, _, rfl, rfl, rfl⟩)
  refine ⟨_, _, hb, fun {N W H us zs xs ys} a b l1 l2 => ?_⟩
  cases b with
  | nil => cases l2
  | cons b0 b1 =>
    cases b1 with
    | nil => exact a.app (.cons .non (.cons b0 .nil))
    | cons _ _ => simp at l2
theorem kn_plan_2_costs {K : PySem.W.Frag} {mg : Str → Option Value} (T : Txt K mg) : ∃ (g : List Value → List Value → List Value) (gV : List V → List V → List V), KBn K T.fd_plan ["order", "wish", "costs", "fixed"] 2 ["costs"] g gV ∧ ∀ {N : Addr → Prop} {W : Wd} {H : Hp} {us zs : List V} {xs ys : List D}, DdAll K N W H us xs → DdAll K N W H zs ys → xs.length = 2 → ys.length = 1 → DdAll K N W H (gV us zs) (xs ++ [ys.getD 0 .non, .ktp []]) := by
  obtain ⟨Tt, o, n, h1, h2, h3, F⟩ := T.KD_plan
  obtain ⟨mv, hb⟩ := RK.kbinds0 (ps := ["order", "wish", "costs", "fixed"]) F 2 ["costs"] [("fixed", .ref Tt)] (fun vs mz zs => vs ++ (zs ++ mz)) (by simp) (by simp) (fun r1 r2 r3 => r1.append (r3.append r2)) (fun D doc pm an cdv ct us mv ws l1 l2 l3 => match us, mv, ws, l1, l2, l3 with | [_, _], [_], [_], _, _, _ => ⟨_, _, _, _, _, _, rfl, rfl, rfl⟩)
  refine ⟨_, _, hb, fun {N W H us zs xs ys} a b l1 l2 => ?_⟩
  cases b with
  | nil => cases l2
  | cons b0 b1 =>
    cases b1 with
    | nil => exact a.app (.cons b0 (.cons (emp_ktp h1 h2 h3) .nil))
    | cons _ _ => simp at l2
section
variable {P : Program} {w : World} {K : PySem.W.Frag} {mg : Str → Option Value} {base : Heap}
theorem ok_DeskError___init (T : Txt K mg) {k : Nat} : FnOk P w K mg base CX0 (k + 1) T.f_DeskError___init T.fd_DeskError___init ["self", "word", "why"] (spBase K PySem.OEG.bdV) := by
  refine T.F_DeskError___init.ok sc_DeskError___init (fun vs H Q E h => ?_) (fun cdv A outer s H vs Q E hr h => ?_)
  · obtain ⟨a, C, z, y, rfl, _⟩ := h
    rfl
  · obtain ⟨a, C, z, y, rfl, T1, n1, ha, q⟩ := h
    refine ⟨_, (pss_cons (ps_expr (RK.pe_binit (b := PySem.OEG.bdV) (by rfl) T.m_ValueError (by decide +kernel) PySem.OEX.typ_VE (by decide +kernel) (RK.find_V _) (by decide +kernel) (pa_cons (pv 0) (pa_cons (pv 2) pa_nil))))
      (pss_one (RK.ps_osg (pv 0) (pv 1) rfl))), ?_⟩
    exact ⟨.ref a, rfl, .str y, rfl, a, C, _, rfl, (by simp), T1, ha, .str z, rfl, .ref a, rfl, a, C, _, rfl, T1, n1, .inl ⟨ha, fun dx n ne => q dx n ne⟩⟩
theorem ok_BadWish___init (T : Txt K mg) {k : Nat} : FnOk P w K mg base CX0 (k + 2) T.f_BadWish___init T.fd_BadWish___init ["self", "at"] (spErrI T.C_BadWish "BadWish" "at") := by
  refine T.F_BadWish___init.ok sc_BadWish___init (fun vs H Q E h => ?_) (fun cdv A outer s H vs Q E hr h => ?_)
  · obtain ⟨a, y, rfl, _⟩ := h
    rfl
  · obtain ⟨a, y, rfl, hy, ha, q⟩ := h
    refine ⟨_, (pss_cons (ps_expr (RK.pe_cfun (pe_glob (v := .ref T.C_DeskError) (by rfl) T.g_DeskError rfl) T.cr_DeskError T.ci_DeskError T.F_DeskError___init.kp (ok_DeskError___init T) hr T.b_DeskError___init pass0 (pa_cons (pv 0) (pa_cons pe_str (pa_cons (pe_joined (PJ.cons pe_str (PJ.cons (pe_fmt (pv 1)) (PJ.cons pe_str PJ.nil)))) pa_nil)))))
      (pss_one (RK.ps_osg (pv 0) (pv 1) rfl))), ?_⟩
    have hl := intE_len hy
    have h0 : Str.empty.length = 0 := rfl
    have h1 : (Str.ofString "item ").length ≤ 100 := by decide +kernel
    have h2 : (Str.ofString " is not a pair of two different windows").length ≤ 100 := by decide +kernel
    refine ⟨rfl, .ref a, rfl, _, rfl, ?_, .int y, rfl, .inr ⟨y, rfl, intE_log hy, _, rfl, ?_, _, rfl, ?_, a, _, _, _, rfl, T.x_BadWish, T.nx_BadWish_word, ha, fun dx n ne => ?_⟩⟩
    · exact sz20 (by simp only [str_app]; omega)
    · exact sz20 (by simp only [str_app]; omega)
    · exact sz20 (by simp only [str_app]; omega)
    · exact ⟨.int y, rfl, .ref a, rfl, a, _, _, rfl, T.x_BadWish, T.nx_BadWish_at, .inr ⟨dx, _, upd_same, (by rw [upd_ne ne, upd_same]), (by simp), q dx n ne⟩⟩
theorem ok_is_pair (T : Txt K mg) {k : Nat} : FnOk P w K mg base CX0 (k + 1) T.f_is_pair T.fd_is_pair ["known", "item"] (lSp K false sp_is_pairW) := by
  refine T.F_is_pair.ok sc_is_pair (fun vs H Q E h => ?_) (fun cdv A outer s H vs Q E hr h => ?_)
  · obtain ⟨W, N0, ds, Pd, _, _, _, dd, sp, _⟩ := h
    rw [dd.len]
    exact ln_is_pairW sp
  · obtain ⟨W, N0, ds, Pd, al, wn, ok, dd, sp, q⟩ := h
    have tm : PSs (cxOf CX0 P w K mg base ["known", "item", "name"] "is_pair" (defScope s_is_pair) T.f_is_pair cdv A outer s H E).nox (defBody s_is_pair) (lS ⟨K, W, N0, H, false⟩ (d_is_pairW)) := ((ss_cons (ds_if (PW.pt (wt_or (dt_not (dt_val (dd_isi (by rfl) T.m_isinstance (c_b (dd_v (pv 1))) (pe_bltn (v := .ty "tuple") (by rfl) T.m_tuple (by decide +kernel) rfl)))) (wt_or1 (dt_ne hr (c_b (dd_len (by rfl) T.m_len (c_b (dd_v (pv 1))))) (c_b dd_int))))) (ss_one (ds_ret (by rfl) dd_bl)) ss_nil)
      (ss_one (ds_ret (by rfl) (dd_and (dd_all (by rfl) T.m_all (c_b (n_c (PE.mono (pe_lc (own := [("name", 2)]) (by rfl) sc_is_pair.nd (db_seq (c_b (dd_v (pv 1)))) (blkOk_by (own := [("name", 2)]) (N := ["known", "item", "name"]) (sc := defScope s_is_pair) (by decide +kernel)) (fun _ _ _ _ _ => (dg_name (i := 2) sc_is_pair.nd rfl (Or.inl rfl))) (fun _ _ _ _ _ => ts_nil) (fun _ _ _ _ _ => (dd_and (dd_isi (by rfl) T.m_isinstance (c_b (dd_v (pv 2))) (pe_bltn (v := .ty "str") (by rfl) T.m_str (by decide +kernel) rfl)) (dd_one (dd_in hr (c_b (dd_v (pv 2))) (c_b (dd_v (pv 0)))))))) (l_lc (by simp)))))) (dd_one (dd_ne hr (c_b (dd_ix hr (c_b (dd_v (pv 1))) (c_b dd_int))) (c_b (dd_ix hr (c_b (dd_v (pv 1))) (c_b dd_int))))))))))
    exact ⟨_, tm, fn_d al wn ok dd q (rd_is_pairW sp)⟩
theorem okx_check_wish (T : Txt K mg) {k : Nat} : FnOk P w K mg base (L2.CX P w) (k + 4) T.f_check_wish T.fd_check_wish ["names", "wish"] (lSpX K false (spx_check_wish (cls T))) := by
  refine T.F_check_wish.okX sc_check_wish (fun vs H Q E h => ?_) (fun cdv A outer s H vs Q E hr h => ?_)
  · obtain ⟨W, N0, ds, Pd, PX, _, _, _, dd, sp, _⟩ := h
    rw [dd.len]
    exact lnx_check_wish sp
  · obtain ⟨W, N0, ds, Pd, PX, al, wn, ok, dd, sp, q, hE⟩ := h
    have tm : PSs (cxOf (L2.CX P w) P w K mg base ["names", "wish", "known", "at", "item", "name"] "check_wish" (defScope s_check_wish) T.f_check_wish cdv A outer s H E) (defBody s_check_wish) (lS ⟨K, W, N0, H, false⟩ (dx_check_wish (cls T) PX)) := ((ss_cons (PS.mono (ps_setDc (i := 2) (own := [("name", 5)]) (by rfl) sc_check_wish.nd rfl rfl (swD_true rfl rfl rfl (by decide +kernel)) (db_seq (c_b (dd_v (pv 0)))) (blkOk_by (own := [("name", 5)]) (N := ["names", "wish", "known", "at", "item", "name"]) (sc := defScope s_check_wish) (by decide +kernel)) (fun _ _ _ _ _ => (dg_name (i := 5) sc_check_wish.nd rfl (Or.inl rfl))) (fun _ _ _ _ _ => ts_nil) (fun _ _ _ _ _ => (dd_v (pv 5))) (fun _ _ _ _ _ => dd_bl)) (l_setF_n (l_dc (by simp))))
      (ss_one (ds_for (passes_of rfl) rfl (di_enum (by rfl) T.m_enumerate (dd_v (pv 1))) (PG.mono (pg_tup (by rfl) (PGs.mono (pgs_cons (dg_name (i := 3) sc_check_wish.nd rfl (Or.inl rfl)) (PGs.mono (pgs_cons (dg_name (i := 4) sc_check_wish.nd rfl (Or.inl rfl)) dgs_nil) l_gcons)) l_gcons)) (l_gtup rfl)) (ss_one (ds_if (dt_not (dt_val (dd_call (ok_is_pair T) hr (by rfl) T.g_is_pair T.F_is_pair.kp T.b_is_pair pass0 (da_cons (dd_v (pv 2)) (da_cons (dd_v (pv 4)) da_nil))))) (ss_one (ds_raiseI (C := T.C_BadWish) (z := "BadWish") (f := "at") hE rfl (takes_of rfl rfl rfl rfl) (RK.pmk_oexG T.x_BadWish T.xi_BadWish T.xt_BadWish (ok_BadWish___init T) hr T.b_BadWish___init .nil pass0 (by rfl) T.g_BadWish (pa_cons (dd_v (pv 3)) pa_nil)))) ss_nil))))))
    exact ⟨_, tm, fn_d al wn ok dd q (rdx_check_wish sp)⟩
theorem okx_keeps (T : Txt K mg) {k : Nat} : FnOk P w K mg base (L2.CX P w) (k + 5) T.f_keeps T.fd_keeps ["order", "wish"] (lSpX K false (spx_keeps (cls T))) := by
  refine T.F_keeps.okX sc_keeps (fun vs H Q E h => ?_) (fun cdv A outer s H vs Q E hr h => ?_)
  · obtain ⟨W, N0, ds, Pd, PX, _, _, _, dd, sp, _⟩ := h
    rw [dd.len]
    exact lnx_keeps sp
  · obtain ⟨W, N0, ds, Pd, PX, al, wn, ok, dd, sp, q, hE⟩ := h
    have tm : PSs (cxOf (L2.CX P w) P w K mg base ["order", "wish", "place", "low", "high"] "keeps" (defScope s_keeps) T.f_keeps cdv A outer s H E) (defBody s_keeps) (lS ⟨K, W, N0, H, false⟩ (dx_keeps (cls T) PX)) := ((ss_cons (ds_expr (dd_callX hE (okx_check_wish T) hr (by rfl) T.g_check_wish T.F_check_wish.kp T.b_check_wish (passes_call (takes_of rfl rfl rfl rfl) (fun _ _ _ _ h => h)) (da_cons (dd_v (pv 0)) (da_cons (dd_v (pv 1)) da_nil))))
      pss_dead))
    exact ⟨_, tm, fn_d al wn ok dd q (rdx_keeps sp)⟩
theorem okx_least_keeping (T : Txt K mg) {k : Nat} : FnOk P w K mg base (L2.CX P w) (k + 5) T.f_least_keeping T.fd_least_keeping ["names", "wish"] (lSpX K true (spx_least_keeping (cls T))) := by
  refine T.F_least_keeping.okX sc_least_keeping (fun vs H Q E h => ?_) (fun cdv A outer s H vs Q E hr h => ?_)
  · obtain ⟨W, N0, ds, Pd, PX, _, _, _, dd, sp, _⟩ := h
    rw [dd.len]
    exact lnx_least_keeping sp
  · obtain ⟨W, N0, ds, Pd, PX, al, wn, ok, dd, sp, q, hE⟩ := h
    have tm : PSs (cxOf (L2.CX P w) P w K mg base ["names", "wish", "found"] "least_keeping" (defScope s_least_keeping) T.f_least_keeping cdv A outer s H E) (defBody s_least_keeping) (lS ⟨K, W, N0, H, true⟩ (dx_least_keeping (cls T) PX)) := ((ss_cons (ds_expr (dd_callX hE (okx_check_wish T) hr (by rfl) T.g_check_wish T.F_check_wish.kp T.b_check_wish (passes_call (takes_of rfl rfl rfl rfl) (fun _ _ _ _ h => h)) (da_cons (dd_v (pv 0)) (da_cons (dd_v (pv 1)) da_nil))))
      pss_dead))
    exact ⟨_, tm, fn_d al wn ok dd q (rdx_least_keeping sp)⟩
theorem okx_ring (T : Txt K mg) {k : Nat} : FnOk P w K mg base (L2.CX P w) (k + 5) T.f_ring T.fd_ring ["names", "wish"] (lSpX K false (spx_ring (cls T))) := by
  refine T.F_ring.okX sc_ring (fun vs H Q E h => ?_) (fun cdv A outer s H vs Q E hr h => ?_)
  · obtain ⟨W, N0, ds, Pd, PX, _, _, _, dd, sp, _⟩ := h
    rw [dd.len]
    exact lnx_ring sp
  · obtain ⟨W, N0, ds, Pd, PX, al, wn, ok, dd, sp, q, hE⟩ := h
    have tm : PSs (cxOf (L2.CX P w) P w K mg base ["names", "wish", "free", "lows", "held", "way", "low", "high", "name"] "ring" (defScope s_ring) T.f_ring cdv A outer s H E) (defBody s_ring) (lS ⟨K, W, N0, H, false⟩ (dx_ring (cls T) PX)) := ((ss_cons (ds_expr (dd_callX hE (okx_check_wish T) hr (by rfl) T.g_check_wish T.F_check_wish.kp T.b_check_wish (passes_call (takes_of rfl rfl rfl rfl) (fun _ _ _ _ h => h)) (da_cons (dd_v (pv 0)) (da_cons (dd_v (pv 1)) da_nil))))
      pss_dead))
    exact ⟨_, tm, fn_d al wn ok dd q (rdx_ring sp)⟩
theorem okx_is_ring (T : Txt K mg) {k : Nat} : FnOk P w K mg base (L2.CX P w) (k + 5) T.f_is_ring T.fd_is_ring ["names", "wish", "claimed"] (lSpX K false (spx_is_ring (cls T))) := by
  refine T.F_is_ring.okX sc_is_ring (fun vs H Q E h => ?_) (fun cdv A outer s H vs Q E hr h => ?_)
  · obtain ⟨W, N0, ds, Pd, PX, _, _, _, dd, sp, _⟩ := h
    rw [dd.len]
    exact lnx_is_ring sp
  · obtain ⟨W, N0, ds, Pd, PX, al, wn, ok, dd, sp, q, hE⟩ := h
    have tm : PSs (cxOf (L2.CX P w) P w K mg base ["names", "wish", "claimed"] "is_ring" (defScope s_is_ring) T.f_is_ring cdv A outer s H E) (defBody s_is_ring) (lS ⟨K, W, N0, H, false⟩ (dx_is_ring (cls T) PX)) := ((ss_cons (ds_expr (dd_callX hE (okx_check_wish T) hr (by rfl) T.g_check_wish T.F_check_wish.kp T.b_check_wish (passes_call (takes_of rfl rfl rfl rfl) (fun _ _ _ _ h => h)) (da_cons (dd_v (pv 0)) (da_cons (dd_v (pv 1)) da_nil))))
      pss_dead))
    exact ⟨_, tm, fn_d al wn ok dd q (rdx_is_ring sp)⟩
theorem okx_checked_prices (T : Txt K mg) {k : Nat} : FnOk P w K mg base (L2.CX P w) (k + 5) T.f_checked_prices T.fd_checked_prices ["order", "wish", "costs", "fixed"] (lSpX K false (spx_checked_prices (cls T))) := by
  refine T.F_checked_prices.okX sc_checked_prices (fun vs H Q E h => ?_) (fun cdv A outer s H vs Q E hr h => ?_)
  · obtain ⟨W, N0, ds, Pd, PX, _, _, _, dd, sp, _⟩ := h
    rw [dd.len]
    exact lnx_checked_prices sp
  · obtain ⟨W, N0, ds, Pd, PX, al, wn, ok, dd, sp, q, hE⟩ := h
    have tm : PSs (cxOf (L2.CX P w) P w K mg base ["order", "wish", "costs", "fixed", "given", "name"] "checked_prices" (defScope s_checked_prices) T.f_checked_prices cdv A outer s H E) (defBody s_checked_prices) (lS ⟨K, W, N0, H, false⟩ (dx_checked_prices (cls T) PX)) := ((ss_cons (ds_expr (dd_callX hE (okx_check_wish T) hr (by rfl) T.g_check_wish T.F_check_wish.kp T.b_check_wish (passes_call (takes_of rfl rfl rfl rfl) (fun _ _ _ _ h => h)) (da_cons (dd_v (pv 0)) (da_cons (dd_v (pv 1)) da_nil))))
      pss_dead))
    exact ⟨_, tm, fn_d al wn ok dd q (rdx_checked_prices sp)⟩
theorem okx_plan (T : Txt K mg) {k : Nat} : FnOk P w K mg base (L2.CX P w) (k + 6) T.f_plan T.fd_plan ["order", "wish", "costs", "fixed"] (lSpX K false (spx_plan (cls T))) := by
  refine T.F_plan.okX sc_plan (fun vs H Q E h => ?_) (fun cdv A outer s H vs Q E hr h => ?_)
  · obtain ⟨W, N0, ds, Pd, PX, _, _, _, dd, sp, _⟩ := h
    rw [dd.len]
    exact lnx_plan sp
  · obtain ⟨W, N0, ds, Pd, PX, al, wn, ok, dd, sp, q, hE⟩ := h
    have tm : PSs (cxOf (L2.CX P w) P w K mg base ["order", "wish", "costs", "fixed", "prices", "found", "trails", "begin", "links", "end", "flow", "bundle", "amount"] "plan" (defScope s_plan) T.f_plan cdv A outer s H E) (defBody s_plan) (lS ⟨K, W, N0, H, false⟩ (dx_plan (cls T) PX)) := ((ss_cons (ds_set (i := 4) sc_plan.nd rfl (.inl rfl) (dd_callX hE (okx_checked_prices T) hr (by rfl) T.g_checked_prices T.F_checked_prices.kp T.b_checked_prices (passes_call (takes_of rfl rfl rfl rfl) (fun _ _ _ _ h => h)) (da_cons (dd_v (pv 0)) (da_cons (dd_v (pv 1)) (da_cons (dd_v (pv 2)) (da_cons (dd_v (pv 3)) da_nil))))))
      pss_dead))
    exact ⟨_, tm, fn_d al wn ok dd q (rdx_plan sp)⟩
theorem okx_is_bundle (T : Txt K mg) {k : Nat} : FnOk P w K mg base (L2.CX P w) (k + 6) T.f_is_bundle T.fd_is_bundle ["order", "wish", "bundle", "costs", "fixed"] (lSpX K false (spx_is_bundle (cls T))) := by
  refine T.F_is_bundle.okX sc_is_bundle (fun vs H Q E h => ?_) (fun cdv A outer s H vs Q E hr h => ?_)
  · obtain ⟨W, N0, ds, Pd, PX, _, _, _, dd, sp, _⟩ := h
    rw [dd.len]
    exact lnx_is_bundle sp
  · obtain ⟨W, N0, ds, Pd, PX, al, wn, ok, dd, sp, q, hE⟩ := h
    have tm : PSs (cxOf (L2.CX P w) P w K mg base ["order", "wish", "bundle", "costs", "fixed", "prices", "chain", "amount", "name"] "is_bundle" (defScope s_is_bundle) T.f_is_bundle cdv A outer s H E) (defBody s_is_bundle) (lS ⟨K, W, N0, H, false⟩ (dx_is_bundle (cls T) PX)) := ((ss_cons (ds_set (i := 5) sc_is_bundle.nd rfl (.inr rfl) (dd_callX hE (okx_checked_prices T) hr (by rfl) T.g_checked_prices T.F_checked_prices.kp T.b_checked_prices (passes_call (takes_of rfl rfl rfl rfl) (fun _ _ _ _ h => h)) (da_cons (dd_v (pv 0)) (da_cons (dd_v (pv 1)) (da_cons (dd_v (pv 3)) (da_cons (dd_v (pv 4)) da_nil))))))
      pss_dead))
    exact ⟨_, tm, fn_d al wn ok dd q (rdx_is_bundle sp)⟩
theorem okx_chain_count (T : Txt K mg) {k : Nat} : FnOk P w K mg base (L2.CX P w) (k + 5) T.f_chain_count T.fd_chain_count ["order", "wish", "chain"] (lSpX K false (spx_chain_count (cls T))) := by
  refine T.F_chain_count.okX sc_chain_count (fun vs H Q E h => ?_) (fun cdv A outer s H vs Q E hr h => ?_)
  · obtain ⟨W, N0, ds, Pd, PX, _, _, _, dd, sp, _⟩ := h
    rw [dd.len]
    exact lnx_chain_count sp
  · obtain ⟨W, N0, ds, Pd, PX, al, wn, ok, dd, sp, q, hE⟩ := h
    have tm : PSs (cxOf (L2.CX P w) P w K mg base ["order", "wish", "chain"] "chain_count" (defScope s_chain_count) T.f_chain_count cdv A outer s H E) (defBody s_chain_count) (lS ⟨K, W, N0, H, false⟩ (dx_chain_count (cls T) PX)) := ((ss_cons (ds_expr (dd_callX hE (okx_check_wish T) hr (by rfl) T.g_check_wish T.F_check_wish.kp T.b_check_wish (passes_call (takes_of rfl rfl rfl rfl) (fun _ _ _ _ h => h)) (da_cons (dd_v (pv 0)) (da_cons (dd_v (pv 1)) da_nil))))
      pss_dead))
    exact ⟨_, tm, fn_d al wn ok dd q (rdx_chain_count sp)⟩
theorem okx_group_plan (T : Txt K mg) {k : Nat} : FnOk P w K mg base (L2.CX P w) (k + 6) T.f_group_plan T.fd_group_plan ["order", "wish"] (lSpX K false (spx_group_plan (cls T))) := by
  refine T.F_group_plan.okX sc_group_plan (fun vs H Q E h => ?_) (fun cdv A outer s H vs Q E hr h => ?_)
  · obtain ⟨W, N0, ds, Pd, PX, _, _, _, dd, sp, _⟩ := h
    rw [dd.len]
    exact lnx_group_plan sp
  · obtain ⟨W, N0, ds, Pd, PX, al, wn, ok, dd, sp, q, hE⟩ := h
    have tm : PSs (cxOf (L2.CX P w) P w K mg base ["order", "wish", "found", "place", "links", "height", "before", "low", "high"] "group_plan" (defScope s_group_plan) T.f_group_plan cdv A outer s H E) (defBody s_group_plan) (lS ⟨K, W, N0, H, false⟩ (dx_group_plan (cls T) PX)) := ((ss_cons (ds_set (i := 2) sc_group_plan.nd rfl (.inl rfl) (dd_callX hE (okx_ring T) hr (by rfl) T.g_ring T.F_ring.kp T.b_ring (passes_call (takes_of rfl rfl rfl rfl) (fun _ _ _ _ h => h)) (da_cons (dd_v (pv 0)) (da_cons (dd_v (pv 1)) da_nil))))
      pss_dead))
    exact ⟨_, tm, fn_d al wn ok dd q (rdx_group_plan sp)⟩
theorem okb_bag (T : Txt K mg) {k : Nat} : FnOk P w K mg base CX0 (k + 1) T.f_bag T.fd_bag ["_law_script"] (spBagT K) := by
  refine T.F_bag.ok sc_bag (fun vs H Q E h => ?_) (fun cdv A outer s H vs Q E hr h => ?_)
  · obtain ⟨a, ns, rfl, _⟩ := h
    rfl
  · obtain ⟨a, ns, rfl, hS, hlen, q⟩ := h
    refine ⟨_, (pss_cons (ps_set (i := 1) sc_bag.nd rfl (.inl rfl) pe_int)
      (pss_cons (ps_for PassesOwn.never rfl (pi_list (pe_slice (r := rSlL K) sl_list (pv 0) po_none (po_some pe_int))) (pg_name (i := 2) sc_bag.nd rfl (.inl rfl)) (pss_one (ps_set (i := 1) sc_bag.nd rfl (.inl rfl) (pe_op op_mod (pe_op op_add (pe_op op_add (pe_op op_mul (pv 1) pe_int) (pe_op op_mod (pv 2) pe_int)) pe_int) pe_int))))
      (pss_one (ps_ret (pe_lst (pa_cons (pe_callTy (T := "list") (r := RK.rListQ K) RK.call_listQ (by rfl) T.m_list (by decide +kernel) (pa_cons (pe_slice (r := rSlL K) sl_list (pv 0) po_none (po_some pe_int)) pa_nil)) (pa_cons pe_int (pa_cons pe_int (pa_cons (pv 1) pa_nil))))))))), ?_⟩
    refine ⟨.ref a, rfl, 63, rfl, a, _, rfl, hS, fun p np => ?_⟩
    rw [cut63 ns hlen]
    have t1 : Sn H (upd H p (.lst (ns.map V.int))) := Sn.new np _
    have s1 := t1.f
    refine ⟨p, rfl, ⟨_, .inl (.inl upd_same)⟩, for_list (xs := ns.map V.int) (fun _ σ H' => ∃ z y2, σ = [some (.ref a), some (.int z), y2] ∧ 0 ≤ z ∧ z < 2147483647 ∧ H' = upd H p (.lst (ns.map V.int))) ⟨9489, none, rfl, by decide, by decide, rfl⟩ ?_ ?_ ?_⟩
    · rintro i σ H' _ ⟨z, y2, rfl, _, _, rfl⟩
      exact .inl (.inl upd_same)
    · rintro i x σ H' hx ⟨z, y2, rfl, z0, z1, rfl⟩
      rw [List.getElem?_map] at hx
      obtain ⟨c, hc, rfl⟩ := Option.map_eq_some_iff.mp hx
      refine ⟨.int z, rfl, _, _, rfl, rfl, .inl ⟨by omega, by omega⟩, .int c, rfl, _, _, rfl, rfl, (show (0 : Int) < 2147483587 by decide), _, _, rfl, rfl, _, _, rfl, rfl, _, _, rfl, rfl, (show (0 : Int) < 2147483647 by decide), _, _, rfl, Int.emod_nonneg _ (by decide), Int.emod_lt_of_pos _ (by decide), rfl⟩
    · rintro σ H' ⟨z, y2, rfl, z0, z1, rfl⟩
      refine ⟨.ref a, rfl, 63, rfl, a, _, rfl, s1.seq hS, fun p2 np2 => ?_⟩
      rw [cut63 ns hlen]
      have t2 := Sn.new np2 (.lst (ns.map V.int))
      have s2 := t2.f
      refine ⟨p2, _, rfl, .inl (.inl (.inl upd_same)), fun l nl => ?_⟩
      have t3 := Sn.new nl (.lst (ns.map V.int))
      have s3 := t3.f
      refine ⟨.int z, rfl, (by show 4 ≤ sizeLine; decide), fun b nb => ?_⟩
      have t4 := Sn.new nb (.lst [.ref l, .int 0, .int 0, .int z])
      have s4 := t4.f
      have st : Sn H _ := ((t1.trans t2).trans t3).trans t4
      refine q _ b l st (((s1.trans s2).trans s3).free nb) ((s1.trans s2).free nl) ⟨ns, 0, 0, z, upd_same, s4 _ _ upd_same, ne_of_none upd_same nb, Nat.zero_le _, hlen, by decide, z0, z1⟩
theorem okb_pull (T : Txt K mg) {k : Nat} : FnOk P w K mg base CX0 (k + 1) T.f_pull T.fd_pull ["_law_bag_here", "_law_amount"] spPull := by
  refine T.F_pull.ok sc_pull (fun vs H Q E h => ?_) (fun cdv A outer s H vs Q E hr h => ?_)
  · obtain ⟨b, s, n, rfl, _⟩ := h
    rfl
  · obtain ⟨b, s, n, rfl, B, n1, n2, q⟩ := h
    obtain ⟨ns, i, big, salt, B⟩ := B
    refine ⟨_, (C8.pss_cut (ps_if (PW.pt (pw_and (pt_cmpR op_eq (pe_ix (r := rIxL K) ix_list (pv 0) pe_int (fun _ _ => rfl)) pe_int (nomark _)) (pw_and1 (pt_cmpR op_lt (pe_ix (r := rIxL K) ix_list (pv 0) pe_int (fun _ _ => rfl)) (pe_callB (id := "len") (r := RK.rLenQ K) RK.call_lenQ (by rfl) T.m_len (by decide +kernel) (pa_cons (pe_ix (r := rIxL K) ix_list (pv 0) pe_int (fun _ _ => rfl)) pa_nil)) (nomark _))))) (pss_cons (ps_set (i := 2) sc_pull.nd rfl (.inl rfl) (pe_ix (r := rIxL K) ix_list (pe_ix (r := rIxL K) ix_list (pv 0) pe_int (fun _ _ => rfl)) (pe_ix (r := rIxL K) ix_list (pv 0) pe_int (fun _ _ => rfl)) (fun _ _ => rfl)))
      (pss_cons (ps_asg (pe_op op_add (pe_ix (r := rIxL K) ix_list (pv 0) pe_int (fun _ _ => rfl)) pe_int) (pg_sub (pv 0) pe_int L2.set_list))
      (pss_one (ps_if (pt_cmpR op_ge (pv 2) (pe_op op_pow pe_int pe_int) (nomark _)) (pss_one (ps_asg (pv 2) (pg_sub (pv 0) pe_int L2.set_list))) (pss_one (ps_asg (pe_op op_mod (pe_op op_add (pe_op op_add (pe_op op_mul (pe_ix (r := rIxL K) ix_list (pv 0) pe_int (fun _ _ => rfl)) pe_int) (pe_op op_mul (pe_op op_mod (pv 2) pe_int) pe_int)) pe_int) pe_int) (pg_sub (pv 0) pe_int L2.set_list))))))) pss_nil)
      (pss_cons (ps_if (pt_cmpR op_gt (pe_ix (r := rIxL K) ix_list (pv 0) pe_int (fun _ _ => rfl)) pe_int (nomark _)) (pss_cons (ps_set (i := 3) sc_pull.nd rfl (.inl rfl) (pe_op op_mod (pe_ix (r := rIxL K) ix_list (pv 0) pe_int (fun _ _ => rfl)) (pv 1)))
      (pss_cons (ps_asg (pe_op op_fdivW (pe_ix (r := rIxL K) ix_list (pv 0) pe_int (fun _ _ => rfl)) (pv 1)) (pg_sub (pv 0) pe_int L2.set_list))
      (pss_one (ps_ret (pv 3))))) pss_nil)
      (pss_cons (ps_set (i := 4) sc_pull.nd rfl (.inl rfl) (pe_ix (r := rIxL K) ix_list (pv 0) pe_int (fun _ _ => rfl)))
      (pss_cons (ps_asg (pe_op op_mod (pe_op op_add (pe_op op_add (pe_op op_mul (pv 4) (pv 4)) (pe_op op_mul (pv 4) pe_int)) pe_int) pe_int) (pg_sub (pv 0) pe_int L2.set_list))
      (pss_one (ps_ret (pe_op op_mod (pe_op op_add (pe_op op_fdivW (pe_ix (r := rIxL K) ix_list (pv 0) pe_int (fun _ _ => rfl)) pe_int) (pe_op op_mul (pe_op op_mod (pe_ix (r := rIxL K) ix_list (pv 0) pe_int (fun _ _ => rfl)) pe_int) pe_int)) (pv 1)))))))), ?_⟩
    refine ⟨fun σ H' => ∃ y2, σ = [some (.ref b), some (.int n), y2, none, none] ∧ KeepT b H H' ∧ ∃ i big salt, BagC H' b s ns i big salt, ?_, ?_⟩
    · -- the first if
      refine ⟨.ref b, rfl, b, _, 2, _, rfl, rfl, SqL.of B.hb, at2, rfl, _, rfl, ite2 (fun c => ?_) (fun c => ?_)⟩
      · refine ⟨.ref b, rfl, b, _, 1, _, rfl, rfl, SqL.of B.hb, at1, .ref b, rfl, b, _, 0, _, rfl, rfl, SqL.of B.hb, at0, s, _, rfl, .inl (SqL.of B.hs), _, _, rfl, rfl, _, rfl, ite2 (fun c2 => ?_) (fun c2 => ?_)⟩
        · have hi : i < ns.length := by
            have := of_decide_eq_true c2
            rw [List.length_map] at this
            omega
          have g : (ns.map V.int)[i]? = some (.int ns[i]) := by
            rw [List.getElem?_map, List.getElem?_eq_getElem hi]
            rfl
          refine ⟨.ref b, rfl, b, _, 0, _, rfl, rfl, SqL.of B.hb, at0, .ref b, rfl, b, _, 1, _, rfl, rfl, SqL.of B.hb, at1, s, _, _, _, rfl, rfl, SqL.of B.hs, atI_nat g, ?_⟩
          refine ⟨.ref b, rfl, b, _, 1, _, rfl, rfl, SqL.of B.hb, at1, _, _, rfl, rfl, .ref b, rfl, b, _, 1, 1, rfl, rfl, B.hb, rfl, ?_⟩
          have k1 : KeepT b H (upd H b (.lst [.ref s, .int (↑i + 1), .int big, .int salt])) := (KeepT.refl b H).upd
          have hs1 : (upd H b (.lst [.ref s, .int (↑i + 1), .int big, .int salt])) s = some (.lst (ns.map V.int)) := by rw [upd_ne B.ne]; exact B.hs
          refine ⟨.int ns[i], rfl, _, _, rfl, rfl, ⟨by decide, by decide, by decide⟩, _, _, rfl, rfl, _, rfl, ite2 (fun c3 => ?_) (fun c3 => ?_)⟩
          · have hc : 0 ≤ ns[i] := by
              have h3 := of_decide_eq_true c3
              have h4 : ((10 : Int) ^ (18 : Int).toNat) = 1000000000000000000 := by decide
              rw [h4] at h3
              omega
            refine ⟨.int ns[i], rfl, .ref b, rfl, b, _, 2, 2, rfl, rfl, upd_same, rfl, ?_⟩
            refine ⟨_, rfl, k1.upd, i + 1, ns[i], salt, ⟨?_, ?_, B.ne, hi, B.hn, hc, B.h1, B.h2⟩⟩
            · rw [upd_same]; rfl
            · rw [upd_ne B.ne]; exact hs1
          · refine ⟨.ref b, rfl, b, _, 3, _, rfl, rfl, SqL.of upd_same, at3, _, _, rfl, rfl, .inr ⟨by decide, by decide⟩, .int ns[i], rfl, _, _, rfl, rfl, (show (0 : Int) < 2147483587 by decide), _, _, rfl, rfl, .inr ⟨by decide, by decide⟩, _, _, rfl, rfl, _, _, rfl, rfl, _, _, rfl, rfl, (show (0 : Int) < 2147483647 by decide), .ref b, rfl, b, _, 3, 3, rfl, rfl, upd_same, rfl, ?_⟩
            refine ⟨_, rfl, k1.upd, i + 1, big, (salt * 40692 + ns[i] % 2147483587 * 48271 + 7) % 2147483647, ⟨?_, ?_, B.ne, hi, B.hn, B.h0, Int.emod_nonneg _ (show (2147483647 : Int) ≠ 0 by decide), Int.emod_lt_of_pos _ (show (0 : Int) < 2147483647 by decide)⟩⟩
            · rw [upd_same]; rfl
            · rw [upd_ne B.ne]; exact hs1
        · exact ⟨_, rfl, KeepT.refl b H, i, big, salt, B⟩
      · exact ⟨_, rfl, KeepT.refl b H, i, big, salt, B⟩
    · rintro σ H1 ⟨y2, rfl, k1, i, big, salt, B⟩
      refine ⟨.ref b, rfl, b, _, 2, _, rfl, rfl, SqL.of B.hb, at2, _, _, rfl, rfl, _, rfl, ite2 (fun c => ?_) (fun c => ?_)⟩
      · refine ⟨.ref b, rfl, b, _, 2, _, rfl, rfl, SqL.of B.hb, at2, .int n, rfl, _, _, rfl, rfl, (show (0 : Int) < n by omega), .ref b, rfl, b, _, 2, _, rfl, rfl, SqL.of B.hb, at2, .int n, rfl, _, _, rfl, rfl, cdivw n1 n2, .ref b, rfl, b, _, 2, 2, rfl, rfl, B.hb, rfl, .int (big % n), rfl, ?_⟩
        refine q _ _ (Int.emod_nonneg _ (by omega)) (Int.emod_lt_of_pos _ (by omega)) k1.upd ⟨ns, i, big / n, salt, ?_, ?_, B.ne, B.hi, B.hn, Int.ediv_nonneg B.h0 (by omega), B.h1, B.h2⟩
        · rw [upd_same]; rfl
        · rw [upd_ne B.ne]; exact B.hs
      · have h1 := B.h1
        have h2 := B.h2
        refine ⟨.ref b, rfl, b, _, 3, _, rfl, rfl, SqL.of B.hb, at3, .int salt, rfl, .int salt, rfl, _, _, rfl, rfl, .inl ⟨by omega, by omega⟩, .int salt, rfl, _, _, rfl, rfl, .inl ⟨by omega, by omega⟩, _, _, rfl, rfl, _, _, rfl, rfl, _, _, rfl, rfl, (show (0 : Int) < 2147483647 by decide), .ref b, rfl, b, _, 3, 3, rfl, rfl, B.hb, rfl, ?_⟩
        refine ⟨.ref b, rfl, b, _, 3, _, rfl, rfl, SqL.of upd_same, at3, _, _, rfl, rfl, cdivw (n := 89) (by decide) (by decide), .ref b, rfl, b, _, 3, _, rfl, rfl, SqL.of upd_same, at3, _, _, rfl, rfl, (show (0 : Int) < 8191 by decide), _, _, rfl, rfl, .inr ⟨by decide, by decide⟩, _, _, rfl, rfl, .int n, rfl, _, _, rfl, rfl, (show (0 : Int) < n by omega), ?_⟩
        refine q _ _ (Int.emod_nonneg _ (by omega)) (Int.emod_lt_of_pos _ (by omega)) k1.upd ⟨ns, i, big, (salt * salt + salt * 69621 + 1013904223) % 2147483647, ?_, ?_, B.ne, B.hi, B.hn, B.h0, Int.emod_nonneg _ (show (2147483647 : Int) ≠ 0 by decide), Int.emod_lt_of_pos _ (show (0 : Int) < 2147483647 by decide)⟩
        · rw [upd_same]; rfl
        · rw [upd_ne B.ne]; exact B.hs
theorem ok_pull (T : Txt K mg) {k : Nat} : FnOk P w K mg base CX0 (k + 1) T.f_pull T.fd_pull ["_law_bag_here", "_law_amount"] (lSp K false sp_pull) := pull_d (okb_pull T)
theorem ok_of (T : Txt K mg) {k : Nat} : FnOk P w K mg base CX0 (k + 2) T.f_of T.fd_of ["_law_bag_here", "_law_things"] (lSp K false sp_of) := by
  refine T.F_of.ok sc_of (fun vs H Q E h => ?_) (fun cdv A outer s H vs Q E hr h => ?_)
  · obtain ⟨W, N0, ds, Pd, _, _, _, dd, sp, _⟩ := h
    rw [dd.len]
    exact ln_of sp
  · obtain ⟨W, N0, ds, Pd, al, wn, ok, dd, sp, q⟩ := h
    have tm : PSs (cxOf CX0 P w K mg base ["_law_bag_here", "_law_things"] "_law_of" (defScope s_of) T.f_of cdv A outer s H E).nox (defBody s_of) (lS ⟨K, W, N0, H, false⟩ (d_of)) := ((ss_one (ds_ret (by rfl) (dd_ix hr (c_b (dd_v (pv 1))) (c_b (dd_call (ok_pull T) hr (by rfl) T.g_pull T.F_pull.kp T.b_pull pass0 (da_cons (dd_v (pv 0)) (da_cons (dd_len (by rfl) T.m_len (c_b (dd_v (pv 1)))) da_nil))))))))
    exact ⟨_, tm, fn_d al wn ok dd q (rd_of sp)⟩
theorem ok_mixed (T : Txt K mg) {k : Nat} : FnOk P w K mg base CX0 (k + 2) T.f_mixed T.fd_mixed ["_law_bag_here", "_law_things"] (lSp K true sp_mixed) := by
  refine T.F_mixed.ok sc_mixed (fun vs H Q E h => ?_) (fun cdv A outer s H vs Q E hr h => ?_)
  · obtain ⟨W, N0, ds, Pd, _, _, _, dd, sp, _⟩ := h
    rw [dd.len]
    exact ln_mixed sp
  · obtain ⟨W, N0, ds, Pd, al, wn, ok, dd, sp, q⟩ := h
    have tm : PSs (cxOf CX0 P w K mg base ["_law_bag_here", "_law_things", "_law_found", "_law_thing"] "_law_mixed" (defScope s_mixed) T.f_mixed cdv A outer s H E).nox (defBody s_mixed) (lS ⟨K, W, N0, H, true⟩ (d_mixed)) := ((ss_cons (ds_setO (i := 2) sc_mixed.nd rfl (.inl rfl) (dn_lst da_nil))
      (ss_cons (ds_for PassesOwn.never rfl (di_seq (dd_v (pv 1))) (dg_name (i := 3) sc_mixed.nd rfl (Or.inl rfl)) (ss_one (ds_ins (pv 2) (dd_call (ok_pull T) hr (by rfl) T.g_pull T.F_pull.kp T.b_pull pass0 (da_cons (dd_v (pv 0)) (da_cons (dd_add (c_b (dd_len (by rfl) T.m_len (dd_b (pv 2)))) (c_b dd_int)) da_nil))) (dd_v (pv 3)))))
      (ss_one (ds_retO (pv 2))))))
    exact ⟨_, tm, fn_d al wn ok dd q (rd_mixed sp)⟩
theorem ok_names (T : Txt K mg) {k : Nat} : FnOk P w K mg base CX0 (k + 3) T.f_names T.fd_names ["_law_bag_here", "_law_count"] (lSp K true sp_names) := by
  refine T.F_names.ok sc_names (fun vs H Q E h => ?_) (fun cdv A outer s H vs Q E hr h => ?_)
  · obtain ⟨W, N0, ds, Pd, _, _, _, dd, sp, _⟩ := h
    rw [dd.len]
    exact ln_names sp
  · obtain ⟨W, N0, ds, Pd, al, wn, ok, dd, sp, q⟩ := h
    have tm : PSs (cxOf CX0 P w K mg base ["_law_bag_here", "_law_count", "_law_letters", "_law_base", "_law_k", "_law_spot", "_law_first", "_law_step"] "_law_names" (defScope s_names) T.f_names cdv A outer s H E).nox (defBody s_names) (lS ⟨K, W, N0, H, true⟩ (d_names)) := ((ss_cons (PS.mono (ps_asg (n_c (dn_tup (da_cons dd_str (da_cons dd_str da_nil)))) (PG.mono (pg_tup (by rfl) (PGs.mono (pgs_cons (dg_name (i := 2) sc_names.nd rfl (Or.inr rfl)) (PGs.mono (pgs_cons (dg_name (i := 3) sc_names.nd rfl (Or.inr rfl)) dgs_nil) l_gcons)) l_gcons)) (l_gtup rfl))) l_asg)
      (ss_cons (ds_for PassesOwn.never rfl (di_rng (by rfl) T.m_range (da_cons (dd_call (ok_pull T) hr (by rfl) T.g_pull T.F_pull.kp T.b_pull pass0 (da_cons (dd_v (pv 0)) (da_cons dd_int da_nil))) da_nil)) (dg_name (i := 4) sc_names.nd rfl (Or.inl rfl)) (ss_one (ds_set (i := 3) sc_names.nd rfl (.inr rfl) (dd_add (c_b (dd_v (pv 3))) (c_b (dd_call (ok_of T) hr (by rfl) T.g_of T.F_of.kp T.b_of pass0 (da_cons (dd_v (pv 0)) (da_cons (dd_v (pv 2)) da_nil))))))))
      (ss_cons (ds_if (dt_eq hr (c_b (dd_call (ok_pull T) hr (by rfl) T.g_pull T.F_pull.kp T.b_pull pass0 (da_cons (dd_v (pv 0)) (da_cons dd_int da_nil)))) (c_b dd_int)) (ss_one (ds_retN (PE.mono (pe_lc (own := [("_law_k", 4)]) (by rfl) sc_names.nd (db_rng (by rfl) T.m_range (da_cons (dd_v (pv 1)) da_nil)) (blkOk_by (own := [("_law_k", 4)]) (N := ["_law_bag_here", "_law_count", "_law_letters", "_law_base", "_law_k", "_law_spot", "_law_first", "_law_step"]) (sc := defScope s_names) (by decide +kernel)) (fun _ _ _ _ _ => (dg_name (i := 4) sc_names.nd rfl (Or.inl rfl))) (fun _ _ _ _ _ => ts_nil) (fun _ _ _ _ _ => (dd_mul (c_b (dd_ix hr (c_b (dd_v (pv 2))) (c_b (dd_mod (c_b (dd_add (c_b (dd_len (by rfl) T.m_len (c_b (dd_v (pv 3))))) (c_b (dd_mul (c_b dd_int) (c_b (dd_v (pv 4))))))) (c_b dd_int))))) (c_b (dd_add (c_b dd_int) (c_b (dd_mod (c_b (dd_add (c_b (dd_len (by rfl) T.m_len (c_b (dd_v (pv 3))))) (c_b (dd_mul (c_b dd_int) (c_b (dd_v (pv 4))))))) (c_b dd_int)))))))) (l_lc (by simp))))) ss_nil)
      (ss_cons (PS.mono (ps_asg (n_c (dn_tup (da_cons (dd_call (ok_pull T) hr (by rfl) T.g_pull T.F_pull.kp T.b_pull pass0 (da_cons (dd_v (pv 0)) (da_cons (dd_add (c_b (dd_len (by rfl) T.m_len (c_b (dd_v (pv 3))))) (c_b dd_int)) da_nil))) (da_cons (dd_call (ok_pull T) hr (by rfl) T.g_pull T.F_pull.kp T.b_pull pass0 (da_cons (dd_v (pv 0)) (da_cons dd_int da_nil))) (da_cons (dd_call (ok_of T) hr (by rfl) T.g_of T.F_of.kp T.b_of pass0 (da_cons (dd_v (pv 0)) (da_cons (n_c (dn_lst (da_cons dd_int (da_cons dd_int (da_cons dd_int (da_cons dd_int (da_cons dd_int da_nil))))))) da_nil))) da_nil))))) (PG.mono (pg_tup (by rfl) (PGs.mono (pgs_cons (dg_name (i := 5) sc_names.nd rfl (Or.inr rfl)) (PGs.mono (pgs_cons (dg_name (i := 6) sc_names.nd rfl (Or.inr rfl)) (PGs.mono (pgs_cons (dg_name (i := 7) sc_names.nd rfl (Or.inr rfl)) dgs_nil) l_gcons)) l_gcons)) l_gcons)) (l_gtup rfl))) l_asg)
      (ss_one (ds_retN (PE.mono (pe_lc (own := [("_law_k", 4)]) (by rfl) sc_names.nd (db_rng (by rfl) T.m_range (da_cons (dd_v (pv 1)) da_nil)) (blkOk_by (own := [("_law_k", 4)]) (N := ["_law_bag_here", "_law_count", "_law_letters", "_law_base", "_law_k", "_law_spot", "_law_first", "_law_step"]) (sc := defScope s_names) (by decide +kernel)) (fun _ _ _ _ _ => (dg_name (i := 4) sc_names.nd rfl (Or.inl rfl))) (fun _ _ _ _ _ => ts_nil) (fun _ _ _ _ _ => (dd_add (c_b (dd_add (c_b (dd_cut (c_b (dd_v (pv 3))) do_none (do_some (dd_v (pv 5))))) (c_b (dd_ix hr (c_b (dd_v (pv 2))) (c_b (dd_mod (c_b (dd_add (c_b (dd_v (pv 6))) (c_b (dd_mul (c_b (dd_v (pv 7))) (c_b (dd_v (pv 4))))))) (c_b dd_int))))))) (c_b (dd_cut (c_b (dd_v (pv 3))) (do_some (dd_v (pv 5))) do_none))))) (l_lc (by simp))))))))))
    exact ⟨_, tm, fn_d al wn ok dd q (rd_names sp)⟩
theorem eqS {a b : Str} (h : decide (V.str a = V.str b) = true) : a = b := V.str.inj (of_decide_eq_true h)
theorem neS {a b : Str} (h : ¬ decide (V.str a = V.str b) = true) : ¬ a = b := fun e => h (decide_eq_true (congrArg V.str e))
theorem ok_field (T : Txt K mg) {k : Nat} : FnP P w K mg base CX0 (k + 1) T.f_field T.fd_field ["_law_e"] (spField K) := by
  refine okP T.F_field sc_field (fun p vs H Q E h => ?_) (fun cdv A outer s H vs Q E p hr h => ?_)
  · obtain ⟨rfl, _⟩ := h
    rfl
  · obtain ⟨rfl, C, dd, fs, w, v, e, fo, q⟩ := h
    refine ⟨_, (pss_cons (ps_if (pt_cmpR (r := rIn K false) op_in_seq (RK.pe_xp (List.mem_cons_self) (pv 0)) (pe_lst (pa_cons pe_str (pa_cons pe_str (pa_cons pe_str (pa_cons pe_str pa_nil))))) (by rfl)) (pss_one (ps_ret (RK.pe_xp (List.mem_cons_self) (pv 0)))) pss_nil)
      (pss_cons (ps_if (pt_cmpR (r := rIn K false) op_in_seq (RK.pe_xp (List.mem_cons_self) (pv 0)) (pe_lst (pa_cons pe_str (pa_cons pe_str (pa_cons pe_str (pa_cons pe_str (pa_cons pe_str pa_nil)))))) (by rfl)) (pss_one (ps_ret (RK.pe_xp (List.mem_cons_self) (pv 0)))) pss_nil)
      (pss_cons (ps_if (pt_cmpR (r := rIn K false) op_in_seq (RK.pe_xp (List.mem_cons_self) (pv 0)) (pe_lst (pa_cons pe_str (pa_cons pe_str (pa_cons pe_str pa_nil)))) (by rfl)) (pss_one (ps_ret (RK.pe_xp (List.mem_cons_self) (pv 0)))) pss_nil)
      (pss_cons (ps_if (pt_cmpR (r := rIn K false) op_in_seq (RK.pe_xp (List.mem_cons_self) (pv 0)) (pe_lst (pa_cons pe_str (pa_cons pe_str (pa_cons pe_str pa_nil)))) (by rfl)) (pss_one (ps_ret (pe_ifExp (pt_cmpR op_eq (RK.pe_xp (List.mem_cons_self) (pv 0)) pe_str (nomark _)) (RK.pe_xp (List.mem_cons_self) (pv 0)) (pe_ifExp (pt_cmpR op_eq (RK.pe_xp (List.mem_cons_self) (pv 0)) pe_str (nomark _)) (RK.pe_xp (List.mem_cons_self) (pv 0)) (RK.pe_xp (List.mem_cons_self) (pv 0)))))) pss_nil)
      (pss_one (ps_ret pe_non)))))), ?_⟩
    unfold FieldOf fieldName at fo
    have yes : ∀ {L : List Str} {b : Bool}, inV (.str w) (L.map V.str) = b → b = true → w ∈ L := fun {L b} h hb => by
      rw [in_strs, hb] at h
      exact of_decide_eq_true h
    have no : ∀ {L : List Str}, ¬ inV (.str w) (L.map V.str) = true → w ∉ L := fun {L} h hm => h ((in_strs w L).trans (decide_eq_true hm))
    refine ⟨.ref p.1, rfl, rfl, e.data, C, dd, fs, .str w, e.z, e.xf, e.nw, e.hx, e.lw, (by show 4 ≤ sizeLine; decide), fun l1 n1 => ?_⟩
    have s1 := Sn.new n1 (.lst (lNam.map V.str))
    have e1 := e.same s1.f
    refine ⟨l1, lNam.map V.str, rfl, .inl (SqL.of upd_same), rfl, flat_strs _, _, rfl, ite2 (fun c1 => ?_) (fun c1 => ?_)⟩
    · have c1 : w ∈ lNam := yes rfl c1
      rw [if_pos c1] at fo
      exact ⟨.ref p.1, rfl, rfl, e1.data, C, dd, fs, v, e1.z, e1.xf, fo.1, e1.hx, fo.2, q _ s1⟩
    have c1 : w ∉ lNam := no c1
    rw [if_neg c1] at fo
    refine ⟨.ref p.1, rfl, rfl, e1.data, C, dd, fs, .str w, e1.z, e1.xf, e1.nw, e1.hx, e1.lw, (by show 5 ≤ sizeLine; decide), fun l2 n2 => ?_⟩
    have s2 := s1.trans (Sn.new n2 (.lst (lAt.map V.str)))
    have e2 := e.same s2.f
    refine ⟨l2, lAt.map V.str, rfl, .inl (SqL.of upd_same), rfl, flat_strs _, _, rfl, ite2 (fun c2 => ?_) (fun c2 => ?_)⟩
    · have c2 : w ∈ lAt := yes rfl c2
      rw [if_pos c2] at fo
      exact ⟨.ref p.1, rfl, rfl, e2.data, C, dd, fs, v, e2.z, e2.xf, fo.1, e2.hx, fo.2, q _ s2⟩
    have c2 : w ∉ lAt := no c2
    rw [if_neg c2] at fo
    refine ⟨.ref p.1, rfl, rfl, e2.data, C, dd, fs, .str w, e2.z, e2.xf, e2.nw, e2.hx, e2.lw, (by show 3 ≤ sizeLine; decide), fun l3 n3 => ?_⟩
    have s3 := s2.trans (Sn.new n3 (.lst (lStm.map V.str)))
    have e3 := e.same s3.f
    refine ⟨l3, lStm.map V.str, rfl, .inl (SqL.of upd_same), rfl, flat_strs _, _, rfl, ite2 (fun c3 => ?_) (fun c3 => ?_)⟩
    · have c3 : w ∈ lStm := yes rfl c3
      rw [if_pos c3] at fo
      exact ⟨.ref p.1, rfl, rfl, e3.data, C, dd, fs, v, e3.z, e3.xf, fo.1, e3.hx, fo.2, q _ s3⟩
    have c3 : w ∉ lStm := no c3
    rw [if_neg c3] at fo
    refine ⟨.ref p.1, rfl, rfl, e3.data, C, dd, fs, .str w, e3.z, e3.xf, e3.nw, e3.hx, e3.lw, (by show 3 ≤ sizeLine; decide), fun l4 n4 => ?_⟩
    have s4 := s3.trans (Sn.new n4 (.lst (lNum.map V.str)))
    have e4 := e.same s4.f
    refine ⟨l4, lNum.map V.str, rfl, .inl (SqL.of upd_same), rfl, flat_strs _, _, rfl, ite2 (fun c4 => ?_) (fun c4 => ?_)⟩
    · have c4 : w ∈ lNum := yes rfl c4
      rw [if_pos c4] at fo
      refine ⟨.ref p.1, rfl, rfl, e4.data, C, dd, fs, .str w, e4.z, e4.xf, e4.nw, e4.hx, e4.lw, ?_⟩
      refine ⟨rfl, _, rfl, ite2 (fun d1 => ?_) (fun d1 => ?_)⟩
      · have d1 : w = ("Full" : Str) := eqS d1
        rw [if_pos d1] at fo
        exact ⟨.ref p.1, rfl, rfl, e4.data, C, dd, fs, v, e4.z, e4.xf, fo.1, e4.hx, fo.2, q _ s4⟩
      have d1 : ¬ w = ("Full" : Str) := neS d1
      rw [if_neg d1] at fo
      refine ⟨.ref p.1, rfl, rfl, e4.data, C, dd, fs, .str w, e4.z, e4.xf, e4.nw, e4.hx, e4.lw, ?_⟩
      refine ⟨rfl, _, rfl, ite2 (fun d2 => ?_) (fun d2 => ?_)⟩
      · have d2 : w = ("BadPage" : Str) := eqS d2
        rw [if_pos d2] at fo
        exact ⟨.ref p.1, rfl, rfl, e4.data, C, dd, fs, v, e4.z, e4.xf, fo.1, e4.hx, fo.2, q _ s4⟩
      have d2 : ¬ w = ("BadPage" : Str) := neS d2
      rw [if_neg d2] at fo
      exact ⟨.ref p.1, rfl, rfl, e4.data, C, dd, fs, v, e4.z, e4.xf, fo.1, e4.hx, fo.2, q _ s4⟩
    · have c4 : w ∉ lNum := no c4
      rw [if_neg c4] at fo
      have ev : v = .non := fo
      rw [ev] at q
      exact q _ s4
theorem rh_mark {k : Nat} {A : Around} {v : Value} (h : L2H.RoomH k A) : L2H.RoomH k (A.mark (some v)) := ⟨h.dp, h.un⟩
theorem try_gives {X : Cx} (T : Txt X.K X.mg) {k : Nat} {g : Addr} {cdg : Value} {q : Str} (hr : Room (k + 2) X.A) : LamX.GivesTo X ["_law_ask", "_law_e"] "_law_try" (defScope s_try) g cdg (defBody s_try) "_law_ask" q (TTry X.K T.C_DeskError T.C_Missing T.C_NothingLeft) := by
  intro f c' s H Q tl act hc h
  have hrH : L2H.RoomH (k + 1) ((X.A.deeper (envOfC "_law_try" (defScope s_try) s.heap.objs.size g cdg))) := (L2H.roomH_of (hr.deeper _)).mono (by omega)
  refine ⟨_, pss_one (ps_try_manyAs (X := (cxOf C8.CX0 X.prog X.w X.K X.mg X.base ["_law_ask", "_law_e"] "_law_try" (defScope s_try) g cdg X.A X.stack s H C8.E0).nox) (i := 1) (n := "_law_e")
      (tb := fun W D σ H => ∃ Ech : XK, (∀ cls d σ' H', Ech cls d H' → W cls d σ' H') ∧ σ[0]? = some (some (.ref f)) ∧ H c' = some (LamX.CodeO c' q) ∧ tl Ech H (fun v H1 => [V.str "value", v].length ≤ sizeLine ∧ ∀ t, H1 t = none → D.rt (.ref t) (upd H1 t (.tup [.str "value", v]))))
      rfl rfl sc_try.nd rfl rfl LamX.takes0 (fun W pn xe tk _ => ?_)
      (HdsAs.cons (ts := fun a cls d => tRet (tTup (tCons (tXa X.K a cls d "word" (tVar 1)) (tCons (tFieldA X.K a cls d (tCons (tVar 1) tNil)) tNil)))) (TestOk.two ⟨rfl, by decide, .inl T.g_DeskError⟩ ⟨rfl, by decide, .inl T.g_Missing⟩)
        (fun a oe cls d pn hz hf => pss_one (ps_ret (pe_tup (pa_cons (pe_xa (X := (cxOf C8.CX0 X.prog X.w X.K X.mg X.base ["_law_ask", "_law_e"] "_law_try" (defScope s_try) g cdg X.A X.stack s H C8.E0).nox.suite a ((a, oe) :: pn)) hz hf (List.mem_cons_self) (pv 1)) (pa_cons (pe_fieldA (X := (cxOf C8.CX0 X.prog X.w X.K X.mg X.base ["_law_ask", "_law_e"] "_law_try" (defScope s_try) g cdg X.A X.stack s H C8.E0).nox.suite a ((a, oe) :: pn)) hz hf (ok_field (P := X.prog) (w := X.w) (base := X.base) T (k := k)) ((rh_mark hrH).mono (Nat.le_refl _)) (List.mem_cons_self) (by rfl) T.g_field T.F_field.kp T.b_field (pa_cons (pv 1) pa_nil)) pa_nil)))))
        (HdsAs.cons (ts := fun a cls d => tRet (tTup (tCons (tXa X.K a cls d "word" (tVar 1)) (tCons (tC .non) tNil)))) (TestOk.one ⟨rfl, by decide, .inl T.g_NothingLeft⟩) (fun a oe cls d pn hz hf => pss_one (ps_ret (pe_tup (pa_cons (pe_xa (X := (cxOf C8.CX0 X.prog X.w X.K X.mg X.base ["_law_ask", "_law_e"] "_law_try" (defScope s_try) g cdg X.A X.stack s H C8.E0).nox.suite a ((a, oe) :: pn)) hz hf (List.mem_cons_self) (pv 1)) (pa_cons pe_non pa_nil))))) .nil))), ?_⟩
  · refine ⟨fun pins s' σ H' D I h' => ?_⟩
    obtain ⟨Ech, hW, h1, h2, h3⟩ := h'
    exact PSs.run (pss_one (ps_ret (pe_tup (pa_cons pe_str (pa_cons (act W pn xe Ech _ _ tk hW) pa_nil))))) pins s' σ H' D I ⟨h1, h2, h3⟩
  · refine ⟨_, fun cls d σ' H' hE => ?_, rfl, hc, h⟩
    obtain ⟨C, dd, fs, w, ⟨ec, ed, xf, nw, hx, lw⟩, hE⟩ := hE
    subst ec
    subst ed
    rcases hE with ⟨m1, v, fo, q1⟩ | ⟨m1, m2, q1⟩
    · refine ⟨true, m1, fun _ a na hl => ?_, fun hb => Bool.noConfusion hb⟩
      refine ⟨.ref a, ?_, rfl, C, dd, fs, .str w, rfl, rfl, xf, nw, hx, lw, .ref a, ?_, rfl, C, dd, fs, w, v, ⟨rfl, rfl, xf, nw, hx, lw⟩, fo, fun H2 s2 => ⟨(by show 2 ≤ sizeLine; decide), fun t nt => q1 H2 t s2 nt⟩⟩
      · exact List.getElem?_set_self hl
      · exact List.getElem?_set_self hl
    · refine ⟨false, m1, fun hb => Bool.noConfusion hb, fun _ => ⟨true, m2, fun _ a na hl => ?_, fun hb => Bool.noConfusion hb⟩⟩
      refine ⟨.ref a, ?_, rfl, C, dd, fs, .str w, rfl, rfl, xf, nw, hx, lw, (by show 2 ≤ sizeLine; decide), fun t nt => q1 t nt⟩
      exact List.getElem?_set_self hl
theorem try_givesK {X : Cx} {K' : PySem.W.Frag} {mg' : Str → Option Value} {A' : Around} (T : Txt K' mg') {k : Nat} {g : Addr} {cdg : Value} {q : Str} (hr : Room (k + 2) A') (e1 : X.K = K' := by rfl) (e2 : X.mg = mg' := by rfl) (e3 : X.A = A' := by rfl) : LamX.GivesTo X ["_law_ask", "_law_e"] "_law_try" (defScope s_try) g cdg (defBody s_try) "_law_ask" q (TTry X.K T.C_DeskError T.C_Missing T.C_NothingLeft) := by
  subst e1 e2 e3
  exact try_gives T hr
theorem ok_wish (T : Txt K mg) {k : Nat} : FnOk P w K mg base CX0 (k + 3) T.f_wish T.fd_wish ["_law_bag_here", "_law_names_here", "_law_most"] (lSp K true sp_wish) := by
  refine T.F_wish.ok sc_wish (fun vs H Q E h => ?_) (fun cdv A outer s H vs Q E hr h => ?_)
  · obtain ⟨W, N0, ds, Pd, _, _, _, dd, sp, _⟩ := h
    rw [dd.len]
    exact ln_wish sp
  · obtain ⟨W, N0, ds, Pd, al, wn, ok, dd, sp, q⟩ := h
    have tm : PSs (cxOf CX0 P w K mg base ["_law_bag_here", "_law_names_here", "_law_most", "_law_base", "_law_found", "_law_k", "_law_one", "_law_other", "_law_good"] "_law_wish" (defScope s_wish) T.f_wish cdv A outer s H E).nox (defBody s_wish) (lS ⟨K, W, N0, H, true⟩ (d_wish)) := ((ss_cons (PS.mono (ps_par (i := 3) (j := 4) (by rfl) sc_wish.nd rfl rfl (by decide) rfl rfl (pa_cons (n_c (dn_call (ok_mixed T) hr (by rfl) T.g_mixed T.F_mixed.kp T.b_mixed pass0 (da_cons (dd_v (pv 0)) (da_cons (dd_v (pv 1)) da_nil)))) (pa_cons (dn_lst da_nil) pa_nil)) (by rfl)) l_parR)
      (ss_cons (ds_for PassesOwn.never rfl (di_rng (by rfl) T.m_range (da_cons (dd_call (ok_pull T) hr (by rfl) T.g_pull T.F_pull.kp T.b_pull pass0 (da_cons (dd_v (pv 0)) (da_cons (dd_add (c_b (dd_v (pv 2))) (c_b dd_int)) da_nil))) da_nil)) (dg_name (i := 5) sc_wish.nd rfl (Or.inl rfl)) (ss_cons (PS.mono (ps_par (i := 6) (j := 7) (by rfl) sc_wish.nd rfl rfl (by decide) rfl rfl (pa_cons (dd_call (ok_of T) hr (by rfl) T.g_of T.F_of.kp T.b_of pass0 (da_cons (dd_v (pv 0)) (da_cons (dd_v (pv 1)) da_nil))) (pa_cons (dd_call (ok_of T) hr (by rfl) T.g_of T.F_of.kp T.b_of pass0 (da_cons (dd_v (pv 0)) (da_cons (dd_v (pv 1)) da_nil))) pa_nil)) (by rfl)) l_par)
      (ss_one (ds_if (dt_ne hr (c_b (dd_v (pv 6))) (c_b (dd_v (pv 7)))) (ss_cons (ds_set (i := 8) sc_wish.nd rfl (.inl rfl) (dd_or (dd_lt (c_b (dd_index (c_b (dd_v (pv 3))) (c_b (dd_v (pv 6))))) (c_b (dd_index (c_b (dd_v (pv 3))) (c_b (dd_v (pv 7)))))) (dd_one (dd_eq hr (c_b (dd_call (ok_pull T) hr (by rfl) T.g_pull T.F_pull.kp T.b_pull pass0 (da_cons (dd_v (pv 0)) (da_cons dd_int da_nil)))) (c_b dd_int)))))
      (ss_one (ds_app (pv 4) (dd_if (dt_tru (c_b (dd_v (pv 8)))) (n_c (dn_tup (da_cons (dd_v (pv 6)) (da_cons (dd_v (pv 7)) da_nil)))) (n_c (dn_tup (da_cons (dd_v (pv 7)) (da_cons (dd_v (pv 6)) da_nil)))))))) ss_nil))))
      (ss_one (ds_retO (pv 4))))))
    exact ⟨_, tm, fn_d al wn ok dd q (rd_wish sp)⟩
theorem ok_asks (T : Txt K mg) {c PT : Addr} {oc kV doc pm ct : Value} {an od : Option Addr} {osl : Array (Option Value)} (TB : LamX.TabB base mg c PT) (lkA : K.lookup T.f_asks = some ⟨oc, od, .func (PySem.W.fnOf "_law_asks" "_law_asks" (defArgs s_asks) (defBody s_asks) (defScope s_asks) .none kV doc pm an (.ref c) ct), osl⟩) (hcA : PySem.W.codeIn K (.ref c) "_law_asks" = true) {TT : List (Addr × Str)} (hmT : (PT, (("_law_asks.<locals>." : Str) ++ "<lambda>")) ∈ TT) (neT : TT ≠ []) (huT : ∀ p ∈ TT, p.1 = PT → p.2 = (("_law_asks.<locals>." : Str) ++ "<lambda>")) {k : Nat} :
    FnOk P w K mg base CX0 (k + 7) T.f_asks T.fd_asks ["_law_names_here", "_law_wish_here"] (lSpW K TT false (sp_asks (RdC P w K mg base 8 TT) (cls T))) := by
  obtain ⟨oc2, od2, kV2, doc2, pm2, an2, cdt, ct2, osl2, efd, lk2, hcg⟩ := T.F_asks.ex
  have efA : T.fd_asks = (PySem.W.fnOf "_law_asks" "_law_asks" (defArgs s_asks) (defBody s_asks) (defScope s_asks) .none kV doc pm an (.ref c) ct) := by
    have z := lk2.symm.trans lkA
    injection z with z
    injection z with _ _ z _
    injection z
  rw [efA]
  exact maker_ok (k := k + 6) (kk := 8) lkA hcA sc_asks (by decide +kernel) (fun ds Pd h => ln_asks h) (fun A outer s H E b s0 N0 hr =>
    have tm : PR (cxOf CX0 P w K mg base ["_law_names_here", "_law_wish_here", "_law_asks_here"] "_law_asks" (defScope s_asks) T.f_asks (.ref c) A outer s H E).nox (defBody s_asks) (lR ⟨K, some (b, s0, TT), N0, H, false⟩ (d_asks (RdM (cxOf CX0 P w K mg base ["_law_names_here", "_law_wish_here", "_law_asks_here"] "_law_asks" (defScope s_asks) T.f_asks (.ref c) A outer s H E).nox 8 K TT) (cls T))) := ((r_cons (ds_set (i := 2) sc_asks.nd rfl (.inl rfl) (n_c (dn_lst (da_cons (dd_lamSM rfl neT (RK.LamS.toD (LamX.lamS_by (by show LamX.lamSB (defScope s_asks) _ = true; decide +kernel))) TB rfl hmT huT (by rfl) (fun _ _ _ _ _ => rfl) (by rfl) (fun b s0 A outer s H E f c hrl => tryB_of (F := ⟨K, some (b, s0, TT), fun _ => False, fun _ => none, false⟩) fun N0 H0 PX hE => (dd_callX hE (okx_ring T) hrl (by rfl) T.g_ring T.F_ring.kp T.b_ring (passes_call (takes_of rfl rfl rfl rfl) (fun _ _ _ _ h => h)) (da_cons (dd_v (pv 0)) (da_cons (dd_v (pv 1)) da_nil))))) (da_cons (dd_lamDM (a0 := "_law_a") rfl neT (RK.lamD_by (by show RK.lamDB ["_law_names_here", "_law_wish_here", "_law_asks_here"] (defScope s_asks) _ = true; decide +kernel)) TB rfl hmT huT (by rfl) (fun s Q E h => wpAny_Constant_int (h _).1) (fun _ _ _ _ _ _ _ => ⟨_, rfl, rfl⟩) (by decide +kernel) (by rfl) (fun b s0 A outer s H E f c hrl => tryB_of (F := ⟨K, some (b, s0, TT), fun _ => False, fun _ => none, false⟩) fun N0 H0 PX hE => (dd_callX hE (okx_is_ring T) hrl (by rfl) T.g_is_ring T.F_is_ring.kp T.b_is_ring (passes_call (takes_of rfl rfl rfl rfl) (fun _ _ _ _ h => h)) (da_cons (dd_v (pv 0)) (da_cons (dd_v (pv 1)) (da_cons (n_c (dn_lst da_nil)) da_nil)))))) (da_cons (dd_lamDM (a0 := "_law_b") rfl neT (RK.lamD_by (by show RK.lamDB ["_law_names_here", "_law_wish_here", "_law_asks_here"] (defScope s_asks) _ = true; decide +kernel)) TB rfl hmT huT (by rfl) (fun s Q E h => wpAny_Constant_int (h _).1) (fun _ _ _ _ _ _ _ => ⟨_, rfl, rfl⟩) (by decide +kernel) (by rfl) (fun b s0 A outer s H E f c hrl => tryB_of (F := ⟨K, some (b, s0, TT), fun _ => False, fun _ => none, false⟩) fun N0 H0 PX hE => (dd_callX hE (okx_keeps T) hrl (by rfl) T.g_keeps T.F_keeps.kp T.b_keeps (passes_call (takes_of rfl rfl rfl rfl) (fun _ _ _ _ h => h)) (da_cons (dd_v (pv 0)) (da_cons (dd_v (pv 1)) da_nil))))) da_nil))))))
      (r_cons (ds_set (i := 2) sc_asks.nd rfl (.inl rfl) (dd_add (c_b (dd_v (pv 2))) (c_b (n_c (dn_lst (da_cons (dd_lamSM rfl neT (RK.LamS.toD (LamX.lamS_by (by show LamX.lamSB (defScope s_asks) _ = true; decide +kernel))) TB rfl hmT huT (by rfl) (fun _ _ _ _ _ => rfl) (by rfl) (fun b s0 A outer s H E f c hrl => tryB_of (F := ⟨K, some (b, s0, TT), fun _ => False, fun _ => none, false⟩) fun N0 H0 PX hE => (n_c (dn_callX hE (okx_least_keeping T) hrl (by rfl) T.g_least_keeping T.F_least_keeping.kp T.b_least_keeping (passes_call (takes_of rfl rfl rfl rfl) (fun _ _ _ _ h => h)) (da_cons (dd_v (pv 0)) (da_cons (dd_v (pv 1)) da_nil)))))) (da_cons (dd_lamDM (a0 := "_law_a") rfl neT (RK.lamD_by (by show RK.lamDB ["_law_names_here", "_law_wish_here", "_law_asks_here"] (defScope s_asks) _ = true; decide +kernel)) TB rfl hmT huT (by rfl) (fun s Q E h => wpAny_Constant_int (h _).1) (fun _ _ _ _ _ _ _ => ⟨_, rfl, rfl⟩) (by decide +kernel) (by rfl) (fun b s0 A outer s H E f c hrl => tryB_of (F := ⟨K, some (b, s0, TT), fun _ => False, fun _ => none, false⟩) fun N0 H0 PX hE => (by obtain ⟨_, _, hb, hD⟩ := kn_plan_2_costs T; exact dd_callNX hE (okx_plan T) hrl (by rfl) T.g_plan T.F_plan.kp hb (passes_call (takes_of rfl rfl rfl rfl) (fun _ _ _ _ h => h)) (da_cons (dd_v (pv 0)) (da_cons (dd_v (pv 1)) da_nil)) (dk_cons (n_c (dn_disp1 dd_str dd_int)) dk_nil) hD))) (da_cons (dd_lamDM (a0 := "_law_b") rfl neT (RK.lamD_by (by show RK.lamDB ["_law_names_here", "_law_wish_here", "_law_asks_here"] (defScope s_asks) _ = true; decide +kernel)) TB rfl hmT huT (by rfl) (fun s Q E h => wpAny_Constant_int (h _).1) (fun _ _ _ _ _ _ _ => ⟨_, rfl, rfl⟩) (by decide +kernel) (by rfl) (fun b s0 A outer s H E f c hrl => tryB_of (F := ⟨K, some (b, s0, TT), fun _ => False, fun _ => none, false⟩) fun N0 H0 PX hE => (dd_callX hE (okx_group_plan T) hrl (by rfl) T.g_group_plan T.F_group_plan.kp T.b_group_plan (passes_call (takes_of rfl rfl rfl rfl) (fun _ _ _ _ h => h)) (da_cons (dd_v (pv 0)) (da_cons (dd_v (pv 1)) da_nil))))) da_nil))))))))
      (r_ret (dd_add (c_b (dd_v (pv 2))) (c_b (n_c (dn_lst (da_cons (dd_lamSM rfl neT (RK.LamS.toD (LamX.lamS_by (by show LamX.lamSB (defScope s_asks) _ = true; decide +kernel))) TB rfl hmT huT (by rfl) (fun _ _ _ _ _ => rfl) (by rfl) (fun b s0 A outer s H E f c hrl => tryB_of (F := ⟨K, some (b, s0, TT), fun _ => False, fun _ => none, false⟩) fun N0 H0 PX hE => (dd_callX hE (okx_chain_count T) hrl (by rfl) T.g_chain_count T.F_chain_count.kp T.b_chain_count (passes_call (takes_of rfl rfl rfl rfl) (fun _ _ _ _ h => h)) (da_cons (dd_v (pv 0)) (da_cons (dd_v (pv 1)) (da_cons (n_c (dn_lst da_nil)) da_nil)))))) (da_cons (dd_lamDM (a0 := "_law_a") rfl neT (RK.lamD_by (by show RK.lamDB ["_law_names_here", "_law_wish_here", "_law_asks_here"] (defScope s_asks) _ = true; decide +kernel)) TB rfl hmT huT (by rfl) (fun s Q E h => wpAny_Constant_int (h _).1) (fun _ _ _ _ _ _ _ => ⟨_, rfl, rfl⟩) (by decide +kernel) (by rfl) (fun b s0 A outer s H E f c hrl => tryB_of (F := ⟨K, some (b, s0, TT), fun _ => False, fun _ => none, false⟩) fun N0 H0 PX hE => (by obtain ⟨_, _, hb, hD⟩ := kn_is_bundle_3_fixed T; exact dd_callNX hE (okx_is_bundle T) hrl (by rfl) T.g_is_bundle T.F_is_bundle.kp hb (passes_call (takes_of rfl rfl rfl rfl) (fun _ _ _ _ h => h)) (da_cons (dd_v (pv 0)) (da_cons (dd_v (pv 1)) (da_cons (n_c (dn_lst da_nil)) da_nil))) (dk_cons (n_c (dn_lst (da_cons dd_str da_nil))) dk_nil) hD))) da_nil))))))))))
    ⟨_, tm, fun xok ds Pd h => rd_asks (fun G caps d ds hm nf => kill_rdc xok hm nf) h⟩)
theorem ok_law (T : Txt K mg) {c PT : Addr} {oc kV doc pm ct : Value} {an od : Option Addr} {osl : Array (Option Value)} (TB : LamX.TabB base mg c PT) (lkA : K.lookup T.f_asks = some ⟨oc, od, .func (PySem.W.fnOf "_law_asks" "_law_asks" (defArgs s_asks) (defBody s_asks) (defScope s_asks) .none kV doc pm an (.ref c) ct), osl⟩) (hcA : PySem.W.codeIn K (.ref c) "_law_asks" = true) {oc1 kV1 doc1 pm1 cdL ct1 : Value} {an1 od1 : Option Addr} {osl1 : Array (Option Value)} (lkL : K.lookup T.f_law = some ⟨oc1, od1, .func (PySem.W.fnOf "law" "law" (defArgs s_law) (defBody s_law) (defScope s_law) .none kV1 doc1 pm1 an1 cdL ct1), osl1⟩) (hcL : PySem.W.codeIn K cdL "law" = true) :
    RK.FnAt P w K mg base CX0 callerA T.f_law (PySem.W.fnOf "law" "law" (defArgs s_law) (defBody s_law) (defScope s_law) .none kV1 doc1 pm1 an1 cdL ct1) ["_law_script"] (DL.spLawT K [(c, PT)]) := by
  obtain ⟨oc2, od2, kV2, doc2, pm2, an2, cdt, ct2, osl2, efd, lk, hcg⟩ := T.F_try.ex
  have bt := T.b_try
  rw [efd] at lk bt
  refine DL.fn_atC (k := 10) lkL hcL sc_law ⟨rfl, by decide, by decide⟩ (fun vs H Q E h => ?_) (fun outer s H vs Q E hr h => ?_)
  · obtain ⟨a, ns, rfl, _⟩ := h
    rfl
  · obtain ⟨a, ns, rfl, hO, hS, hlen, q⟩ := h
    have hcl : ∀ k ∈ ([(T.C_BadWish, "BadWish", some "at"), (T.C_BadCost, "BadCost", some "name"), (T.C_Impossible, "Impossible", none), (T.C_Unknown, "Unknown", some "name"), (T.C_NothingLeft, "NothingLeft", none)] : ErCl), ClOk K T.C_DeskError T.C_Missing T.C_NothingLeft k := (cl_cons (cl_1 T.xf_BadWish T.nx_BadWish_word T.nx_BadWish_at T.xm_BadWish) (cl_cons (cl_1 T.xf_BadCost T.nx_BadCost_word T.nx_BadCost_name T.xm_BadCost) (cl_cons (cl_0 T.xf_Impossible T.nx_Impossible_word T.xm_Impossible) (cl_cons (cl_1 T.xf_Unknown T.nx_Unknown_word T.nx_Unknown_name T.xm_Unknown) (cl_cons (cl_L T.xf_NothingLeft T.nx_NothingLeft_word T.xm_NothingLeft T.xn_NothingLeft) cl_nil)))))
    obtain ⟨TT, eTT⟩ : ∃ TT : List (Addr × Str), TT = lamT [(c, PT)] (("_law_asks.<locals>." : Str) ++ "<lambda>") := ⟨_, rfl⟩
    have hmT : (PT, (("_law_asks.<locals>." : Str) ++ "<lambda>")) ∈ TT := by rw [eTT]; exact List.mem_cons_self
    have neT : TT ≠ [] := by rw [eTT]; simp
    have huT : ∀ p ∈ TT, p.1 = PT → p.2 = (("_law_asks.<locals>." : Str) ++ "<lambda>") := fun p hp _ => by
      rw [eTT] at hp
      rw [List.mem_singleton.mp hp]
    have tm : ∀ b s0 N0 H0, PSs (cxOf CX0 P w K mg base ["_law_script", "_law_bag_here", "_law_turn", "_law_names_here", "_law_wish_here", "_law_spots", "_law_k", "_law_at", "_law_one", "_law_odd", "_law_bad", "_law_pair", "_law_ask"] "law" (defScope s_law) T.f_law cdL callerA outer s H E).nox ((defBody s_law).drop 1) (lS ⟨K, some (b, s0, TT), N0, H0, false⟩ (d_law (RdC P w K mg base 8 TT) (cls T))) := fun b s0 N0 H0 => ((ss_cons (ds_for PassesOwn.never rfl (di_rng (by rfl) T.m_range (da_cons dd_int da_nil)) (dg_name (i := 2) sc_law.nd rfl (Or.inl rfl)) (ss_cons (ds_set (i := 3) sc_law.nd rfl (.inr rfl) (n_c (dn_call (ok_mixed T) hr (by rfl) T.g_mixed T.F_mixed.kp T.b_mixed pass0 (da_cons (dd_v (pv 1)) (da_cons (n_c (dn_call (ok_names T) hr (by rfl) T.g_names T.F_names.kp T.b_names pass0 (da_cons (dd_v (pv 1)) (da_cons (dd_add (c_b dd_int) (c_b (dd_call (ok_pull T) hr (by rfl) T.g_pull T.F_pull.kp T.b_pull pass0 (da_cons (dd_v (pv 1)) (da_cons dd_int da_nil))))) da_nil)))) da_nil)))))
      (ss_cons (PS.mono (ps_par (i := 4) (j := 5) (by rfl) sc_law.nd rfl rfl (by decide) rfl rfl (pa_cons (n_c (dn_call (ok_wish T) hr (by rfl) T.g_wish T.F_wish.kp T.b_wish pass0 (da_cons (dd_v (pv 1)) (da_cons (dd_v (pv 3)) (da_cons dd_int da_nil))))) (pa_cons (n_c (dn_lst da_nil)) pa_nil)) (by rfl)) l_par)
      (ss_cons (ds_for PassesOwn.never rfl (di_rng (by rfl) T.m_range (da_cons (dd_add (c_b dd_int) (c_b (dd_call (ok_pull T) hr (by rfl) T.g_pull T.F_pull.kp T.b_pull pass0 (da_cons (dd_v (pv 1)) (da_cons dd_int da_nil))))) da_nil)) (dg_name (i := 6) sc_law.nd rfl (Or.inl rfl)) (ss_cons (PS.mono (ps_par (i := 7) (j := 8) (by rfl) sc_law.nd rfl rfl (by decide) rfl rfl (pa_cons (dd_call (ok_pull T) hr (by rfl) T.g_pull T.F_pull.kp T.b_pull pass0 (da_cons (dd_v (pv 1)) (da_cons (dd_add (c_b (dd_len (by rfl) T.m_len (c_b (dd_v (pv 4))))) (c_b dd_int)) da_nil))) (pa_cons (dd_call (ok_of T) hr (by rfl) T.g_of T.F_of.kp T.b_of pass0 (da_cons (dd_v (pv 1)) (da_cons (dd_v (pv 3)) da_nil))) pa_nil)) (by rfl)) l_par)
      (ss_cons (ds_set (i := 9) sc_law.nd rfl (.inl rfl) (dd_call (ok_of T) hr (by rfl) T.g_of T.F_of.kp T.b_of pass0 (da_cons (dd_v (pv 1)) (da_cons (n_c (dn_lst (da_cons (n_c (dn_tup (da_cons dd_str (da_cons (dd_v (pv 8)) da_nil)))) (da_cons (n_c (dn_tup (da_cons (dd_v (pv 8)) (da_cons dd_str da_nil)))) (da_cons (n_c (dn_tup (da_cons (dd_v (pv 8)) (da_cons (dd_v (pv 8)) da_nil)))) (da_cons (n_c (dn_tup (da_cons dd_str (da_cons dd_str da_nil)))) (da_cons (n_c (dn_tup (da_cons (dd_v (pv 8)) (da_cons dd_str da_nil)))) da_nil))))))) da_nil))))
      (ss_one (ds_set (i := 4) sc_law.nd rfl (.inl rfl) (dd_add (c_b (dd_add (c_b (dd_cut (c_b (dd_v (pv 4))) do_none (do_some (dd_v (pv 7))))) (c_b (n_c (dn_lst (da_cons (dd_v (pv 9)) da_nil)))))) (c_b (dd_cut (c_b (dd_v (pv 4))) (do_some (dd_v (pv 7))) do_none))))))))
      (ss_cons (ds_set (i := 10) sc_law.nd rfl (.inr rfl) (n_c (PE.mono (pe_lc (own := [("_law_at", 7), ("_law_pair", 11)]) (by rfl) sc_law.nd (db_enum (by rfl) T.m_enumerate (c_b (dd_v (pv 4)))) (blkOk_by (own := [("_law_at", 7), ("_law_pair", 11)]) (N := ["_law_script", "_law_bag_here", "_law_turn", "_law_names_here", "_law_wish_here", "_law_spots", "_law_k", "_law_at", "_law_one", "_law_odd", "_law_bad", "_law_pair", "_law_ask"]) (sc := defScope s_law) (by decide +kernel)) (fun _ _ _ _ _ => (PG.mono (pg_tup (by rfl) (PGs.mono (pgs_cons (dg_name (i := 7) sc_law.nd rfl (Or.inl rfl)) (PGs.mono (pgs_cons (dg_name (i := 11) sc_law.nd rfl (Or.inl rfl)) dgs_nil) l_gcons)) l_gcons)) (l_gtup rfl))) (fun _ _ _ _ _ => (ts_one (PW.pt (wt_or (dt_eq hr (c_b (dd_ix hr (c_b (dd_v (pv 11))) (c_b dd_int))) (c_b (dd_ix hr (c_b (dd_v (pv 11))) (c_b dd_int)))) (wt_or (dt_notin hr (c_b (dd_ix hr (c_b (dd_v (pv 11))) (c_b dd_int))) (c_b (dd_v (pv 3)))) (wt_or1 (dt_notin hr (c_b (dd_ix hr (c_b (dd_v (pv 11))) (c_b dd_int))) (c_b (dd_v (pv 3)))))))))) (fun _ _ _ _ _ => (dd_v (pv 7)))) (l_lc (by simp)))))
      (ss_one (ds_if (dt_not (dt_val (dd_all (by rfl) T.m_all (c_b (n_c (PE.mono (pe_lc (own := [("_law_ask", 12)]) (by rfl) sc_law.nd (db_seq (c_b (dd_callW rfl (ok_asks T TB lkA hcA hmT neT huT) hr (by rfl) T.g_asks T.F_asks.kp T.b_asks pass0 (da_cons (dd_v (pv 3)) (da_cons (dd_v (pv 4)) da_nil))))) (blkOk_by (own := [("_law_ask", 12)]) (N := ["_law_script", "_law_bag_here", "_law_turn", "_law_names_here", "_law_wish_here", "_law_spots", "_law_k", "_law_at", "_law_one", "_law_odd", "_law_bad", "_law_pair", "_law_ask"]) (sc := defScope s_law) (by decide +kernel)) (fun _ _ _ _ _ => (dg_name (i := 12) sc_law.nd rfl (Or.inl rfl))) (fun _ _ _ _ _ => ts_nil) (fun _ _ _ _ _ => (dd_eq hr (c_b (n_c (dn_tryG rfl neT rfl (by exact hcl) (by rfl) (Or.inl (by rfl)) (by rfl) T.g_try T.F_try.kp lk hcg bt sc_try rfl (Or.inl rfl) (fun q => try_givesK T hr) hr hr.hd))) (c_b (n_c (dn_tup (da_cons dd_str (da_cons (dd_ix hr (c_b (dd_v (pv 10))) (c_b dd_int)) da_nil)))))))) (l_lc (by simp)))))))) (ss_one (ds_ret (by rfl) dd_bl)) ss_nil)))))))
      (ss_one (ds_ret (by rfl) dd_bl))))
    refine ⟨_, pss_cons (ps_set (i := 1) sc_law.nd rfl (.inl rfl) (pe_call (okb_bag T) hr (by rfl) T.g_bag T.F_bag.kp T.b_bag .nil pass0 (pa_cons (pv 0) pa_nil))) (pss_exT tm), ?_⟩
    refine ⟨.ref a, rfl, a, ns, rfl, hS, hlen, fun H1 b s0 e0 nb ns0 B0 => ?_⟩
    rw [eTT]
    exact law_bagT (n := 11) hO e0 nb B0 q (rd_law (c := cls T))
end
theorem all_mk {l : PySem.W.OpenLaw} {w : World} {K : PySem.W.Frag} {h : Heap} {mg : Str → Option Value} {fa : Addr} (X : K.In h) (G : h.Ns mainGlobals mg) (hfa : mg "law" = some (.ref fa))
    {f0 : Addr} {od0 an0 : Option Addr} {sl0 : Array (Option Value)} {oc0 kV0 dc0 pm0 cd0 ct0 : Value}
    (a0 : PySem.W.nsIn K mainGlobals "check_wish" = some (some (.ref f0)))
    (l0 : K.lookup f0 = some ⟨oc0, od0, .func (PySem.W.fnOf "check_wish" "check_wish" (defArgs s_check_wish) (defBody s_check_wish) (defScope s_check_wish) .none kV0 dc0 pm0 an0 cd0 ct0), sl0⟩) (c0 : PySem.W.codeIn K cd0 "check_wish" = true) (k0 : PySem.W.keepIn K (.ref f0) = true)
    {f1 : Addr} {od1 an1 : Option Addr} {sl1 : Array (Option Value)} {oc1 kV1 dc1 pm1 cd1 ct1 : Value}
    (a1 : PySem.W.nsIn K mainGlobals "is_pair" = some (some (.ref f1)))
    (l1 : K.lookup f1 = some ⟨oc1, od1, .func (PySem.W.fnOf "is_pair" "is_pair" (defArgs s_is_pair) (defBody s_is_pair) (defScope s_is_pair) .none kV1 dc1 pm1 an1 cd1 ct1), sl1⟩) (c1 : PySem.W.codeIn K cd1 "is_pair" = true) (k1 : PySem.W.keepIn K (.ref f1) = true)
    {f2 : Addr} {od2 an2 : Option Addr} {sl2 : Array (Option Value)} {oc2 kV2 dc2 pm2 cd2 ct2 : Value}
    (a2 : PySem.W.nsIn K mainGlobals "keeps" = some (some (.ref f2)))
    (l2 : K.lookup f2 = some ⟨oc2, od2, .func (PySem.W.fnOf "keeps" "keeps" (defArgs s_keeps) (defBody s_keeps) (defScope s_keeps) .none kV2 dc2 pm2 an2 cd2 ct2), sl2⟩) (c2 : PySem.W.codeIn K cd2 "keeps" = true) (k2 : PySem.W.keepIn K (.ref f2) = true)
    {f3 : Addr} {od3 an3 : Option Addr} {sl3 : Array (Option Value)} {oc3 kV3 dc3 pm3 cd3 ct3 : Value}
    (a3 : PySem.W.nsIn K mainGlobals "least_keeping" = some (some (.ref f3)))
    (l3 : K.lookup f3 = some ⟨oc3, od3, .func (PySem.W.fnOf "least_keeping" "least_keeping" (defArgs s_least_keeping) (defBody s_least_keeping) (defScope s_least_keeping) .none kV3 dc3 pm3 an3 cd3 ct3), sl3⟩) (c3 : PySem.W.codeIn K cd3 "least_keeping" = true) (k3 : PySem.W.keepIn K (.ref f3) = true)
    {f4 : Addr} {od4 an4 : Option Addr} {sl4 : Array (Option Value)} {oc4 kV4 dc4 pm4 cd4 ct4 : Value}
    (a4 : PySem.W.nsIn K mainGlobals "ring" = some (some (.ref f4)))
    (l4 : K.lookup f4 = some ⟨oc4, od4, .func (PySem.W.fnOf "ring" "ring" (defArgs s_ring) (defBody s_ring) (defScope s_ring) .none kV4 dc4 pm4 an4 cd4 ct4), sl4⟩) (c4 : PySem.W.codeIn K cd4 "ring" = true) (k4 : PySem.W.keepIn K (.ref f4) = true)
    {f5 : Addr} {od5 an5 : Option Addr} {sl5 : Array (Option Value)} {oc5 kV5 dc5 pm5 cd5 ct5 : Value}
    (a5 : PySem.W.nsIn K mainGlobals "is_ring" = some (some (.ref f5)))
    (l5 : K.lookup f5 = some ⟨oc5, od5, .func (PySem.W.fnOf "is_ring" "is_ring" (defArgs s_is_ring) (defBody s_is_ring) (defScope s_is_ring) .none kV5 dc5 pm5 an5 cd5 ct5), sl5⟩) (c5 : PySem.W.codeIn K cd5 "is_ring" = true) (k5 : PySem.W.keepIn K (.ref f5) = true)
    {f6 : Addr} {od6 an6 : Option Addr} {sl6 : Array (Option Value)} {oc6 dc6 pm6 cd6 ct6 : Value}
    {D_plan T_plan : Addr} {odt_plan : Option Addr} {nt_plan : Nat} {slt_plan : Array (Option Value)}
    (a6 : PySem.W.nsIn K mainGlobals "plan" = some (some (.ref f6)))
    (l6 : K.lookup f6 = some ⟨oc6, od6, .func (PySem.W.fnOf "plan" "plan" (defArgs s_plan) (defBody s_plan) (defScope s_plan) .none (.ref D_plan) dc6 pm6 an6 cd6 ct6), sl6⟩) (c6 : PySem.W.codeIn K cd6 "plan" = true) (k6 : PySem.W.keepIn K (.ref f6) = true)
    (kq_plan_costs : PySem.W.nsIn K D_plan "costs" = some (some .none))
    (kq_plan_fixed : PySem.W.nsIn K D_plan "fixed" = some (some (.ref T_plan)))
    (kt_plan : K.lookup T_plan = some ⟨.type "tuple", odt_plan, .seq #[] nt_plan, slt_plan⟩)
    {f7 : Addr} {od7 an7 : Option Addr} {sl7 : Array (Option Value)} {oc7 kV7 dc7 pm7 cd7 ct7 : Value}
    (a7 : PySem.W.nsIn K mainGlobals "checked_prices" = some (some (.ref f7)))
    (l7 : K.lookup f7 = some ⟨oc7, od7, .func (PySem.W.fnOf "checked_prices" "checked_prices" (defArgs s_checked_prices) (defBody s_checked_prices) (defScope s_checked_prices) .none kV7 dc7 pm7 an7 cd7 ct7), sl7⟩) (c7 : PySem.W.codeIn K cd7 "checked_prices" = true) (k7 : PySem.W.keepIn K (.ref f7) = true)
    {f8 : Addr} {od8 an8 : Option Addr} {sl8 : Array (Option Value)} {oc8 dc8 pm8 cd8 ct8 : Value}
    {D_is_bundle T_is_bundle : Addr} {odt_is_bundle : Option Addr} {nt_is_bundle : Nat} {slt_is_bundle : Array (Option Value)}
    (a8 : PySem.W.nsIn K mainGlobals "is_bundle" = some (some (.ref f8)))
    (l8 : K.lookup f8 = some ⟨oc8, od8, .func (PySem.W.fnOf "is_bundle" "is_bundle" (defArgs s_is_bundle) (defBody s_is_bundle) (defScope s_is_bundle) .none (.ref D_is_bundle) dc8 pm8 an8 cd8 ct8), sl8⟩) (c8 : PySem.W.codeIn K cd8 "is_bundle" = true) (k8 : PySem.W.keepIn K (.ref f8) = true)
    (kq_is_bundle_costs : PySem.W.nsIn K D_is_bundle "costs" = some (some .none))
    (kq_is_bundle_fixed : PySem.W.nsIn K D_is_bundle "fixed" = some (some (.ref T_is_bundle)))
    (kt_is_bundle : K.lookup T_is_bundle = some ⟨.type "tuple", odt_is_bundle, .seq #[] nt_is_bundle, slt_is_bundle⟩)
    {f9 : Addr} {od9 an9 : Option Addr} {sl9 : Array (Option Value)} {oc9 kV9 dc9 pm9 cd9 ct9 : Value}
    (a9 : PySem.W.nsIn K mainGlobals "chain_count" = some (some (.ref f9)))
    (l9 : K.lookup f9 = some ⟨oc9, od9, .func (PySem.W.fnOf "chain_count" "chain_count" (defArgs s_chain_count) (defBody s_chain_count) (defScope s_chain_count) .none kV9 dc9 pm9 an9 cd9 ct9), sl9⟩) (c9 : PySem.W.codeIn K cd9 "chain_count" = true) (k9 : PySem.W.keepIn K (.ref f9) = true)
    {f10 : Addr} {od10 an10 : Option Addr} {sl10 : Array (Option Value)} {oc10 kV10 dc10 pm10 cd10 ct10 : Value}
    (a10 : PySem.W.nsIn K mainGlobals "group_plan" = some (some (.ref f10)))
    (l10 : K.lookup f10 = some ⟨oc10, od10, .func (PySem.W.fnOf "group_plan" "group_plan" (defArgs s_group_plan) (defBody s_group_plan) (defScope s_group_plan) .none kV10 dc10 pm10 an10 cd10 ct10), sl10⟩) (c10 : PySem.W.codeIn K cd10 "group_plan" = true) (k10 : PySem.W.keepIn K (.ref f10) = true)
    {f11 : Addr} {od11 an11 : Option Addr} {sl11 : Array (Option Value)} {oc11 kV11 dc11 pm11 cd11 ct11 : Value}
    (a11 : PySem.W.nsIn K mainGlobals "_law_bag" = some (some (.ref f11)))
    (l11 : K.lookup f11 = some ⟨oc11, od11, .func (PySem.W.fnOf "_law_bag" "_law_bag" (defArgs s_bag) (defBody s_bag) (defScope s_bag) .none kV11 dc11 pm11 an11 cd11 ct11), sl11⟩) (c11 : PySem.W.codeIn K cd11 "_law_bag" = true) (k11 : PySem.W.keepIn K (.ref f11) = true)
    {f12 : Addr} {od12 an12 : Option Addr} {sl12 : Array (Option Value)} {oc12 kV12 dc12 pm12 cd12 ct12 : Value}
    (a12 : PySem.W.nsIn K mainGlobals "_law_pull" = some (some (.ref f12)))
    (l12 : K.lookup f12 = some ⟨oc12, od12, .func (PySem.W.fnOf "_law_pull" "_law_pull" (defArgs s_pull) (defBody s_pull) (defScope s_pull) .none kV12 dc12 pm12 an12 cd12 ct12), sl12⟩) (c12 : PySem.W.codeIn K cd12 "_law_pull" = true) (k12 : PySem.W.keepIn K (.ref f12) = true)
    {f13 : Addr} {od13 an13 : Option Addr} {sl13 : Array (Option Value)} {oc13 kV13 dc13 pm13 cd13 ct13 : Value}
    (a13 : PySem.W.nsIn K mainGlobals "_law_of" = some (some (.ref f13)))
    (l13 : K.lookup f13 = some ⟨oc13, od13, .func (PySem.W.fnOf "_law_of" "_law_of" (defArgs s_of) (defBody s_of) (defScope s_of) .none kV13 dc13 pm13 an13 cd13 ct13), sl13⟩) (c13 : PySem.W.codeIn K cd13 "_law_of" = true) (k13 : PySem.W.keepIn K (.ref f13) = true)
    {f14 : Addr} {od14 an14 : Option Addr} {sl14 : Array (Option Value)} {oc14 kV14 dc14 pm14 cd14 ct14 : Value}
    (a14 : PySem.W.nsIn K mainGlobals "_law_mixed" = some (some (.ref f14)))
    (l14 : K.lookup f14 = some ⟨oc14, od14, .func (PySem.W.fnOf "_law_mixed" "_law_mixed" (defArgs s_mixed) (defBody s_mixed) (defScope s_mixed) .none kV14 dc14 pm14 an14 cd14 ct14), sl14⟩) (c14 : PySem.W.codeIn K cd14 "_law_mixed" = true) (k14 : PySem.W.keepIn K (.ref f14) = true)
    {f15 : Addr} {od15 an15 : Option Addr} {sl15 : Array (Option Value)} {oc15 kV15 dc15 pm15 cd15 ct15 : Value}
    (a15 : PySem.W.nsIn K mainGlobals "_law_names" = some (some (.ref f15)))
    (l15 : K.lookup f15 = some ⟨oc15, od15, .func (PySem.W.fnOf "_law_names" "_law_names" (defArgs s_names) (defBody s_names) (defScope s_names) .none kV15 dc15 pm15 an15 cd15 ct15), sl15⟩) (c15 : PySem.W.codeIn K cd15 "_law_names" = true) (k15 : PySem.W.keepIn K (.ref f15) = true)
    {f16 : Addr} {od16 an16 : Option Addr} {sl16 : Array (Option Value)} {oc16 kV16 dc16 pm16 cd16 ct16 : Value}
    (a16 : PySem.W.nsIn K mainGlobals "_law_field" = some (some (.ref f16)))
    (l16 : K.lookup f16 = some ⟨oc16, od16, .func (PySem.W.fnOf "_law_field" "_law_field" (defArgs s_field) (defBody s_field) (defScope s_field) .none kV16 dc16 pm16 an16 cd16 ct16), sl16⟩) (c16 : PySem.W.codeIn K cd16 "_law_field" = true) (k16 : PySem.W.keepIn K (.ref f16) = true)
    {f17 : Addr} {od17 an17 : Option Addr} {sl17 : Array (Option Value)} {oc17 kV17 dc17 pm17 cd17 ct17 : Value}
    (a17 : PySem.W.nsIn K mainGlobals "_law_try" = some (some (.ref f17)))
    (l17 : K.lookup f17 = some ⟨oc17, od17, .func (PySem.W.fnOf "_law_try" "_law_try" (defArgs s_try) (defBody s_try) (defScope s_try) .none kV17 dc17 pm17 an17 cd17 ct17), sl17⟩) (c17 : PySem.W.codeIn K cd17 "_law_try" = true) (k17 : PySem.W.keepIn K (.ref f17) = true)
    {f18 : Addr} {od18 an18 : Option Addr} {sl18 : Array (Option Value)} {oc18 kV18 dc18 pm18 cd18 ct18 : Value}
    (a18 : PySem.W.nsIn K mainGlobals "_law_wish" = some (some (.ref f18)))
    (l18 : K.lookup f18 = some ⟨oc18, od18, .func (PySem.W.fnOf "_law_wish" "_law_wish" (defArgs s_wish) (defBody s_wish) (defScope s_wish) .none kV18 dc18 pm18 an18 cd18 ct18), sl18⟩) (c18 : PySem.W.codeIn K cd18 "_law_wish" = true) (k18 : PySem.W.keepIn K (.ref f18) = true)
    {f19 c_law P_law : Addr} {od19 an19 odc_law : Option Addr} {sl19 slc_law : Array (Option Value)} {vsc_law : Array Value} {oc19 kV19 dc19 pm19 ct19 : Value}
    (a19 : PySem.W.nsIn K mainGlobals "_law_asks" = some (some (.ref f19)))
    (l19 : K.lookup f19 = some ⟨oc19, od19, .func (PySem.W.fnOf "_law_asks" "_law_asks" (defArgs s_asks) (defBody s_asks) (defScope s_asks) .none kV19 dc19 pm19 an19 (.ref c_law) ct19), sl19⟩) (c19 : PySem.W.codeIn K (.ref c_law) "_law_asks" = true) (k19 : PySem.W.keepIn K (.ref f19) = true)
    (tlc : K.lookup c_law = some ⟨.type "code", odc_law, .fields vsc_law, slc_law⟩) (tpc : vsc_law[11]? = some (.ref P_law)) (tch : PySem.W.codeHdIn K c_law P_law = true) (tnp : K.lookup P_law = none) (ttp : h.get? P_law = some RK.tab0)
    {f20 : Addr} {od20 an20 : Option Addr} {sl20 : Array (Option Value)} {oc20 kV20 dc20 pm20 cd20 ct20 : Value}
    (a20 : PySem.W.nsIn K mainGlobals "law" = some (some (.ref f20)))
    (l20 : K.lookup f20 = some ⟨oc20, od20, .func (PySem.W.fnOf "law" "law" (defArgs s_law) (defBody s_law) (defScope s_law) .none kV20 dc20 pm20 an20 cd20 ct20), sl20⟩) (c20 : PySem.W.codeIn K cd20 "law" = true) (k20 : PySem.W.keepIn K (.ref f20) = true)
    {C_DeskError : Addr} (aC_DeskError : PySem.W.nsIn K mainGlobals "DeskError" = some (some (.ref C_DeskError)))
    {fx_DeskError : Addr} {odx_DeskError anx_DeskError : Option Addr} {slx_DeskError : Array (Option Value)} {ocx_DeskError kVx_DeskError dcx_DeskError pmx_DeskError cdx_DeskError ctx_DeskError : Value}
    (ax_DeskError : PySem.W.findIn K (.ref C_DeskError) "__init__" = some (some (.ref fx_DeskError)))
    {dt_DeskError : Addr}
    (lx_DeskError : K.lookup fx_DeskError = some ⟨ocx_DeskError, odx_DeskError, .func (PySem.W.fnOf "__init__" "DeskError.__init__" (defArgs s_DeskError___init) (defBody s_DeskError___init) (defScope s_DeskError___init) (.ref dt_DeskError) kVx_DeskError dcx_DeskError pmx_DeskError anx_DeskError cdx_DeskError ctx_DeskError), slx_DeskError⟩) (cx_DeskError : PySem.W.codeIn K cdx_DeskError "DeskError.__init__" = true) (kx_DeskError : PySem.W.keepIn K (.ref fx_DeskError) = true)
    {ow_DeskError : Value} {od2_DeskError : Option Addr} {sl2_DeskError : Array (Option Value)} {n2_DeskError : Nat} {t1_DeskError t2_DeskError : Tok} (ld_DeskError : K.lookup dt_DeskError = some ⟨ow_DeskError, od2_DeskError, .seq #[.str "DeskError" t1_DeskError, .str "a value is wrong" t2_DeskError] n2_DeskError, sl2_DeskError⟩)
    (e1_DeskError : PySem.W.excInitIn K C_DeskError PySem.OEG.bdV.bm PySem.OEG.bdV.newId = true) (e2_DeskError : PySem.W.hasDictIn K C_DeskError = true) (e3_DeskError : PySem.W.findIn K (.ref C_DeskError) "__setattr__" = some (some (.builtin "object.__setattr__"))) (e4_DeskError : PySem.W.subIn K (.ref C_DeskError) (.type "BaseException") = some true) (e5_DeskError : PySem.W.typeIn K (.ref C_DeskError) = some (.type "type")) (e6_DeskError : PySem.W.keepIn K (.ref C_DeskError) = true) (e7_DeskError : PySem.W.typeIn K (.ref fx_DeskError) = some (.type "function"))
    (nx_DeskError_word : PySem.W.findIn K (.ref C_DeskError) "word" = some none)
    (r1_DeskError : PySem.W.readsIn K C_DeskError (.type "type") = true) (r2_DeskError : PySem.W.specialIn K (.ref C_DeskError) "__getattribute__" = some (some (.builtin "type.__getattribute__"))) (ci_DeskError : PySem.W.findCls K (.ref C_DeskError) (.type "type") "__init__" = some (.val (.ref fx_DeskError)))
    (g1_DeskError : PySem.W.findIn K (.ref C_DeskError) "__getattribute__" = some (some (.builtin "BaseException.__getattribute__"))) (g2_DeskError : PySem.W.findIn K (.ref C_DeskError) "__getattr__" = some none)
    {C_BadWish : Addr} (aC_BadWish : PySem.W.nsIn K mainGlobals "BadWish" = some (some (.ref C_BadWish)))
    {fx_BadWish : Addr} {odx_BadWish anx_BadWish : Option Addr} {slx_BadWish : Array (Option Value)} {ocx_BadWish kVx_BadWish dcx_BadWish pmx_BadWish cdx_BadWish ctx_BadWish : Value}
    (ax_BadWish : PySem.W.findIn K (.ref C_BadWish) "__init__" = some (some (.ref fx_BadWish)))
    (lx_BadWish : K.lookup fx_BadWish = some ⟨ocx_BadWish, odx_BadWish, .func (PySem.W.fnOf "__init__" "BadWish.__init__" (defArgs s_BadWish___init) (defBody s_BadWish___init) (defScope s_BadWish___init) .none kVx_BadWish dcx_BadWish pmx_BadWish anx_BadWish cdx_BadWish ctx_BadWish), slx_BadWish⟩) (cx_BadWish : PySem.W.codeIn K cdx_BadWish "BadWish.__init__" = true) (kx_BadWish : PySem.W.keepIn K (.ref fx_BadWish) = true)
    (e1_BadWish : PySem.W.excInitIn K C_BadWish PySem.OEG.bdV.bm PySem.OEG.bdV.newId = true) (e2_BadWish : PySem.W.hasDictIn K C_BadWish = true) (e3_BadWish : PySem.W.findIn K (.ref C_BadWish) "__setattr__" = some (some (.builtin "object.__setattr__"))) (e4_BadWish : PySem.W.subIn K (.ref C_BadWish) (.type "BaseException") = some true) (e5_BadWish : PySem.W.typeIn K (.ref C_BadWish) = some (.type "type")) (e6_BadWish : PySem.W.keepIn K (.ref C_BadWish) = true) (e7_BadWish : PySem.W.typeIn K (.ref fx_BadWish) = some (.type "function"))
    (nx_BadWish_word : PySem.W.findIn K (.ref C_BadWish) "word" = some none)
    (nx_BadWish_at : PySem.W.findIn K (.ref C_BadWish) "at" = some none)
    (r1_BadWish : PySem.W.readsIn K C_BadWish (.type "type") = true) (r2_BadWish : PySem.W.specialIn K (.ref C_BadWish) "__getattribute__" = some (some (.builtin "type.__getattribute__"))) (ci_BadWish : PySem.W.findCls K (.ref C_BadWish) (.type "type") "__init__" = some (.val (.ref fx_BadWish)))
    (g1_BadWish : PySem.W.findIn K (.ref C_BadWish) "__getattribute__" = some (some (.builtin "BaseException.__getattribute__"))) (g2_BadWish : PySem.W.findIn K (.ref C_BadWish) "__getattr__" = some none)
    {C_BadCost : Addr} (aC_BadCost : PySem.W.nsIn K mainGlobals "BadCost" = some (some (.ref C_BadCost)))
    {fx_BadCost : Addr} {odx_BadCost anx_BadCost : Option Addr} {slx_BadCost : Array (Option Value)} {ocx_BadCost kVx_BadCost dcx_BadCost pmx_BadCost cdx_BadCost ctx_BadCost : Value}
    (ax_BadCost : PySem.W.findIn K (.ref C_BadCost) "__init__" = some (some (.ref fx_BadCost)))
    (lx_BadCost : K.lookup fx_BadCost = some ⟨ocx_BadCost, odx_BadCost, .func (PySem.W.fnOf "__init__" "BadCost.__init__" (defArgs s_BadCost___init) (defBody s_BadCost___init) (defScope s_BadCost___init) .none kVx_BadCost dcx_BadCost pmx_BadCost anx_BadCost cdx_BadCost ctx_BadCost), slx_BadCost⟩) (cx_BadCost : PySem.W.codeIn K cdx_BadCost "BadCost.__init__" = true) (kx_BadCost : PySem.W.keepIn K (.ref fx_BadCost) = true)
    (e1_BadCost : PySem.W.excInitIn K C_BadCost PySem.OEG.bdV.bm PySem.OEG.bdV.newId = true) (e2_BadCost : PySem.W.hasDictIn K C_BadCost = true) (e3_BadCost : PySem.W.findIn K (.ref C_BadCost) "__setattr__" = some (some (.builtin "object.__setattr__"))) (e4_BadCost : PySem.W.subIn K (.ref C_BadCost) (.type "BaseException") = some true) (e5_BadCost : PySem.W.typeIn K (.ref C_BadCost) = some (.type "type")) (e6_BadCost : PySem.W.keepIn K (.ref C_BadCost) = true) (e7_BadCost : PySem.W.typeIn K (.ref fx_BadCost) = some (.type "function"))
    (nx_BadCost_word : PySem.W.findIn K (.ref C_BadCost) "word" = some none)
    (nx_BadCost_name : PySem.W.findIn K (.ref C_BadCost) "name" = some none)
    (r1_BadCost : PySem.W.readsIn K C_BadCost (.type "type") = true) (r2_BadCost : PySem.W.specialIn K (.ref C_BadCost) "__getattribute__" = some (some (.builtin "type.__getattribute__"))) (ci_BadCost : PySem.W.findCls K (.ref C_BadCost) (.type "type") "__init__" = some (.val (.ref fx_BadCost)))
    (g1_BadCost : PySem.W.findIn K (.ref C_BadCost) "__getattribute__" = some (some (.builtin "BaseException.__getattribute__"))) (g2_BadCost : PySem.W.findIn K (.ref C_BadCost) "__getattr__" = some none)
    {C_Impossible : Addr} (aC_Impossible : PySem.W.nsIn K mainGlobals "Impossible" = some (some (.ref C_Impossible)))
    {fx_Impossible : Addr} {odx_Impossible anx_Impossible : Option Addr} {slx_Impossible : Array (Option Value)} {ocx_Impossible kVx_Impossible dcx_Impossible pmx_Impossible cdx_Impossible ctx_Impossible : Value}
    (ax_Impossible : PySem.W.findIn K (.ref C_Impossible) "__init__" = some (some (.ref fx_Impossible)))
    (lx_Impossible : K.lookup fx_Impossible = some ⟨ocx_Impossible, odx_Impossible, .func (PySem.W.fnOf "__init__" "Impossible.__init__" (defArgs s_Impossible___init) (defBody s_Impossible___init) (defScope s_Impossible___init) .none kVx_Impossible dcx_Impossible pmx_Impossible anx_Impossible cdx_Impossible ctx_Impossible), slx_Impossible⟩) (cx_Impossible : PySem.W.codeIn K cdx_Impossible "Impossible.__init__" = true) (kx_Impossible : PySem.W.keepIn K (.ref fx_Impossible) = true)
    (e1_Impossible : PySem.W.excInitIn K C_Impossible PySem.OEG.bdV.bm PySem.OEG.bdV.newId = true) (e2_Impossible : PySem.W.hasDictIn K C_Impossible = true) (e3_Impossible : PySem.W.findIn K (.ref C_Impossible) "__setattr__" = some (some (.builtin "object.__setattr__"))) (e4_Impossible : PySem.W.subIn K (.ref C_Impossible) (.type "BaseException") = some true) (e5_Impossible : PySem.W.typeIn K (.ref C_Impossible) = some (.type "type")) (e6_Impossible : PySem.W.keepIn K (.ref C_Impossible) = true) (e7_Impossible : PySem.W.typeIn K (.ref fx_Impossible) = some (.type "function"))
    (nx_Impossible_word : PySem.W.findIn K (.ref C_Impossible) "word" = some none)
    (r1_Impossible : PySem.W.readsIn K C_Impossible (.type "type") = true) (r2_Impossible : PySem.W.specialIn K (.ref C_Impossible) "__getattribute__" = some (some (.builtin "type.__getattribute__"))) (ci_Impossible : PySem.W.findCls K (.ref C_Impossible) (.type "type") "__init__" = some (.val (.ref fx_Impossible)))
    (g1_Impossible : PySem.W.findIn K (.ref C_Impossible) "__getattribute__" = some (some (.builtin "BaseException.__getattribute__"))) (g2_Impossible : PySem.W.findIn K (.ref C_Impossible) "__getattr__" = some none)
    {C_Missing : Addr} (aC_Missing : PySem.W.nsIn K mainGlobals "Missing" = some (some (.ref C_Missing)))
    {fx_Missing : Addr} {odx_Missing anx_Missing : Option Addr} {slx_Missing : Array (Option Value)} {ocx_Missing kVx_Missing dcx_Missing pmx_Missing cdx_Missing ctx_Missing : Value}
    (ax_Missing : PySem.W.findIn K (.ref C_Missing) "__init__" = some (some (.ref fx_Missing)))
    {dt_Missing : Addr}
    (lx_Missing : K.lookup fx_Missing = some ⟨ocx_Missing, odx_Missing, .func (PySem.W.fnOf "__init__" "Missing.__init__" (defArgs s_Missing___init) (defBody s_Missing___init) (defScope s_Missing___init) (.ref dt_Missing) kVx_Missing dcx_Missing pmx_Missing anx_Missing cdx_Missing ctx_Missing), slx_Missing⟩) (cx_Missing : PySem.W.codeIn K cdx_Missing "Missing.__init__" = true) (kx_Missing : PySem.W.keepIn K (.ref fx_Missing) = true)
    {ow_Missing : Value} {od2_Missing : Option Addr} {sl2_Missing : Array (Option Value)} {n2_Missing : Nat} {t1_Missing t2_Missing : Tok} (ld_Missing : K.lookup dt_Missing = some ⟨ow_Missing, od2_Missing, .seq #[.str "Missing" t1_Missing, .str "something is not there" t2_Missing] n2_Missing, sl2_Missing⟩)
    (e1_Missing : PySem.W.excInitIn K C_Missing PySem.OEG.bdL.bm PySem.OEG.bdL.newId = true) (e2_Missing : PySem.W.hasDictIn K C_Missing = true) (e3_Missing : PySem.W.findIn K (.ref C_Missing) "__setattr__" = some (some (.builtin "object.__setattr__"))) (e4_Missing : PySem.W.subIn K (.ref C_Missing) (.type "BaseException") = some true) (e5_Missing : PySem.W.typeIn K (.ref C_Missing) = some (.type "type")) (e6_Missing : PySem.W.keepIn K (.ref C_Missing) = true) (e7_Missing : PySem.W.typeIn K (.ref fx_Missing) = some (.type "function"))
    (nx_Missing_word : PySem.W.findIn K (.ref C_Missing) "word" = some none)
    (r1_Missing : PySem.W.readsIn K C_Missing (.type "type") = true) (r2_Missing : PySem.W.specialIn K (.ref C_Missing) "__getattribute__" = some (some (.builtin "type.__getattribute__"))) (ci_Missing : PySem.W.findCls K (.ref C_Missing) (.type "type") "__init__" = some (.val (.ref fx_Missing)))
    (g1_Missing : PySem.W.findIn K (.ref C_Missing) "__getattribute__" = some (some (.builtin "BaseException.__getattribute__"))) (g2_Missing : PySem.W.findIn K (.ref C_Missing) "__getattr__" = some none)
    {C_Unknown : Addr} (aC_Unknown : PySem.W.nsIn K mainGlobals "Unknown" = some (some (.ref C_Unknown)))
    {fx_Unknown : Addr} {odx_Unknown anx_Unknown : Option Addr} {slx_Unknown : Array (Option Value)} {ocx_Unknown kVx_Unknown dcx_Unknown pmx_Unknown cdx_Unknown ctx_Unknown : Value}
    (ax_Unknown : PySem.W.findIn K (.ref C_Unknown) "__init__" = some (some (.ref fx_Unknown)))
    (lx_Unknown : K.lookup fx_Unknown = some ⟨ocx_Unknown, odx_Unknown, .func (PySem.W.fnOf "__init__" "Unknown.__init__" (defArgs s_Unknown___init) (defBody s_Unknown___init) (defScope s_Unknown___init) .none kVx_Unknown dcx_Unknown pmx_Unknown anx_Unknown cdx_Unknown ctx_Unknown), slx_Unknown⟩) (cx_Unknown : PySem.W.codeIn K cdx_Unknown "Unknown.__init__" = true) (kx_Unknown : PySem.W.keepIn K (.ref fx_Unknown) = true)
    (e1_Unknown : PySem.W.excInitIn K C_Unknown PySem.OEG.bdL.bm PySem.OEG.bdL.newId = true) (e2_Unknown : PySem.W.hasDictIn K C_Unknown = true) (e3_Unknown : PySem.W.findIn K (.ref C_Unknown) "__setattr__" = some (some (.builtin "object.__setattr__"))) (e4_Unknown : PySem.W.subIn K (.ref C_Unknown) (.type "BaseException") = some true) (e5_Unknown : PySem.W.typeIn K (.ref C_Unknown) = some (.type "type")) (e6_Unknown : PySem.W.keepIn K (.ref C_Unknown) = true) (e7_Unknown : PySem.W.typeIn K (.ref fx_Unknown) = some (.type "function"))
    (nx_Unknown_word : PySem.W.findIn K (.ref C_Unknown) "word" = some none)
    (nx_Unknown_name : PySem.W.findIn K (.ref C_Unknown) "name" = some none)
    (r1_Unknown : PySem.W.readsIn K C_Unknown (.type "type") = true) (r2_Unknown : PySem.W.specialIn K (.ref C_Unknown) "__getattribute__" = some (some (.builtin "type.__getattribute__"))) (ci_Unknown : PySem.W.findCls K (.ref C_Unknown) (.type "type") "__init__" = some (.val (.ref fx_Unknown)))
    (g1_Unknown : PySem.W.findIn K (.ref C_Unknown) "__getattribute__" = some (some (.builtin "BaseException.__getattribute__"))) (g2_Unknown : PySem.W.findIn K (.ref C_Unknown) "__getattr__" = some none)
    {C_NothingLeft : Addr} (aC_NothingLeft : PySem.W.nsIn K mainGlobals "NothingLeft" = some (some (.ref C_NothingLeft)))
    {fx_NothingLeft : Addr} {odx_NothingLeft anx_NothingLeft : Option Addr} {slx_NothingLeft : Array (Option Value)} {ocx_NothingLeft kVx_NothingLeft dcx_NothingLeft pmx_NothingLeft cdx_NothingLeft ctx_NothingLeft : Value}
    (ax_NothingLeft : PySem.W.findIn K (.ref C_NothingLeft) "__init__" = some (some (.ref fx_NothingLeft)))
    (lx_NothingLeft : K.lookup fx_NothingLeft = some ⟨ocx_NothingLeft, odx_NothingLeft, .func (PySem.W.fnOf "__init__" "NothingLeft.__init__" (defArgs s_NothingLeft___init) (defBody s_NothingLeft___init) (defScope s_NothingLeft___init) .none kVx_NothingLeft dcx_NothingLeft pmx_NothingLeft anx_NothingLeft cdx_NothingLeft ctx_NothingLeft), slx_NothingLeft⟩) (cx_NothingLeft : PySem.W.codeIn K cdx_NothingLeft "NothingLeft.__init__" = true) (kx_NothingLeft : PySem.W.keepIn K (.ref fx_NothingLeft) = true)
    (e1_NothingLeft : PySem.W.excInitIn K C_NothingLeft PySem.OEG.bdI.bm PySem.OEG.bdI.newId = true) (e2_NothingLeft : PySem.W.hasDictIn K C_NothingLeft = true) (e3_NothingLeft : PySem.W.findIn K (.ref C_NothingLeft) "__setattr__" = some (some (.builtin "object.__setattr__"))) (e4_NothingLeft : PySem.W.subIn K (.ref C_NothingLeft) (.type "BaseException") = some true) (e5_NothingLeft : PySem.W.typeIn K (.ref C_NothingLeft) = some (.type "type")) (e6_NothingLeft : PySem.W.keepIn K (.ref C_NothingLeft) = true) (e7_NothingLeft : PySem.W.typeIn K (.ref fx_NothingLeft) = some (.type "function"))
    (nx_NothingLeft_word : PySem.W.findIn K (.ref C_NothingLeft) "word" = some none)
    (r1_NothingLeft : PySem.W.readsIn K C_NothingLeft (.type "type") = true) (r2_NothingLeft : PySem.W.specialIn K (.ref C_NothingLeft) "__getattribute__" = some (some (.builtin "type.__getattribute__"))) (ci_NothingLeft : PySem.W.findCls K (.ref C_NothingLeft) (.type "type") "__init__" = some (.val (.ref fx_NothingLeft)))
    (g1_NothingLeft : PySem.W.findIn K (.ref C_NothingLeft) "__getattribute__" = some (some (.builtin "BaseException.__getattribute__"))) (g2_NothingLeft : PySem.W.findIn K (.ref C_NothingLeft) "__getattr__" = some none)
    (sb_DeskError_DeskError : PySem.W.subIn K (.ref C_DeskError) (.ref C_DeskError) = some true)
    (sb_DeskError_Missing : PySem.W.subIn K (.ref C_DeskError) (.ref C_Missing) = some false)
    (sb_BadWish_DeskError : PySem.W.subIn K (.ref C_BadWish) (.ref C_DeskError) = some true)
    (sb_BadWish_Missing : PySem.W.subIn K (.ref C_BadWish) (.ref C_Missing) = some false)
    (sb_BadCost_DeskError : PySem.W.subIn K (.ref C_BadCost) (.ref C_DeskError) = some true)
    (sb_BadCost_Missing : PySem.W.subIn K (.ref C_BadCost) (.ref C_Missing) = some false)
    (sb_Impossible_DeskError : PySem.W.subIn K (.ref C_Impossible) (.ref C_DeskError) = some true)
    (sb_Impossible_Missing : PySem.W.subIn K (.ref C_Impossible) (.ref C_Missing) = some false)
    (sb_Missing_DeskError : PySem.W.subIn K (.ref C_Missing) (.ref C_DeskError) = some false)
    (sb_Missing_Missing : PySem.W.subIn K (.ref C_Missing) (.ref C_Missing) = some true)
    (sb_Unknown_DeskError : PySem.W.subIn K (.ref C_Unknown) (.ref C_DeskError) = some false)
    (sb_Unknown_Missing : PySem.W.subIn K (.ref C_Unknown) (.ref C_Missing) = some true)
    (sb_NothingLeft_DeskError : PySem.W.subIn K (.ref C_NothingLeft) (.ref C_DeskError) = some false)
    (sb_NothingLeft_Missing : PySem.W.subIn K (.ref C_NothingLeft) (.ref C_Missing) = some false)
    (sb_NL : PySem.W.subIn K (.ref C_NothingLeft) (.ref C_NothingLeft) = some true)
    {t_BEGIN : Tok} (n_BEGIN : PySem.W.nsIn K mainGlobals "BEGIN" = some (some (.int 0 t_BEGIN)))
    {t_END : Tok} (n_END : PySem.W.nsIn K mainGlobals "END" = some (some (.int 1 t_END)))
    {t_MOST_COST : Tok} (n_MOST_COST : PySem.W.nsIn K mainGlobals "MOST_COST" = some (some (.int 1000 t_MOST_COST)))
    (z_ValueError : PySem.W.nsIn K mainGlobals "ValueError" = some none)
    (z_all : PySem.W.nsIn K mainGlobals "all" = some none)
    (z_enumerate : PySem.W.nsIn K mainGlobals "enumerate" = some none)
    (z_isinstance : PySem.W.nsIn K mainGlobals "isinstance" = some none)
    (z_len : PySem.W.nsIn K mainGlobals "len" = some none)
    (z_list : PySem.W.nsIn K mainGlobals "list" = some none)
    (z_range : PySem.W.nsIn K mainGlobals "range" = some none)
    (z_str : PySem.W.nsIn K mainGlobals "str" = some none)
    (z_tuple : PySem.W.nsIn K mainGlobals "tuple" = some none)
    : ∃ (fd : FuncData) (cs : List (Addr × Addr)), (∀ p ∈ cs, h.get? p.2 = some RK.tab0) ∧ (∀ p ∈ cs, K.lookup p.2 = none) ∧ (∀ p ∈ cs, PySem.W.codeHdIn K p.1 p.2 = true) ∧ (∀ (s : Shared) (v : Value), BindsTo s fd ⟨[v], []⟩ [("_law_script", v)]) ∧ ∀ bs : Heap, K.In bs → bs.Ns mainGlobals mg → (∀ p ∈ cs, LamX.TabB bs mg p.1 p.2) → RK.FnAt l.prog w K mg bs CX0 callerA fa fd ["_law_script"] (DL.spLawT K cs) := by
  have e := hfa.symm.trans (PySem.W.mg_of X G a20)
  cases e
  have F0 := fun_mk (st := s_check_wish) l0 c0 k0
  have b0 := F0.binds (ps := ["names", "wish"]) fun _ _ _ _ _ _ us hl => match us, hl with | [_, _], _ => rfl
  have F1 := fun_mk (st := s_is_pair) l1 c1 k1
  have b1 := F1.binds (ps := ["known", "item"]) fun _ _ _ _ _ _ us hl => match us, hl with | [_, _], _ => rfl
  have F2 := fun_mk (st := s_keeps) l2 c2 k2
  have b2 := F2.binds (ps := ["order", "wish"]) fun _ _ _ _ _ _ us hl => match us, hl with | [_, _], _ => rfl
  have F3 := fun_mk (st := s_least_keeping) l3 c3 k3
  have b3 := F3.binds (ps := ["names", "wish"]) fun _ _ _ _ _ _ us hl => match us, hl with | [_, _], _ => rfl
  have F4 := fun_mk (st := s_ring) l4 c4 k4
  have b4 := F4.binds (ps := ["names", "wish"]) fun _ _ _ _ _ _ us hl => match us, hl with | [_, _], _ => rfl
  have F5 := fun_mk (st := s_is_ring) l5 c5 k5
  have b5 := F5.binds (ps := ["names", "wish", "claimed"]) fun _ _ _ _ _ _ us hl => match us, hl with | [_, _, _], _ => rfl
  have F6 := fun_mk (st := s_plan) l6 c6 k6
  have F7 := fun_mk (st := s_checked_prices) l7 c7 k7
  have b7 := F7.binds (ps := ["order", "wish", "costs", "fixed"]) fun _ _ _ _ _ _ us hl => match us, hl with | [_, _, _, _], _ => rfl
  have F8 := fun_mk (st := s_is_bundle) l8 c8 k8
  have F9 := fun_mk (st := s_chain_count) l9 c9 k9
  have b9 := F9.binds (ps := ["order", "wish", "chain"]) fun _ _ _ _ _ _ us hl => match us, hl with | [_, _, _], _ => rfl
  have F10 := fun_mk (st := s_group_plan) l10 c10 k10
  have b10 := F10.binds (ps := ["order", "wish"]) fun _ _ _ _ _ _ us hl => match us, hl with | [_, _], _ => rfl
  have F11 := fun_mk (st := s_bag) l11 c11 k11
  have b11 := F11.binds (ps := ["_law_script"]) fun _ _ _ _ _ _ us hl => match us, hl with | [_], _ => rfl
  have F12 := fun_mk (st := s_pull) l12 c12 k12
  have b12 := F12.binds (ps := ["_law_bag_here", "_law_amount"]) fun _ _ _ _ _ _ us hl => match us, hl with | [_, _], _ => rfl
  have F13 := fun_mk (st := s_of) l13 c13 k13
  have b13 := F13.binds (ps := ["_law_bag_here", "_law_things"]) fun _ _ _ _ _ _ us hl => match us, hl with | [_, _], _ => rfl
  have F14 := fun_mk (st := s_mixed) l14 c14 k14
  have b14 := F14.binds (ps := ["_law_bag_here", "_law_things"]) fun _ _ _ _ _ _ us hl => match us, hl with | [_, _], _ => rfl
  have F15 := fun_mk (st := s_names) l15 c15 k15
  have b15 := F15.binds (ps := ["_law_bag_here", "_law_count"]) fun _ _ _ _ _ _ us hl => match us, hl with | [_, _], _ => rfl
  have F16 := fun_mk (st := s_field) l16 c16 k16
  have b16 := F16.binds (ps := ["_law_e"]) fun _ _ _ _ _ _ us hl => match us, hl with | [_], _ => rfl
  have F17 := fun_mk (st := s_try) l17 c17 k17
  have b17 := F17.binds (ps := ["_law_ask"]) fun _ _ _ _ _ _ us hl => match us, hl with | [_], _ => rfl
  have F18 := fun_mk (st := s_wish) l18 c18 k18
  have b18 := F18.binds (ps := ["_law_bag_here", "_law_names_here", "_law_most"]) fun _ _ _ _ _ _ us hl => match us, hl with | [_, _, _], _ => rfl
  have F19 := fun_mk (st := s_asks) l19 c19 k19
  have b19 := F19.binds (ps := ["_law_names_here", "_law_wish_here"]) fun _ _ _ _ _ _ us hl => match us, hl with | [_, _], _ => rfl
  have F20 := fun_mk (st := s_law) l20 c20 k20
  have b20 := F20.binds (ps := ["_law_script"]) fun _ _ _ _ _ _ us hl => match us, hl with | [_], _ => rfl
  have Fx_DeskError : RK.FunA K "__init__" "DeskError.__init__" s_DeskError___init fx_DeskError (PySem.W.fnOf "__init__" "DeskError.__init__" (defArgs s_DeskError___init) (defBody s_DeskError___init) (defScope s_DeskError___init) (.ref dt_DeskError) kVx_DeskError dcx_DeskError pmx_DeskError anx_DeskError cdx_DeskError ctx_DeskError) := ⟨⟨_, _, _, _, _, _, _, _, _, _, rfl, lx_DeskError, cx_DeskError⟩, kx_DeskError⟩
  have D_DeskError : FunD K "__init__" "DeskError.__init__" (defArgs s_DeskError___init) (defBody s_DeskError___init) (defScope s_DeskError___init) [.str "DeskError", .str "a value is wrong"] [] fx_DeskError (PySem.W.fnOf "__init__" "DeskError.__init__" (defArgs s_DeskError___init) (defBody s_DeskError___init) (defScope s_DeskError___init) (.ref dt_DeskError) kVx_DeskError dcx_DeskError pmx_DeskError anx_DeskError cdx_DeskError ctx_DeskError) := ⟨⟨_, _, _, _, _, _, _, _, _, _, rfl, lx_DeskError, cx_DeskError, .inr ⟨by simp, dt_DeskError, _, [.str "DeskError" t1_DeskError, .str "a value is wrong" t2_DeskError], _, rfl, ld_DeskError, rfl, .cons ⟨_, rfl⟩ (.cons ⟨_, rfl⟩ .nil)⟩, .inl rfl⟩, kx_DeskError⟩
  have bx_DeskError : Binds K (PySem.W.fnOf "__init__" "DeskError.__init__" (defArgs s_DeskError___init) (defBody s_DeskError___init) (defScope s_DeskError___init) (.ref dt_DeskError) kVx_DeskError dcx_DeskError pmx_DeskError anx_DeskError cdx_DeskError ctx_DeskError) ["self", "word", "why"] [] := by
    obtain ⟨ds, r, b⟩ := D_DeskError.binds1 (ps := ["self", "word", "why"]) 3 2 (by simp) rfl fun _ _ _ _ _ _ _ us its h1 h2 => match us, its, h1, h2 with | [_, _, _], [_, _], _, _ => ⟨_, rfl, rfl⟩
    cases r
    exact b
  have Fx_BadWish : RK.FunA K "__init__" "BadWish.__init__" s_BadWish___init fx_BadWish (PySem.W.fnOf "__init__" "BadWish.__init__" (defArgs s_BadWish___init) (defBody s_BadWish___init) (defScope s_BadWish___init) .none kVx_BadWish dcx_BadWish pmx_BadWish anx_BadWish cdx_BadWish ctx_BadWish) := ⟨⟨_, _, _, _, _, _, _, _, _, _, rfl, lx_BadWish, cx_BadWish⟩, kx_BadWish⟩
  have bx_BadWish : Binds K (PySem.W.fnOf "__init__" "BadWish.__init__" (defArgs s_BadWish___init) (defBody s_BadWish___init) (defScope s_BadWish___init) .none kVx_BadWish dcx_BadWish pmx_BadWish anx_BadWish cdx_BadWish ctx_BadWish) ["self", "at"] [] := (fun_mk (st := s_BadWish___init) lx_BadWish cx_BadWish kx_BadWish).binds (ps := ["self", "at"]) fun _ _ _ _ _ _ us hl => match us, hl with | [_, _], _ => rfl
  have Fx_BadCost : RK.FunA K "__init__" "BadCost.__init__" s_BadCost___init fx_BadCost (PySem.W.fnOf "__init__" "BadCost.__init__" (defArgs s_BadCost___init) (defBody s_BadCost___init) (defScope s_BadCost___init) .none kVx_BadCost dcx_BadCost pmx_BadCost anx_BadCost cdx_BadCost ctx_BadCost) := ⟨⟨_, _, _, _, _, _, _, _, _, _, rfl, lx_BadCost, cx_BadCost⟩, kx_BadCost⟩
  have bx_BadCost : Binds K (PySem.W.fnOf "__init__" "BadCost.__init__" (defArgs s_BadCost___init) (defBody s_BadCost___init) (defScope s_BadCost___init) .none kVx_BadCost dcx_BadCost pmx_BadCost anx_BadCost cdx_BadCost ctx_BadCost) ["self", "name"] [] := (fun_mk (st := s_BadCost___init) lx_BadCost cx_BadCost kx_BadCost).binds (ps := ["self", "name"]) fun _ _ _ _ _ _ us hl => match us, hl with | [_, _], _ => rfl
  have Fx_Impossible : RK.FunA K "__init__" "Impossible.__init__" s_Impossible___init fx_Impossible (PySem.W.fnOf "__init__" "Impossible.__init__" (defArgs s_Impossible___init) (defBody s_Impossible___init) (defScope s_Impossible___init) .none kVx_Impossible dcx_Impossible pmx_Impossible anx_Impossible cdx_Impossible ctx_Impossible) := ⟨⟨_, _, _, _, _, _, _, _, _, _, rfl, lx_Impossible, cx_Impossible⟩, kx_Impossible⟩
  have bx_Impossible : Binds K (PySem.W.fnOf "__init__" "Impossible.__init__" (defArgs s_Impossible___init) (defBody s_Impossible___init) (defScope s_Impossible___init) .none kVx_Impossible dcx_Impossible pmx_Impossible anx_Impossible cdx_Impossible ctx_Impossible) ["self"] [] := (fun_mk (st := s_Impossible___init) lx_Impossible cx_Impossible kx_Impossible).binds (ps := ["self"]) fun _ _ _ _ _ _ us hl => match us, hl with | [_], _ => rfl
  have Fx_Missing : RK.FunA K "__init__" "Missing.__init__" s_Missing___init fx_Missing (PySem.W.fnOf "__init__" "Missing.__init__" (defArgs s_Missing___init) (defBody s_Missing___init) (defScope s_Missing___init) (.ref dt_Missing) kVx_Missing dcx_Missing pmx_Missing anx_Missing cdx_Missing ctx_Missing) := ⟨⟨_, _, _, _, _, _, _, _, _, _, rfl, lx_Missing, cx_Missing⟩, kx_Missing⟩
  have D_Missing : FunD K "__init__" "Missing.__init__" (defArgs s_Missing___init) (defBody s_Missing___init) (defScope s_Missing___init) [.str "Missing", .str "something is not there"] [] fx_Missing (PySem.W.fnOf "__init__" "Missing.__init__" (defArgs s_Missing___init) (defBody s_Missing___init) (defScope s_Missing___init) (.ref dt_Missing) kVx_Missing dcx_Missing pmx_Missing anx_Missing cdx_Missing ctx_Missing) := ⟨⟨_, _, _, _, _, _, _, _, _, _, rfl, lx_Missing, cx_Missing, .inr ⟨by simp, dt_Missing, _, [.str "Missing" t1_Missing, .str "something is not there" t2_Missing], _, rfl, ld_Missing, rfl, .cons ⟨_, rfl⟩ (.cons ⟨_, rfl⟩ .nil)⟩, .inl rfl⟩, kx_Missing⟩
  have bx_Missing : Binds K (PySem.W.fnOf "__init__" "Missing.__init__" (defArgs s_Missing___init) (defBody s_Missing___init) (defScope s_Missing___init) (.ref dt_Missing) kVx_Missing dcx_Missing pmx_Missing anx_Missing cdx_Missing ctx_Missing) ["self", "word", "why"] [] := by
    obtain ⟨ds, r, b⟩ := D_Missing.binds1 (ps := ["self", "word", "why"]) 3 2 (by simp) rfl fun _ _ _ _ _ _ _ us its h1 h2 => match us, its, h1, h2 with | [_, _, _], [_, _], _, _ => ⟨_, rfl, rfl⟩
    cases r
    exact b
  have Fx_Unknown : RK.FunA K "__init__" "Unknown.__init__" s_Unknown___init fx_Unknown (PySem.W.fnOf "__init__" "Unknown.__init__" (defArgs s_Unknown___init) (defBody s_Unknown___init) (defScope s_Unknown___init) .none kVx_Unknown dcx_Unknown pmx_Unknown anx_Unknown cdx_Unknown ctx_Unknown) := ⟨⟨_, _, _, _, _, _, _, _, _, _, rfl, lx_Unknown, cx_Unknown⟩, kx_Unknown⟩
  have bx_Unknown : Binds K (PySem.W.fnOf "__init__" "Unknown.__init__" (defArgs s_Unknown___init) (defBody s_Unknown___init) (defScope s_Unknown___init) .none kVx_Unknown dcx_Unknown pmx_Unknown anx_Unknown cdx_Unknown ctx_Unknown) ["self", "name"] [] := (fun_mk (st := s_Unknown___init) lx_Unknown cx_Unknown kx_Unknown).binds (ps := ["self", "name"]) fun _ _ _ _ _ _ us hl => match us, hl with | [_, _], _ => rfl
  have Fx_NothingLeft : RK.FunA K "__init__" "NothingLeft.__init__" s_NothingLeft___init fx_NothingLeft (PySem.W.fnOf "__init__" "NothingLeft.__init__" (defArgs s_NothingLeft___init) (defBody s_NothingLeft___init) (defScope s_NothingLeft___init) .none kVx_NothingLeft dcx_NothingLeft pmx_NothingLeft anx_NothingLeft cdx_NothingLeft ctx_NothingLeft) := ⟨⟨_, _, _, _, _, _, _, _, _, _, rfl, lx_NothingLeft, cx_NothingLeft⟩, kx_NothingLeft⟩
  have bx_NothingLeft : Binds K (PySem.W.fnOf "__init__" "NothingLeft.__init__" (defArgs s_NothingLeft___init) (defBody s_NothingLeft___init) (defScope s_NothingLeft___init) .none kVx_NothingLeft dcx_NothingLeft pmx_NothingLeft anx_NothingLeft cdx_NothingLeft ctx_NothingLeft) ["self"] [] := (fun_mk (st := s_NothingLeft___init) lx_NothingLeft cx_NothingLeft kx_NothingLeft).binds (ps := ["self"]) fun _ _ _ _ _ _ us hl => match us, hl with | [_], _ => rfl
  let T : Txt K mg := { xn_NothingLeft := RK.exm1 (b := PySem.OEG.bdI) ⟨PySem.OEG.okI, e1_NothingLeft, e2_NothingLeft, e3_NothingLeft, e4_NothingLeft, e5_NothingLeft, e6_NothingLeft⟩ sb_NL, f_check_wish := _, fd_check_wish := _, F_check_wish := F0, b_check_wish := b0, g_check_wish := PySem.W.mg_of X G a0, f_is_pair := _, fd_is_pair := _, F_is_pair := F1, b_is_pair := b1, g_is_pair := PySem.W.mg_of X G a1, f_keeps := _, fd_keeps := _, F_keeps := F2, b_keeps := b2, g_keeps := PySem.W.mg_of X G a2, f_least_keeping := _, fd_least_keeping := _, F_least_keeping := F3, b_least_keeping := b3, g_least_keeping := PySem.W.mg_of X G a3, f_ring := _, fd_ring := _, F_ring := F4, b_ring := b4, g_ring := PySem.W.mg_of X G a4, f_is_ring := _, fd_is_ring := _, F_is_ring := F5, b_is_ring := b5, g_is_ring := PySem.W.mg_of X G a5, KD_plan := ⟨T_plan, _, _, kt_plan, rfl, rfl, ⟨⟨_, _, _, _, _, _, _, _, _, _, rfl, l6, c6, .inl ⟨rfl, rfl⟩, .inr ⟨D_plan, rfl, fun q hq => (List.mem_cons.mp hq).elim (fun z => by subst z; exact ⟨_, kq_plan_costs, rfl⟩) fun hq => (List.mem_cons.mp hq).elim (fun z => by subst z; exact ⟨_, kq_plan_fixed, rfl⟩) fun z => absurd z (by simp)⟩⟩, k6⟩⟩, f_plan := _, fd_plan := _, F_plan := F6, g_plan := PySem.W.mg_of X G a6, f_checked_prices := _, fd_checked_prices := _, F_checked_prices := F7, b_checked_prices := b7, g_checked_prices := PySem.W.mg_of X G a7, KD_is_bundle := ⟨T_is_bundle, _, _, kt_is_bundle, rfl, rfl, ⟨⟨_, _, _, _, _, _, _, _, _, _, rfl, l8, c8, .inl ⟨rfl, rfl⟩, .inr ⟨D_is_bundle, rfl, fun q hq => (List.mem_cons.mp hq).elim (fun z => by subst z; exact ⟨_, kq_is_bundle_costs, rfl⟩) fun hq => (List.mem_cons.mp hq).elim (fun z => by subst z; exact ⟨_, kq_is_bundle_fixed, rfl⟩) fun z => absurd z (by simp)⟩⟩, k8⟩⟩, f_is_bundle := _, fd_is_bundle := _, F_is_bundle := F8, g_is_bundle := PySem.W.mg_of X G a8, f_chain_count := _, fd_chain_count := _, F_chain_count := F9, b_chain_count := b9, g_chain_count := PySem.W.mg_of X G a9, f_group_plan := _, fd_group_plan := _, F_group_plan := F10, b_group_plan := b10, g_group_plan := PySem.W.mg_of X G a10, f_bag := _, fd_bag := _, F_bag := F11, b_bag := b11, g_bag := PySem.W.mg_of X G a11, f_pull := _, fd_pull := _, F_pull := F12, b_pull := b12, g_pull := PySem.W.mg_of X G a12, f_of := _, fd_of := _, F_of := F13, b_of := b13, g_of := PySem.W.mg_of X G a13, f_mixed := _, fd_mixed := _, F_mixed := F14, b_mixed := b14, g_mixed := PySem.W.mg_of X G a14, f_names := _, fd_names := _, F_names := F15, b_names := b15, g_names := PySem.W.mg_of X G a15, f_field := _, fd_field := _, F_field := F16, b_field := b16, g_field := PySem.W.mg_of X G a16, f_try := _, fd_try := _, F_try := F17, b_try := b17, g_try := PySem.W.mg_of X G a17, f_wish := _, fd_wish := _, F_wish := F18, b_wish := b18, g_wish := PySem.W.mg_of X G a18, f_asks := _, fd_asks := _, F_asks := F19, b_asks := b19, g_asks := PySem.W.mg_of X G a19, f_law := _, fd_law := _, F_law := F20, b_law := b20, g_law := PySem.W.mg_of X G a20, C_DeskError := C_DeskError, g_DeskError := PySem.W.mg_of X G aC_DeskError, f_DeskError___init := fx_DeskError, fd_DeskError___init := _, F_DeskError___init := Fx_DeskError, b_DeskError___init := bx_DeskError, x_DeskError := ⟨PySem.OEG.okV, e1_DeskError, e2_DeskError, e3_DeskError, e4_DeskError, e5_DeskError, e6_DeskError⟩, xi_DeskError := ax_DeskError, xt_DeskError := e7_DeskError, nx_DeskError_word := nx_DeskError_word, cr_DeskError := ⟨r1_DeskError, r2_DeskError⟩, ci_DeskError := ci_DeskError, xf_DeskError := ⟨g1_DeskError, g2_DeskError, e4_DeskError, e2_DeskError⟩, xm_DeskError := RK.exm2 (b := PySem.OEG.bdV) (c := PySem.OEG.bdL) ⟨PySem.OEG.okV, e1_DeskError, e2_DeskError, e3_DeskError, e4_DeskError, e5_DeskError, e6_DeskError⟩ ⟨PySem.OEG.okL, e1_Missing, e2_Missing, e3_Missing, e4_Missing, e5_Missing, e6_Missing⟩ sb_DeskError_DeskError sb_DeskError_Missing, C_BadWish := C_BadWish, g_BadWish := PySem.W.mg_of X G aC_BadWish, f_BadWish___init := fx_BadWish, fd_BadWish___init := _, F_BadWish___init := Fx_BadWish, b_BadWish___init := bx_BadWish, x_BadWish := ⟨PySem.OEG.okV, e1_BadWish, e2_BadWish, e3_BadWish, e4_BadWish, e5_BadWish, e6_BadWish⟩, xi_BadWish := ax_BadWish, xt_BadWish := e7_BadWish, nx_BadWish_word := nx_BadWish_word, nx_BadWish_at := nx_BadWish_at, cr_BadWish := ⟨r1_BadWish, r2_BadWish⟩, ci_BadWish := ci_BadWish, xf_BadWish := ⟨g1_BadWish, g2_BadWish, e4_BadWish, e2_BadWish⟩, xm_BadWish := RK.exm2 (b := PySem.OEG.bdV) (c := PySem.OEG.bdL) ⟨PySem.OEG.okV, e1_DeskError, e2_DeskError, e3_DeskError, e4_DeskError, e5_DeskError, e6_DeskError⟩ ⟨PySem.OEG.okL, e1_Missing, e2_Missing, e3_Missing, e4_Missing, e5_Missing, e6_Missing⟩ sb_BadWish_DeskError sb_BadWish_Missing, C_BadCost := C_BadCost, g_BadCost := PySem.W.mg_of X G aC_BadCost, f_BadCost___init := fx_BadCost, fd_BadCost___init := _, F_BadCost___init := Fx_BadCost, b_BadCost___init := bx_BadCost, x_BadCost := ⟨PySem.OEG.okV, e1_BadCost, e2_BadCost, e3_BadCost, e4_BadCost, e5_BadCost, e6_BadCost⟩, xi_BadCost := ax_BadCost, xt_BadCost := e7_BadCost, nx_BadCost_word := nx_BadCost_word, nx_BadCost_name := nx_BadCost_name, cr_BadCost := ⟨r1_BadCost, r2_BadCost⟩, ci_BadCost := ci_BadCost, xf_BadCost := ⟨g1_BadCost, g2_BadCost, e4_BadCost, e2_BadCost⟩, xm_BadCost := RK.exm2 (b := PySem.OEG.bdV) (c := PySem.OEG.bdL) ⟨PySem.OEG.okV, e1_DeskError, e2_DeskError, e3_DeskError, e4_DeskError, e5_DeskError, e6_DeskError⟩ ⟨PySem.OEG.okL, e1_Missing, e2_Missing, e3_Missing, e4_Missing, e5_Missing, e6_Missing⟩ sb_BadCost_DeskError sb_BadCost_Missing, C_Impossible := C_Impossible, g_Impossible := PySem.W.mg_of X G aC_Impossible, f_Impossible___init := fx_Impossible, fd_Impossible___init := _, F_Impossible___init := Fx_Impossible, b_Impossible___init := bx_Impossible, x_Impossible := ⟨PySem.OEG.okV, e1_Impossible, e2_Impossible, e3_Impossible, e4_Impossible, e5_Impossible, e6_Impossible⟩, xi_Impossible := ax_Impossible, xt_Impossible := e7_Impossible, nx_Impossible_word := nx_Impossible_word, cr_Impossible := ⟨r1_Impossible, r2_Impossible⟩, ci_Impossible := ci_Impossible, xf_Impossible := ⟨g1_Impossible, g2_Impossible, e4_Impossible, e2_Impossible⟩, xm_Impossible := RK.exm2 (b := PySem.OEG.bdV) (c := PySem.OEG.bdL) ⟨PySem.OEG.okV, e1_DeskError, e2_DeskError, e3_DeskError, e4_DeskError, e5_DeskError, e6_DeskError⟩ ⟨PySem.OEG.okL, e1_Missing, e2_Missing, e3_Missing, e4_Missing, e5_Missing, e6_Missing⟩ sb_Impossible_DeskError sb_Impossible_Missing, C_Missing := C_Missing, g_Missing := PySem.W.mg_of X G aC_Missing, f_Missing___init := fx_Missing, fd_Missing___init := _, F_Missing___init := Fx_Missing, b_Missing___init := bx_Missing, x_Missing := ⟨PySem.OEG.okL, e1_Missing, e2_Missing, e3_Missing, e4_Missing, e5_Missing, e6_Missing⟩, xi_Missing := ax_Missing, xt_Missing := e7_Missing, nx_Missing_word := nx_Missing_word, cr_Missing := ⟨r1_Missing, r2_Missing⟩, ci_Missing := ci_Missing, xf_Missing := ⟨g1_Missing, g2_Missing, e4_Missing, e2_Missing⟩, xm_Missing := RK.exm2 (b := PySem.OEG.bdV) (c := PySem.OEG.bdL) ⟨PySem.OEG.okV, e1_DeskError, e2_DeskError, e3_DeskError, e4_DeskError, e5_DeskError, e6_DeskError⟩ ⟨PySem.OEG.okL, e1_Missing, e2_Missing, e3_Missing, e4_Missing, e5_Missing, e6_Missing⟩ sb_Missing_DeskError sb_Missing_Missing, C_Unknown := C_Unknown, g_Unknown := PySem.W.mg_of X G aC_Unknown, f_Unknown___init := fx_Unknown, fd_Unknown___init := _, F_Unknown___init := Fx_Unknown, b_Unknown___init := bx_Unknown, x_Unknown := ⟨PySem.OEG.okL, e1_Unknown, e2_Unknown, e3_Unknown, e4_Unknown, e5_Unknown, e6_Unknown⟩, xi_Unknown := ax_Unknown, xt_Unknown := e7_Unknown, nx_Unknown_word := nx_Unknown_word, nx_Unknown_name := nx_Unknown_name, cr_Unknown := ⟨r1_Unknown, r2_Unknown⟩, ci_Unknown := ci_Unknown, xf_Unknown := ⟨g1_Unknown, g2_Unknown, e4_Unknown, e2_Unknown⟩, xm_Unknown := RK.exm2 (b := PySem.OEG.bdV) (c := PySem.OEG.bdL) ⟨PySem.OEG.okV, e1_DeskError, e2_DeskError, e3_DeskError, e4_DeskError, e5_DeskError, e6_DeskError⟩ ⟨PySem.OEG.okL, e1_Missing, e2_Missing, e3_Missing, e4_Missing, e5_Missing, e6_Missing⟩ sb_Unknown_DeskError sb_Unknown_Missing, C_NothingLeft := C_NothingLeft, g_NothingLeft := PySem.W.mg_of X G aC_NothingLeft, f_NothingLeft___init := fx_NothingLeft, fd_NothingLeft___init := _, F_NothingLeft___init := Fx_NothingLeft, b_NothingLeft___init := bx_NothingLeft, x_NothingLeft := ⟨PySem.OEG.okI, e1_NothingLeft, e2_NothingLeft, e3_NothingLeft, e4_NothingLeft, e5_NothingLeft, e6_NothingLeft⟩, xi_NothingLeft := ax_NothingLeft, xt_NothingLeft := e7_NothingLeft, nx_NothingLeft_word := nx_NothingLeft_word, cr_NothingLeft := ⟨r1_NothingLeft, r2_NothingLeft⟩, ci_NothingLeft := ci_NothingLeft, xf_NothingLeft := ⟨g1_NothingLeft, g2_NothingLeft, e4_NothingLeft, e2_NothingLeft⟩, xm_NothingLeft := RK.exm2 (b := PySem.OEG.bdV) (c := PySem.OEG.bdL) ⟨PySem.OEG.okV, e1_DeskError, e2_DeskError, e3_DeskError, e4_DeskError, e5_DeskError, e6_DeskError⟩ ⟨PySem.OEG.okL, e1_Missing, e2_Missing, e3_Missing, e4_Missing, e5_Missing, e6_Missing⟩ sb_NothingLeft_DeskError sb_NothingLeft_Missing, t_BEGIN := t_BEGIN, c_BEGIN := PySem.W.mg_of X G n_BEGIN, t_END := t_END, c_END := PySem.W.mg_of X G n_END, t_MOST_COST := t_MOST_COST, c_MOST_COST := PySem.W.mg_of X G n_MOST_COST, m_ValueError := PySem.W.mg_none_of X G z_ValueError, m_all := PySem.W.mg_none_of X G z_all, m_enumerate := PySem.W.mg_none_of X G z_enumerate, m_isinstance := PySem.W.mg_none_of X G z_isinstance, m_len := PySem.W.mg_none_of X G z_len, m_list := PySem.W.mg_none_of X G z_list, m_range := PySem.W.mg_none_of X G z_range, m_str := PySem.W.mg_none_of X G z_str, m_tuple := PySem.W.mg_none_of X G z_tuple }
  exact ⟨(PySem.W.fnOf "law" "law" (defArgs s_law) (defBody s_law) (defScope s_law) .none kV20 dc20 pm20 an20 cd20 ct20), [(c_law, P_law)], fun p hp => by rw [List.mem_singleton.mp hp]; exact ttp, fun p hp => by rw [List.mem_singleton.mp hp]; exact tnp, fun p hp => by rw [List.mem_singleton.mp hp]; exact tch, fun s v => .of_eq rfl, fun base _ _ TB => ok_law T (TB _ List.mem_cons_self) l19 c19 l20 c20⟩
end RK
open PySem PySem.W PyProof.Rows
set_option maxHeartbeats 0 in
theorem PySem.Challenge.cw_raisekeys_k18_wrong_wishes_holds : PySem.Challenge.rw_raisekeys_k18_wrong_wishes.Holds := by
  w_on; o_law; k_head; (case hw => w_witness2)
  k_fill
  refine RK.walk_atT (l := PySem.Challenge.rw_raisekeys_k18_wrong_wishes) (n := 63) (x := "_law_script") (CX := fun _ => L2.CX0) (sp := fun w cs => DL.spLawT _ cs) rfl (by decide) rfl (fun w h Y => PySem.W.km_in_of Y) ?F (fun _ _ _ a ns hl hO hS => ⟨a, ns, rfl, hO, hS, hl, fun _ => rfl⟩) (fun _ _ _ _ _ h => h)
  case F =>
    intro w mg fa h Y KX G hmg
    refine' RK.all_mk KX G hmg ?a0 ?l0 ?c0 ?k0 ?a1 ?l1 ?c1 ?k1 ?a2 ?l2 ?c2 ?k2 ?a3 ?l3 ?c3 ?k3 ?a4 ?l4 ?c4 ?k4 ?a5 ?l5 ?c5 ?k5 ?a6 ?l6 ?c6 ?k6 ?kq_plan_costs ?kq_plan_fixed ?kt_plan ?a7 ?l7 ?c7 ?k7 ?a8 ?l8 ?c8 ?k8 ?kq_is_bundle_costs ?kq_is_bundle_fixed ?kt_is_bundle ?a9 ?l9 ?c9 ?k9 ?a10 ?l10 ?c10 ?k10 ?a11 ?l11 ?c11 ?k11 ?a12 ?l12 ?c12 ?k12 ?a13 ?l13 ?c13 ?k13 ?a14 ?l14 ?c14 ?k14 ?a15 ?l15 ?c15 ?k15 ?a16 ?l16 ?c16 ?k16 ?a17 ?l17 ?c17 ?k17 ?a18 ?l18 ?c18 ?k18 ?a19 ?l19 ?c19 ?k19 ?tlc ?tpc ?tch ?tnp ?ttp ?a20 ?l20 ?c20 ?k20 ?aC_DeskError ?ax_DeskError ?lx_DeskError ?cx_DeskError ?kx_DeskError ?ld_DeskError ?e1_DeskError ?e2_DeskError ?e3_DeskError ?e4_DeskError ?e5_DeskError ?e6_DeskError ?e7_DeskError ?nx_DeskError_word ?r1_DeskError ?r2_DeskError ?ci_DeskError ?g1_DeskError ?g2_DeskError ?aC_BadWish ?ax_BadWish ?lx_BadWish ?cx_BadWish ?kx_BadWish ?e1_BadWish ?e2_BadWish ?e3_BadWish ?e4_BadWish ?e5_BadWish ?e6_BadWish ?e7_BadWish ?nx_BadWish_word ?nx_BadWish_at ?r1_BadWish ?r2_BadWish ?ci_BadWish ?g1_BadWish ?g2_BadWish ?aC_BadCost ?ax_BadCost ?lx_BadCost ?cx_BadCost ?kx_BadCost ?e1_BadCost ?e2_BadCost ?e3_BadCost ?e4_BadCost ?e5_BadCost ?e6_BadCost ?e7_BadCost ?nx_BadCost_word ?nx_BadCost_name ?r1_BadCost ?r2_BadCost ?ci_BadCost ?g1_BadCost ?g2_BadCost ?aC_Impossible ?ax_Impossible ?lx_Impossible ?cx_Impossible ?kx_Impossible ?e1_Impossible ?e2_Impossible ?e3_Impossible ?e4_Impossible ?e5_Impossible ?e6_Impossible ?e7_Impossible ?nx_Impossible_word ?r1_Impossible ?r2_Impossible ?ci_Impossible ?g1_Impossible ?g2_Impossible ?aC_Missing ?ax_Missing ?lx_Missing ?cx_Missing ?kx_Missing ?ld_Missing ?e1_Missing ?e2_Missing ?e3_Missing ?e4_Missing ?e5_Missing ?e6_Missing ?e7_Missing ?nx_Missing_word ?r1_Missing ?r2_Missing ?ci_Missing ?g1_Missing ?g2_Missing ?aC_Unknown ?ax_Unknown ?lx_Unknown ?cx_Unknown ?kx_Unknown ?e1_Unknown ?e2_Unknown ?e3_Unknown ?e4_Unknown ?e5_Unknown ?e6_Unknown ?e7_Unknown ?nx_Unknown_word ?nx_Unknown_name ?r1_Unknown ?r2_Unknown ?ci_Unknown ?g1_Unknown ?g2_Unknown ?aC_NothingLeft ?ax_NothingLeft ?lx_NothingLeft ?cx_NothingLeft ?kx_NothingLeft ?e1_NothingLeft ?e2_NothingLeft ?e3_NothingLeft ?e4_NothingLeft ?e5_NothingLeft ?e6_NothingLeft ?e7_NothingLeft ?nx_NothingLeft_word ?r1_NothingLeft ?r2_NothingLeft ?ci_NothingLeft ?g1_NothingLeft ?g2_NothingLeft ?sb_DeskError_DeskError ?sb_DeskError_Missing ?sb_BadWish_DeskError ?sb_BadWish_Missing ?sb_BadCost_DeskError ?sb_BadCost_Missing ?sb_Impossible_DeskError ?sb_Impossible_Missing ?sb_Missing_DeskError ?sb_Missing_Missing ?sb_Unknown_DeskError ?sb_Unknown_Missing ?sb_NothingLeft_DeskError ?sb_NothingLeft_Missing ?sb_NL ?n_BEGIN ?n_END ?n_MOST_COST ?z_ValueError ?z_all ?z_enumerate ?z_isinstance ?z_len ?z_list ?z_range ?z_str ?z_tuple
    (case a0 => k_is)
    (case l0 => k_is)
    (case c0 => k_is)
    (case k0 => k_is)
    (case a1 => k_is)
    (case l1 => k_is)
    (case c1 => k_is)
    (case k1 => k_is)
    (case a2 => k_is)
    (case l2 => k_is)
    (case c2 => k_is)
    (case k2 => k_is)
    (case a3 => k_is)
    (case l3 => k_is)
    (case c3 => k_is)
    (case k3 => k_is)
    (case a4 => k_is)
    (case l4 => k_is)
    (case c4 => k_is)
    (case k4 => k_is)
    (case a5 => k_is)
    (case l5 => k_is)
    (case c5 => k_is)
    (case k5 => k_is)
    (case a6 => k_is)
    (case l6 => k_is)
    (case c6 => k_is)
    (case k6 => k_is)
    (case kq_plan_costs => k_is)
    (case kq_plan_fixed => k_is)
    (case kt_plan => k_is)
    (case a7 => k_is)
    (case l7 => k_is)
    (case c7 => k_is)
    (case k7 => k_is)
    (case a8 => k_is)
    (case l8 => k_is)
    (case c8 => k_is)
    (case k8 => k_is)
    (case kq_is_bundle_costs => k_is)
    (case kq_is_bundle_fixed => k_is)
    (case kt_is_bundle => k_is)
    (case a9 => k_is)
    (case l9 => k_is)
    (case c9 => k_is)
    (case k9 => k_is)
    (case a10 => k_is)
    (case l10 => k_is)
    (case c10 => k_is)
    (case k10 => k_is)
    (case a11 => k_is)
    (case l11 => k_is)
    (case c11 => k_is)
    (case k11 => k_is)
    (case a12 => k_is)
    (case l12 => k_is)
    (case c12 => k_is)
    (case k12 => k_is)
    (case a13 => k_is)
    (case l13 => k_is)
    (case c13 => k_is)
    (case k13 => k_is)
    (case a14 => k_is)
    (case l14 => k_is)
    (case c14 => k_is)
    (case k14 => k_is)
    (case a15 => k_is)
    (case l15 => k_is)
    (case c15 => k_is)
    (case k15 => k_is)
    (case a16 => k_is)
    (case l16 => k_is)
    (case c16 => k_is)
    (case k16 => k_is)
    (case a17 => k_is)
    (case l17 => k_is)
    (case c17 => k_is)
    (case k17 => k_is)
    (case a18 => k_is)
    (case l18 => k_is)
    (case c18 => k_is)
    (case k18 => k_is)
    (case a19 => k_is)
    (case l19 => k_is)
    (case c19 => k_is)
    (case k19 => k_is)
    (case tlc => k_is)
    (case tpc => rfl)
    (case tch => kernel_rfl)
    (case tnp => kernel_rfl)
    (case ttp => exact PySem.W.km_tabs_of Y _ (by first | exact List.mem_cons_self | decide | simp))
    (case a20 => k_is)
    (case l20 => k_is)
    (case c20 => k_is)
    (case k20 => k_is)
    (case aC_DeskError => k_is)
    (case ax_DeskError => k_is)
    (case lx_DeskError => k_is)
    (case cx_DeskError => k_is)
    (case kx_DeskError => k_is)
    (case ld_DeskError => k_is)
    (case e1_DeskError => kx_is)
    (case e2_DeskError => k_is)
    (case e3_DeskError => k_is)
    (case e4_DeskError => k_is)
    (case e5_DeskError => k_is)
    (case e6_DeskError => k_is)
    (case e7_DeskError => k_is)
    (case nx_DeskError_word => k_is)
    (case r1_DeskError => k_is)
    (case r2_DeskError => k_is)
    (case ci_DeskError => k_is)
    (case g1_DeskError => k_is)
    (case g2_DeskError => k_is)
    (case aC_BadWish => k_is)
    (case ax_BadWish => k_is)
    (case lx_BadWish => k_is)
    (case cx_BadWish => k_is)
    (case kx_BadWish => k_is)
    (case e1_BadWish => kx_is)
    (case e2_BadWish => k_is)
    (case e3_BadWish => k_is)
    (case e4_BadWish => k_is)
    (case e5_BadWish => k_is)
    (case e6_BadWish => k_is)
    (case e7_BadWish => k_is)
    (case nx_BadWish_word => k_is)
    (case nx_BadWish_at => k_is)
    (case r1_BadWish => k_is)
    (case r2_BadWish => k_is)
    (case ci_BadWish => k_is)
    (case g1_BadWish => k_is)
    (case g2_BadWish => k_is)
    (case aC_BadCost => k_is)
    (case ax_BadCost => k_is)
    (case lx_BadCost => k_is)
    (case cx_BadCost => k_is)
    (case kx_BadCost => k_is)
    (case e1_BadCost => kx_is)
    (case e2_BadCost => k_is)
    (case e3_BadCost => k_is)
    (case e4_BadCost => k_is)
    (case e5_BadCost => k_is)
    (case e6_BadCost => k_is)
    (case e7_BadCost => k_is)
    (case nx_BadCost_word => k_is)
    (case nx_BadCost_name => k_is)
    (case r1_BadCost => k_is)
    (case r2_BadCost => k_is)
    (case ci_BadCost => k_is)
    (case g1_BadCost => k_is)
    (case g2_BadCost => k_is)
    (case aC_Impossible => k_is)
    (case ax_Impossible => k_is)
    (case lx_Impossible => k_is)
    (case cx_Impossible => k_is)
    (case kx_Impossible => k_is)
    (case e1_Impossible => kx_is)
    (case e2_Impossible => k_is)
    (case e3_Impossible => k_is)
    (case e4_Impossible => k_is)
    (case e5_Impossible => k_is)
    (case e6_Impossible => k_is)
    (case e7_Impossible => k_is)
    (case nx_Impossible_word => k_is)
    (case r1_Impossible => k_is)
    (case r2_Impossible => k_is)
    (case ci_Impossible => k_is)
    (case g1_Impossible => k_is)
    (case g2_Impossible => k_is)
    (case aC_Missing => k_is)
    (case ax_Missing => k_is)
    (case lx_Missing => k_is)
    (case cx_Missing => k_is)
    (case kx_Missing => k_is)
    (case ld_Missing => k_is)
    (case e1_Missing => kx_is)
    (case e2_Missing => k_is)
    (case e3_Missing => k_is)
    (case e4_Missing => k_is)
    (case e5_Missing => k_is)
    (case e6_Missing => k_is)
    (case e7_Missing => k_is)
    (case nx_Missing_word => k_is)
    (case r1_Missing => k_is)
    (case r2_Missing => k_is)
    (case ci_Missing => k_is)
    (case g1_Missing => k_is)
    (case g2_Missing => k_is)
    (case aC_Unknown => k_is)
    (case ax_Unknown => k_is)
    (case lx_Unknown => k_is)
    (case cx_Unknown => k_is)
    (case kx_Unknown => k_is)
    (case e1_Unknown => kx_is)
    (case e2_Unknown => k_is)
    (case e3_Unknown => k_is)
    (case e4_Unknown => k_is)
    (case e5_Unknown => k_is)
    (case e6_Unknown => k_is)
    (case e7_Unknown => k_is)
    (case nx_Unknown_word => k_is)
    (case nx_Unknown_name => k_is)
    (case r1_Unknown => k_is)
    (case r2_Unknown => k_is)
    (case ci_Unknown => k_is)
    (case g1_Unknown => k_is)
    (case g2_Unknown => k_is)
    (case aC_NothingLeft => k_is)
    (case ax_NothingLeft => k_is)
    (case lx_NothingLeft => k_is)
    (case cx_NothingLeft => k_is)
    (case kx_NothingLeft => k_is)
    (case e1_NothingLeft => kx_is)
    (case e2_NothingLeft => k_is)
    (case e3_NothingLeft => k_is)
    (case e4_NothingLeft => k_is)
    (case e5_NothingLeft => k_is)
    (case e6_NothingLeft => k_is)
    (case e7_NothingLeft => k_is)
    (case nx_NothingLeft_word => k_is)
    (case r1_NothingLeft => k_is)
    (case r2_NothingLeft => k_is)
    (case ci_NothingLeft => k_is)
    (case g1_NothingLeft => k_is)
    (case g2_NothingLeft => k_is)
    (case sb_DeskError_DeskError => k_is)
    (case sb_DeskError_Missing => k_is)
    (case sb_BadWish_DeskError => k_is)
    (case sb_BadWish_Missing => k_is)
    (case sb_BadCost_DeskError => k_is)
    (case sb_BadCost_Missing => k_is)
    (case sb_Impossible_DeskError => k_is)
    (case sb_Impossible_Missing => k_is)
    (case sb_Missing_DeskError => k_is)
    (case sb_Missing_Missing => k_is)
    (case sb_Unknown_DeskError => k_is)
    (case sb_Unknown_Missing => k_is)
    (case sb_NothingLeft_DeskError => k_is)
    (case sb_NothingLeft_Missing => k_is)
    (case sb_NL => k_is)
    (case n_BEGIN => k_is)
    (case n_END => k_is)
    (case n_MOST_COST => k_is)
    (case z_ValueError => k_is)
    (case z_all => k_is)
    (case z_enumerate => k_is)
    (case z_isinstance => k_is)
    (case z_len => k_is)
    (case z_list => k_is)
    (case z_range => k_is)
    (case z_str => k_is)
    (case z_tuple => k_is)
