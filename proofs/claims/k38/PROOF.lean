import PyProof.Rows.All
import Wide.All
import OpenK.AllK
import Wide.FinOn
import HandS.Wide
import HandS.Base
import HandS.Call
import HandS.List
import HandS.Comp
import HandS.Ends
import HandS.Dict
import HandS.Iter
import HandS.Text
import HandS.Words
import HandS.Codes
import HandS.Defaults
import HandS.IsInst
import HandS.MakeKwOnly
import HandS.DictComp
import HandS.DictEq
import HandS.More
import HandS.Conv
import HandS.FStr
import HandS.Style
import KE.KDictZip
import KE.KFmtOwn
import HandS.Walk
import HandS.Lambda
import HandS.Deep
import HandS.WordsDict
import KE.GoesMore
import PyProof.EnumMake
import KE.SortData
import HandS.Zip
import HandS.WideBits
import HandS.TupLe
import KE.DataMinMax
import HandS.SetKeys
import HandS.Strs
import HandS.SetFor
import PyProof.Rows.SetFrom
import PyProof.DictUpdate
import PyProof.DictDisplay
import PyProof.ReprRoads
import KE.GoesZip
import HandS.Star
import HandS.Exc
import HandS.ExcOwn
import HandS.TryMany
import HandS.ExcCtx
import HandS.ExcField
import HandS.HotCalls
import HandS.ClsMeth
import HandS.ExcInit
import KE.KExcInit
import PyProof.ExcFactsAll.LookupError
import PyProof.ExcFactsAll.IndexError
import HandS.WordsExc
import PyProof.StrLawsRepr
import HandS.SortKw
import HandS.ListItems
import HandS.EndTab
import HandS.NestedK
import HandS.TupSets
import HandS.TupAny
import HandS.Small
import PyProof.CallFns
import PyProof.Rows.RegFStrParts
import PySem.Challenge.RW_raisekeys_k38_fewest_group_steps
set_option Elab.async false
set_option linter.all false
set_option maxRecDepth 100000
set_option maxHeartbeats 4000000
namespace RK
open PySem PySem.Spec PyProof.Rows L2
theorem same_new {H : Hp} {p : Addr} (h : H p = none) (o : HO) : Same H (upd H p o) := fun b u q => by rw [upd_ne (ne_of_none q h)]; exact q
def Keep (b : Addr) (H H' : Hp) : Prop := ∀ a o, a ≠ b → H a = some o → H' a = some o
theorem Keep.refl (b : Addr) (H : Hp) : Keep b H H := fun _ _ _ h => h
theorem Keep.trans {b : Addr} {H H1 H2 : Hp} (a : Keep b H H1) (c : Keep b H1 H2) : Keep b H H2 := fun x o n h => c x o n (a x o n h)
theorem Keep.of {b : Addr} {H H1 : Hp} (a : Same H H1) : Keep b H H1 := fun x o _ h => a x o h
theorem Keep.upd {b : Addr} {H H1 : Hp} {o : HO} (a : Keep b H H1) : Keep b H (upd H1 b o) := fun x u n h => by rw [upd_ne n]; exact a x u n h
theorem Keep.tup {b t : Addr} {H H1 : Hp} {xs ys : List V} (k : Keep b H H1) (hb : H b = some (.lst ys)) (h : H t = some (.tup xs)) : H1 t = some (.tup xs) := k t _ (ne_of h hb (by intro z; cases z)) h
theorem Keep.dK {b t : Addr} {H H1 : Hp} {xs : List (Key × V)} {ys : List V} (k : Keep b H H1) (hb : H b = some (.lst ys)) (h : H t = some (.dK xs)) : H1 t = some (.dK xs) := k t _ (ne_of h hb (by intro z; cases z)) h
theorem Keep.free {b l : Addr} {H H1 : Hp} (k : Keep b H H1) (n : l ≠ b) (h : H1 l = none) : H l = none := by
  cases q : H l with
  | none => rfl
  | some o =>
    rw [k l o n q] at h
    cases h
structure BagC (H : Hp) (b s : Addr) (ns : List Int) (i : Nat) (big salt : Int) : Prop where
  hb : H b = some (.lst [.ref s, .int i, .int big, .int salt])
  hs : H s = some (.lst (ns.map V.int))
  ne : s ≠ b
  hi : i ≤ ns.length
  hn : ns.length ≤ 63
  h0 : 0 ≤ big
  h1 : 0 ≤ salt
  h2 : salt < 2147483647
def Bag (b s : Addr) (H : Hp) : Prop := ∃ ns i big salt, BagC H b s ns i big salt
theorem Bag.hb {b s : Addr} {H : Hp} (B : Bag b s H) : ∃ ys, H b = some (.lst ys) := by
  obtain ⟨ns, i, big, salt, B⟩ := B
  exact ⟨_, B.hb⟩
theorem Bag.hs {b s : Addr} {H : Hp} (B : Bag b s H) : ∃ ys, H s = some (.lst ys) := by
  obtain ⟨ns, i, big, salt, B⟩ := B
  exact ⟨_, B.hs⟩
theorem Bag.ne {b s : Addr} {H : Hp} (B : Bag b s H) : s ≠ b := by
  obtain ⟨ns, i, big, salt, B⟩ := B
  exact B.ne
theorem Bag.same {b s : Addr} {H H1 : Hp} (B : Bag b s H) (e : Same H H1) : Bag b s H1 := by
  obtain ⟨ns, i, big, salt, B⟩ := B
  exact ⟨ns, i, big, salt, e _ _ B.hb, e _ _ B.hs, B.ne, B.hi, B.hn, B.h0, B.h1, B.h2⟩
theorem Bag.new {b s p : Addr} {H : Hp} {o : HO} (B : Bag b s H) (h : H p = none) : Bag b s (upd H p o) := B.same (same_new h o)
theorem Bag.upd {b s p : Addr} {H : Hp} {o : HO} (B : Bag b s H) (h1 : p ≠ b) (h2 : p ≠ s) : Bag b s (upd H p o) := by
  obtain ⟨ns, i, big, salt, B⟩ := B
  exact ⟨ns, i, big, salt, by rw [upd_ne h1.symm]; exact B.hb, by rw [upd_ne h2.symm]; exact B.hs, B.ne, B.hi, B.hn, B.h0, B.h1, B.h2⟩
theorem Keep.of_tup {b s t : Addr} {H H1 : Hp} {xs : List V} (k : Keep b H H1) (B : Bag b s H) (h : H t = some (.tup xs)) : H1 t = some (.tup xs) := by
  obtain ⟨ys, hb⟩ := B.hb
  exact k.tup hb h
theorem sz {n : Nat} (h : n ≤ 1000) : n ≤ sizeLine := Nat.le_of_lt (small1000 h)
def spBag (K : PySem.W.Frag) : Sp := fun vs H Q _ => ∃ (a : Addr) (ns : List Int), vs = [.ref a] ∧ SqL K H a (ns.map V.int) ∧ ns.length ≤ 63 ∧ ∀ H' b s, Same H H' → H b = none → H s = none → Bag b s H' → Q (.ref b) H'
theorem cdivw {n : Int} (h1 : 1 ≤ n) (h2 : n ≤ 10000000000000000000000000000000000000000) : CDivW 0 n := by
  refine ⟨by omega, ?_⟩
  have h3 : n.natAbs < 2 ^ 200 := by
    have e : (2 : Nat) ^ 200 = 1606938044258990275541962092341162602522202993782792835301376 := by decide +kernel
    rw [e]
    omega
  have := (Nat.log2_lt (by omega)).mpr h3
  omega
def NoT (H H' : Hp) : Prop := ∀ a ps, H' a = some (.tbl ps) → ∃ qs, H a = some (.tbl qs)
def Ntb : HO → Prop
  | .tbl _ => False
  | _ => True
theorem noT_upd {H : Hp} {p : Addr} {o : HO} (n : Ntb o) : NoT H (upd H p o) := fun a ps h => by
  by_cases e : a = p
  · rw [e, upd_same] at h
    cases h
    exact n.elim
  · rw [upd_ne e] at h
    exact ⟨_, h⟩
structure KeepT (b : Addr) (H H' : Hp) : Prop where
  f : Keep b H H'
  n : NoT H H'
theorem KeepT.refl (b : Addr) (H : Hp) : KeepT b H H := ⟨Keep.refl b H, fun _ _ z => ⟨_, z⟩⟩
theorem KeepT.upd {b : Addr} {H H1 : Hp} {xs : List V} (k : KeepT b H H1) : KeepT b H (upd H1 b (.lst xs)) := ⟨k.f.upd, fun a ps h => let ⟨qs, q⟩ := noT_upd (o := .lst xs) True.intro a ps h; k.n a qs q⟩
def spPull : Sp := fun vs H Q _ => ∃ (b s : Addr) (n : Int), vs = [.ref b, .int n] ∧ Bag b s H ∧ 1 ≤ n ∧ n ≤ 10000000000000000000000000000000000000000 ∧ ∀ r H', 0 ≤ r → r < n → KeepT b H H' → Bag b s H' → Q (.int r) H'
theorem cut63 (ns : List Int) (h : ns.length ≤ 63) : cutV (ns.map V.int) none (some 63) = ns.map V.int := by
  unfold cutV
  rw [HT.sIx_none, show HT.sIx (ns.map V.int).length (ns.map V.int).length (some 63) = min 63 (ns.map V.int).length from HT.sIx_nat _ _ 63]
  rw [List.drop_zero, List.length_map]
  exact List.take_of_length_le (by rw [List.length_map]; omega)
theorem at0 {α : Type} {x : α} {xs : List α} : atI (x :: xs) 0 = some x := atI_nat (j := 0) rfl
theorem at1 {α : Type} {x y : α} {xs : List α} : atI (x :: y :: xs) 1 = some y := atI_nat (j := 1) rfl
theorem at2 {α : Type} {x y z : α} {xs : List α} : atI (x :: y :: z :: xs) 2 = some z := atI_nat (j := 2) rfl
theorem at3 {α : Type} {x y z w : α} {xs : List α} : atI (x :: y :: z :: w :: xs) 3 = some w := atI_nat (j := 3) rfl
section
variable {X : Cx} {CX : CXT} {k : Nat} {f : Addr} {fd : FuncData} {ps ks : List Str} {sp : Sp} {E : XK} {x : Str} {p pos : Pos} {kws : List Keyword} {tk : TA} {g : List Value → List Value → List Value} {gV : List V → List V → List V}
theorem pe_callK0 (F : FnOk X.prog X.w X.K X.mg X.base CX k f fd ps sp) (hr : Room k X.A) (hg : Gl X x) (hm : X.mg x = some (.ref f)) (hk : PySem.W.keepIn X.K (.ref f) = true) (hb : KBinds X.K fd ps ks g gV) (hx : Passes CX X E) (hkw : PK X kws tk)
    (hall : (backToKw pos (keywordEach kws X.env)).all (·.1.isSome) = true := by rfl) (hks : (backToKw pos (keywordEach kws X.env)).filterMap (·.1) = ks := by rfl) (hdb : (x == ("__debug__" : Str)) = false := by decide)
    (hpl : ((backTo pos (starEach [] X.env)).any (·.1) || (backToKw pos (keywordEach kws X.env)).any (·.1.isNone)) = false := by rfl) :
    PE X (.Call (.Name x p) [] kws pos) (tCallK sp gV E tNil tk) := by
  refine ⟨fun pins s σ H Q I h => ?_⟩
  refine wpAny_Call_Name_kw (ld_glob I hg hm ?_ hdb)
  refine PySem.W.callWith_KW0 (h₀ := X.base) I.ok.mod.kin hk hall ?_ hpl
  refine thn (hkw.run pos pins s σ H _ I h) fun ws s2 ⟨zs, H2, I2, rz, q2⟩ => ⟨I2.kIn, ?_⟩
  rw [hks]
  exact run_fnk F hr hb hx I2 .nil rz q2
end
def rLenQ (K : PySem.W.Frag) : List V → Hp → VK → Prop := fun xs H Q => ∃ p ys, xs = [.ref p] ∧ (SqL K H p ys ∨ SqT K H p ys) ∧ Q (.int ys.length) H
theorem call_lenQ {X : Cx} : CallR X (.builtin "len") (rLenQ X.K) := call_len_seq
def rListQ (K : PySem.W.Frag) : List V → Hp → VK → Prop := fun xs H Q => ∃ p ys, xs = [.ref p] ∧ (SqL K H p ys ∨ SqT K H p ys) ∧ ∀ l, H l = none → Q (.ref l) (upd H l (.lst ys))
theorem call_listQ {X : Cx} : CallR X (.type "list") (rListQ X.K) := call_list_of
section
variable {K : PySem.W.Frag} {H H' : Hp}
theorem same_tup {a : Addr} {xs : List V} (e : Same H H') (h : SqT K H a xs) : SqT K H' a xs := by
  rcases h with (h | ⟨o, h⟩) | h
  · exact .inl (.inl (e _ _ h))
  · exact .inl (.inr ⟨o, e _ _ h⟩)
  · exact .inr h
mutual
theorem dp_same (e : Same H H') : ∀ {v : V} {d : PyData}, Dp K H v d → Dp K H' v d
  | _, _, .non => .non
  | _, _, .bl b => .bl b
  | _, _, .int i => .int i
  | _, _, .str x => .str x
  | _, _, .lst h a => .lst (e.seq h) (dpAll_same e a)
  | _, _, .tup h a => .tup (same_tup e h) (dpAll_same e a)
theorem dpAll_same (e : Same H H') : ∀ {vs : List V} {ds : List PyData}, DpAll K H vs ds → DpAll K H' vs ds
  | _, _, .nil => .nil
  | _, _, .cons h a => .cons (dp_same e h) (dpAll_same e a)
end
end
structure R where
  l : Int
  t : Int
  r : Int
  b : Int
def R.vs (p : R) : List V := [.int p.l, .int p.t, .int p.r, .int p.b]
def R.ds (p : R) : List PyData := [.int p.l, .int p.t, .int p.r, .int p.b]
def R.good (p : R) : Prop := -1000000000 ≤ p.l ∧ p.l ≤ 1000000000 ∧ -1000000000 ≤ p.t ∧ p.t ≤ 1000000000 ∧ -1000000000 ≤ p.r ∧ p.r ≤ 1000000000 ∧ -1000000000 ≤ p.b ∧ p.b ≤ 1000000000 ∧ p.l < p.r ∧ p.t < p.b
def R.has (p : R) (x y : Int) : Prop := p.l ≤ x ∧ x < p.r ∧ p.t ≤ y ∧ y < p.b
theorem R.dp {K : PySem.W.Frag} {H : Hp} (p : R) : DpAll K H p.vs p.ds := .cons (.int _) (.cons (.int _) (.cons (.int _) (.cons (.int _) .nil)))
end RK
namespace RK
open PySem PySem.Spec PyProof.Rows L2
section
variable {X : Cx}
inductive NotSub (K : PySem.W.Frag) (C : Addr) (H : Hp) : V → Prop
  | ins {a dx : Addr} {fs : List (Str × V)} : H a = some (.ins C dx fs) → NotSub K C H (.ref a)
  | dK {a : Addr} {kvs : List (Key × V)} : H a = some (.dK kvs) → PySem.W.subIn K (.type "dict") (.ref C) = some false → NotSub K C H (.ref a)
  | lst {a : Addr} {xs : List V} : H a = some (.lst xs) → PySem.W.subIn K (.type "list") (.ref C) = some false → NotSub K C H (.ref a)
end
end RK
namespace RK
open PySem PySem.Spec PyProof.Rows L2
section
open PySem.W
variable {prog : Program} {w : World} {K : PySem.W.Frag} {A : Around} {E : Value → Shared → Prop} {s : Shared} {x C f : Addr} {ox : Obj} {od : Option Obj}
open Builtin in
end
section
variable {X : Cx}
end
section
variable {X : Cx} {CX : CXT} {k : Nat} {f C : Addr} {fd : FuncData} {ps ks : List Str} {sp : Sp} {E : XK} {m : Str} {pos apos : Pos} {o : Expr} {kws : List Keyword} {ta : TE} {tk : TA} {g : List Value → List Value → List Value} {gV : List V → List V → List V}
end
end RK
namespace RK
open PySem PySem.Spec PyProof.Rows L2
theorem str_len (z : Str) : z.length = z.cps.toList.length := by
  show z.cps.size = _
  simp
theorem app_codes (a b : Str) : (a ++ b).cps.toList = a.cps.toList ++ b.cps.toList := by
  show (a.cps ++ b.cps).toList = _
  simp
theorem cut_codes (z : Str) (lo hi : Option Int) : (cutS z lo hi).cps.toList = (z.cps.toList.drop (HT.sIx z.length 0 lo)).take (HT.sIx z.length z.length hi - HT.sIx z.length 0 lo) := by
  unfold cutS
  simp
def Low (c : Nat) : Prop := 97 ≤ c ∧ c ≤ 122
def NameOk (z : Str) : Prop := 1 ≤ z.length ∧ z.length ≤ 6 ∧ ∀ c ∈ z.cps.toList, Low c
abbrev abc : Str := "abcdefghijklmnopqrstuvwxyz"
theorem abc_codes : abc.cps.toList = List.range' 97 26 := by decide +kernel
theorem abc_len : abc.length = 26 := by rw [str_len, abc_codes]; rfl
theorem abc_mem {c : Nat} : c ∈ abc.cps.toList ↔ Low c := by
  rw [abc_codes, List.mem_range'_1]
  unfold Low
  omega
theorem one_len (c : Nat) : (⟨#[c]⟩ : Str).length = 1 := rfl
theorem mul_codes (c : Nat) : ∀ n : Nat, 1 ≤ n → ∃ k, (Txt.mul ⟨#[c]⟩ (n : Int)).cps.toList = List.replicate k c ∧ k = n := by
  intro n hn
  refine ⟨n, ?_, rfl⟩
  unfold Txt.mul
  rw [if_neg (by omega)]
  by_cases h1 : n = 1
  · subst h1
    rfl
  · have e1 : (((n : Int) == 1) || (⟨#[c]⟩ : Str).length == 0) = false := by
      have : ((n : Int) == 1) = false := by simp; omega
      rw [this]
      rfl
    rw [e1, if_neg (by decide)]
    show ((List.replicate (n : Int).toNat #[c]).foldl (· ++ ·) #[]).toList = _
    rw [Int.toNat_natCast]
    have key : ∀ (m : Nat) (acc : Array Nat), ((List.replicate m #[c]).foldl (· ++ ·) acc).toList = acc.toList ++ List.replicate m c := by
      intro m
      induction m with
      | zero => intro acc; simp
      | succ m ih =>
        intro acc
        rw [List.replicate_succ, List.foldl_cons, ih]
        simp [List.replicate_succ]
    rw [key]
    rfl
section
variable {X : Cx}
theorem op_mul_str : OpR X (binaryOp .Mult) (fun x y H Q => ∃ (c : Nat) (n : Int), x = .str ⟨#[c]⟩ ∧ y = .int n ∧ 1 ≤ n ∧ n ≤ 1000 ∧ Q (.str (Txt.mul ⟨#[c]⟩ n)) H) := by
  intro pins s σ H x y u v Q I rx ry h
  obtain ⟨c, n, rfl, rfl, h1, h2, q⟩ := h
  obtain ⟨t, rfl⟩ := rx
  obtain ⟨k, rfl⟩ := ry
  refine PySem.SB.mul (x := ⟨#[c]⟩) ⟨?_, ?_, ?_⟩ (fun t' k' => ⟨.str _, H, I.tok _, ⟨_, rfl⟩, q⟩)
  · rw [decide_eq_false (by omega), decide_eq_false (by omega)]
    rfl
  · intro _ _
    have : (1 : Int) ≤ (2 ^ 63 - 1) / n := by
      rw [Int.le_ediv_iff_mul_le (by omega)]
      omega
    show ¬ ((1 : Int) > _)
    omega
  · intro _ _
    show Builtin.Str.tooLong (1 * n.toNat) = false
    rw [Nat.one_mul]
    have hn : n.toNat ≤ 1000 := by omega
    unfold Builtin.Str.tooLong
    exact decide_eq_false (by
      have : (1000 : Nat) ≤ sizeLine := by decide
      omega)
end
def leS (a b : Str) : Prop := ¬ b.cps.toList < a.cps.toList
end RK
namespace RK
open PySem PySem.Spec PyProof.Rows L2
abbrev W3 := Str × Addr × R
def kvOf (w : W3) : Key × V := (Sum.inr w.1, .ref w.2.1)
def putW (ws : List W3) (w : W3) : List W3 := if (ws.any fun v => decide (v.1 = w.1)) = true then ws.map (fun v => if v.1 = w.1 then w else v) else ws ++ [w]
def Names (ws : List W3) : List Str := ws.map (·.1)
theorem inr_inj {a b : Str} : ((Sum.inr a : Key) = Sum.inr b) ↔ a = b := ⟨fun h => Sum.inr.inj h, fun h => by rw [h]⟩
theorem put_len (ws : List W3) (w : W3) : ws.length ≤ (putW ws w).length ∧ (putW ws w).length ≤ ws.length + 1 ∧ 1 ≤ (putW ws w).length := by
  unfold putW
  by_cases e : (ws.any fun v => decide (v.1 = w.1)) = true
  · rw [if_pos e, List.length_map]
    obtain ⟨v, hv, _⟩ := List.any_eq_true.mp e
    have := List.length_pos_of_mem hv
    omega
  · rw [if_neg e, List.length_append]
    show ws.length ≤ ws.length + 1 ∧ ws.length + 1 ≤ ws.length + 1 ∧ 1 ≤ ws.length + 1
    omega
structure Wins (H : Hp) (ws : List W3) : Prop where
  nd : (Names ws).Nodup
  nm : ∀ w ∈ ws, NameOk w.1
  at_ : ∀ w ∈ ws, H w.2.1 = some (.tup w.2.2.vs)
  gd : ∀ w ∈ ws, w.2.2.good
theorem Wins.same {H H' : Hp} {ws : List W3} (W : Wins H ws) (e : Same H H') : Wins H' ws := ⟨W.nd, W.nm, fun w hw => e _ _ (W.at_ w hw), W.gd⟩
theorem Wins.keep {b s : Addr} {H H' : Hp} {ws : List W3} (W : Wins H ws) (k : Keep b H H') (B : Bag b s H) : Wins H' ws := ⟨W.nd, W.nm, fun w hw => k.of_tup B (W.at_ w hw), W.gd⟩
theorem Wins.perm {H : Hp} {ws us : List W3} (W : Wins H ws) (p : us.Perm ws) : Wins H us := ⟨(List.Perm.map (fun x : W3 => x.1) p).nodup_iff.mpr W.nd, fun w hw => W.nm w (p.mem_iff.mp hw), fun w hw => W.at_ w (p.mem_iff.mp hw), fun w hw => W.gd w (p.mem_iff.mp hw)⟩
theorem Wins.sub {H : Hp} {ws us : List W3} (W : Wins H ws) (n : (Names us).Nodup) (h : ∀ w ∈ us, w ∈ ws) : Wins H us := ⟨n, fun w hw => W.nm w (h w hw), fun w hw => W.at_ w (h w hw), fun w hw => W.gd w (h w hw)⟩
def fldW (d : Addr) : List (Str × V) := [("windows", .ref d)]
structure DeskAt (C : Addr) (H : Hp) (p : Addr) (ws : List W3) : Prop where
  ex : ∃ dx d, H p = some (.ins C dx (fldW d)) ∧ H d = some (.dK (ws.map kvOf))
  win : Wins H ws
  so : (Names ws).Pairwise leS
theorem DeskAt.same {C : Addr} {H H' : Hp} {p : Addr} {ws : List W3} (D : DeskAt C H p ws) (e : Same H H') : DeskAt C H' p ws := by
  obtain ⟨⟨dx, d, h1, h2⟩, h3, h4⟩ := D
  exact ⟨⟨dx, d, e _ _ h1, e _ _ h2⟩, h3.same e, h4⟩
theorem DeskAt.keep {C b s : Addr} {H H' : Hp} {p : Addr} {ws : List W3} (D : DeskAt C H p ws) (k : Keep b H H') (B : Bag b s H) : DeskAt C H' p ws := by
  obtain ⟨⟨dx, d, h1, h2⟩, h3, h4⟩ := D
  obtain ⟨ys, hb⟩ := B.hb
  exact ⟨⟨dx, d, k _ _ (ne_of h1 hb (by intro z; cases z)) h1, k.dK hb h2⟩, h3.keep k B, h4⟩
end RK
namespace DL
open PySem PySem.Spec PyProof.Rows L2 RK
inductive D where
  | non | bl (b : Bool) | int (i : Int) | str (x : Str)
  | lst (xs : List D) | tup (xs : List D) | ktp (xs : List D)
  | dic (kvs : List (Key × D)) | dct (kvs : List (List Key × D))
  | obj (C : Addr) (fs : List (Str × D))
  | bag
instance : Inhabited D := ⟨.non⟩
abbrev Wd := Option (Addr × Addr × List (Addr × Str))
def Wd.own : Wd → Addr → Prop
  | none, _ => False
  | some (b, s, T), a => a = b ∨ a = s ∨ ∃ p ∈ T, p.1 = a
def Wd.ok : Wd → Hp → Prop
  | none, _ => True
  | some (b, s, T), H => Bag b s H ∧ LamX.Tabs T H ∧ (T ≠ [] → ∀ a ps, H a = some (.tbl ps) → ∃ p ∈ T, p.1 = a)
def Plo : HO → Prop
  | .ext _ => False
  | .tbl _ => False
  | _ => True
theorem Plo.ntb : ∀ {o : HO}, Plo o → Ntb o := fun {o} h => by cases o <;> first | exact True.intro | exact h
theorem Wd.al : ∀ {W : Wd} {H : Hp} {a : Addr}, W.ok H → W.own a → ∃ o, H a = some o
  | some (b, s, T), H, a, h, .inl e => by
    obtain ⟨ys, hb⟩ := Bag.hb h.1
    exact ⟨_, e ▸ hb⟩
  | some (b, s, T), H, a, h, .inr (.inl e) => by
    obtain ⟨ys, hb⟩ := Bag.hs h.1
    exact ⟨_, e ▸ hb⟩
  | some (b, s, T), H, a, h, .inr (.inr ⟨p, hp, e⟩) => by
    obtain ⟨ps, h1, _⟩ := h.2.1 p hp
    exact ⟨_, e ▸ h1⟩
theorem Wd.st0 : ∀ {W : Wd} {H H' : Hp}, W.ok H → (∀ a o, H a = some o → (W.own a ∨ ¬ Plo o) → H' a = some o) → NoT H H' → W.ok H'
  | none, _, _, _, _, _ => trivial
  | some (b, s, T), H, H', h, k, n => by
    obtain ⟨⟨ns, i, big, salt, B⟩, tb, nt⟩ := h
    refine ⟨⟨ns, i, big, salt, k _ _ B.hb (.inl (.inl rfl)), k _ _ B.hs (.inl (.inr (.inl rfl))), B.ne, B.hi, B.hn, B.h0, B.h1, B.h2⟩, fun p hp => ?_, fun ne a ps h => let ⟨qs, q⟩ := n a ps h; nt ne a qs q⟩
    obtain ⟨ps, h1, h2, h3⟩ := tb p hp
    refine ⟨ps, k _ _ h1 (.inl (.inr (.inr ⟨p, hp, rfl⟩))), h2, fun pos cv hc => ?_⟩
    obtain ⟨c, e, hcd⟩ := h3 pos cv hc
    exact ⟨c, e, k _ _ hcd (.inr id)⟩
theorem Wd.st {W : Wd} {H H' : Hp} (h : W.ok H) (k : ∀ a o, H a = some o → (W.own a ∨ ¬ Plo o) → H' a = some o) (n : NoT H H') : W.ok H' := Wd.st0 h k n
mutual
inductive Dd (K : PySem.W.Frag) (N : Addr → Prop) (W : Wd) (H : Hp) : V → D → Prop
  | non : Dd K N W H .non .non
  | bl (b : Bool) : Dd K N W H (.bl b) (.bl b)
  | int (i : Int) : Dd K N W H (.int i) (.int i)
  | str (x : Str) : Dd K N W H (.str x) (.str x)
  | lst {a : Addr} {vs : List V} {ds : List D} : H a = some (.lst vs) → ¬ N a → DdAll K N W H vs ds → Dd K N W H (.ref a) (.lst ds)
  | tup {a : Addr} {vs : List V} {ds : List D} : H a = some (.tup vs) → ¬ N a → DdAll K N W H vs ds → Dd K N W H (.ref a) (.tup ds)
  | dic {a : Addr} {kvs : List (Key × V)} {kds : List (Key × D)} : Rd H a (.dK kvs) → ¬ N a → kvs.map (·.1) = kds.map (·.1) → DdAll K N W H (kvs.map (·.2)) (kds.map (·.2)) → Dd K N W H (.ref a) (.dic kds)
  | dct {a : Addr} {kvs : List (List Key × V)} {kds : List (List Key × D)} : Rd H a (.dT kvs) → ¬ N a → kvs.map (·.1) = kds.map (·.1) → DdAll K N W H (kvs.map (·.2)) (kds.map (·.2)) → Dd K N W H (.ref a) (.dct kds)
  | obj {a C dx : Addr} {fs : List (Str × V)} {fds : List (Str × D)} : H a = some (.ins C dx fs) → ¬ N a → fs.map (·.1) = fds.map (·.1) → DdAll K N W H (fs.map (·.2)) (fds.map (·.2)) → Dd K N W H (.ref a) (.obj C fds)
  | ktp {a : Addr} {o : Obj} {its : Array Value} {n : Nat} {vs : List V} {ds : List D} : K.lookup a = some o → o.cls = .type "tuple" → o.data = .seq its n → its.size ≤ sizeLine → Vals vs its.toList → DdAll K N W H vs ds → Dd K N W H (.ref a) (.ktp ds)
  | bag {b s : Addr} {T : List (Addr × Str)} : W = some (b, s, T) → Dd K N W H (.ref b) .bag
inductive DdAll (K : PySem.W.Frag) (N : Addr → Prop) (W : Wd) (H : Hp) : List V → List D → Prop
  | nil : DdAll K N W H [] []
  | cons {v : V} {d : D} {vs : List V} {ds : List D} : Dd K N W H v d → DdAll K N W H vs ds → DdAll K N W H (v :: vs) (d :: ds)
end
section
variable {K : PySem.W.Frag} {N N' : Addr → Prop} {W : Wd} {H H' : Hp}
theorem rd_keep {a : Addr} {o : HO} (k : ∀ o, H a = some o → H' a = some o) (h : Rd H a o) : Rd H' a o := by
  rcases h with h | ⟨u, h⟩
  · exact .inl (k _ h)
  · exact .inr ⟨u, k _ h⟩
mutual
theorem Dd.pres (k : ∀ a o, ¬ N a → H a = some o → ¬ N' a ∧ H' a = some o) : ∀ {v : V} {d : D}, Dd K N W H v d → Dd K N' W H' v d
  | _, _, .non => .non
  | _, _, .bl b => .bl b
  | _, _, .int i => .int i
  | _, _, .str x => .str x
  | _, _, .lst h q a => .lst (k _ _ q h).2 (k _ _ q h).1 (DdAll.pres k a)
  | _, _, .tup h q a => .tup (k _ _ q h).2 (k _ _ q h).1 (DdAll.pres k a)
  | _, _, .ktp h1 h2 h3 h4 h5 a => .ktp h1 h2 h3 h4 h5 (DdAll.pres k a)
  | _, _, .dic h q e a => .dic (rd_keep (fun o g => (k _ o q g).2) h) (by rcases h with h | ⟨u, h⟩ <;> exact (k _ _ q h).1) e (DdAll.pres k a)
  | _, _, .dct h q e a => .dct (rd_keep (fun o g => (k _ o q g).2) h) (by rcases h with h | ⟨u, h⟩ <;> exact (k _ _ q h).1) e (DdAll.pres k a)
  | _, _, .obj h q e a => .obj (k _ _ q h).2 (k _ _ q h).1 e (DdAll.pres k a)
  | _, _, .bag e => .bag e
theorem DdAll.pres (k : ∀ a o, ¬ N a → H a = some o → ¬ N' a ∧ H' a = some o) : ∀ {vs : List V} {ds : List D}, DdAll K N W H vs ds → DdAll K N' W H' vs ds
  | _, _, .nil => .nil
  | _, _, .cons h a => .cons (Dd.pres k h) (DdAll.pres k a)
end
theorem Dd.keep (k : ∀ a o, ¬ N a → H a = some o → H' a = some o) (n : ∀ a, N' a → N a) {v : V} {d : D} (h : Dd K N W H v d) : Dd K N' W H' v d := h.pres fun a o q g => ⟨fun z => q (n a z), k a o q g⟩
theorem DdAll.keep (k : ∀ a o, ¬ N a → H a = some o → H' a = some o) (n : ∀ a, N' a → N a) {v : List V} {d : List D} (h : DdAll K N W H v d) : DdAll K N' W H' v d := h.pres fun a o q g => ⟨fun z => q (n a z), k a o q g⟩
theorem DdAll.len : ∀ {vs : List V} {ds : List D}, DdAll K N W H vs ds → vs.length = ds.length
  | _, _, .nil => rfl
  | _, _, .cons _ a => congrArg Nat.succ (DdAll.len a)
theorem DdAll.get : ∀ {vs : List V} {ds : List D} {i : Nat} {d : D}, DdAll K N W H vs ds → ds[i]? = some d → ∃ v, vs[i]? = some v ∧ Dd K N W H v d
  | _, _, _, _, .nil, h => by simp at h
  | _, _, 0, _, .cons (v := v) q _, h => by
    have e := Option.some.inj h
    exact ⟨v, rfl, e ▸ q⟩
  | _, _, i + 1, _, .cons _ a, h => DdAll.get (i := i) a h
theorem DdAll.getV : ∀ {vs : List V} {ds : List D} {i : Nat} {v : V}, DdAll K N W H vs ds → vs[i]? = some v → ∃ d, ds[i]? = some d ∧ Dd K N W H v d
  | _, _, _, _, .nil, h => by simp at h
  | _, _, 0, _, .cons (d := d) q _, h => by
    have e := Option.some.inj h
    exact ⟨d, rfl, e ▸ q⟩
  | _, _, i + 1, _, .cons _ a, h => DdAll.getV (i := i) a h
theorem DdAll.app : ∀ {vs us : List V} {ds es : List D}, DdAll K N W H vs ds → DdAll K N W H us es → DdAll K N W H (vs ++ us) (ds ++ es)
  | _, _, _, _, .nil, b => b
  | _, _, _, _, .cons h a, b => .cons h (DdAll.app a b)
theorem DdAll.drop : ∀ {vs : List V} {ds : List D} (n : Nat), DdAll K N W H vs ds → DdAll K N W H (vs.drop n) (ds.drop n)
  | _, _, 0, a => a
  | _, _, _ + 1, .nil => .nil
  | _, _, n + 1, .cons _ a => DdAll.drop n a
theorem DdAll.take : ∀ {vs : List V} {ds : List D} (n : Nat), DdAll K N W H vs ds → DdAll K N W H (vs.take n) (ds.take n)
  | _, _, 0, _ => .nil
  | _, _, _ + 1, .nil => .nil
  | _, _, n + 1, .cons h a => .cons h (DdAll.take n a)
theorem DdAll.rev {vs : List V} {ds : List D} (a : DdAll K N W H vs ds) : DdAll K N W H vs.reverse ds.reverse := by
  have key : ∀ {vs : List V} {ds : List D}, DdAll K N W H vs ds → ∀ {us es}, DdAll K N W H us es → DdAll K N W H (vs.reverseAux us) (ds.reverseAux es) := by
    intro vs
    induction vs with
    | nil => intro ds a us es b; cases a; exact b
    | cons v vs ih => intro ds a us es b; cases a with | cons h a => exact ih a (.cons h b)
  exact key a .nil
theorem DdAll.set : ∀ {vs : List V} {ds : List D} (i : Nat) {v : V} {d : D}, DdAll K N W H vs ds → Dd K N W H v d → DdAll K N W H (vs.set i v) (ds.set i d)
  | _, _, _, _, _, .nil, _ => .nil
  | _, _, 0, _, _, .cons _ a, q => .cons q a
  | _, _, i + 1, _, _, .cons h a, q => .cons h (DdAll.set i a q)
theorem DdAll.eraseIdx : ∀ {vs : List V} {ds : List D} (i : Nat), DdAll K N W H vs ds → DdAll K N W H (vs.eraseIdx i) (ds.eraseIdx i)
  | _, _, _, .nil => .nil
  | _, _, 0, .cons _ a => a
  | _, _, i + 1, .cons h a => .cons h (DdAll.eraseIdx i a)
end
inductive En where
  | no | fz (d : D) | ow (ds : List D) | od (kvs : List (Key × D)) | ot (kvs : List (List Key × D))
def En.isOw : En → Bool
  | .ow _ => true | .od _ => true | .ot _ => true | _ => false
abbrev De := List En
def KeepW (W : Wd) (H H' : Hp) : Prop := ∀ a o, ¬ W.own a → H a = some o → H' a = some o
theorem KeepW.refl (W : Wd) (H : Hp) : KeepW W H H := fun _ _ _ h => h
theorem KeepW.trans {W : Wd} {H H1 H2 : Hp} (a : KeepW W H H1) (b : KeepW W H1 H2) : KeepW W H H2 := fun x o n h => b x o n (a x o n h)
theorem KeepW.new {W : Wd} {H : Hp} {p : Addr} {o : HO} (h : H p = none) : KeepW W H (upd H p o) := fun b u _ q => by rw [upd_ne (ne_of_none q h)]; exact q
theorem ok_new {W : Wd} {H : Hp} {p : Addr} {o : HO} (k : W.ok H) (h : H p = none) (n : Ntb o := by exact True.intro) : W.ok (upd H p o) := Wd.st k (fun b u q _ => by rw [upd_ne (ne_of_none q h)]; exact q) (noT_upd n)
inductive Fr where
  | b (x : Bool) | ch (j : Nat)
instance : Coe Bool Fr := ⟨Fr.b⟩
def Ch (j : Nat) (H H' : Hp) (v : V) (x : D) : Prop := ∀ xs ys, x = .tup xs → xs[j]? = some (.lst ys) → ∃ t vs c us, v = .ref t ∧ H' t = some (.tup vs) ∧ vs[j]? = some (.ref c) ∧ H c = none ∧ H' c = some (.lst us)
structure Fx where
  K : PySem.W.Frag
  W : Wd
  N0 : Addr → Prop
  H0 : Hp
  fr : Fr
def Fx.N (F : Fx) (L : List Addr) : Addr → Prop := fun a => F.N0 a ∨ a ∈ L
def EnOk (F : Fx) (L : List Addr) (H : Hp) : En → Option V → Prop
  | .no, _ => True
  | .fz d, some v => Dd F.K (F.N L) F.W H v d
  | .ow ds, some (.ref a) => a ∈ L ∧ ∃ vs, H a = some (.lst vs) ∧ DdAll F.K (F.N L) F.W H vs ds
  | .od kds, some (.ref a) => a ∈ L ∧ ∃ kvs, H a = some (.dK kvs) ∧ kvs.map (·.1) = kds.map (·.1) ∧ DdAll F.K (F.N L) F.W H (kvs.map (·.2)) (kds.map (·.2))
  | .ot kds, some (.ref a) => a ∈ L ∧ ∃ kvs, H a = some (.dT kvs) ∧ kvs.map (·.1) = kds.map (·.1) ∧ DdAll F.K (F.N L) F.W H (kvs.map (·.2)) (kds.map (·.2))
  | _, _ => False
structure Abs (F : Fx) (env : De) (σ : L2.St) (L : List Addr) (H : Hp) : Prop where
  ok : F.W.ok H
  al : ∀ a, F.N0 a → ∃ o, F.H0 a = some o
  wn : ∀ a, F.W.own a → F.N0 a
  kp : KeepW F.W F.H0 H
  fr : ∀ a ∈ L, F.H0 a = none ∧ ∃ o, H a = some o ∧ Plo o
  ls : env.length = σ.length
  sep : ∀ (i j : Nat) (a : Addr) (ei ej : En), env[i]? = some ei → env[j]? = some ej → ei.isOw = true → ej.isOw = true → σ[i]? = some (some (.ref a)) → σ[j]? = some (some (.ref a)) → i = j
  en : ∀ (i : Nat) (e : En) (x : Option V), env[i]? = some e → σ[i]? = some x → EnOk F L H e x
section
variable {F : Fx} {env : De} {σ : L2.St} {L : List Addr} {H H' : Hp}
theorem Abs.alN (A : Abs F env σ L H) {a : Addr} (h : F.N L a) : ∃ o, H a = some o := by
  rcases h with h | h
  · obtain ⟨o, e⟩ := A.al a h
    by_cases w : F.W.own a
    · exact Wd.al A.ok w
    · exact ⟨o, A.kp a o w e⟩
  · obtain ⟨_, o, e, _⟩ := A.fr a h
    exact ⟨o, e⟩
theorem Abs.new (A : Abs F env σ L H) {p : Addr} (h : H p = none) : ¬ F.N L p := fun z => by
  obtain ⟨o, e⟩ := A.alN z
  rw [h] at e
  cases e
theorem Abs.out (A : Abs F env σ L H) {a : Addr} (h : a ∈ L) : ¬ F.N0 a := fun z => by
  obtain ⟨o, e⟩ := A.al a z
  rw [(A.fr a h).1] at e
  cases e
theorem nw_of (A : Abs F env σ L H) {a : Addr} (h : ¬ F.N L a) : ¬ F.W.own a := fun z => h (.inl (A.wn a z))
theorem KeepW.n (A : Abs F env σ L H) (k : KeepW F.W H H') : ∀ a o, ¬ F.N L a → H a = some o → H' a = some o := fun a o n h => k a o (nw_of A n) h
theorem Abs.kd (A : Abs F env σ L H) (k : KeepW F.W H H') {v : V} {d : D} (h : Dd F.K (F.N L) F.W H v d) : Dd F.K (F.N L) F.W H' v d := h.keep (k.n A) fun _ z => z
theorem Abs.kda (A : Abs F env σ L H) (k : KeepW F.W H H') {v : List V} {d : List D} (h : DdAll F.K (F.N L) F.W H v d) : DdAll F.K (F.N L) F.W H' v d := h.keep (k.n A) fun _ z => z
theorem EnOk.keep {L' : List Addr} (A : Abs F env σ L H) (k : ∀ a o, ¬ F.N L a → H a = some o → H' a = some o) (n : ∀ a, F.N L' a → F.N L a) : ∀ {e : En} {x : Option V}, (∀ a, x = some (.ref a) → e.isOw = true → a ∈ L → a ∈ L' ∧ ∀ o, H a = some o → H' a = some o) → EnOk F L H e x → EnOk F L' H' e x
  | .no, _, _, _ => trivial
  | .fz d, some v, _, h => Dd.keep k n h
  | .ow ds, some (.ref a), g, ⟨h1, vs, h2, h3⟩ => let ⟨g1, g2⟩ := g a rfl rfl h1; ⟨g1, vs, g2 _ h2, DdAll.keep k n h3⟩
  | .od ds, some (.ref a), g, ⟨h1, vs, h2, h4, h3⟩ => let ⟨g1, g2⟩ := g a rfl rfl h1; ⟨g1, vs, g2 _ h2, h4, DdAll.keep k n h3⟩
  | .ot ds, some (.ref a), g, ⟨h1, vs, h2, h4, h3⟩ => let ⟨g1, g2⟩ := g a rfl rfl h1; ⟨g1, vs, g2 _ h2, h4, DdAll.keep k n h3⟩
theorem Abs.step (A : Abs F env σ L H) (k : KeepW F.W H H') (o : F.W.ok H') : Abs F env σ L H' := by
  have w : ∀ a ∈ L, ¬ F.W.own a := fun a h z => A.out h (A.wn a z)
  refine ⟨o, A.al, A.wn, A.kp.trans k, fun a h => ?_, A.ls, A.sep, fun i e x h1 h2 => ?_⟩
  · obtain ⟨h1, u, h2, pl⟩ := A.fr a h
    exact ⟨h1, u, k a u (w a h) h2, pl⟩
  · exact EnOk.keep A (k.n A) (fun _ z => z) (fun a _ _ h => ⟨h, fun o q => k a o (w a h) q⟩) (A.en i e x h1 h2)
end
abbrev TDE := De → (D → Prop) → Prop
abbrev TDT := De → (Bool → Prop) → Prop
abbrev TDA := De → (List D → Prop) → Prop
def lC (F : Fx) (d : TDE) : TE := fun σ H Q => ∃ env L P, Abs F env σ L H ∧ d env P ∧ ∀ x v H', P x → KeepW F.W H H' → F.W.ok H' → Dd F.K (F.N L) F.W H' v x → Q v H'
def NewV (F : Fx) (L : List Addr) (H : Hp) (a : Addr) : D → Prop
  | .lst ds => ∃ vs, H a = some (.lst vs) ∧ DdAll F.K (F.N (a :: L)) F.W H vs ds
  | .tup ds => ∃ vs, H a = some (.tup vs) ∧ DdAll F.K (F.N (a :: L)) F.W H vs ds
  | .dic kds => ∃ kvs, H a = some (.dK kvs) ∧ kvs.map (·.1) = kds.map (·.1) ∧ DdAll F.K (F.N (a :: L)) F.W H (kvs.map (·.2)) (kds.map (·.2))
  | .dct kds => ∃ kvs, H a = some (.dT kvs) ∧ kvs.map (·.1) = kds.map (·.1) ∧ DdAll F.K (F.N (a :: L)) F.W H (kvs.map (·.2)) (kds.map (·.2))
  | _ => False
theorem nl_sub {F : Fx} {L : List Addr} {a : Addr} : ∀ x, F.N L x → F.N (a :: L) x := fun x h => h.imp id (List.mem_cons_of_mem _)
theorem NewV.dd {F : Fx} {L : List Addr} {H : Hp} {a : Addr} (n : ¬ F.N L a) : ∀ {x : D}, NewV F L H a x → Dd F.K (F.N L) F.W H (.ref a) x
  | .lst ds, ⟨vs, h, g⟩ => .lst h n (g.keep (fun _ _ _ z => z) nl_sub)
  | .tup ds, ⟨vs, h, g⟩ => .tup h n (g.keep (fun _ _ _ z => z) nl_sub)
  | .dic ds, ⟨vs, h, e, g⟩ => .dic (.inl h) n e (g.keep (fun _ _ _ z => z) nl_sub)
  | .dct ds, ⟨vs, h, e, g⟩ => .dct (.inl h) n e (g.keep (fun _ _ _ z => z) nl_sub)
def lN (F : Fx) (d : TDE) : TE := fun σ H Q => ∃ env L P, Abs F env σ L H ∧ d env P ∧ ∀ x a H', P x → KeepW F.W H H' → F.W.ok H' → H a = none → NewV F L H' a x → Q (.ref a) H'
def Bw (F : Fx) (L : List Addr) (H : Hp) (v : V) (x : D) : Prop := Dd F.K (F.N L) F.W H v x ∨ ∃ e, e.isOw = true ∧ EnOk F L H e (some v) ∧ x = (match e with | .ow ds => .lst ds | .od ds => .dic ds | .ot ds => .dct ds | _ => .non)
def lB (F : Fx) (d : TDE) : TE := fun σ H Q => ∃ env L P, Abs F env σ L H ∧ d env P ∧ ∀ x v H', P x → KeepW F.W H H' → F.W.ok H' → Bw F L H' v x → Q v H'
def lT (F : Fx) (d : TDT) : TT := fun σ H Q => ∃ env L P, Abs F env σ L H ∧ d env P ∧ ∀ x H', P x → KeepW F.W H H' → F.W.ok H' → Q x H'
def lA (F : Fx) (d : TDA) : TA := fun σ H Q => ∃ env L P, Abs F env σ L H ∧ d env P ∧ ∀ xs vs H', P xs → KeepW F.W H H' → F.W.ok H' → DdAll F.K (F.N L) F.W H' vs xs → Q vs H'
section
variable {X : Cx} {F : Fx} {e a b : Expr} {d da db : TDE}
theorem PE.mono {t t' : TE} (h : PE X e t) (m : ∀ σ H Q, t' σ H Q → t σ H Q) : PE X e t' := ⟨fun pins s σ H Q I q => h.run pins s σ H Q I (m σ H Q q)⟩
theorem PT.mono {t t' : TT} (h : PT X e t) (m : ∀ σ H Q, t' σ H Q → t σ H Q) : PT X e t' := ⟨fun pins s σ H Q I q => h.run pins s σ H Q I (m σ H Q q)⟩
theorem PW.mono {t t' : TT} (h : PW X e t) (m : ∀ σ H Q, t' σ H Q → t σ H Q) : PW X e t' := ⟨fun wh pins s σ H Q I q => h.run wh pins s σ H Q I (m σ H Q q)⟩
theorem PA.mono {es : List Expr} {t t' : TA} (h : PA X es t) (m : ∀ σ H Q, t' σ H Q → t σ H Q) : PA X es t' := ⟨fun pos pins s σ H Q I q => h.run pos pins s σ H Q I (m σ H Q q)⟩
theorem PK.mono {es : List Keyword} {t t' : TA} (h : PK X es t) (m : ∀ σ H Q, t' σ H Q → t σ H Q) : PK X es t' := ⟨fun pos pins s σ H Q I q => h.run pos pins s σ H Q I (m σ H Q q)⟩
theorem PS.mono {st : Stmt} {t t' : TS} (h : PS X st t) (m : ∀ E σ H, t' E σ H → t E σ H) : PS X st t' := ⟨fun pins s σ H E I q => h.run pins s σ H E I (m E σ H q)⟩
theorem PSs.mono {st : List Stmt} {t t' : TS} (h : PSs X st t) (m : ∀ E σ H, t' E σ H → t E σ H) : PSs X st t' := ⟨fun pins s σ H E I q => h.run pins s σ H E I (m E σ H q)⟩
theorem n_c (h : PE X e (lN F d)) : PE X e (lC F d) := PE.mono h fun σ H Q ⟨env, L, P, A, p, q⟩ => ⟨env, L, P, A, p, fun x a H' px k o n dd => q x _ H' px k o (dd.dd (A.new n))⟩
theorem c_b (h : PE X e (lC F d)) : PE X e (lB F d) := PE.mono h fun σ H Q ⟨env, L, P, A, p, q⟩ => ⟨env, L, P, A, p, fun x v H' px k o dd => q x v H' px k o (.inl dd)⟩
def D.leaf : D → Bool
  | .non => true | .bl _ => true | .int _ => true | .str _ => true | _ => false
def dC (x : D) : TDE := fun _ P => P x
theorem c_lift {x : D} {v : V} (h : PE X e (tC v)) (r : ∀ K N W H, Dd K N W H v x) : PE X e (lC F (dC x)) := PE.mono h fun σ H Q ⟨env, L, P, A, p, q⟩ => q x v H p (.refl _ _) A.ok (r _ _ _ _)
theorem dd_int {i : Int} {j} {pos : Pos} : PE X (.Constant (.int i) j pos) (lC F (dC (.int i))) := c_lift pe_int fun _ _ _ _ => .int i
theorem dd_str {i : Str} {j} {pos : Pos} : PE X (.Constant (.str i) j pos) (lC F (dC (.str i))) := c_lift pe_str fun _ _ _ _ => .str i
theorem dd_bl {i : Bool} {j} {pos : Pos} : PE X (.Constant (.bool i) j pos) (lC F (dC (.bl i))) := c_lift pe_bl fun _ _ _ _ => .bl i
theorem dd_non {j} {pos : Pos} : PE X (.Constant .none j pos) (lC F (dC .non)) := c_lift pe_non fun _ _ _ _ => .non
def dV (i : Nat) : TDE := fun env P => match env[i]? with | some (.fz d) => P d | _ => False
def dB (i : Nat) : TDE := fun env P => match env[i]? with | some (.fz d) => P d | some (.ow ds) => P (.lst ds) | some (.od ds) => P (.dic ds) | some (.ot ds) => P (.dct ds) | _ => False
theorem abs_at {env : De} {σ : L2.St} {L : List Addr} {H : Hp} (A : Abs F env σ L H) {i : Nat} {e : En} (h : env[i]? = some e) (n : e ≠ .no) : ∃ v, σ[i]? = some (some v) ∧ EnOk F L H e (some v) := by
  have hi : i < σ.length := by rw [← A.ls]; exact (List.getElem?_eq_some_iff.mp h).1
  have h2 := A.en i e σ[i] h (List.getElem?_eq_getElem hi)
  cases q : σ[i] with
  | none =>
    rw [q] at h2
    cases e with
    | no => exact absurd rfl n
    | _ => exact h2.elim
  | some v =>
    rw [q] at h2
    exact ⟨v, by rw [List.getElem?_eq_getElem hi, q], h2⟩
theorem dd_v {i : Nat} (h : PE X e (tVar i)) : PE X e (lC F (dV i)) := PE.mono h fun σ H Q ⟨env, L, P, A, p, q⟩ => by
  unfold dV at p
  cases z : env[i]? with
  | none => rw [z] at p; exact p.elim
  | some en =>
    rw [z] at p
    cases en with
    | fz d =>
      obtain ⟨v, h1, h2⟩ := abs_at A z (by intro w; cases w)
      exact ⟨v, h1, q d v H p (.refl _ _) A.ok h2⟩
    | _ => exact p.elim
theorem dd_b {i : Nat} (h : PE X e (tVar i)) : PE X e (lB F (dB i)) := PE.mono h fun σ H Q ⟨env, L, P, A, p, q⟩ => by
  unfold dB at p
  cases z : env[i]? with
  | none => rw [z] at p; exact p.elim
  | some en =>
    rw [z] at p
    cases en with
    | no => exact p.elim
    | fz d =>
      obtain ⟨v, h1, h2⟩ := abs_at A z (by intro w; cases w)
      exact ⟨v, h1, q d v H p (.refl _ _) A.ok (.inl h2)⟩
    | _ =>
      obtain ⟨v, h1, h2⟩ := abs_at A z (by intro w; cases w)
      exact ⟨v, h1, q _ v H p (.refl _ _) A.ok (.inr ⟨_, rfl, h2, rfl⟩)⟩
end
end DL
namespace DL
open PySem PySem.Spec PyProof.Rows L2 RK
def ob {α : Type} (o : Option α) (P : α → Prop) : Prop := match o with | some z => P z | none => False
theorem ob_some {α : Type} {z : α} {P : α → Prop} : ob (some z) P = P z := rfl
theorem ob_elim {α : Type} {o : Option α} {P : α → Prop} (h : ob o P) : ∃ z, o = some z ∧ P z := by
  cases o with
  | none => exact h.elim
  | some z => exact ⟨z, rfl, h⟩
mutual
def toPy : D → Option PyData
  | .non => some .none
  | .bl b => some (.bool b)
  | .int i => some (.int i)
  | .str x => some (.str x)
  | .lst xs => (toPyA xs).map .list
  | .tup xs => (toPyA xs).map .tuple
  | _ => none
def toPyA : List D → Option (List PyData)
  | [] => some []
  | d :: ds => (toPy d).bind fun p => (toPyA ds).map fun ps => p :: ps
end
section
variable {K : PySem.W.Frag} {N : Addr → Prop} {W : Wd} {H H' : Hp}
mutual
theorem Dd.py : ∀ {v : V} {d : D} {p : PyData}, Dd K N W H v d → toPy d = some p → Dp K H v p
  | _, _, _, .non, e => by cases Option.some.inj e; exact .non
  | _, _, _, .bl b, e => by cases Option.some.inj e; exact .bl b
  | _, _, _, .int i, e => by cases Option.some.inj e; exact .int i
  | _, _, _, .str x, e => by cases Option.some.inj e; exact .str x
  | _, _, _, .lst h _ a, e => by
    obtain ⟨ps, h1, h2⟩ := Option.map_eq_some_iff.mp e
    subst h2
    exact .lst (SqL.of h) (DdAll.py a h1)
  | _, _, _, .tup h _ a, e => by
    obtain ⟨ps, h1, h2⟩ := Option.map_eq_some_iff.mp e
    subst h2
    exact .tup (SqT.of h) (DdAll.py a h1)
  | _, _, _, .ktp .., e => by cases e
  | _, _, _, .dic .., e => by cases e
  | _, _, _, .dct .., e => by cases e
  | _, _, _, .obj .., e => by cases e
  | _, _, _, .bag .., e => by cases e
theorem DdAll.py : ∀ {vs : List V} {ds : List D} {ps : List PyData}, DdAll K N W H vs ds → toPyA ds = some ps → DpAll K H vs ps
  | _, _, _, .nil, e => by cases Option.some.inj e; exact .nil
  | _, _, _, .cons h a, e => by
    obtain ⟨p, h1, h2⟩ := Option.bind_eq_some_iff.mp e
    obtain ⟨ps, h3, h4⟩ := Option.map_eq_some_iff.mp h2
    subst h4
    exact .cons (Dd.py h h1) (DdAll.py a h3)
end
theorem dd_intE {v : V} {i : Int} (h : Dd K N W H v (.int i)) : v = .int i := by cases h; rfl
theorem dd_strE {v : V} {i : Str} (h : Dd K N W H v (.str i)) : v = .str i := by cases h; rfl
theorem dd_blE {v : V} {i : Bool} (h : Dd K N W H v (.bl i)) : v = .bl i := by cases h; rfl
theorem dd_nonE {v : V} (h : Dd K N W H v .non) : v = .non := by cases h; rfl
theorem dd_lstE {v : V} {ds : List D} (h : Dd K N W H v (.lst ds)) : ∃ a vs, v = .ref a ∧ H a = some (.lst vs) ∧ ¬ N a ∧ DdAll K N W H vs ds := by cases h with | lst h1 h2 h3 => exact ⟨_, _, rfl, h1, h2, h3⟩
theorem dd_tupE {v : V} {ds : List D} (h : Dd K N W H v (.tup ds)) : ∃ a vs, v = .ref a ∧ H a = some (.tup vs) ∧ ¬ N a ∧ DdAll K N W H vs ds := by cases h with | tup h1 h2 h3 => exact ⟨_, _, rfl, h1, h2, h3⟩
end
section
variable {F : Fx} {env : De} {σ : L2.St} {L : List Addr} {H H' : Hp}
theorem bw_leaf {v : V} {x : D} (h : Bw F L H v x) (l : x.leaf = true) : Dd F.K (F.N L) F.W H v x := by
  rcases h with h | ⟨e, h1, h2, rfl⟩
  · exact h
  · cases e with
    | no => cases h1
    | fz _ => cases h1
    | ow _ => cases l
    | od _ => cases l
    | ot _ => cases l
theorem bw_int {v : V} {i : Int} (h : Bw F L H v (.int i)) : v = .int i := dd_intE (bw_leaf h rfl)
theorem bw_str {v : V} {i : Str} (h : Bw F L H v (.str i)) : v = .str i := dd_strE (bw_leaf h rfl)
theorem bw_bl {v : V} {i : Bool} (h : Bw F L H v (.bl i)) : v = .bl i := dd_blE (bw_leaf h rfl)
theorem bw_non {v : V} (h : Bw F L H v .non) : v = .non := dd_nonE (bw_leaf h rfl)
theorem bw_lst {v : V} {ds : List D} (h : Bw F L H v (.lst ds)) : ∃ a vs, v = .ref a ∧ H a = some (.lst vs) ∧ DdAll F.K (F.N L) F.W H vs ds := by
  rcases h with h | ⟨e, h1, h2, h3⟩
  · obtain ⟨a, vs, h1, h2, _, h3⟩ := dd_lstE h
    exact ⟨a, vs, h1, h2, h3⟩
  · cases e with
    | ow es =>
      cases h3
      cases v with
      | ref a => exact ⟨a, h2.2.choose, rfl, h2.2.choose_spec⟩
      | _ => exact h2.elim
    | no => cases h1
    | fz _ => cases h1
    | od _ => cases h3
    | ot _ => cases h3
theorem bw_tup {v : V} {ds : List D} (h : Bw F L H v (.tup ds)) : ∃ a vs, v = .ref a ∧ H a = some (.tup vs) ∧ DdAll F.K (F.N L) F.W H vs ds := by
  rcases h with h | ⟨e, h1, h2, h3⟩
  · obtain ⟨a, vs, h1, h2, _, h3⟩ := dd_tupE h
    exact ⟨a, vs, h1, h2, h3⟩
  · cases e with
    | no => cases h1
    | fz _ => cases h1
    | ow _ => cases h3
    | od _ => cases h3
    | ot _ => cases h3
theorem bw_dic {v : V} {ds : List (Key × D)} (h : Bw F L H v (.dic ds)) : ∃ a kvs, v = .ref a ∧ Rd H a (.dK kvs) ∧ kvs.map (·.1) = ds.map (·.1) ∧ DdAll F.K (F.N L) F.W H (kvs.map (·.2)) (ds.map (·.2)) := by
  rcases h with h | ⟨e, h1, h2, h3⟩
  · cases h with | dic g1 g2 g3 g4 => exact ⟨_, _, rfl, g1, g3, g4⟩
  · cases e with
    | od es =>
      cases h3
      cases v with
      | ref a =>
        obtain ⟨_, kvs, g1, g2, g3⟩ := h2
        exact ⟨a, kvs, rfl, .inl g1, g2, g3⟩
      | _ => exact h2.elim
    | no => cases h1
    | fz _ => cases h1
    | ow _ => cases h3
    | ot _ => cases h3
theorem bw_dct {v : V} {ds : List (List Key × D)} (h : Bw F L H v (.dct ds)) : ∃ a kvs, v = .ref a ∧ Rd H a (.dT kvs) ∧ kvs.map (·.1) = ds.map (·.1) ∧ DdAll F.K (F.N L) F.W H (kvs.map (·.2)) (ds.map (·.2)) := by
  rcases h with h | ⟨e, h1, h2, h3⟩
  · cases h with | dct g1 g2 g3 g4 => exact ⟨_, _, rfl, g1, g3, g4⟩
  · cases e with
    | ot es =>
      cases h3
      cases v with
      | ref a =>
        obtain ⟨_, kvs, g1, g2, g3⟩ := h2
        exact ⟨a, kvs, rfl, .inl g1, g2, g3⟩
      | _ => exact h2.elim
    | no => cases h1
    | fz _ => cases h1
    | ow _ => cases h3
    | od _ => cases h3
theorem bw_py {v : V} {d : D} {p : PyData} (h : Bw F L H v d) (e : toPy d = some p) : Dp F.K H v p := by
  rcases h with h | ⟨en, h1, h2, h3⟩
  · exact h.py e
  · cases en with
    | ow es =>
      have hh : Bw F L H v (.lst es) := .inr ⟨.ow es, rfl, h2, rfl⟩
      obtain ⟨a, vs, rfl, g2, g3⟩ := bw_lst hh
      subst h3
      obtain ⟨ps, h1, h2⟩ := Option.map_eq_some_iff.mp e
      subst h2
      exact .lst (SqL.of g2) (g3.py h1)
    | no => cases h1
    | fz _ => cases h1
    | od _ => subst h3; cases e
    | ot _ => subst h3; cases e
theorem Bw.step (A : Abs F env σ L H) (k : KeepW F.W H H') {v : V} {x : D} (h : Bw F L H v x) : Bw F L H' v x := by
  rcases h with h | ⟨e, h1, h2, h3⟩
  · exact .inl (A.kd k h)
  · have w : ∀ a ∈ L, ¬ F.W.own a := fun a h z => A.out h (A.wn a z)
    exact .inr ⟨e, h1, EnOk.keep A (k.n A) (fun _ z => z) (fun a _ _ h => ⟨h, fun o q => k a o (w a h) q⟩) h2, h3⟩
theorem new_pres (A : Abs F env σ L H) {p : Addr} {o : HO} (hp : H p = none) {vs : List V} {ds : List D} (h : DdAll F.K (F.N L) F.W H vs ds) : DdAll F.K (F.N (p :: L)) F.W (upd H p o) vs ds := h.pres fun a u n g => by
  have ne : a ≠ p := ne_of_none g hp
  refine ⟨fun z => ?_, by rw [upd_ne ne]; exact g⟩
  rcases z with z | z
  · exact n (.inl z)
  · rcases List.mem_cons.mp z with z | z
    · exact ne z
    · exact n (.inr z)
theorem new_lstN (A : Abs F env σ L H) {p : Addr} (hp : H p = none) {vs : List V} {ds : List D} (h : DdAll F.K (F.N L) F.W H vs ds) : NewV F L (upd H p (.lst vs)) p (.lst ds) := ⟨vs, upd_same, new_pres A hp h⟩
theorem new_tupN (A : Abs F env σ L H) {p : Addr} (hp : H p = none) {vs : List V} {ds : List D} (h : DdAll F.K (F.N L) F.W H vs ds) : NewV F L (upd H p (.tup vs)) p (.tup ds) := ⟨vs, upd_same, new_pres A hp h⟩
theorem new_lst (A : Abs F env σ L H) {p : Addr} (hp : H p = none) {vs : List V} {ds : List D} (h : DdAll F.K (F.N L) F.W H vs ds) : Dd F.K (F.N L) F.W (upd H p (.lst vs)) (.ref p) (.lst ds) := .lst upd_same (A.new hp) (A.kda (KeepW.new hp) h)
theorem new_tup (A : Abs F env σ L H) {p : Addr} (hp : H p = none) {vs : List V} {ds : List D} (h : DdAll F.K (F.N L) F.W H vs ds) : Dd F.K (F.N L) F.W (upd H p (.tup vs)) (.ref p) (.tup ds) := .tup upd_same (A.new hp) (A.kda (KeepW.new hp) h)
end
abbrev B2 := D → D → Option D
def Op2 (F : Fx) (r : R2) (f : B2) : Prop := ∀ {env : De} {σ : L2.St} {L : List Addr} {H : Hp} {x y : V} {dx dy z : D}, Abs F env σ L H → Bw F L H x dx → Bw F L H y dy → f dx dy = some z →
  ∀ Q : VK, (∀ v H', KeepW F.W H H' → F.W.ok H' → Dd F.K (F.N L) F.W H' v z → Q v H') → r x y H Q
def Op2N (F : Fx) (r : R2) (f : B2) : Prop := ∀ {env : De} {σ : L2.St} {L : List Addr} {H : Hp} {x y : V} {dx dy z : D}, Abs F env σ L H → Bw F L H x dx → Bw F L H y dy → f dx dy = some z →
  ∀ Q : VK, (∀ a H', KeepW F.W H H' → F.W.ok H' → H a = none → NewV F L H' a z → Q (.ref a) H') → r x y H Q
def dO2 (f : B2) (da db : TDE) : TDE := fun env P => da env fun x => db env fun y => ob (f x y) P
section
variable {X : Cx} {F : Fx} {e a b c : Expr} {d da db dc : TDE} {pos : Pos} {f g : B2} {r r' : R2}
theorem lop2 (h : Op2 F r f) : ∀ σ H Q, lC F (dO2 f da db) σ H Q → tOp r (lB F da) (lB F db) σ H Q := fun σ H Q ⟨env, L, P, A, p, q⟩ =>
  ⟨env, L, _, A, p, fun x v H1 px k1 o1 b1 => ⟨env, L, _, A.step k1 o1, px, fun y u H2 py k2 o2 b2 => by
    obtain ⟨z, e, pz⟩ := ob_elim py
    exact h ((A.step k1 o1).step k2 o2) (b1.step (A.step k1 o1) k2) b2 e Q fun w H3 k3 o3 d3 => q z w H3 pz ((k1.trans k2).trans k3) o3 d3⟩⟩
theorem dd_op {op : Operator} (h : Op2 F r f) (ho : OpR X (binaryOp op) r) (ha : PE X a (lB F da)) (hb : PE X b (lB F db)) : PE X (.BinOp a op b pos) (lC F (dO2 f da db)) := PE.mono (pe_op ho ha hb) (lop2 h)
theorem dd_cmp {op : CmpOp} (h : Op2 F r f) (ho : OpR X (compareOp op) r) (ha : PE X a (lB F da)) (hb : PE X b (lB F db)) (hm : behindInMarks op b = false) : PE X (.Compare a [op] [b] pos) (lC F (dO2 f da db)) := PE.mono (pe_cmpR ho ha hb hm) (lop2 h)
def dT (d : TDE) : TDT := fun env P => d env fun x => match x with | .bl b => P b | _ => False
theorem l_test : ∀ σ H Q, lT F (dT d) σ H Q → tTest (lC F d) σ H Q := fun σ H Q ⟨env, L, P, A, p, q⟩ =>
  ⟨env, L, _, A, p, fun x v H1 px k1 o1 d1 => by
    cases x with
    | bl b => cases d1; exact ⟨b, rfl, q b H1 px k1 o1⟩
    | _ => exact px.elim⟩
theorem dt_val (h : PE X e (lC F d)) (he : ∀ whole, isTrue e X.env whole = (do let v ← whole; standAt e.pos; holding [v] (truthy v)) := by intro _; rfl) : PT X e (lT F (dT d)) := PT.mono (pt_val h he) fun σ H Q q => l_test σ H Q q
theorem dt_cmp {op : CmpOp} (h : Op2 F r f) (ho : OpR X (compareOp op) r) (ha : PE X a (lB F da)) (hb : PE X b (lB F db)) (hm : behindInMarks op b = false) : PT X (.Compare a [op] [b] pos) (lT F (dT (dO2 f da db))) :=
  PT.mono (pt_cmpR ho ha hb hm) fun σ H Q ⟨env, L, P, A, p, q⟩ => lop2 h σ H _ ⟨env, L, _, A, p, fun x v H1 px k1 o1 d1 => by
    cases x with
    | bl b => cases d1; exact ⟨b, rfl, q b H1 px k1 o1⟩
    | _ => exact px.elim⟩
def dAndT (t u : TDT) : TDT := fun env P => t env fun x => if x = true then u env P else P false
def dOrT (t u : TDT) : TDT := fun env P => t env fun x => if x = true then P true else u env P
def dNotT (t : TDT) : TDT := fun env P => t env fun x => P (!x)
variable {tA tB : TDT} {rest : List Expr}
theorem wt_or1 (ha : PT X a (lT F tA)) : PW X (.BoolOp .Or [a] pos) (lT F tA) := pw_or1 ha
theorem wt_or (ha : PT X a (lT F tA)) (hb : PW X (.BoolOp .Or (b :: rest) pos) (lT F tB)) : PW X (.BoolOp .Or (a :: b :: rest) pos) (lT F (dOrT tA tB)) :=
  PW.mono (pw_or ha hb) fun σ H Q ⟨env, L, P, A, p, q⟩ => ⟨env, L, _, A, p, fun x H1 px k1 o1 => by
    cases x with
    | false => exact iteF ⟨env, L, _, A.step k1 o1, px, fun y H2 py k2 o2 => q y H2 py (k1.trans k2) o2⟩
    | true => exact iteT (q true H1 px k1 o1)⟩
theorem dt_not (ha : PT X a (lT F tA)) : PT X (.UnaryOp .Not a pos) (lT F (dNotT tA)) :=
  PT.mono (pt_not ha) fun σ H Q ⟨env, L, P, A, p, q⟩ => ⟨env, L, _, A, p, fun x H1 px k1 o1 => q (!x) H1 px k1 o1⟩
def dIf (t : TDT) (da db : TDE) : TDE := fun env P => t env fun x => if x = true then da env P else db env P
theorem dd_if (hc : PT X c (lT F tA)) (ha : PE X a (lC F da)) (hb : PE X b (lC F db)) : PE X (.IfExp c a b pos) (lC F (dIf tA da db)) :=
  PE.mono (pe_ifExp hc ha hb) fun σ H Q ⟨env, L, P, A, p, q⟩ => ⟨env, L, _, A, p, fun x H1 px k1 o1 => by
    cases x with
    | false => exact iteF ⟨env, L, _, A.step k1 o1, px, fun y v H2 py k2 o2 d2 => q y v H2 py (k1.trans k2) o2 d2⟩
    | true => exact iteT ⟨env, L, _, A.step k1 o1, px, fun y v H2 py k2 o2 d2 => q y v H2 py (k1.trans k2) o2 d2⟩⟩
def dAndV (da db : TDE) : TDE := fun env P => da env fun x => match x with | .bl b => if b = true then db env P else P (.bl false) | _ => False
def dOrV (da db : TDE) : TDE := fun env P => da env fun x => match x with | .bl b => if b = true then P (.bl true) else db env P | _ => False
def dNotV (da : TDE) : TDE := fun env P => da env fun x => match x with | .bl b => P (.bl (!b)) | _ => False
theorem dd_one {op} (ha : PE X a (lC F da)) : PE X (.BoolOp op [a] pos) (lC F da) := pe_one ha
theorem dd_and (ha : PE X a (lC F da)) (hb : PE X (.BoolOp .And (b :: rest) pos) (lC F db)) : PE X (.BoolOp .And (a :: b :: rest) pos) (lC F (dAndV da db)) :=
  PE.mono (pe_and ha hb) fun σ H Q ⟨env, L, P, A, p, q⟩ => ⟨env, L, _, A, p, fun x v H1 px k1 o1 d1 => by
    cases x with
    | bl b =>
      cases d1
      refine ⟨b, rfl, ?_⟩
      cases b with
      | true => exact iteT ⟨env, L, _, A.step k1 o1, px, fun y v H2 py k2 o2 d2 => q y v H2 py (k1.trans k2) o2 d2⟩
      | false => exact iteF (q _ _ H1 px k1 o1 (.bl false))
    | _ => exact px.elim⟩
theorem dd_or (ha : PE X a (lC F da)) (hb : PE X (.BoolOp .Or (b :: rest) pos) (lC F db)) : PE X (.BoolOp .Or (a :: b :: rest) pos) (lC F (dOrV da db)) :=
  PE.mono (pe_or ha hb) fun σ H Q ⟨env, L, P, A, p, q⟩ => ⟨env, L, _, A, p, fun x v H1 px k1 o1 d1 => by
    cases x with
    | bl b =>
      cases d1
      refine ⟨b, rfl, ?_⟩
      cases b with
      | false => exact iteF ⟨env, L, _, A.step k1 o1, px, fun y v H2 py k2 o2 d2 => q y v H2 py (k1.trans k2) o2 d2⟩
      | true => exact iteT (q _ _ H1 px k1 o1 (.bl true))
    | _ => exact px.elim⟩
end
end DL
namespace DL
open PySem PySem.Spec PyProof.Rows L2 RK
theorem guard_elim {α : Type} {c : Prop} [Decidable c] {x z : α} (h : (if c then some x else none) = some z) : c ∧ x = z := by
  by_cases hc : c
  · rw [if_pos hc] at h
    exact ⟨hc, Option.some.inj h⟩
  · rw [if_neg hc] at h
    cases h
section
variable {X : Cx} {F : Fx} {e a b c : Expr} {d da db dc : TDE} {pos : Pos}
theorem Op2.or {r r' : R2} {f g : B2} (h : Op2 F r f) (h' : Op2 F r' g) : Op2 F (fun x y H Q => r x y H Q ∨ r' x y H Q) (fun x y => (f x y).or (g x y)) := fun A bx byy e Q q => by
  rename_i dx dy z
  replace e : (f dx dy).or (g dx dy) = some z := e
  cases hf : f dx dy with
  | some z' =>
    rw [hf] at e
    exact .inl (h A bx byy (hf.trans e) Q q)
  | none =>
    rw [hf] at e
    exact .inr (h' A bx byy e Q q)
def iI (C : Int → Int → Bool) (g : Int → Int → D) : B2
  | .int i, .int j => if C i j = true then some (g i j) else none
  | _, _ => none
theorem iI_ok {C : Int → Int → Bool} {C' : Int → Int → Prop} {g : Int → Int → D} {gV : Int → Int → V} (hC : ∀ i j, C i j = true → C' i j) (hg : ∀ i j K N W H, Dd K N W H (gV i j) (g i j)) : Op2 F (rI C' gV) (iI C g) := fun A bx byy e Q q => by
  rename_i dx dy z
  cases dx <;> try cases e
  cases dy <;> try cases e
  rename_i i j
  have hx := bw_int bx
  have hy := bw_int byy
  subst hx hy
  obtain ⟨hc, rfl⟩ := guard_elim e
  exact ⟨i, j, rfl, rfl, hC i j hc, q _ _ (.refl _ _) A.ok (hg i j _ _ _ _)⟩
def iI0 (g : Int → Int → D) : B2
  | .int i, .int j => some (g i j)
  | _, _ => none
theorem iI0_ok {g : Int → Int → D} {gV : Int → Int → V} (hg : ∀ i j K N W H, Dd K N W H (gV i j) (g i j)) : Op2 F (rI0 gV) (iI0 g) := fun A bx byy e Q q => by
  rename_i dx dy z
  cases dx <;> try cases e
  cases dy <;> try cases e
  rename_i i j
  have hx := bw_int bx
  have hy := bw_int byy
  subst hx hy
  exact ⟨i, j, rfl, rfl, q _ _ (.refl _ _) A.ok (hg i j _ _ _ _)⟩
def bCat : B2
  | .lst xs, .lst ys => if xs.length + ys.length ≤ sizeLine then some (.lst (xs ++ ys)) else none
  | _, _ => none
theorem cat_okN : Op2N F rCat bCat := fun A bx byy e Q q => by
  rename_i dx dy z
  cases dx <;> try cases e
  cases dy <;> try cases e
  rename_i xs ys
  obtain ⟨l, vs, rfl, h1, h2⟩ := bw_lst bx
  obtain ⟨m, us, rfl, h3, h4⟩ := bw_lst byy
  obtain ⟨hc, rfl⟩ := guard_elim e
  exact ⟨l, m, vs, us, rfl, rfl, h1, h3, by rw [h2.len, h4.len]; exact hc, fun p hp => q p _ (.new hp) (ok_new A.ok hp) hp (new_lstN A hp (h2.app h4))⟩
theorem op2n_c {r : R2} {f : B2} (h : Op2N F r f) : Op2 F r f := fun A bx byy e Q q => h A bx byy e Q fun a H' k o n d => q _ _ k o (d.dd (A.new n))
def bCatS : B2
  | .str x, .str y => if x.length + y.length ≤ sizeLine then some (.str (x ++ y)) else none
  | _, _ => none
theorem catS_ok : Op2 F (fun x y H Q => ∃ i j, x = .str i ∧ y = .str j ∧ i.length + j.length ≤ sizeLine ∧ Q (.str (i ++ j)) H) bCatS := fun A bx byy e Q q => by
  rename_i dx dy z
  cases dx <;> try cases e
  cases dy <;> try cases e
  rename_i xs ys
  have hx := bw_str bx
  have hy := bw_str byy
  subst hx hy
  obtain ⟨hc, rfl⟩ := guard_elim e
  exact ⟨xs, ys, rfl, rfl, hc, q _ _ (.refl _ _) A.ok (.str _)⟩
def bRep : B2
  | .lst xs, .int k => if -(2 ^ 63) ≤ k ∧ k < 2 ^ 63 ∧ xs.length * k.toNat ≤ sizeLine then some (.lst (List.replicate k.toNat xs).flatten) else none
  | _, _ => none
theorem DdAll.rep {K : PySem.W.Frag} {N : Addr → Prop} {W : Wd} {H : Hp} {vs : List V} {ds : List D} (h : DdAll K N W H vs ds) : ∀ n : Nat, DdAll K N W H (List.replicate n vs).flatten (List.replicate n ds).flatten
  | 0 => .nil
  | n + 1 => by
    rw [List.replicate_succ, List.replicate_succ, List.flatten_cons, List.flatten_cons]
    exact h.app (DdAll.rep h n)
def bAdd : B2 := fun x y => (iI0 (fun i j => .int (i + j)) x y).or ((bCatS x y).or (bCat x y))
theorem dd_add (ha : PE X a (lB F da)) (hb : PE X b (lB F db)) : PE X (.BinOp a .Add b pos) (lC F (dO2 bAdd da db)) :=
  dd_op (Op2.or (iI0_ok fun i j _ _ _ _ => .int _) (Op2.or catS_ok (op2n_c cat_okN))) (op_add.or (op_add_str.or op_cat)) ha hb
def bMod : B2 := iI (fun _ j => decide (0 < j)) fun i j => .int (i % j)
theorem dd_mod (ha : PE X a (lB F da)) (hb : PE X b (lB F db)) : PE X (.BinOp a .Mod b pos) (lC F (dO2 bMod da db)) := dd_op (iI_ok (fun i j h => of_decide_eq_true h) fun i j _ _ _ _ => .int _) op_mod ha hb
def bMulI : B2 := iI (fun i j => decide ((-(2 ^ 64) < i ∧ i < 2 ^ 64) ∨ (-(2 ^ 64) < j ∧ j < 2 ^ 64))) fun i j => .int (i * j)
theorem rep_okN : Op2N F rRep bRep := fun A bx byy e Q q => by
  rename_i dx dy z
  cases dx <;> try cases e
  cases dy <;> try cases e
  rename_i xs k
  obtain ⟨l, vs, rfl, h1, h2⟩ := bw_lst bx
  have hy := bw_int byy
  subst hy
  obtain ⟨hc, rfl⟩ := guard_elim e
  exact ⟨l, k, vs, rfl, rfl, h1, hc.1, hc.2.1, by rw [h2.len]; exact hc.2.2, fun p hp => q p _ (.new hp) (ok_new A.ok hp) hp (new_lstN A hp (h2.rep _))⟩
def bRepS : B2
  | .str x, .int n => match x.cps.toList with | [c] => if 1 ≤ n ∧ n ≤ 1000 then some (.str (PySem.Txt.mul ⟨#[c]⟩ n)) else none | _ => none
  | _, _ => none
theorem repS_ok : Op2 F (fun x y H Q => ∃ (c : Nat) (n : Int), x = .str ⟨#[c]⟩ ∧ y = .int n ∧ 1 ≤ n ∧ n ≤ 1000 ∧ Q (.str (PySem.Txt.mul ⟨#[c]⟩ n)) H) bRepS := fun A bx byy e Q q => by
  rename_i dx dy z
  cases dx <;> try cases e
  cases dy <;> try cases e
  rename_i x n
  have hx := bw_str bx
  have hy := bw_int byy
  subst hx hy
  obtain ⟨⟨l⟩⟩ := x
  match l, e with
  | [c], e =>
    obtain ⟨hc, rfl⟩ := guard_elim e
    exact ⟨c, n, rfl, rfl, hc.1, hc.2, q _ _ (.refl _ _) A.ok (.str _)⟩
  | [], e => cases e
  | _ :: _ :: _, e => cases e
def bMul : B2 := fun x y => (bMulI x y).or ((bRep x y).or (bRepS x y))
theorem dd_mul (ha : PE X a (lB F da)) (hb : PE X b (lB F db)) : PE X (.BinOp a .Mult b pos) (lC F (dO2 bMul da db)) :=
  dd_op (Op2.or (iI_ok (C' := CMul) (fun i j h => by have h' := of_decide_eq_true h; exact h') fun i j _ _ _ _ => .int _) (Op2.or (op2n_c rep_okN) repS_ok)) (op_mul.or (op_rep.or op_mul_str)) ha hb
def bLtS : B2
  | .str x, .str y => some (.bl (decide (x.cps.toList < y.cps.toList)))
  | _, _ => none
theorem ltS_ok : Op2 F (fun x y H Q => ∃ i j, x = .str i ∧ y = .str j ∧ Q (.bl (decide (i.cps.toList < j.cps.toList))) H) bLtS := fun A bx byy e Q q => by
  rename_i dx dy z
  cases dx <;> try cases e
  cases dy <;> try cases e
  have hx := bw_str bx
  have hy := bw_str byy
  subst hx hy
  exact ⟨_, _, rfl, rfl, q _ _ (.refl _ _) A.ok (.bl _)⟩
def bLt : B2 := fun x y => (iI0 (fun i j => .bl (decide (i < j))) x y).or (bLtS x y)
theorem dd_lt (ha : PE X a (lB F da)) (hb : PE X b (lB F db)) : PE X (.Compare a [.Lt] [b] pos) (lC F (dO2 bLt da db)) := dd_cmp (Op2.or (iI0_ok fun i j _ _ _ _ => .bl _) ltS_ok) (op_lt.or op_lt_str) ha hb (nomark _)
theorem dt_lt (ha : PE X a (lB F da)) (hb : PE X b (lB F db)) : PT X (.Compare a [.Lt] [b] pos) (lT F (dT (dO2 bLt da db))) := dt_cmp (Op2.or (iI0_ok fun i j _ _ _ _ => .bl _) ltS_ok) (op_lt.or op_lt_str) ha hb (nomark _)
def bGt : B2 := iI0 fun i j => .bl (decide (j < i))
theorem dt_gt (ha : PE X a (lB F da)) (hb : PE X b (lB F db)) : PT X (.Compare a [.Gt] [b] pos) (lT F (dT (dO2 bGt da db))) := dt_cmp (iI0_ok fun i j _ _ _ _ => .bl _) op_gt ha hb (nomark _)
def eqS (neg : Bool) : B2
  | .int i, .int j => some (.bl (neg ^^ decide (i = j)))
  | .str i, .str j => some (.bl (neg ^^ decide (i = j)))
  | .bl i, .bl j => some (.bl (neg ^^ decide (i = j)))
  | _, _ => none
def eqP (neg : Bool) : B2 := fun x y => match toPy x, toPy y with
  | some p, some q => if SeqAt.shaped p = true ∧ SeqAt.shaped q = true then some (.bl (neg ^^ PyData.eqv p q)) else none
  | _, _ => none
def bEqN (neg : Bool) : B2 := fun x y => (eqS neg x y).or (eqP neg x y)
theorem eqS_ok : Op2 F rEq (eqS false) := fun A bx byy e Q q => by
  rename_i dx dy z
  cases dx <;> try cases e
  all_goals cases dy <;> try cases e
  · have hx := bw_bl bx
    have hy := bw_bl byy
    subst hx hy
    exact ⟨rfl, by simpa using q (.bl _) _ (.refl _ _) A.ok (.bl _)⟩
  · have hx := bw_int bx
    have hy := bw_int byy
    subst hx hy
    exact ⟨rfl, by simpa using q (.bl _) _ (.refl _ _) A.ok (.bl _)⟩
  · have hx := bw_str bx
    have hy := bw_str byy
    subst hx hy
    exact ⟨rfl, by simpa using q (.bl _) _ (.refl _ _) A.ok (.bl _)⟩
theorem neS_ok : Op2 F rNe (eqS true) := fun A bx byy e Q q => by
  rename_i dx dy z
  cases dx <;> try cases e
  all_goals cases dy <;> try cases e
  · have hx := bw_bl bx
    have hy := bw_bl byy
    subst hx hy
    exact ⟨rfl, by simpa using q (.bl _) _ (.refl _ _) A.ok (.bl _)⟩
  · have hx := bw_int bx
    have hy := bw_int byy
    subst hx hy
    exact ⟨rfl, by simpa using q (.bl _) _ (.refl _ _) A.ok (.bl _)⟩
  · have hx := bw_str bx
    have hy := bw_str byy
    subst hx hy
    exact ⟨rfl, by simpa using q (.bl _) _ (.refl _ _) A.ok (.bl _)⟩
theorem eqP_elim {neg : Bool} {dx dy z : D} (e : eqP neg dx dy = some z) : ∃ p q, toPy dx = some p ∧ toPy dy = some q ∧ SeqAt.shaped p = true ∧ SeqAt.shaped q = true ∧ z = .bl (neg ^^ PyData.eqv p q) := by
  unfold eqP at e
  cases h1 : toPy dx with
  | none => rw [h1] at e; cases e
  | some p =>
    cases h2 : toPy dy with
    | none => rw [h1, h2] at e; cases e
    | some q =>
      rw [h1, h2] at e
      by_cases hc : SeqAt.shaped p = true ∧ SeqAt.shaped q = true
      · simp only [if_pos hc] at e
        cases e
        exact ⟨p, q, rfl, rfl, hc.1, hc.2, rfl⟩
      · simp only [if_neg hc] at e
        cases e
theorem eqP_ok : Op2 F (rEqD F.K) (eqP false) := fun A bx byy e Q q => by
  obtain ⟨p1, p2, h1, h2, s1, s2, rfl⟩ := eqP_elim e
  exact ⟨p1, p2, bw_py bx h1, bw_py byy h2, s1, s2, q _ _ (.refl _ _) A.ok (by rw [Bool.false_xor]; exact .bl _)⟩
theorem neP_ok : Op2 F (rNeD F.K) (eqP true) := fun A bx byy e Q q => by
  obtain ⟨p1, p2, h1, h2, s1, s2, rfl⟩ := eqP_elim e
  exact ⟨p1, p2, bw_py bx h1, bw_py byy h2, s1, s2, q _ _ (.refl _ _) A.ok (by rw [Bool.true_xor]; exact .bl _)⟩
variable {k : Nat}
theorem eqR (hr : Room k X.A) (hK : F.K = X.K) : OpR X (compareOp .Eq) (fun x y H Q => rEq x y H Q ∨ rEqD F.K x y H Q) := by
  rw [hK]
  exact op_eq.or (op_eqD hr.units)
theorem neR (hr : Room k X.A) (hK : F.K = X.K) : OpR X (compareOp .NotEq) (fun x y H Q => rNe x y H Q ∨ rNeD F.K x y H Q) := by
  rw [hK]
  exact op_ne.or (op_neD hr.units)
theorem dd_eq (hr : Room k X.A) (ha : PE X a (lB F da)) (hb : PE X b (lB F db)) (hK : F.K = X.K := by rfl) : PE X (.Compare a [.Eq] [b] pos) (lC F (dO2 (bEqN false) da db)) := dd_cmp (Op2.or eqS_ok eqP_ok) (eqR hr hK) ha hb (nomark _)
theorem dt_eq (hr : Room k X.A) (ha : PE X a (lB F da)) (hb : PE X b (lB F db)) (hK : F.K = X.K := by rfl) : PT X (.Compare a [.Eq] [b] pos) (lT F (dT (dO2 (bEqN false) da db))) := dt_cmp (Op2.or eqS_ok eqP_ok) (eqR hr hK) ha hb (nomark _)
theorem dd_ne (hr : Room k X.A) (ha : PE X a (lB F da)) (hb : PE X b (lB F db)) (hK : F.K = X.K := by rfl) : PE X (.Compare a [.NotEq] [b] pos) (lC F (dO2 (bEqN true) da db)) := dd_cmp (Op2.or neS_ok neP_ok) (neR hr hK) ha hb (nomark _)
theorem dt_ne (hr : Room k X.A) (ha : PE X a (lB F da)) (hb : PE X b (lB F db)) (hK : F.K = X.K := by rfl) : PT X (.Compare a [.NotEq] [b] pos) (lT F (dT (dO2 (bEqN true) da db))) := dt_cmp (Op2.or neS_ok neP_ok) (neR hr hK) ha hb (nomark _)
def D.isN : D → Bool
  | .non => true | _ => false
def bIsN (neg : Bool) : B2
  | x, .non => some (.bl (neg ^^ x.isN))
  | _, _ => none
theorem isN_iff {L : List Addr} {H : Hp} {v : V} {x : D} (h : Bw F L H v x) : decide (v = .non) = x.isN := by
  cases x with
  | non => rw [bw_non h]; rfl
  | bl _ => rw [bw_bl h]; rfl
  | int _ => rw [bw_int h]; rfl
  | str _ => rw [bw_str h]; rfl
  | lst _ => obtain ⟨a, vs, rfl, _⟩ := bw_lst h; rfl
  | tup _ => obtain ⟨a, vs, rfl, _⟩ := bw_tup h; rfl
  | dic _ => obtain ⟨a, vs, rfl, _⟩ := bw_dic h; rfl
  | dct _ => obtain ⟨a, vs, rfl, _⟩ := bw_dct h; rfl
  | ktp _ =>
    rcases h with h | ⟨e, h1, h2, h3⟩
    · cases h; rfl
    · cases e <;> cases h3
  | obj _ _ =>
    rcases h with h | ⟨e, h1, h2, h3⟩
    · cases h; rfl
    · cases e <;> cases h3
  | bag =>
    rcases h with h | ⟨e, h1, h2, h3⟩
    · cases h; rfl
    · cases e <;> cases h3
theorem notN_ok : Op2 F (fun x y H Q => y = .non ∧ Q (.bl (!decide (x = .non))) H) (bIsN true) := fun A bx byy e Q q => by
  rename_i dx dy z
  cases dy <;> try cases e
  exact ⟨bw_non byy, by rw [isN_iff bx]; simpa using q (.bl _) _ (.refl _ _) A.ok (.bl _)⟩
theorem dt_isnot (ha : PE X a (lB F da)) (hb : PE X b (lB F db)) : PT X (.Compare a [.IsNot] [b] pos) (lT F (dT (dO2 (bIsN true) da db))) := dt_cmp notN_ok op_notN ha hb (nomark _)
end
end DL
namespace DL
open PySem PySem.Spec PyProof.Rows L2 RK
def valD {κ : Type} [DecidableEq κ] (kds : List (κ × D)) (k : κ) : Option D := (kds.find? fun kv => decide (kv.1 = k)).map (·.2)
def putD {κ : Type} [DecidableEq κ] (kds : List (κ × D)) (k : κ) (v : D) : List (κ × D) :=
  if (kds.any fun kv => decide (kv.1 = k)) = true then kds.map (fun kv => if kv.1 = k then (kv.1, v) else kv) else kds ++ [(k, v)]
section
variable {K : PySem.W.Frag} {N : Addr → Prop} {W : Wd} {H H' : Hp} {κ : Type} [DecidableEq κ]
theorem val_rel {k : κ} : ∀ {kvs : List (κ × V)} {kds : List (κ × D)}, kvs.map (·.1) = kds.map (·.1) → DdAll K N W H (kvs.map (·.2)) (kds.map (·.2)) →
    (valV kvs k = none ∧ valD kds k = none) ∨ ∃ v d, valV kvs k = some v ∧ valD kds k = some d ∧ Dd K N W H v d
  | [], [], _, _ => .inl ⟨rfl, rfl⟩
  | [], _ :: _, e, _ => by cases e
  | _ :: _, [], e, _ => by cases e
  | (k1, v) :: kvs, (k2, d) :: kds, e, .cons h a => by
    have e1 : k1 = k2 := (List.cons.inj e).1
    have e2 := (List.cons.inj e).2
    subst e1
    by_cases hk : k1 = k
    · exact .inr ⟨v, d, by simp [valV, List.find?_cons, hk], by simp [valD, List.find?_cons, hk], h⟩
    · rcases val_rel (k := k) e2 a with ⟨h1, h2⟩ | ⟨v', d', h1, h2, h3⟩
      · left
        constructor
        · simpa [valV, List.find?_cons, hk] using h1
        · simpa [valD, List.find?_cons, hk] using h2
      · refine .inr ⟨v', d', ?_, ?_, h3⟩
        · simpa [valV, List.find?_cons, hk] using h1
        · simpa [valD, List.find?_cons, hk] using h2
theorem any_rel {k : κ} : ∀ {kvs : List (κ × V)} {kds : List (κ × D)}, kvs.map (·.1) = kds.map (·.1) → (kvs.any fun kv => decide (kv.1 = k)) = kds.any fun kv => decide (kv.1 = k)
  | [], [], _ => rfl
  | [], _ :: _, e => by cases e
  | _ :: _, [], e => by cases e
  | (k1, v) :: kvs, (k2, d) :: kds, e => by
    have e1 : k1 = k2 := (List.cons.inj e).1
    have ih := any_rel (k := k) (List.cons.inj e).2
    subst e1
    simp [List.any_cons, ih]
theorem put_rel {k : κ} {v : V} {d : D} {kvs : List (κ × V)} {kds : List (κ × D)} (e : kvs.map (·.1) = kds.map (·.1)) (a : DdAll K N W H (kvs.map (·.2)) (kds.map (·.2))) (h : Dd K N W H v d) :
    (putK kvs k v).map (·.1) = (putD kds k d).map (·.1) ∧ DdAll K N W H ((putK kvs k v).map (·.2)) ((putD kds k d).map (·.2)) := by
  unfold putK putD
  rw [any_rel e]
  split
  · have key : ∀ {kvs : List (κ × V)} {kds : List (κ × D)}, kvs.map (·.1) = kds.map (·.1) → DdAll K N W H (kvs.map (·.2)) (kds.map (·.2)) →
        (kvs.map (fun kv => if kv.1 = k then (kv.1, v) else kv)).map (·.1) = (kds.map (fun kv => if kv.1 = k then (kv.1, d) else kv)).map (·.1) ∧
        DdAll K N W H ((kvs.map (fun kv => if kv.1 = k then (kv.1, v) else kv)).map (·.2)) ((kds.map (fun kv => if kv.1 = k then (kv.1, d) else kv)).map (·.2)) := by
      intro kvs
      induction kvs with
      | nil =>
        intro kds e a
        cases kds with
        | nil => exact ⟨rfl, .nil⟩
        | cons _ _ => cases e
      | cons p kvs ih =>
        intro kds e a
        cases kds with
        | nil => cases e
        | cons p' kds =>
          obtain ⟨k1, v1⟩ := p
          obtain ⟨k2, d1⟩ := p'
          cases a with
          | cons h1 a =>
            have e1 : k1 = k2 := (List.cons.inj e).1
            subst e1
            obtain ⟨i1, i2⟩ := ih (List.cons.inj e).2 a
            by_cases hk : k1 = k
            · simp only [List.map_cons, if_pos hk]
              exact ⟨by rw [i1], .cons h i2⟩
            · simp only [List.map_cons, if_neg hk]
              exact ⟨by rw [i1], .cons h1 i2⟩
    exact key e a
  · rw [List.map_append, List.map_append, List.map_append, List.map_append, e]
    exact ⟨rfl, a.app (.cons h .nil)⟩
end
def keyD : D → Option Key
  | .int i => some (.inl i)
  | .str x => some (.inr x)
  | _ => none
def keysD : List D → Option (List Key)
  | [] => some []
  | d :: ds => (keyD d).bind fun k => (keysD ds).map fun ks => k :: ks
theorem keyD_v {F : Fx} {L : List Addr} {H : Hp} {v : V} {d : D} {k : Key} (b : Bw F L H v d) (e : keyD d = some k) : v = kV k := by
  cases d <;> cases e
  · exact bw_int b
  · exact bw_str b
theorem keysD_v {K : PySem.W.Frag} {N : Addr → Prop} {W : Wd} {H : Hp} : ∀ {vs : List V} {ds : List D} {ks : List Key}, DdAll K N W H vs ds → keysD ds = some ks → vs = ks.map kV
  | _, _, _, .nil, e => by cases e; rfl
  | _, _, _, .cons (v := v) (d := d) h a, e => by
    obtain ⟨k, h1, h2⟩ := Option.bind_eq_some_iff.mp e
    obtain ⟨ks, h3, h4⟩ := Option.map_eq_some_iff.mp h2
    subst h4
    rw [keysD_v a h3]
    cases d <;> cases h1
    · rw [dd_intE h]; rfl
    · rw [dd_strE h]; rfl
def getD : D → D → Option (Option D)
  | .dic kds, y => (keyD y).map fun k => valD kds k
  | .dct kds, .tup ys => (keysD ys).map fun k => valD kds k
  | _, _ => none
theorem getD_ok {F : Fx} {L : List Addr} {H : Hp} {x y : V} {dx dy : D} {r : Option D} (bx : Bw F L H x dx) (bb : Bw F L H y dy) (e : getD dx dy = some r) :
    ∃ a o, x = .ref a ∧ DGet H a y o ∧ ((o = none ∧ r = none) ∨ ∃ v d, o = some v ∧ r = some d ∧ Dd F.K (F.N L) F.W H v d) := by
  cases dx with
  | dic kds =>
    obtain ⟨a, kvs, rfl, h1, h2, h3⟩ := bw_dic bx
    obtain ⟨k, e1, e2⟩ := Option.map_eq_some_iff.mp e
    have hy := keyD_v bb e1
    subst hy e2
    exact ⟨a, valV kvs k, rfl, .inl ⟨kvs, k, h1, rfl, rfl⟩, val_rel h2 h3⟩
  | dct kds =>
    cases dy with
    | tup ys =>
      obtain ⟨a, kvs, rfl, h1, h2, h3⟩ := bw_dct bx
      obtain ⟨b, vs, rfl, g1, g2⟩ := bw_tup bb
      obtain ⟨k, e1, e2⟩ := Option.map_eq_some_iff.mp e
      have hy := keysD_v g2 e1
      subst hy e2
      exact ⟨a, valV kvs k, rfl, .inr ⟨kvs, k, b, h1, rfl, g1, rfl⟩, val_rel h2 h3⟩
    | _ => cases e
  | _ => cases e
def eqF : D → D → Bool
  | .non, .non => true
  | .bl a, .bl b => a == b
  | .bl a, .int b => (if a then 1 else 0) == b
  | .int a, .bl b => a == (if b then 1 else 0)
  | .int a, .int b => a == b
  | .str a, .str b => a == b
  | _, _ => false
def itemsD : D → Option (List D)
  | .lst xs => some xs
  | .tup xs => some xs
  | .ktp xs => some xs
  | _ => none
def inFlat (neg : Bool) : B2 := fun x y => (itemsD y).bind fun ys => if x.leaf = true ∧ ys.all D.leaf = true then some (.bl (neg ^^ ys.any fun y => eqF y x)) else none
def inDeep (neg : Bool) : B2 := fun x y => match toPy x, toPy y with
  | some p, some (.list ps) => if SeqAt.shaped p = true ∧ SeqAt.shaped (.list ps) = true then some (.bl (neg ^^ ps.any fun z => PyData.eqv z p)) else none
  | _, _ => none
def inDict (neg : Bool) : B2 := fun x y => (getD y x).map fun r => .bl (neg ^^ r.isSome)
def inSign (neg : Bool) : B2
  | .str x, .str z => match x.cps.toList with | [c] => some (.bl (neg ^^ decide (c ∈ z.cps.toList))) | _ => none
  | _, _ => none
def bIn (neg : Bool) : B2 := fun x y => (inFlat neg x y).or ((inDict neg x y).or ((inSign neg x y).or (inDeep neg x y)))
theorem leaf_flat {K : PySem.W.Frag} {N : Addr → Prop} {W : Wd} {H : Hp} {v : V} {d : D} (h : Dd K N W H v d) (l : d.leaf = true) : flatV v = true := by cases h <;> first | rfl | cases l
theorem leaf_eq {K : PySem.W.Frag} {N : Addr → Prop} {W : Wd} {H : Hp} {v u : V} {d e : D} (h : Dd K N W H v d) (l : d.leaf = true) (h' : Dd K N W H u e) (l' : e.leaf = true) : eqV v u = eqF d e := by
  cases h <;> cases h' <;> first | rfl | cases l | cases l'
theorem all_leaf {K : PySem.W.Frag} {N : Addr → Prop} {W : Wd} {H : Hp} {v : V} {d : D} (h : Dd K N W H v d) (l : d.leaf = true) : ∀ {vs : List V} {ds : List D}, DdAll K N W H vs ds → ds.all D.leaf = true → vs.all flatV = true ∧ inV v vs = ds.any fun y => eqF y d
  | _, _, .nil, _ => ⟨rfl, rfl⟩
  | _, _, .cons g a, q => by
    rw [List.all_cons, Bool.and_eq_true] at q
    obtain ⟨i1, i2⟩ := all_leaf h l a q.2
    refine ⟨by rw [List.all_cons, leaf_flat g q.1, i1]; rfl, ?_⟩
    unfold inV at i2 ⊢
    rw [List.any_cons, List.any_cons, i2, leaf_eq g q.1 h l]
section
variable {X : Cx} {F : Fx} {e a b c : Expr} {d da db dc : TDE} {pos : Pos}
theorem bw_items {L : List Addr} {H : Hp} {v : V} {y : D} {ys : List D} (h : Bw F L H v y) (e : itemsD y = some ys) : ∃ a vs, v = .ref a ∧ (SqL F.K H a vs ∨ SqT F.K H a vs) ∧ DdAll F.K (F.N L) F.W H vs ys := by
  cases y <;> cases e
  · obtain ⟨a, vs, rfl, h1, h2⟩ := bw_lst h
    exact ⟨a, vs, rfl, .inl (SqL.of h1), h2⟩
  · obtain ⟨a, vs, rfl, h1, h2⟩ := bw_tup h
    exact ⟨a, vs, rfl, .inr (SqT.of h1), h2⟩
  · rcases h with h | ⟨e, h1, h2, h3⟩
    · cases h with | ktp h1 h2 h3 h4 h5 h6 => exact ⟨_, _, rfl, .inr (.inr ⟨_, _, _, h1, h2, h3, h4, h5⟩), h6⟩
    · cases e <;> cases h3
theorem inFlat_ok (neg : Bool) : Op2 F (rIn F.K neg) (inFlat neg) := fun A bx byy e Q q => by
  obtain ⟨ys, h1, h2⟩ := Option.bind_eq_some_iff.mp e
  obtain ⟨⟨l1, l2⟩, rfl⟩ := guard_elim h2
  obtain ⟨p, vs, rfl, g1, g2⟩ := bw_items byy h1
  have dx := bw_leaf bx l1
  obtain ⟨i1, i2⟩ := all_leaf dx l1 g2 l2
  refine ⟨p, vs, rfl, g1, leaf_flat dx l1, i1, ?_⟩
  rw [i2]
  cases neg
  · rw [Bool.false_xor] at q
    exact q _ _ (.refl _ _) A.ok (.bl _)
  · rw [Bool.true_xor] at q
    exact q _ _ (.refl _ _) A.ok (.bl _)
theorem inDeep_elim {neg : Bool} {dx dy z : D} (e : inDeep neg dx dy = some z) : ∃ p ps, toPy dx = some p ∧ toPy dy = some (.list ps) ∧ SeqAt.shaped p = true ∧ SeqAt.shaped (.list ps) = true ∧ z = .bl (neg ^^ ps.any fun z => PyData.eqv z p) := by
  unfold inDeep at e
  cases h1 : toPy dx with
  | none => rw [h1] at e; cases e
  | some p =>
    cases h2 : toPy dy with
    | none => rw [h1, h2] at e; cases e
    | some q =>
      rw [h1, h2] at e
      cases q with
      | list ps =>
        obtain ⟨hc, rfl⟩ := guard_elim e
        exact ⟨p, ps, rfl, rfl, hc.1, hc.2, rfl⟩
      | _ => cases e
theorem inDeep_ok : Op2 F (rInD F.K) (inDeep false) := fun A bx byy e Q q => by
  obtain ⟨p1, p2, h1, h2, s1, s2, rfl⟩ := inDeep_elim e
  exact ⟨p1, p2, bw_py bx h1, bw_py byy h2, s1, s2, q _ _ (.refl _ _) A.ok (by rw [Bool.false_xor]; exact .bl _)⟩
theorem notInDeep_ok : Op2 F (rNotInD F.K) (inDeep true) := fun A bx byy e Q q => by
  obtain ⟨p1, p2, h1, h2, s1, s2, rfl⟩ := inDeep_elim e
  exact ⟨p1, p2, bw_py bx h1, bw_py byy h2, s1, s2, q _ _ (.refl _ _) A.ok (by rw [Bool.true_xor]; exact .bl _)⟩
def rDIn (neg : Bool) : R2 := fun x y H Q => ∃ a o, y = .ref a ∧ DGet H a x o ∧ Q (.bl (neg ^^ o.isSome)) H
theorem op_dIn (hu : X.A.units + 1 < cLine) : OpR X (compareOp .In) (rDIn false) := fun pins s σ H x y v u Q I rx ry h => by
  obtain ⟨a, o, rfl, g, q⟩ := h
  cases ry
  exact d_in hu I g rx fun s' I' => ⟨.bl _, H, I', rfl, by simpa using q⟩
theorem op_dNotIn (hu : X.A.units + 1 < cLine) : OpR X (compareOp .NotIn) (rDIn true) := fun pins s σ H x y v u Q I rx ry h => by
  obtain ⟨a, o, rfl, g, q⟩ := h
  cases ry
  exact d_notIn hu I g rx fun s' I' => ⟨.bl _, H, I', rfl, by simpa using q⟩
theorem inDict_ok (neg : Bool) : Op2 F (rDIn neg) (inDict neg) := fun A bx byy e Q q => by
  obtain ⟨r, h1, rfl⟩ := Option.map_eq_some_iff.mp e
  obtain ⟨a, o, rfl, g, h⟩ := getD_ok byy bx h1
  refine ⟨a, o, rfl, g, ?_⟩
  have : o.isSome = r.isSome := by
    rcases h with ⟨rfl, rfl⟩ | ⟨v, d, rfl, rfl, _⟩ <;> rfl
  rw [this]
  exact q _ _ (.refl _ _) A.ok (.bl _)
theorem inSign_ok (neg : Bool) : Op2 F (fun x y H Q => ∃ (c : Nat) (z : Str), x = .str ⟨#[c]⟩ ∧ y = .str z ∧ Q (.bl (neg ^^ decide (c ∈ z.cps.toList))) H) (inSign neg) := fun A bx byy e Q q => by
  rename_i dx dy z
  cases dx <;> try cases e
  cases dy <;> try cases e
  rename_i x y
  have hx := bw_str bx
  have hy := bw_str byy
  subst hx hy
  obtain ⟨⟨l⟩⟩ := x
  match l, e with
  | [c], e =>
    cases e
    exact ⟨c, y, rfl, rfl, q _ _ (.refl _ _) A.ok (.bl _)⟩
  | [], e => cases e
  | _ :: _ :: _, e => cases e
theorem op_inSg : OpR X (compareOp .In) (fun x y H Q => ∃ (c : Nat) (z : Str), x = .str ⟨#[c]⟩ ∧ y = .str z ∧ Q (.bl (false ^^ decide (c ∈ z.cps.toList))) H) := fun pins s σ H x y v u Q I rx ry ⟨c, z, e1, e2, q⟩ => op_in_sign pins s σ H x y v u Q I rx ry ⟨c, z, e1, e2, by rw [Bool.false_xor] at q; exact q⟩
theorem op_notInSg : OpR X (compareOp .NotIn) (fun x y H Q => ∃ (c : Nat) (z : Str), x = .str ⟨#[c]⟩ ∧ y = .str z ∧ Q (.bl (true ^^ decide (c ∈ z.cps.toList))) H) := fun pins s σ H x y v u Q I rx ry ⟨c, z, e1, e2, q⟩ => op_notIn_sign pins s σ H x y v u Q I rx ry ⟨c, z, e1, e2, by rw [Bool.true_xor] at q; exact q⟩
variable {k : Nat}
theorem u65' (hr : Room k X.A) : X.A.units + 65 < cLine := by have := hr.un; omega
theorem inR (hr : Room k X.A) (hK : F.K = X.K) : OpR X (compareOp .In) (fun x y H Q => rIn F.K false x y H Q ∨ (rDIn false x y H Q ∨ ((∃ (c : Nat) (z : Str), x = .str ⟨#[c]⟩ ∧ y = .str z ∧ Q (.bl (false ^^ decide (c ∈ z.cps.toList))) H) ∨ rInD F.K x y H Q))) := by
  rw [hK]
  exact op_in_seq.or ((op_dIn (hu_of hr)).or (op_inSg.or (op_inD (u65' hr))))
theorem notInR (hr : Room k X.A) (hK : F.K = X.K) : OpR X (compareOp .NotIn) (fun x y H Q => rIn F.K true x y H Q ∨ (rDIn true x y H Q ∨ ((∃ (c : Nat) (z : Str), x = .str ⟨#[c]⟩ ∧ y = .str z ∧ Q (.bl (true ^^ decide (c ∈ z.cps.toList))) H) ∨ rNotInD F.K x y H Q))) := by
  rw [hK]
  exact op_notIn_seq.or ((op_dNotIn (hu_of hr)).or (op_notInSg.or (op_notInD (u65' hr))))
theorem dd_in (hr : Room k X.A) (ha : PE X a (lB F da)) (hb : PE X b (lB F db)) (hm : behindInMarks .In b = false := by rfl) (hK : F.K = X.K := by rfl) : PE X (.Compare a [.In] [b] pos) (lC F (dO2 (bIn false) da db)) :=
  dd_cmp (Op2.or (inFlat_ok false) (Op2.or (inDict_ok false) (Op2.or (inSign_ok false) inDeep_ok))) (inR hr hK) ha hb hm
theorem dt_in (hr : Room k X.A) (ha : PE X a (lB F da)) (hb : PE X b (lB F db)) (hm : behindInMarks .In b = false := by rfl) (hK : F.K = X.K := by rfl) : PT X (.Compare a [.In] [b] pos) (lT F (dT (dO2 (bIn false) da db))) :=
  dt_cmp (Op2.or (inFlat_ok false) (Op2.or (inDict_ok false) (Op2.or (inSign_ok false) inDeep_ok))) (inR hr hK) ha hb hm
theorem dt_notin (hr : Room k X.A) (ha : PE X a (lB F da)) (hb : PE X b (lB F db)) (hm : behindInMarks .NotIn b = false := by rfl) (hK : F.K = X.K := by rfl) : PT X (.Compare a [.NotIn] [b] pos) (lT F (dT (dO2 (bIn true) da db))) :=
  dt_cmp (Op2.or (inFlat_ok true) (Op2.or (inDict_ok true) (Op2.or (inSign_ok true) notInDeep_ok))) (notInR hr hK) ha hb hm
def dChain (f g : B2) (da db dc : TDE) : TDE := fun env P => da env fun x => db env fun y => ob (f x y) fun z => match z with | .bl true => dc env fun w => ob (g y w) P | .bl false => P (.bl false) | _ => False
end
section
variable {X : Cx} {F : Fx} {e a b c : Expr} {es : List Expr} {d da db dc : TDE} {ds : TDA} {pos : Pos}
def aNil : TDA := fun _ P => P []
def aCons (d : TDE) (ds : TDA) : TDA := fun env P => d env fun x => ds env fun xs => P (x :: xs)
theorem l_nil : ∀ σ H Q, lA F aNil σ H Q → tNil σ H Q := fun σ H Q ⟨env, L, P, A, p, q⟩ => q [] [] H p (.refl _ _) A.ok .nil
theorem l_cons : ∀ σ H Q, lA F (aCons d ds) σ H Q → tCons (lC F d) (lA F ds) σ H Q := fun σ H Q ⟨env, L, P, A, p, q⟩ =>
  ⟨env, L, _, A, p, fun x v H1 px k1 o1 d1 => ⟨env, L, _, A.step k1 o1, px, fun xs vs H2 pxs k2 o2 d2 => q (x :: xs) (v :: vs) H2 pxs (k1.trans k2) o2 (.cons ((A.step k1 o1).kd k2 d1) d2)⟩⟩
theorem da_nil : PA X [] (lA F aNil) := PA.mono pa_nil l_nil
theorem da_cons (ha : PE X e (lC F d)) (hr : PA X es (lA F ds)) (hs : starEach (e :: es) X.env = (false, eval e X.env) :: starEach es X.env := by rfl) : PA X (e :: es) (lA F (aCons d ds)) := PA.mono (pa_cons ha hr hs) l_cons
theorem dk_nil : PK X [] (lA F aNil) := PK.mono pk_nil l_nil
theorem dk_cons {nm : Option Str} {kpos : Pos} {kws : List Keyword} (ha : PE X e (lC F d)) (hr : PK X kws (lA F ds)) : PK X (⟨nm, e, kpos⟩ :: kws) (lA F (aCons d ds)) := PK.mono (pk_cons ha hr) l_cons
def dTup (ds : TDA) : TDE := fun env P => ds env fun xs => xs.length ≤ sizeLine ∧ P (.tup xs)
def dLst (ds : TDA) : TDE := fun env P => ds env fun xs => xs.length ≤ sizeLine ∧ P (.lst xs)
theorem free_of {W : Wd} {H H1 : Hp} (k : KeepW W H H1) (o : W.ok H1) {a : Addr} (h : H1 a = none) : H a = none := by
  cases zz : H a with
  | none => rfl
  | some u =>
    by_cases ow : W.own a
    · obtain ⟨u2, e2⟩ := Wd.al o ow
      rw [h] at e2
      cases e2
    · rw [k a u ow zz] at h
      cases h
theorem dn_tup {x1} (h : PA X es (lA F ds)) : PE X (.Tuple es x1 pos) (lN F (dTup ds)) := PE.mono (pe_tup h) fun σ H Q ⟨env, L, P, A, p, q⟩ =>
  ⟨env, L, _, A, p, fun xs vs H1 pxs k1 o1 d1 => ⟨by rw [d1.len]; exact pxs.1, fun t ht => q _ t _ pxs.2 (k1.trans (.new ht)) (ok_new o1 ht) (free_of k1 o1 ht) (new_tupN (A.step k1 o1) ht d1)⟩⟩
theorem dn_lst (h : PA X es (lA F ds)) : PE X (.List es pos) (lN F (dLst ds)) := PE.mono (pe_lst h) fun σ H Q ⟨env, L, P, A, p, q⟩ =>
  ⟨env, L, _, A, p, fun xs vs H1 pxs k1 o1 d1 => ⟨by rw [d1.len]; exact pxs.1, fun t ht => q _ t _ pxs.2 (k1.trans (.new ht)) (ok_new o1 ht) (free_of k1 o1 ht) (new_lstN (A.step k1 o1) ht d1)⟩⟩
end
end DL
namespace DL
open PySem PySem.Spec PyProof.Rows L2 RK
theorem DdAll.at {K : PySem.W.Frag} {N : Addr → Prop} {W : Wd} {H : Hp} {vs : List V} {ds : List D} {i : Int} {d : D} (a : DdAll K N W H vs ds) (h : atI ds i = some d) : ∃ v, atI vs i = some v ∧ Dd K N W H v d := by
  unfold atI at h ⊢
  rw [a.len]
  obtain ⟨j, h1, h2⟩ := Option.bind_eq_some_iff.mp h
  obtain ⟨v, h3, h4⟩ := a.get h2
  exact ⟨v, by rw [h1]; exact h3, h4⟩
def ixSeq : B2
  | .lst xs, .int i => atI xs i
  | .tup xs, .int i => atI xs i
  | .ktp xs, .int i => atI xs i
  | _, _ => none
def ixStr : B2
  | .str z, .int i => if z.length ≤ sizeLine then (atI z.cps.toList i).map fun c => .str ⟨#[c]⟩ else none
  | _, _ => none
def ixDic : B2 := fun x y => (getD x y).bind fun r => r
def bIx : B2 := fun x y => (ixSeq x y).or ((ixStr x y).or (ixDic x y))
section
variable {X : Cx} {F : Fx} {e a b c : Expr} {d da db dc : TDE} {pos : Pos}
theorem ixSeq_ok : Op2 F (fun x y H Q => rIxL F.K x y H Q ∨ rIxT F.K x y H Q) ixSeq := fun A bx byy e Q q => by
  rename_i dx dy z
  cases dx <;> try cases e
  all_goals cases dy <;> try cases e
  · obtain ⟨p, vs, rfl, h1, h2⟩ := bw_lst bx
    have hy := bw_int byy
    subst hy
    obtain ⟨v, h3, h4⟩ := h2.at e
    exact .inl ⟨p, vs, _, v, rfl, rfl, SqL.of h1, h3, q _ _ (.refl _ _) A.ok h4⟩
  · obtain ⟨p, vs, rfl, h1, h2⟩ := bw_tup bx
    have hy := bw_int byy
    subst hy
    obtain ⟨v, h3, h4⟩ := h2.at e
    exact .inr ⟨p, vs, _, v, rfl, rfl, SqT.of h1, h3, q _ _ (.refl _ _) A.ok h4⟩
  · obtain ⟨p, vs, rfl, h1, h2⟩ := bw_items bx rfl
    have hy := bw_int byy
    subst hy
    obtain ⟨v, h3, h4⟩ := h2.at e
    rcases h1 with h1 | h1
    · exact .inl ⟨p, vs, _, v, rfl, rfl, h1, h3, q _ _ (.refl _ _) A.ok h4⟩
    · exact .inr ⟨p, vs, _, v, rfl, rfl, h1, h3, q _ _ (.refl _ _) A.ok h4⟩
theorem ixStr_ok : Op2 F rIxS ixStr := fun A bx byy e Q q => by
  rename_i dx dy z
  cases dx <;> try cases e
  cases dy <;> try cases e
  rename_i x i
  have hx := bw_str bx
  have hy := bw_int byy
  subst hx hy
  replace e : (if x.length ≤ sizeLine then (atI x.cps.toList i).map fun c => D.str ⟨#[c]⟩ else none) = some z := e
  by_cases hl : x.length ≤ sizeLine
  · rw [if_pos hl] at e
    obtain ⟨c, h1, rfl⟩ := Option.map_eq_some_iff.mp e
    exact ⟨x, i, c, rfl, rfl, hl, h1, q _ _ (.refl _ _) A.ok (.str _)⟩
  · rw [if_neg hl] at e
    cases e
def rDG : R2 := fun x y H Q => ∃ a v, x = .ref a ∧ DGet H a y (some v) ∧ Q v H
theorem ix_dict (hu : X.A.units + 1 < cLine) : IxR X rDG := fun value slice pins s σ H x y v u Q I rx ry h hs => by
  obtain ⟨a, w, e1, g, q⟩ := h
  subst e1
  cases rx
  have tI := dict_typeIs I g
  have got : wpAny (model X.prog X.w) X.A (getItem (.ref a) u) (EP X pins σ Q) X.xe s := d_getItem hu I g ry fun w' s3 I3 rw' => ⟨w, H, I3, rw', q⟩
  unfold PyProof.Rows.subscriptTail
  refine wpAny_bind ?_
  rw [getitemInPython_of_ne tI.not_modules]
  refine wpAny_bind (wpAny_specialOf tI PySem.F.slot_dict_getitem.lookup ?_)
  have behind : wpAny (model X.prog X.w) X.A (subscripted slice false (.ref a) u) (fun z s3 => wpAny (model X.prog X.w) X.A (letTemporaryGo value (.ref a) z >>= fun _ => pure z) (EP X pins σ Q) X.xe s3) X.xe s := by
    rw [hs]
    exact wpAny_operating (wpAny_mono got (fun z s3 h3 => wpAny_bind (wpAny_letTemporaryGo (wpAny_pure h3))) fun _ _ k => k)
  first
    | exact wpAny_pure (wpAny_bind behind)
    | exact wpAny_bind (wpAny_pure (wpAny_bind behind))
    | exact wpAny_bind behind
theorem ixDic_ok : Op2 F rDG ixDic := fun A bx byy e Q q => by
  obtain ⟨r, h1, h2⟩ := Option.bind_eq_some_iff.mp e
  subst h2
  obtain ⟨a, o, rfl, g, h⟩ := getD_ok bx byy h1
  rcases h with ⟨_, h⟩ | ⟨v, d, rfl, h, hd⟩
  · cases h
  · cases h
    exact ⟨a, v, rfl, g, q _ _ (.refl _ _) A.ok hd⟩
variable {k : Nat}
theorem ixR (hr : Room k X.A) (hK : F.K = X.K) : IxR X (fun x y H Q => (rIxL F.K x y H Q ∨ rIxT F.K x y H Q) ∨ (rIxS x y H Q ∨ rDG x y H Q)) := by
  rw [hK]
  exact (ix_list.or ix_tup).or (ix_str.or (ix_dict (hu_of hr)))
theorem dd_ix (hr : Room k X.A) (ha : PE X a (lB F da)) (hb : PE X b (lB F db)) (hs : PlainIx b := by intro _ _; rfl) (hK : F.K = X.K := by rfl) : PE X (.Subscript a b pos) (lC F (dO2 bIx da db)) :=
  PE.mono (pe_ix (ixR hr hK) ha hb hs) (lop2 (Op2.or ixSeq_ok (Op2.or ixStr_ok ixDic_ok)))
def cutD (xs : List D) (lo hi : Option Int) : List D := (xs.drop (HT.sIx xs.length 0 lo)).take (HT.sIx xs.length xs.length hi - HT.sIx xs.length 0 lo)
theorem DdAll.cut {K : PySem.W.Frag} {N : Addr → Prop} {W : Wd} {H : Hp} {vs : List V} {ds : List D} (a : DdAll K N W H vs ds) (lo hi : Option Int) : DdAll K N W H (cutV vs lo hi) (cutD ds lo hi) := by
  unfold cutV cutD
  rw [a.len]
  exact (a.drop _).take _
abbrev TDO := De → (Option Int → Prop) → Prop
def oNone : TDO := fun _ P => P none
def oSome (d : TDE) : TDO := fun env P => d env fun x => match x with | .int i => P (some i) | _ => False
def lO (F : Fx) (d : TDO) : TO := fun σ H Q => ∃ env L P, Abs F env σ L H ∧ d env P ∧ ∀ x H', P x → KeepW F.W H H' → F.W.ok H' → Q x H'
theorem PO.mono {e : Option Expr} {t t' : TO} (h : PO X e t) (m : ∀ σ H Q, t' σ H Q → t σ H Q) : PO X e t' := ⟨fun pins s σ H Q I q => h.run pins s σ H Q I (m σ H Q q)⟩
theorem do_none : PO X none (lO F oNone) := PO.mono po_none fun σ H Q ⟨env, L, P, A, p, q⟩ => q none H p (.refl _ _) A.ok
theorem do_some (h : PE X e (lC F d)) : PO X (some e) (lO F (oSome d)) := PO.mono (po_some h) fun σ H Q ⟨env, L, P, A, p, q⟩ => ⟨env, L, _, A, p, fun x v H1 px k1 o1 d1 => by
  cases x with
  | int i => cases d1; exact ⟨i, rfl, q _ H1 px k1 o1⟩
  | _ => exact px.elim⟩
def cutL (x : D) (lo hi : Option Int) : Option D := match x with
  | .lst xs => some (.lst (cutD xs lo hi))
  | _ => none
def cutA (x : D) (lo hi : Option Int) : Option D := match x with
  | .lst xs => some (.lst (cutD xs lo hi))
  | .tup xs => if HT.sIx xs.length 0 lo = 0 ∧ HT.sIx xs.length xs.length hi = xs.length then none else some (.tup (cutD xs lo hi))
  | .str z => if z.length ≤ sizeLine then some (.str (cutS z lo hi)) else none
  | _ => none
def dCut (f : D → Option Int → Option Int → Option D) (de : TDE) (dl dh : TDO) : TDE := fun env P => de env fun x => dl env fun l => dh env fun h => ob (f x l h) P
theorem slR (hK : F.K = X.K) : SlR X (fun x lo hi H Q => rSlL F.K x lo hi H Q ∨ (rSlT F.K x lo hi H Q ∨ rSlS x lo hi H Q)) := by
  rw [hK]
  exact sl_list.or (sl_tup.or sl_str)
variable {lo hi : Option Expr} {dl dh : TDO} {p2 : Pos}
theorem dd_cut (he : PE X e (lB F d)) (hl : PO X lo (lO F dl)) (hu : PO X hi (lO F dh)) (hK : F.K = X.K := by rfl) : PE X (.Subscript e (.Slice lo hi none p2) pos) (lC F (dCut cutA d dl dh)) :=
  PE.mono (pe_slice (slR hK) he hl hu) fun σ H Q ⟨env, L, P, A, p, q⟩ => ⟨env, L, _, A, p, fun x v H1 px k1 o1 b1 => ⟨env, L, _, A.step k1 o1, px, fun l H2 pl k2 o2 => ⟨env, L, _, (A.step k1 o1).step k2 o2, pl, fun h H3 ph k3 o3 => by
    obtain ⟨z, e, pz⟩ := ob_elim ph
    have A3 := ((A.step k1 o1).step k2 o2).step k3 o3
    have b3 := (b1.step (A.step k1 o1) k2).step ((A.step k1 o1).step k2 o2) k3
    have kk := (k1.trans k2).trans k3
    cases x with
    | lst xs =>
      cases e
      obtain ⟨a, vs, rfl, h1, h2⟩ := bw_lst b3
      exact .inl ⟨a, vs, rfl, SqL.of h1, fun t ht => q _ _ _ pz (kk.trans (.new ht)) (ok_new o3 ht) (new_lst A3 ht (h2.cut l h))⟩
    | tup xs =>
      obtain ⟨a, vs, rfl, h1, h2⟩ := bw_tup b3
      replace e : (if HT.sIx xs.length 0 l = 0 ∧ HT.sIx xs.length xs.length h = xs.length then none else some (D.tup (cutD xs l h))) = some z := e
      by_cases hc : HT.sIx xs.length 0 l = 0 ∧ HT.sIx xs.length xs.length h = xs.length
      · rw [if_pos hc] at e
        cases e
      · rw [if_neg hc] at e
        cases e
        exact .inr (.inl ⟨a, vs, rfl, SqT.of h1, by rw [h2.len]; exact hc, fun t ht => q _ _ _ pz (kk.trans (.new ht)) (ok_new o3 ht) (new_tup A3 ht (h2.cut l h))⟩)
    | str s =>
      have hs := bw_str b3
      subst hs
      obtain ⟨hc, rfl⟩ := guard_elim e
      exact .inr (.inr ⟨s, rfl, hc, q _ _ _ pz kk o3 (.str _)⟩)
    | _ => cases e⟩⟩⟩
theorem dn_cut (he : PE X e (lB F d)) (hl : PO X lo (lO F dl)) (hu : PO X hi (lO F dh)) (hK : F.K = X.K := by rfl) : PE X (.Subscript e (.Slice lo hi none p2) pos) (lN F (dCut cutL d dl dh)) :=
  PE.mono (pe_slice (slR hK) he hl hu) fun σ H Q ⟨env, L, P, A, p, q⟩ => ⟨env, L, _, A, p, fun x v H1 px k1 o1 b1 => ⟨env, L, _, A.step k1 o1, px, fun l H2 pl k2 o2 => ⟨env, L, _, (A.step k1 o1).step k2 o2, pl, fun h H3 ph k3 o3 => by
    obtain ⟨z, e, pz⟩ := ob_elim ph
    have A3 := ((A.step k1 o1).step k2 o2).step k3 o3
    have b3 := (b1.step (A.step k1 o1) k2).step ((A.step k1 o1).step k2 o2) k3
    have kk := (k1.trans k2).trans k3
    cases x with
    | lst xs =>
      cases e
      obtain ⟨a, vs, rfl, h1, h2⟩ := bw_lst b3
      exact .inl ⟨a, vs, rfl, SqL.of h1, fun t ht => q _ _ _ pz (kk.trans (.new ht)) (ok_new o3 ht) (free_of kk o3 ht) (new_lstN A3 ht (h2.cut l h))⟩
    | _ => cases e⟩⟩⟩
def dRev (d : TDE) : TDE := fun env P => d env fun x => match x with | .lst xs => P (.lst xs.reverse) | _ => False
theorem dn_rev {k' : Nat} {q1 q2 q3 : Pos} (he : PE X e (lB F d)) (hK : F.K = X.K := by rfl) : PE X (.Subscript e (.Slice none none (some (.UnaryOp .USub (.Constant (.int 1) k' q1) q2)) q3) pos) (lN F (dRev d)) :=
  PE.mono (pe_revL he) fun σ H Q ⟨env, L, P, A, p, q⟩ => ⟨env, L, _, A, p, fun x v H1 px k1 o1 b1 => by
    cases x with
    | lst xs =>
      obtain ⟨a, vs, rfl, h1, h2⟩ := bw_lst b1
      exact ⟨a, vs, rfl, SqL.of h1, fun t ht => q _ _ _ px (k1.trans (.new ht)) (ok_new o1 ht) (free_of k1 o1 ht) (new_lstN (A.step k1 o1) ht h2.rev)⟩
    | _ => exact px.elim⟩
theorem lchain {r r' : R2} {f g : B2} (h : Op2 F r f) (h' : Op2 F r' g) : ∀ σ H Q, lC F (dChain f g da db dc) σ H Q → tChain r r' (lB F da) (lB F db) (lB F dc) σ H Q := fun σ H Q ⟨env, L, P, A, p, q⟩ =>
  ⟨env, L, _, A, p, fun x v H1 px k1 o1 b1 => ⟨env, L, _, A.step k1 o1, px, fun y u H2 py k2 o2 b2 => by
    obtain ⟨z, e, pz⟩ := ob_elim py
    have A2 := (A.step k1 o1).step k2 o2
    refine h A2 (b1.step (A.step k1 o1) k2) b2 e _ fun w H3 k3 o3 d3 => ?_
    cases z with
    | bl z =>
      have hw := dd_blE d3
      subst hw
      refine ⟨z, rfl, ?_⟩
      cases z with
      | false => exact iteF (q _ _ H3 pz ((k1.trans k2).trans k3) o3 d3)
      | true => exact iteT ⟨env, L, _, A2.step k3 o3, pz, fun t tv H4 pt k4 o4 b4 => by
          obtain ⟨z2, e2, pz2⟩ := ob_elim pt
          exact h' ((A2.step k3 o3).step k4 o4) ((b2.step A2 k3).step (A2.step k3 o3) k4) b4 e2 Q fun w2 H5 k5 o5 d5 => q _ _ H5 pz2 ((((k1.trans k2).trans k3).trans k4).trans k5) o5 d5⟩
    | _ => exact pz.elim⟩⟩
def dNeg (d : TDE) : TDE := fun env P => d env fun x => match x with | .int i => P (.int (-i)) | _ => False
theorem dd_neg (ha : PE X a (lC F d)) : PE X (.UnaryOp .USub a pos) (lC F (dNeg d)) := PE.mono (pe_un un_neg ha) fun σ H Q ⟨env, L, P, A, p, q⟩ => ⟨env, L, _, A, p, fun x v H1 px k1 o1 d1 => by
  cases x with
  | int i => cases d1; exact ⟨i, rfl, q _ _ H1 px k1 o1 (.int _)⟩
  | _ => exact px.elim⟩
def truD : D → Option Bool
  | .non => some false
  | .bl b => some b
  | .int i => some (i != 0)
  | .str y => if y.length ≤ sizeLine then some ((y.length : Int) != 0) else none
  | .lst xs => some (!xs.isEmpty)
  | .tup xs => some (!xs.isEmpty)
  | _ => none
def dTru (d : TDE) : TDT := fun env P => d env fun x => ob (truD x) P
theorem empty_len {K : PySem.W.Frag} {N : Addr → Prop} {W : Wd} {H : Hp} {vs : List V} {ds : List D} (a : DdAll K N W H vs ds) : (!ds.isEmpty) = !vs.isEmpty := by cases a <;> rfl
theorem dt_tru (ha : PE X a (lB F d)) (he : ∀ whole, isTrue a X.env whole = (do let v ← whole; standAt a.pos; holding [v] (truthy v)) := by intro _; rfl) (hK : F.K = X.K := by rfl) : PT X a (lT F (dTru d)) := PT.mono (pt_truth ha he) fun σ H Q ⟨env, L, P, A, p, q⟩ => ⟨env, L, _, A, p, fun x v H1 px k1 o1 b1 => by
  obtain ⟨z, e, pz⟩ := ob_elim px
  refine ⟨z, ?_, q _ H1 pz k1 o1⟩
  rw [← hK]
  cases x with
  | non => rw [bw_non b1]; cases e; rfl
  | bl _ => rw [bw_bl b1]; cases e; rfl
  | int _ => rw [bw_int b1]; cases e; rfl
  | str _ =>
    rw [bw_str b1]
    obtain ⟨hc, rfl⟩ := guard_elim e
    exact ⟨hc, rfl⟩
  | lst _ =>
    obtain ⟨a, vs, rfl, h1, h2⟩ := bw_lst b1
    cases e
    exact .inl ⟨vs, SqL.of h1, empty_len h2⟩
  | tup _ =>
    obtain ⟨a, vs, rfl, h1, h2⟩ := bw_tup b1
    cases e
    exact .inr (.inl ⟨vs, SqT.of h1, empty_len h2⟩)
  | _ => cases e⟩
end
end DL
namespace DL
open PySem PySem.Spec PyProof.Rows L2 RK
abbrev BwA (F : Fx) (L : List Addr) (H : Hp) : List V → List D → Prop := Paired (Bw F L H)
def lAb (F : Fx) (d : TDA) : TA := fun σ H Q => ∃ env L P, Abs F env σ L H ∧ d env P ∧ ∀ xs vs H', P xs → KeepW F.W H H' → F.W.ok H' → BwA F L H' vs xs → Q vs H'
section
variable {X : Cx} {F : Fx} {e a b c : Expr} {es : List Expr} {d da db dc : TDE} {ds : TDA} {pos : Pos}
theorem db_nil : PA X [] (lAb F aNil) := PA.mono pa_nil fun σ H Q ⟨env, L, P, A, p, q⟩ => q [] [] H p (.refl _ _) A.ok .nil
theorem db_cons (ha : PE X e (lB F d)) (hr : PA X es (lAb F ds)) (hs : starEach (e :: es) X.env = (false, eval e X.env) :: starEach es X.env := by rfl) : PA X (e :: es) (lAb F (aCons d ds)) := PA.mono (pa_cons ha hr hs) fun σ H Q ⟨env, L, P, A, p, q⟩ =>
  ⟨env, L, _, A, p, fun x v H1 px k1 o1 d1 => ⟨env, L, _, A.step k1 o1, px, fun xs vs H2 pxs k2 o2 d2 => q (x :: xs) (v :: vs) H2 pxs (k1.trans k2) o2 (.cons (d1.step (A.step k1 o1) k2) d2)⟩⟩
def Ca (F : Fx) (r : List V → Hp → VK → Prop) (f : List D → Option D) : Prop := ∀ {env : De} {σ : L2.St} {L : List Addr} {H : Hp} {vs : List V} {ds : List D} {z : D}, Abs F env σ L H → BwA F L H vs ds → f ds = some z →
  ∀ Q : VK, (∀ v H', KeepW F.W H H' → F.W.ok H' → Dd F.K (F.N L) F.W H' v z → Q v H') → r vs H Q
def CaN (F : Fx) (r : List V → Hp → VK → Prop) (f : List D → Option D) : Prop := ∀ {env : De} {σ : L2.St} {L : List Addr} {H : Hp} {vs : List V} {ds : List D} {z : D}, Abs F env σ L H → BwA F L H vs ds → f ds = some z →
  ∀ Q : VK, (∀ a H', KeepW F.W H H' → F.W.ok H' → H a = none → NewV F L H' a z → Q (.ref a) H') → r vs H Q
def dCa (f : List D → Option D) (ds : TDA) : TDE := fun env P => ds env fun xs => ob (f xs) P
theorem lca {r : List V → Hp → VK → Prop} {f : List D → Option D} (h : Ca F r f) : ∀ σ H Q, lC F (dCa f ds) σ H Q → tCB r (lAb F ds) σ H Q := fun σ H Q ⟨env, L, P, A, p, q⟩ =>
  ⟨env, L, _, A, p, fun xs vs H1 px k1 o1 d1 => by
    obtain ⟨z, e, pz⟩ := ob_elim px
    exact h (A.step k1 o1) d1 e Q fun v H2 k2 o2 d2 => q z v H2 pz (k1.trans k2) o2 d2⟩
theorem lcaN {r : List V → Hp → VK → Prop} {f : List D → Option D} (h : CaN F r f) : ∀ σ H Q, lN F (dCa f ds) σ H Q → tCB r (lAb F ds) σ H Q := fun σ H Q ⟨env, L, P, A, p, q⟩ =>
  ⟨env, L, _, A, p, fun xs vs H1 px k1 o1 d1 => by
    obtain ⟨z, e, pz⟩ := ob_elim px
    exact h (A.step k1 o1) d1 e Q fun v H2 k2 o2 n2 d2 => q z v H2 pz (k1.trans k2) o2 (free_of k1 o1 n2) d2⟩
theorem CallR.or {f : Value} {r r' : List V → Hp → VK → Prop} (h : CallR X f r) (h' : CallR X f r') : CallR X f (fun xs H Q => r xs H Q ∨ r' xs H Q) := fun pins s σ H xs us Q I rx q => by
  rcases q with q | q
  · exact h pins s σ H xs us Q I rx q
  · exact h' pins s σ H xs us Q I rx q
def lenD : List D → Option D
  | [.lst xs] => some (.int xs.length)
  | [.tup xs] => some (.int xs.length)
  | [.ktp xs] => some (.int xs.length)
  | [.str z] => if z.length ≤ sizeLine then some (.int z.length) else none
  | [.dic kds] => some (.int kds.length)
  | _ => none
theorem call_lenR : CallR X (.builtin "len") (fun xs H Q => ∃ a kvs, xs = [V.ref a] ∧ Rd H a (.dK kvs) ∧ Q (.int kvs.length) H) := fun pins s σ H xs us Q I r h => by
  obtain ⟨a, kvs, rfl, ha, q⟩ := h
  obtain ⟨u, rfl, ru⟩ := vals1 r
  cases ru
  exact d_len I ha fun t s' I' => ⟨.int kvs.length, H, I', ⟨t, rfl⟩, q⟩
theorem len_ok : Ca F (fun xs H Q => (∃ x n, xs = [x] ∧ LenV F.K x H n ∧ Q (.int n) H) ∨ (∃ a kvs, xs = [V.ref a] ∧ Rd H a (.dK kvs) ∧ Q (.int kvs.length) H)) lenD := fun A b e Q q => by
  rename_i dl z
  match dl, b, e with
  | [.lst xs], .cons h .nil, e =>
    obtain ⟨a, vs, rfl, h1, h2⟩ := bw_lst h
    cases e
    exact .inl ⟨_, _, rfl, .inl ⟨vs, SqL.of h1, rfl⟩, by rw [h2.len]; exact q _ _ (.refl _ _) A.ok (.int _)⟩
  | [.tup xs], .cons h .nil, e =>
    obtain ⟨a, vs, rfl, h1, h2⟩ := bw_tup h
    cases e
    exact .inl ⟨_, _, rfl, .inr ⟨vs, SqT.of h1, rfl⟩, by rw [h2.len]; exact q _ _ (.refl _ _) A.ok (.int _)⟩
  | [.ktp xs], .cons h .nil, e =>
    obtain ⟨a, vs, rfl, h1, h2⟩ := bw_items h rfl
    cases e
    exact .inl ⟨_, vs.length, rfl, h1.imp (fun h => ⟨vs, h, rfl⟩) (fun h => ⟨vs, h, rfl⟩), by rw [h2.len]; exact q _ _ (.refl _ _) A.ok (.int _)⟩
  | [.str x], .cons h .nil, e =>
    have hx := bw_str h
    subst hx
    obtain ⟨hc, rfl⟩ := guard_elim e
    exact .inl ⟨_, _, rfl, ⟨hc, rfl⟩, q _ _ (.refl _ _) A.ok (.int _)⟩
  | [.dic kds], .cons h .nil, e =>
    obtain ⟨a, kvs, rfl, h1, h2, h3⟩ := bw_dic h
    cases e
    have : kvs.length = kds.length := by simpa using congrArg List.length h2
    exact .inr ⟨_, _, rfl, h1, by rw [this]; exact q _ _ (.refl _ _) A.ok (.int _)⟩
theorem lenR (hK : F.K = X.K) : CallR X (.builtin "len") (fun xs H Q => (∃ x n, xs = [x] ∧ LenV F.K x H n ∧ Q (.int n) H) ∨ (∃ a kvs, xs = [V.ref a] ∧ Rd H a (.dK kvs) ∧ Q (.int kvs.length) H)) := by
  rw [hK]
  exact CallR.or call_len call_lenR
variable {p : Pos}
theorem dd_len (hg : Gl X "len") (hm : X.mg "len" = none) (ha : PE X e (lB F d)) (he : starEach [e] X.env = (false, eval e X.env) :: starEach [] X.env := by rfl) (hpl : (backTo pos (starEach [] X.env)).any (·.1) = false := by rfl) (hK : F.K = X.K := by rfl) :
    PE X (.Call (.Name "len" p) [e] [] pos) (lC F (dCa lenD (aCons d aNil))) := PE.mono (pe_callB (lenR hK) hg hm (by decide +kernel) (db_cons ha db_nil he) (by decide) (by decide) he hpl) (lca len_ok)
def blsD : List D → Option (List Bool)
  | [] => some []
  | .bl b :: ds => (blsD ds).map fun bs => b :: bs
  | _ => none
def intsD : List D → Option (List Int)
  | [] => some []
  | .int i :: ds => (intsD ds).map fun is => i :: is
  | _ => none
def strsD : List D → Option (List Str)
  | [] => some []
  | .str i :: ds => (strsD ds).map fun is => i :: is
  | _ => none
theorem bls_v {K : PySem.W.Frag} {N : Addr → Prop} {W : Wd} {H : Hp} : ∀ {vs : List V} {ds : List D} {bs : List Bool}, DdAll K N W H vs ds → blsD ds = some bs → vs = bs.map V.bl
  | _, _, _, .nil, e => by cases e; rfl
  | _, _, _, .cons (d := d) h a, e => by
    cases d <;> try cases e
    obtain ⟨bs, h1, rfl⟩ := Option.map_eq_some_iff.mp e
    rw [bls_v a h1, dd_blE h]
    rfl
theorem ints_v {K : PySem.W.Frag} {N : Addr → Prop} {W : Wd} {H : Hp} : ∀ {vs : List V} {ds : List D} {bs : List Int}, DdAll K N W H vs ds → intsD ds = some bs → vs = bs.map V.int
  | _, _, _, .nil, e => by cases e; rfl
  | _, _, _, .cons (d := d) h a, e => by
    cases d <;> try cases e
    obtain ⟨bs, h1, rfl⟩ := Option.map_eq_some_iff.mp e
    rw [ints_v a h1, dd_intE h]
    rfl
theorem strs_v {K : PySem.W.Frag} {N : Addr → Prop} {W : Wd} {H : Hp} : ∀ {vs : List V} {ds : List D} {bs : List Str}, DdAll K N W H vs ds → strsD ds = some bs → vs = bs.map V.str
  | _, _, _, .nil, e => by cases e; rfl
  | _, _, _, .cons (d := d) h a, e => by
    cases d <;> try cases e
    obtain ⟨bs, h1, rfl⟩ := Option.map_eq_some_iff.mp e
    rw [strs_v a h1, dd_strE h]
    rfl
theorem dd_strs {K : PySem.W.Frag} {N : Addr → Prop} {W : Wd} {H : Hp} : ∀ zs : List Str, DdAll K N W H (zs.map V.str) (zs.map D.str)
  | [] => .nil
  | z :: zs => .cons (.str z) (dd_strs zs)
theorem dd_ints {K : PySem.W.Frag} {N : Addr → Prop} {W : Wd} {H : Hp} : ∀ zs : List Int, DdAll K N W H (zs.map V.int) (zs.map D.int)
  | [] => .nil
  | z :: zs => .cons (.int z) (dd_ints zs)
theorem intsD_map : ∀ zs : List Int, intsD (zs.map D.int) = some zs
  | [] => rfl
  | z :: zs => by show (intsD (zs.map D.int)).map _ = _; rw [intsD_map zs]; rfl
theorem blsD_map : ∀ zs : List Bool, blsD (zs.map D.bl) = some zs
  | [] => rfl
  | z :: zs => by show (blsD (zs.map D.bl)).map _ = _; rw [blsD_map zs]; rfl
def allD : List D → Option D
  | [.lst ds] => (blsD ds).map fun bs => .bl (bs.all id)
  | _ => none
def anyD : List D → Option D
  | [.lst ds] => (blsD ds).map fun bs => .bl (bs.any id)
  | _ => none
theorem all_ok : Ca F (rAll F.K) allD := fun A b e Q q => by
  rename_i dl z
  match dl, b, e with
  | [.lst xs], .cons h .nil, e =>
    obtain ⟨a, vs, rfl, h1, h2⟩ := bw_lst h
    obtain ⟨bs, h3, rfl⟩ := Option.map_eq_some_iff.mp e
    exact ⟨a, bs, rfl, SqL.of (by rw [h1, bls_v h2 h3]), q _ _ (.refl _ _) A.ok (.bl _)⟩
theorem any_ok : Ca F (rAny F.K) anyD := fun A b e Q q => by
  rename_i dl z
  match dl, b, e with
  | [.lst xs], .cons h .nil, e =>
    obtain ⟨a, vs, rfl, h1, h2⟩ := bw_lst h
    obtain ⟨bs, h3, rfl⟩ := Option.map_eq_some_iff.mp e
    exact ⟨a, bs, rfl, SqL.of (by rw [h1, bls_v h2 h3]), q _ _ (.refl _ _) A.ok (.bl _)⟩
theorem allR (hc : X.calm = true) (hK : F.K = X.K) : CallR X (.builtin "all") (rAll F.K) := by rw [hK]; exact cr_all hc
theorem anyR (hc : X.calm = true) (hK : F.K = X.K) : CallR X (.builtin "any") (rAny F.K) := by rw [hK]; exact cr_any hc
theorem dd_all (hg : Gl X "all") (hm : X.mg "all" = none) (ha : PE X e (lB F d)) (hc : X.calm = true := by rfl) (he : starEach [e] X.env = (false, eval e X.env) :: starEach [] X.env := by rfl) (hpl : (backTo pos (starEach [] X.env)).any (·.1) = false := by rfl) (hK : F.K = X.K := by rfl) :
    PE X (.Call (.Name "all" p) [e] [] pos) (lC F (dCa allD (aCons d aNil))) := PE.mono (pe_callB (allR hc hK) hg hm (by decide +kernel) (db_cons ha db_nil he) (by decide) (by decide) he hpl) (lca all_ok)
theorem dd_any (hg : Gl X "any") (hm : X.mg "any" = none) (ha : PE X e (lB F d)) (hc : X.calm = true := by rfl) (he : starEach [e] X.env = (false, eval e X.env) :: starEach [] X.env := by rfl) (hpl : (backTo pos (starEach [] X.env)).any (·.1) = false := by rfl) (hK : F.K = X.K := by rfl) :
    PE X (.Call (.Name "any" p) [e] [] pos) (lC F (dCa anyD (aCons d aNil))) := PE.mono (pe_callB (anyR hc hK) hg hm (by decide +kernel) (db_cons ha db_nil he) (by decide) (by decide) he hpl) (lca any_ok)
def keyV : Key → D
  | .inl i => .int i
  | .inr x => .str x
theorem dd_key {K : PySem.W.Frag} {N : Addr → Prop} {W : Wd} {H : Hp} : ∀ k : Key, Dd K N W H (kV k) (keyV k)
  | .inl i => .int i
  | .inr x => .str x
theorem dd_keys {K : PySem.W.Frag} {N : Addr → Prop} {W : Wd} {H : Hp} : ∀ {kvs : List (Key × V)} {kds : List (Key × D)}, kvs.map (·.1) = kds.map (·.1) → DdAll K N W H (kvs.map fun kv => kV kv.1) (kds.map fun kd => keyV kd.1)
  | [], [], _ => .nil
  | [], _ :: _, e => by cases e
  | _ :: _, [], e => by cases e
  | (k1, v) :: kvs, (k2, d) :: kds, e => by
    have e1 : k1 = k2 := (List.cons.inj e).1
    subst e1
    exact .cons (dd_key k1) (dd_keys (List.cons.inj e).2)
def listD : List D → Option D
  | [.lst xs] => some (.lst xs)
  | [.tup xs] => some (.lst xs)
  | [.ktp xs] => some (.lst xs)
  | [.dic kds] => some (.lst (kds.map fun kd => keyV kd.1))
  | _ => none
theorem list_okN : CaN F (fun xs H Q => (∃ p ys, xs = [.ref p] ∧ (SqL F.K H p ys ∨ SqT F.K H p ys) ∧ ∀ l, H l = none → Q (.ref l) (upd H l (.lst ys))) ∨ (∃ (a : Addr) (kvs : List (Key × V)), xs = [.ref a] ∧ Rd H a (.dK kvs) ∧ ∀ p, H p = none → Q (.ref p) (upd H p (.lst (kvs.map fun kv => kV kv.1))))) listD := fun A b e Q q => by
  rename_i dl z
  match dl, b, e with
  | [.lst xs], .cons h .nil, e =>
    obtain ⟨a, vs, rfl, h1, h2⟩ := bw_lst h
    cases e
    exact .inl ⟨_, _, rfl, .inl (SqL.of h1), fun t ht => q _ _ (.new ht) (ok_new A.ok ht) ht (new_lstN A ht h2)⟩
  | [.tup xs], .cons h .nil, e =>
    obtain ⟨a, vs, rfl, h1, h2⟩ := bw_tup h
    cases e
    exact .inl ⟨_, _, rfl, .inr (SqT.of h1), fun t ht => q _ _ (.new ht) (ok_new A.ok ht) ht (new_lstN A ht h2)⟩
  | [.ktp xs], .cons h .nil, e =>
    obtain ⟨a, vs, rfl, h1, h2⟩ := bw_items h rfl
    cases e
    exact .inl ⟨_, vs, rfl, h1, fun t ht => q _ _ (.new ht) (ok_new A.ok ht) ht (new_lstN A ht h2)⟩
  | [.dic kds], .cons h .nil, e =>
    obtain ⟨a, kvs, rfl, h1, h2, h3⟩ := bw_dic h
    cases e
    exact .inr ⟨_, _, rfl, h1, fun t ht => q _ _ (.new ht) (ok_new A.ok ht) ht (new_lstN A ht (dd_keys h2))⟩
theorem listR (hc : X.calm = true) (hK : F.K = X.K) : CallR X (.type "list") (fun xs H Q => (∃ p ys, xs = [.ref p] ∧ (SqL F.K H p ys ∨ SqT F.K H p ys) ∧ ∀ l, H l = none → Q (.ref l) (upd H l (.lst ys))) ∨ (∃ (a : Addr) (kvs : List (Key × V)), xs = [.ref a] ∧ Rd H a (.dK kvs) ∧ ∀ p, H p = none → Q (.ref p) (upd H p (.lst (kvs.map fun kv => kV kv.1))))) := by
  rw [hK]
  exact CallR.or call_list_of (call_listD hc)
theorem dn_list (hg : Gl X "list") (hm : X.mg "list" = none) (ha : PE X e (lB F d)) (hc : X.calm = true := by rfl) (he : starEach [e] X.env = (false, eval e X.env) :: starEach [] X.env := by rfl) (hpl : (backTo pos (starEach [] X.env)).any (·.1) = false := by rfl) (hK : F.K = X.K := by rfl) :
    PE X (.Call (.Name "list" p) [e] [] pos) (lN F (dCa listD (aCons d aNil))) := PE.mono (pe_callTy (listR hc hK) hg hm (by decide +kernel) (db_cons ha db_nil he) (by decide) (by decide) he hpl) (lcaN list_okN)
def tupleD : List D → Option D
  | [.lst xs] => some (.tup xs)
  | _ => none
theorem tuple_okN : CaN F (fun xs H Q => ∃ p ys, xs = [.ref p] ∧ ((SqL F.K H p ys ∧ ∀ l, H l = none → Q (.ref l) (upd H l (.tup ys))) ∨ (SqT F.K H p ys ∧ Q (.ref p) H))) tupleD := fun A b e Q q => by
  rename_i dl z
  match dl, b, e with
  | [.lst xs], .cons h .nil, e =>
    obtain ⟨a, vs, rfl, h1, h2⟩ := bw_lst h
    cases e
    exact ⟨_, _, rfl, .inl ⟨SqL.of h1, fun t ht => q _ _ (.new ht) (ok_new A.ok ht) ht (new_tupN A ht h2)⟩⟩
theorem tupleR (hK : F.K = X.K) : CallR X (.type "tuple") (fun xs H Q => ∃ p ys, xs = [.ref p] ∧ ((SqL F.K H p ys ∧ ∀ l, H l = none → Q (.ref l) (upd H l (.tup ys))) ∨ (SqT F.K H p ys ∧ Q (.ref p) H))) := by
  rw [hK]
  exact call_tuple_of
theorem dn_tuple (hg : Gl X "tuple") (hm : X.mg "tuple" = none) (ha : PE X e (lB F d)) (he : starEach [e] X.env = (false, eval e X.env) :: starEach [] X.env := by rfl) (hpl : (backTo pos (starEach [] X.env)).any (·.1) = false := by rfl) (hK : F.K = X.K := by rfl) :
    PE X (.Call (.Name "tuple" p) [e] [] pos) (lN F (dCa tupleD (aCons d aNil))) := PE.mono (pe_callTy (tupleR hK) hg hm (by decide +kernel) (db_cons ha db_nil he) (by decide) (by decide) he hpl) (lcaN tuple_okN)
end
end DL
namespace DL
open PySem PySem.Spec PyProof.Rows L2 RK
def tyD : D → Option String
  | .non => some "NoneType" | .bl _ => some "bool" | .int _ => some "int" | .str _ => some "str" | .lst _ => some "list" | .tup _ => some "tuple" | .ktp _ => some "tuple" | .dic _ => some "dict" | _ => none
def isD (T : String) (x : D) : Option Bool := (tyD x).bind fun t => kitB t T
def isAnyD (x : D) : List String → Option Bool
  | [] => some false
  | T :: Ts => (isD T x).bind fun b => if b = true then some true else isAnyD x Ts
section
variable {X : Cx} {F : Fx} {e a b c : Expr} {es : List Expr} {d da db dc : TDE} {ds : TDA} {pos p : Pos}
theorem ty_bw {L : List Addr} {H : Hp} {v : V} {x : D} {t : String} (h : Bw F L H v x) (e : tyD x = some t) : TyX F.K H v (.type t) := by
  cases x with
  | non => rw [bw_non h]; cases e; exact .base .non
  | bl _ => rw [bw_bl h]; cases e; exact .base (.bl _)
  | int _ => rw [bw_int h]; cases e; exact .base (.int _)
  | str _ => rw [bw_str h]; cases e; exact .base (.str _)
  | lst _ => obtain ⟨a, vs, rfl, h1, _⟩ := bw_lst h; cases e; exact .base (.lst h1)
  | tup _ => obtain ⟨a, vs, rfl, h1, _⟩ := bw_tup h; cases e; exact .base (.tup h1)
  | ktp _ =>
    cases e
    rcases h with h | ⟨e, h1, h2, h3⟩
    · cases h with | ktp h1 h2 h3 h4 h5 h6 => exact .kTuple h1 h2
    · cases e <;> cases h3
  | dic _ =>
    obtain ⟨a, vs, rfl, h1, _⟩ := bw_dic h
    cases e
    rcases h1 with h1 | ⟨o, h1⟩
    · exact .base (.dK h1)
    · exact .fDict h1
  | _ => cases e
def dIs (T : String) (d : TDE) : TDE := fun env P => d env fun x => ob (isD T x) fun b => P (.bl b)
def dIsA (Ts : List String) (d : TDE) : TDE := fun env P => d env fun x => ob (isAnyD x Ts) fun b => P (.bl b)
theorem isiR (hK : F.K = X.K) : CallR X (.builtin "isinstance") (rIsi F.K) := by rw [hK]; exact call_isi
theorem dd_isi {T : String} (hg : Gl X "isinstance") (hm : X.mg "isinstance" = none) (ha : PE X a (lB F d)) (hb : PE X b (tC (.ty T))) (he : starEach [a, b] X.env = (false, eval a X.env) :: starEach [b] X.env := by rfl) (he2 : starEach [b] X.env = (false, eval b X.env) :: starEach [] X.env := by rfl) (hpl : (backTo pos (starEach [b] X.env)).any (·.1) = false := by rfl) (hK : F.K = X.K := by rfl) :
    PE X (.Call (.Name "isinstance" p) [a, b] [] pos) (lC F (dIs T d)) := PE.mono (pe_callB (isiR hK) hg hm (by decide +kernel) (pa_cons ha (pa_cons hb pa_nil he2) he) (by decide) (by decide) he hpl) fun σ H Q ⟨env, L, P, A, pp, q⟩ =>
  ⟨env, L, _, A, pp, fun x v H1 px k1 o1 b1 => by
    obtain ⟨z, e, pz⟩ := ob_elim px
    obtain ⟨t, h1, h2⟩ := Option.bind_eq_some_iff.mp e
    exact ⟨v, .ty T, _, _, z, rfl, .ty T, ty_bw b1 h1, kit_ty h2, q _ _ H1 pz k1 o1 (.bl _)⟩⟩
def SortS (xs ys : List Str) : Prop := ys.Perm xs ∧ sortedS ys = true
def SortI (xs ys : List Int) : Prop := ys.Perm xs ∧ ys.Pairwise (· ≤ ·)
def txtKeys : List (Key × D) → Option (List Str)
  | [] => some []
  | (.inr x, _) :: r => (txtKeys r).map fun xs => x :: xs
  | _ => none
theorem txtKeys_v : ∀ {kds : List (Key × D)} {xs : List Str}, txtKeys kds = some xs → kds.map (·.1) = xs.map Sum.inr
  | [], _, e => by cases e; rfl
  | (.inr x, d) :: r, _, e => by
    obtain ⟨ys, h1, rfl⟩ := Option.map_eq_some_iff.mp e
    simp [txtKeys_v h1]
  | (.inl x, d) :: r, _, e => by cases e
def dSort (d : TDE) : TDE := fun env P => d env fun x => match x with
  | .lst xs => (∃ zs, strsD xs = some zs ∧ zs.length < 64 ∧ ∀ ys, SortS zs ys → P (.lst (ys.map D.str))) ∨ (∃ zs, intsD xs = some zs ∧ zs.length < 64 ∧ ∀ ys, SortI zs ys → P (.lst (ys.map D.int)))
  | .dic kds => ∃ zs, txtKeys kds = some zs ∧ zs.length < 64 ∧ ∀ ys, SortS zs ys → P (.lst (ys.map D.str))
  | _ => False
theorem sortR (hc : X.calm = true) (hK : F.K = X.K) : CallR X (.builtin "sorted") (fun vs H Q => rSortedS F.K vs H Q ∨ (rSorted F.K vs H Q ∨ (∃ (a : Addr) (kvs : List (Key × V)) (ks : List Str), vs = [.ref a] ∧ Rd H a (.dK kvs) ∧ kvs.map (·.1) = ks.map Sum.inr ∧ ks.length < 64 ∧
    ∀ ys p, ys.Perm ks → sortedS ys = true → H p = none → Q (.ref p) (upd H p (.lst (ys.map V.str)))))) := by
  rw [hK]
  exact CallR.or cr_sortedS (CallR.or cr_sorted (call_sortedD hc))
theorem dn_sort (hg : Gl X "sorted") (hm : X.mg "sorted" = none) (ha : PE X e (lB F d)) (hc : X.calm = true := by rfl) (he : starEach [e] X.env = (false, eval e X.env) :: starEach [] X.env := by rfl) (hpl : (backTo pos (starEach [] X.env)).any (·.1) = false := by rfl) (hK : F.K = X.K := by rfl) :
    PE X (.Call (.Name "sorted" p) [e] [] pos) (lN F (dSort d)) := PE.mono (pe_callB (sortR hc hK) hg hm (by decide +kernel) (pa_cons ha pa_nil he) (by decide) (by decide) he hpl) fun σ H Q ⟨env, L, P, A, pp, q⟩ =>
  ⟨env, L, _, A, pp, fun x v H1 px k1 o1 b1 => by
    have A1 := A.step k1 o1
    cases x with
    | lst xs =>
      obtain ⟨a, vs, rfl, h1, h2⟩ := bw_lst b1
      rcases px with ⟨zs, hz, h64, px⟩ | ⟨zs, hz, h64, px⟩
      · exact .inl ⟨a, zs, rfl, SqL.of (by rw [h1, strs_v h2 hz]), h64, fun ys t py so ht => q _ _ _ (px ys ⟨py, so⟩) (k1.trans (.new ht)) (ok_new o1 ht) (free_of k1 o1 ht) (new_lstN A1 ht (dd_strs ys))⟩
      · exact .inr (.inl ⟨a, zs, rfl, SqL.of (by rw [h1, ints_v h2 hz]), h64, fun ys t py so ht => q _ _ _ (px ys ⟨py, so⟩) (k1.trans (.new ht)) (ok_new o1 ht) (free_of k1 o1 ht) (new_lstN A1 ht (dd_ints ys))⟩)
    | dic kds =>
      obtain ⟨a, kvs, rfl, h1, h2, h3⟩ := bw_dic b1
      obtain ⟨zs, hz, h64, px⟩ := px
      exact .inr (.inr ⟨a, kvs, zs, rfl, h1, by rw [h2]; exact txtKeys_v hz, h64, fun ys t py so ht => q _ _ _ (px ys ⟨py, so⟩) (k1.trans (.new ht)) (ok_new o1 ht) (free_of k1 o1 ht) (new_lstN A1 ht (dd_strs ys))⟩)
    | _ => exact px.elim⟩
def indexOf (xs : List D) (y : D) : Option Nat := xs.findIdx? fun z => eqF z y
def dIndex (dx dy : TDE) : TDE := fun env P => dx env fun x => match x with
  | .lst xs => dy env fun y => xs.all D.leaf = true ∧ y.leaf = true ∧ ob (indexOf xs y) fun j => P (.int (j : Nat))
  | _ => False
theorem index_v {K : PySem.W.Frag} {N : Addr → Prop} {W : Wd} {H : Hp} {v : V} {y : D} (h : Dd K N W H v y) (l : y.leaf = true) {vs : List V} {xs : List D} (a : DdAll K N W H vs xs) (al : xs.all D.leaf = true) {j : Nat} (e : indexOf xs y = some j) :
    ∃ z, vs[j]? = some z ∧ eqV z v = true ∧ ∀ (m : Nat) (z' : V), m < j → vs[m]? = some z' → eqV z' v = false := by
  unfold indexOf at e
  obtain ⟨hj, h1, h2⟩ := List.findIdx?_eq_some_iff_getElem.mp e
  have lf : ∀ x ∈ xs, x.leaf = true := fun x hx => List.all_eq_true.mp al x hx
  obtain ⟨z, hz, dz⟩ := a.get (List.getElem?_eq_getElem hj)
  refine ⟨z, hz, by rw [leaf_eq dz (lf _ (List.getElem_mem hj)) h l]; exact h1, fun m z' hm hz' => ?_⟩
  obtain ⟨d', hd', dd'⟩ := a.getV hz'
  have hm' : m < xs.length := by omega
  have e' : xs[m] = d' := by
    rw [List.getElem?_eq_getElem hm'] at hd'
    exact Option.some.inj hd'
  rw [leaf_eq dd' (e' ▸ lf _ (List.getElem_mem hm')) h l, ← e']
  have := h2 m hm
  simpa using this
theorem indexR (hK : F.K = X.K) : MtR X "list.index" (rIndex F.K) := by rw [hK]; exact mt_index
theorem dd_index {apos cpos : Pos} {o : Expr} (ho : PE X o (lB F da)) (he : PE X e (lB F db)) (hbase : attributeBase o "index" X.env (eval o X.env) = eval o X.env := by rfl)
    (hfew : ((backTo cpos (starEach [e] X.env)).all (fun x => !x.1) && (backToKw cpos (keywordEach [] X.env)).all (fun x => x.1.isSome) && decide (([e] : List Expr).length + ([] : List Keyword).length + (if ([] : List Keyword).isEmpty then 0 else 1) < 30)) = true := by rfl)
    (hline : (apos.endLine == cpos.line) = true := by rfl) (hs : starEach [e] X.env = (false, eval e X.env) :: starEach [] X.env := by rfl) (hplain : (backTo cpos (starEach [] X.env)).any (·.1) = false := by rfl) (hK : F.K = X.K := by rfl) :
    PE X (.Call (.Attribute o "index" apos) [e] [] cpos) (lC F (dIndex da db)) := PE.mono (pe_bm PySem.F.plainAttrs_list PySem.F.slot_list_index PySem.F.type_list_index (indexR hK) ho (pa_cons he pa_nil hs) hbase hfew hline hs hplain) fun σ H Q ⟨env, L, P, A, pp, q⟩ =>
  ⟨env, L, _, A, pp, fun x v H1 px k1 o1 b1 => by
    cases x with
    | lst xs =>
      obtain ⟨a, vs, rfl, h1, h2⟩ := bw_lst b1
      refine ⟨.inl ⟨rfl, vs, SqL.of h1⟩, env, L, _, A.step k1 o1, px, fun y u H2 py k2 o2 b2 => ?_⟩
      obtain ⟨l1, l2, py⟩ := py
      obtain ⟨j, ej, pj⟩ := ob_elim py
      obtain ⟨a2, vs2, e2, h3, h4⟩ := bw_lst (b1.step (A.step k1 o1) k2)
      cases e2
      have dy := bw_leaf b2 l2
      obtain ⟨z, g1, g2, g3⟩ := index_v dy l2 h4 l1 ej
      exact ⟨a, vs2, u, j, z, rfl, rfl, SqL.of h3, leaf_flat dy l2, (all_leaf dy l2 h4 l1).1, g1, g2, g3, q _ _ H2 pj (k1.trans k2) o2 (.int _)⟩
    | _ => exact px.elim⟩
end
end DL
namespace DL
open PySem PySem.Spec PyProof.Rows L2 RK
abbrev DSp := List D → (D → Prop) → Prop
structure Nw (K : PySem.W.Frag) (W : Wd) (N0 : Addr → Prop) (H : Hp) (fr : Fr) (H' : Hp) (v : V) (x : D) : Prop where
  n : fr = .b true → ∃ a, v = .ref a ∧ H a = none ∧ NewV ⟨K, W, N0, H, .b true⟩ [] H' a x
  c : ∀ j, fr = .ch j → Ch j H H' v x
def lSp (K : PySem.W.Frag) (fr : Fr) (sp : DSp) : Sp := fun vs H Q _ => ∃ (W : Wd) (N0 : Addr → Prop) (ds : List D) (P : D → Prop), (∀ a, N0 a → ∃ o, H a = some o) ∧ (∀ a, W.own a → N0 a) ∧ W.ok H ∧ DdAll K N0 W H vs ds ∧ sp ds P ∧
  ∀ x v H', P x → KeepW W H H' → W.ok H' → Dd K N0 W H' v x → Nw K W N0 H fr H' v x → Q v H'
section
variable {X : Cx} {F : Fx} {e a b c : Expr} {es : List Expr} {d da db dc : TDE} {ds dk : TDA} {pos p : Pos}
def dCall (sp : DSp) (ds : TDA) : TDE := fun env P => ds env fun xs => sp xs P
theorem lcall {fr : Fr} {sp : DSp} {E : XK} {K : PySem.W.Frag} (hK : F.K = K) : ∀ σ H Q, lC F (dCall sp ds) σ H Q → tCall (lSp K fr sp) [] E (lA F ds) σ H Q := fun σ H Q ⟨env, L, P, A, pp, q⟩ => by
  subst hK
  exact ⟨env, L, _, A, pp, fun xs vs H1 px k1 o1 d1 => ⟨F.W, F.N L, xs, P, fun a h => (A.step k1 o1).alN h, fun a h => .inl (A.wn a h), o1, by rw [List.append_nil]; exact d1, px, fun x v H2 p2 k2 o2 d2 _ => q x v H2 p2 (k1.trans k2) o2 d2⟩⟩
theorem new_of {K : PySem.W.Frag} {W : Wd} {N0 : Addr → Prop} {H H' : Hp} {fr : Fr} {L : List Addr} {a : Addr} {x : D} {F : Fx} (e1 : F.K = K) (e2 : F.W = W) (e3 : F.N L = N0) (h : NewV ⟨K, W, N0, H, .b true⟩ [] H' a x) : NewV F L H' a x := by
  subst e1 e2
  have key : ∀ {vs : List V} {ds : List D}, DdAll F.K (Fx.N ⟨F.K, F.W, N0, H, .b true⟩ [a]) F.W H' vs ds → DdAll F.K (F.N (a :: L)) F.W H' vs ds := fun h => h.keep (fun _ _ _ z => z) fun y hy => by
    rcases hy with hy | hy
    · left
      show N0 y
      rw [← e3]
      exact .inl hy
    · rcases List.mem_cons.mp hy with hy | hy
      · exact .inr (by rw [hy]; exact List.mem_cons_self)
      · left
        show N0 y
        rw [← e3]
        exact .inr hy
  cases x with
  | lst ds => obtain ⟨vs, h1, h2⟩ := h; exact ⟨vs, h1, key h2⟩
  | tup ds => obtain ⟨vs, h1, h2⟩ := h; exact ⟨vs, h1, key h2⟩
  | dic ds => obtain ⟨vs, h1, h3, h2⟩ := h; exact ⟨vs, h1, h3, key h2⟩
  | dct ds => obtain ⟨vs, h1, h3, h2⟩ := h; exact ⟨vs, h1, h3, key h2⟩
  | _ => exact h
theorem lcallN {sp : DSp} {E : XK} {K : PySem.W.Frag} (hK : F.K = K) : ∀ σ H Q, lN F (dCall sp ds) σ H Q → tCall (lSp K (.b true) sp) [] E (lA F ds) σ H Q := fun σ H Q ⟨env, L, P, A, pp, q⟩ => by
  subst hK
  refine ⟨env, L, _, A, pp, fun xs vs H1 px k1 o1 d1 => ⟨F.W, F.N L, xs, P, fun a h => (A.step k1 o1).alN h, fun a h => .inl (A.wn a h), o1, by rw [List.append_nil]; exact d1, px, fun x v H2 p2 k2 o2 d2 nn => ?_⟩⟩
  obtain ⟨a, rfl, h1, h2⟩ := nn.n rfl
  exact q x a H2 p2 (k1.trans k2) o2 (free_of k1 o1 h1) (new_of (fr := .b true) rfl rfl rfl h2)
variable {CX : CXT} {k : Nat} {f : Addr} {fd : FuncData} {ps ks : List Str} {sp : DSp} {E : XK} {x : Str} {fr : Fr} {K : PySem.W.Frag}
theorem dd_call (G : FnOk X.prog X.w X.K X.mg X.base CX k f fd ps (lSp K fr sp)) (hr : Room k X.A) (hg : Gl X x) (hm : X.mg x = some (.ref f)) (hk : PySem.W.keepIn X.K (.ref f) = true) (hb : Binds X.K fd ps []) (hx : Passes CX X E) (ha : PA X (e :: es) (lA F ds)) (hK : F.K = K := by rfl)
    (he : starEach (e :: es) X.env = (false, eval e X.env) :: starEach es X.env := by rfl) (hpl : (backTo pos (starEach es X.env)).any (·.1) = false := by rfl) (hdb : (x == ("__debug__" : Str)) = false := by decide) :
    PE X (.Call (.Name x p) (e :: es) [] pos) (lC F (dCall sp ds)) := PE.mono (pe_call G hr hg hm hk hb .nil hx ha hdb he hpl) (lcall hK)
theorem dn_call (G : FnOk X.prog X.w X.K X.mg X.base CX k f fd ps (lSp K (.b true) sp)) (hr : Room k X.A) (hg : Gl X x) (hm : X.mg x = some (.ref f)) (hk : PySem.W.keepIn X.K (.ref f) = true) (hb : Binds X.K fd ps []) (hx : Passes CX X E) (ha : PA X (e :: es) (lA F ds)) (hK : F.K = K := by rfl)
    (he : starEach (e :: es) X.env = (false, eval e X.env) :: starEach es X.env := by rfl) (hpl : (backTo pos (starEach es X.env)).any (·.1) = false := by rfl) (hdb : (x == ("__debug__" : Str)) = false := by decide) :
    PE X (.Call (.Name x p) (e :: es) [] pos) (lN F (dCall sp ds)) := PE.mono (pe_call G hr hg hm hk hb .nil hx ha hdb he hpl) (lcallN hK)
end
structure DEnds where
  nx : De → Prop
  rt : D → Prop
  bk : De → Prop := fun _ => False
  ct : De → Prop := fun _ => False
abbrev TDS := DEnds → De → Prop
def Pres (F : Fx) (L : List Addr) (H : Hp) (L' : List Addr) (H' : Hp) : Prop := ∀ a o, ¬ F.N L a → H a = some o → ¬ F.N L' a ∧ H' a = some o
theorem Pres.refl (F : Fx) (L : List Addr) (H : Hp) : Pres F L H L H := fun _ _ n h => ⟨n, h⟩
theorem Pres.trans {F : Fx} {L L1 L2 : List Addr} {H H1 H2 : Hp} (a : Pres F L H L1 H1) (b : Pres F L1 H1 L2 H2) : Pres F L H L2 H2 := fun x o n h => b x o (a x o n h).1 (a x o n h).2
theorem KeepW.pres {F : Fx} {env : De} {σ : L2.St} {L : List Addr} {H H' : Hp} (A : Abs F env σ L H) (k : KeepW F.W H H') : Pres F L H L H' := fun x o n h => ⟨n, k x o (nw_of A n) h⟩
structure RetOk (F : Fx) (H' : Hp) (v : V) (x : D) : Prop where
  kp : KeepW F.W F.H0 H'
  ok : F.W.ok H'
  dd : Dd F.K F.N0 F.W H' v x
  nw : F.fr = .b true → ∃ a, v = .ref a ∧ F.H0 a = none ∧ NewV F [] H' a x
  cj : ∀ j, F.fr = .ch j → Ch j F.H0 H' v x
def lS (F : Fx) (d : TDS) : TS := fun E σ H => ∃ env L P, Abs F env σ L H ∧ d P env ∧ (∀ env' σ' L' H', P.nx env' → Abs F env' σ' L' H' → Pres F L H L' H' → E.nx σ' H') ∧ (∀ x v H', P.rt x → RetOk F H' v x → E.rt v H') ∧
  (∀ env' σ' L' H', P.bk env' → Abs F env' σ' L' H' → Pres F L H L' H' → E.bk σ' H') ∧ (∀ env' σ' L' H', P.ct env' → Abs F env' σ' L' H' → Pres F L H L' H' → E.ct σ' H')
section
variable {X : Cx} {F : Fx} {e a b c : Expr} {es : List Expr} {d da db dc : TDE} {ds : TDA} {pos p : Pos} {st : Stmt} {rest sa sb : List Stmt} {s1 s2 : TDS} {tA : TDT}
def sNil : TDS := fun P env => P.nx env
def sSeq (s1 s2 : TDS) : TDS := fun P env => s1 { P with nx := s2 P } env
theorem ss_nil : PSs X [] (lS F sNil) := PSs.mono pss_nil fun E σ H ⟨env, L, P, A, pp, hn, _⟩ => hn env σ L H pp A (.refl _ _ _)
theorem ss_cons (h1 : PS X st (lS F s1)) (h2 : PSs X rest (lS F s2)) : PSs X (st :: rest) (lS F (sSeq s1 s2)) := PSs.mono (pss_cons h1 h2) fun E σ H ⟨env, L, P, A, pp, hn, hr, hb, hc⟩ =>
  ⟨env, L, _, A, pp, fun env' σ' L' H' pn A' pr => ⟨env', L', P, A', pn, fun env2 σ2 L2 H2 p2 A2 pr2 => hn env2 σ2 L2 H2 p2 A2 (pr.trans pr2), hr, fun env2 σ2 L2 H2 p2 A2 pr2 => hb env2 σ2 L2 H2 p2 A2 (pr.trans pr2), fun env2 σ2 L2 H2 p2 A2 pr2 => hc env2 σ2 L2 H2 p2 A2 (pr.trans pr2)⟩, hr, hb, hc⟩
theorem ss_one (h1 : PS X st (lS F s1)) : PSs X [st] (lS F s1) := pss_one h1
def sNever : TDS := fun _ _ => False
theorem ds_never : PS X st (lS F sNever) := PS.mono ps_never fun E σ H ⟨env, L, P, A, pp, _⟩ => pp
def sBrk : TDS := fun P env => P.bk env
def sCont : TDS := fun P env => P.ct env
def sIf (t : TDT) (s1 s2 : TDS) : TDS := fun P env => t env fun x => if x = true then s1 P env else s2 P env
theorem ds_if (hc : PT X c (lT F tA)) (ha : PSs X sa (lS F s1)) (hb : PSs X sb (lS F s2)) : PS X (.If c sa sb pos) (lS F (sIf tA s1 s2)) := PS.mono (ps_if hc ha hb) fun E σ H ⟨env, L, P, A, pp, hn, hr, hb, hc⟩ =>
  ⟨env, L, _, A, pp, fun x H1 px k1 o1 => by
    have pr : Pres F L H L H1 := k1.pres A
    cases x with
    | true => exact iteT ⟨env, L, P, A.step k1 o1, px, fun env2 σ2 L2 H2 p2 A2 pr2 => hn env2 σ2 L2 H2 p2 A2 (pr.trans pr2), hr, fun env2 σ2 L2 H2 p2 A2 pr2 => hb env2 σ2 L2 H2 p2 A2 (pr.trans pr2), fun env2 σ2 L2 H2 p2 A2 pr2 => hc env2 σ2 L2 H2 p2 A2 (pr.trans pr2)⟩
    | false => exact iteF ⟨env, L, P, A.step k1 o1, px, fun env2 σ2 L2 H2 p2 A2 pr2 => hn env2 σ2 L2 H2 p2 A2 (pr.trans pr2), hr, fun env2 σ2 L2 H2 p2 A2 pr2 => hb env2 σ2 L2 H2 p2 A2 (pr.trans pr2), fun env2 σ2 L2 H2 p2 A2 pr2 => hc env2 σ2 L2 H2 p2 A2 (pr.trans pr2)⟩⟩
theorem n0_sub {L : List Addr} : ∀ x, F.N0 x → F.N L x := fun x h => .inl h
theorem ret_of {env : De} {σ : L2.St} {L : List Addr} {H H' : Hp} {v : V} {x : D} (A : Abs F env σ L H) (k : KeepW F.W H H') (o : F.W.ok H') (h : Dd F.K (F.N L) F.W H' v x) (nf : F.fr = .b false) : RetOk F H' v x :=
  ⟨A.kp.trans k, o, h.keep (fun _ _ _ z => z) n0_sub, fun z => (by rw [nf] at z; cases z), fun j z => by rw [nf] at z; cases z⟩
def sRet (d : TDE) : TDS := fun P env => d env P.rt
theorem ds_ret (nf : F.fr = .b false) (he : PE X e (lC F d)) : PS X (.Return (some e) pos) (lS F (sRet d)) := PS.mono (ps_ret he) fun E σ H ⟨env, L, P, A, pp, hn, hr, _⟩ =>
  ⟨env, L, _, A, pp, fun x v H' px k o dd => hr x v H' px (ret_of A k o dd nf)⟩
theorem n0_new {L : List Addr} {a : Addr} : ∀ x, F.N [a] x → F.N (a :: L) x := fun x h => by
  rcases h with h | h
  · exact .inl h
  · rcases List.mem_cons.mp h with h | h
    · exact .inr (by rw [h]; exact List.mem_cons_self)
    · cases h
theorem NewV.small {L : List Addr} {H : Hp} {a : Addr} : ∀ {x : D}, NewV F L H a x → NewV F [] H a x
  | .lst ds, ⟨vs, h, g⟩ => ⟨vs, h, g.keep (fun _ _ _ z => z) n0_new⟩
  | .tup ds, ⟨vs, h, g⟩ => ⟨vs, h, g.keep (fun _ _ _ z => z) n0_new⟩
  | .dic ds, ⟨vs, h, e, g⟩ => ⟨vs, h, e, g.keep (fun _ _ _ z => z) n0_new⟩
  | .dct ds, ⟨vs, h, e, g⟩ => ⟨vs, h, e, g.keep (fun _ _ _ z => z) n0_new⟩
theorem ds_retN (he : PE X e (lN F d)) (nf : ∀ j, F.fr ≠ .ch j := by intro j h; cases h) : PS X (.Return (some e) pos) (lS F (sRet d)) := PS.mono (ps_ret he) fun E σ H ⟨env, L, P, A, pp, hn, hr, _⟩ =>
  ⟨env, L, _, A, pp, fun x a H' px k o n nv => hr x _ H' px ⟨A.kp.trans k, o, (nv.dd (A.new n)).keep (fun _ _ _ z => z) n0_sub, fun _ => ⟨a, rfl, free_of A.kp A.ok n, nv.small⟩, fun j z => (nf j z).elim⟩⟩
def owD : En → Option D
  | .ow ds => some (.lst ds)
  | .od ds => some (.dic ds)
  | .ot ds => some (.dct ds)
  | _ => none
def sRetO (i : Nat) : TDS := fun P env => ob (env[i]?.bind owD) P.rt
theorem ow_new {env : De} {σ : L2.St} {L : List Addr} {H : Hp} (A : Abs F env σ L H) {a : Addr} {e : En} {x : D} (h : EnOk F L H e (some (.ref a))) (hx : owD e = some x) : a ∈ L ∧ NewV F [] H a x := by
  have sub : ∀ y, F.N [a] y → a ∈ L → F.N L y := fun y hy ha => by
    rcases hy with hy | hy
    · exact .inl hy
    · rcases List.mem_cons.mp hy with hy | hy
      · rw [hy]; exact .inr ha
      · cases hy
  cases e with
  | ow ds =>
    cases hx
    obtain ⟨h1, vs, h2, h3⟩ := h
    exact ⟨h1, vs, h2, h3.keep (fun _ _ _ z => z) fun y hy => sub y hy h1⟩
  | od ds =>
    cases hx
    obtain ⟨h1, vs, h2, h4, h3⟩ := h
    exact ⟨h1, vs, h2, h4, h3.keep (fun _ _ _ z => z) fun y hy => sub y hy h1⟩
  | ot ds =>
    cases hx
    obtain ⟨h1, vs, h2, h4, h3⟩ := h
    exact ⟨h1, vs, h2, h4, h3.keep (fun _ _ _ z => z) fun y hy => sub y hy h1⟩
  | _ => cases hx
theorem owD_ref {L : List Addr} {H : Hp} {e : En} {v : V} {x : D} (h : EnOk F L H e (some v)) (hx : owD e = some x) : ∃ a, v = .ref a := by
  cases e <;> try cases hx
  all_goals (cases v <;> first | exact h.elim | exact ⟨_, rfl⟩)
theorem ds_retO {i : Nat} (he : PE X e (tVar i)) : PS X (.Return (some e) pos) (lS F (sRetO i)) := PS.mono (ps_ret he) fun E σ H ⟨env, L, P, A, pp, hn, hr, _⟩ => by
  obtain ⟨x, hx, px⟩ := ob_elim pp
  obtain ⟨en, h1, h2⟩ := Option.bind_eq_some_iff.mp hx
  obtain ⟨v, h3, h4⟩ := abs_at A h1 (by rintro rfl; cases h2)
  obtain ⟨a, rfl⟩ := owD_ref h4 h2
  obtain ⟨h5, h6⟩ := ow_new A h4 h2
  have nw : ¬ F.N [] a := fun z => by
    rcases z with z | z
    · exact A.out h5 z
    · cases z
  exact ⟨_, h3, hr x _ H px ⟨A.kp, A.ok, (h6.dd nw).keep (fun _ _ _ z => z) n0_sub, fun _ => ⟨a, rfl, (A.fr a h5).1, h6⟩, fun j _ xs ys ex => by subst ex; cases en <;> cases h2⟩⟩
def lJ (F : Fx) (j : Nat) (d : TDE) : TE := fun σ H Q => ∃ env L P, Abs F env σ L H ∧ d env P ∧ ∀ x v H', P x → KeepW F.W H H' → F.W.ok H' → Dd F.K (F.N L) F.W H' v x → Ch j H H' v x → Q v H'
theorem ch_up {j : Nat} {H0 H H' : Hp} {v : V} {x : D} (f : ∀ c, H c = none → H0 c = none) (h : Ch j H H' v x) : Ch j H0 H' v x := fun xs ys e1 e2 => (let ⟨t, vs, c, us, a1, a2, a3, a4, a5⟩ := h xs ys e1 e2; ⟨t, vs, c, us, a1, a2, a3, f c a4, a5⟩)
theorem ds_retJ {j : Nat} (nf : F.fr = .ch j) (he : PE X e (lJ F j d)) : PS X (.Return (some e) pos) (lS F (sRet d)) := PS.mono (ps_ret he) fun E σ H ⟨env, L, P, A, pp, hn, hr, _⟩ =>
  ⟨env, L, _, A, pp, fun x v H' px k o dd cc => hr x v H' px ⟨A.kp.trans k, o, dd.keep (fun _ _ _ z => z) n0_sub, fun z => (by rw [nf] at z; cases z), fun i z => by rw [nf] at z; cases z; exact ch_up (fun c h => free_of A.kp A.ok h) cc⟩⟩
theorem lcallJ {j : Nat} {sp : DSp} {E : XK} {K : PySem.W.Frag} (hK : F.K = K) : ∀ σ H Q, lJ F j (dCall sp ds) σ H Q → tCall (lSp K (.ch j) sp) [] E (lA F ds) σ H Q := fun σ H Q ⟨env, L, P, A, pp, q⟩ => by
  subst hK
  exact ⟨env, L, _, A, pp, fun xs vs H1 px k1 o1 d1 => ⟨F.W, F.N L, xs, P, fun a h => (A.step k1 o1).alN h, fun a h => .inl (A.wn a h), o1, by rw [List.append_nil]; exact d1, px, fun x v H2 p2 k2 o2 d2 nn => q x v H2 p2 (k1.trans k2) o2 d2 (ch_up (fun c h => free_of k1 o1 h) (nn.c j rfl))⟩⟩
theorem dj_call {j : Nat} {CX : CXT} {k : Nat} {f : Addr} {fd : FuncData} {ps : List Str} {sp : DSp} {E : XK} {x : Str} {K : PySem.W.Frag} (G : FnOk X.prog X.w X.K X.mg X.base CX k f fd ps (lSp K (.ch j) sp)) (hr : Room k X.A) (hg : Gl X x) (hm : X.mg x = some (.ref f)) (hk : PySem.W.keepIn X.K (.ref f) = true) (hb : Binds X.K fd ps []) (hx : Passes CX X E) (ha : PA X (e :: es) (lA F ds)) (hK : F.K = K := by rfl)
    (he : starEach (e :: es) X.env = (false, eval e X.env) :: starEach es X.env := by rfl) (hpl : (backTo pos (starEach es X.env)).any (·.1) = false := by rfl) (hdb : (x == ("__debug__" : Str)) = false := by decide) :
    PE X (.Call (.Name x p) (e :: es) [] pos) (lJ F j (dCall sp ds)) := PE.mono (pe_call G hr hg hm hk hb .nil hx ha hdb he hpl) (lcallJ hK)
def sRetE : TDS := fun P _ => P.rt .non
end
end DL
namespace DL
open PySem PySem.Spec PyProof.Rows L2 RK
section
variable {F : Fx} {env : De} {σ : L2.St} {L : List Addr} {H H' : Hp}
theorem Abs.setF (A : Abs F env σ L H) {v : V} {x : D} (h : Dd F.K (F.N L) F.W H v x) (i : Nat) : Abs F (env.set i (.fz x)) (σ.set i (some v)) L H := by
  refine ⟨A.ok, A.al, A.wn, A.kp, A.fr, by rw [List.length_set, List.length_set, A.ls], fun j l a ej el h1 h2 o1 o2 s1 s2 => ?_, fun j e y h1 h2 => ?_⟩
  · by_cases hj : i = j
    · subst hj
      by_cases hi : i < env.length
      · rw [List.getElem?_set_self hi] at h1
        cases h1
        cases o1
      · rw [List.getElem?_eq_none (by rw [List.length_set]; omega)] at h1
        cases h1
    · by_cases hl : i = l
      · subst hl
        by_cases hi : i < env.length
        · rw [List.getElem?_set_self hi] at h2
          cases h2
          cases o2
        · rw [List.getElem?_eq_none (by rw [List.length_set]; omega)] at h2
          cases h2
      · rw [List.getElem?_set_ne hj] at h1 s1
        rw [List.getElem?_set_ne hl] at h2 s2
        exact A.sep j l a ej el h1 h2 o1 o2 s1 s2
  · by_cases hj : i = j
    · subst hj
      by_cases hi : i < env.length
      · rw [List.getElem?_set_self hi] at h1
        rw [List.getElem?_set_self (by rw [← A.ls]; exact hi)] at h2
        cases h1
        cases h2
        exact h
      · rw [List.getElem?_eq_none (by rw [List.length_set]; omega)] at h1
        cases h1
    · rw [List.getElem?_set_ne hj] at h1 h2
      exact A.en j e y h1 h2
theorem Abs.grow (A : Abs F env σ L H) {L' : List Addr} (k : KeepW F.W H H') (o : F.W.ok H') (pr : Pres F L H L' H') (sub : ∀ a ∈ L, a ∈ L') (new : ∀ a ∈ L', a ∈ L ∨ (H a = none ∧ ∃ o, H' a = some o ∧ Plo o)) : Abs F env σ L' H' := by
  have w : ∀ a ∈ L, ¬ F.W.own a := fun a h z => A.out h (A.wn a z)
  refine ⟨o, A.al, A.wn, A.kp.trans k, fun a h => ?_, A.ls, A.sep, fun i e x h1 h2 => ?_⟩
  · rcases new a h with h | ⟨h1, h2⟩
    · obtain ⟨h1, u, h2, pl⟩ := A.fr a h
      exact ⟨h1, u, k a u (w a h) h2, pl⟩
    · exact ⟨free_of A.kp A.ok h1, h2⟩
  · have q := A.en i e x h1 h2
    cases e with
    | no => exact trivial
    | fz d => cases x with
      | none => exact q.elim
      | some v => exact Dd.pres pr q
    | ow ds => cases x with
      | none => exact q.elim
      | some v => cases v with
        | ref a =>
          obtain ⟨q1, vs, q2, q3⟩ := q
          exact ⟨sub a q1, vs, k a _ (w a q1) q2, q3.pres pr⟩
        | _ => exact q.elim
    | od ds => cases x with
      | none => exact q.elim
      | some v => cases v with
        | ref a =>
          obtain ⟨q1, vs, q2, q4, q3⟩ := q
          exact ⟨sub a q1, vs, k a _ (w a q1) q2, q4, q3.pres pr⟩
        | _ => exact q.elim
    | ot ds => cases x with
      | none => exact q.elim
      | some v => cases v with
        | ref a =>
          obtain ⟨q1, vs, q2, q4, q3⟩ := q
          exact ⟨sub a q1, vs, k a _ (w a q1) q2, q4, q3.pres pr⟩
        | _ => exact q.elim
theorem pres_cons (A : Abs F env σ L H) (k : KeepW F.W H H') {a : Addr} (n : H a = none) : Pres F L H (a :: L) H' := fun x o q h => ⟨fun z => by
  rcases z with z | z
  · exact q (.inl z)
  · rcases List.mem_cons.mp z with z | z
    · rw [z, n] at h
      cases h
    · exact q (.inr z), k x o (nw_of A q) h⟩
theorem new_there {F : Fx} {L : List Addr} {H : Hp} {a : Addr} : ∀ {x : D}, NewV F L H a x → ∃ o, H a = some o ∧ Plo o
  | .lst ds, ⟨vs, h, _⟩ => ⟨_, h, True.intro⟩
  | .tup ds, ⟨vs, h, _⟩ => ⟨_, h, True.intro⟩
  | .dic ds, ⟨vs, h, _⟩ => ⟨_, h, True.intro⟩
  | .dct ds, ⟨vs, h, _⟩ => ⟨_, h, True.intro⟩
def enOf : D → Option En
  | .lst xs => some (.ow xs)
  | .dic xs => some (.od xs)
  | .dct xs => some (.ot xs)
  | _ => none
theorem en_new {a : Addr} : ∀ {x : D} {e : En}, NewV F L H a x → enOf x = some e → EnOk F (a :: L) H e (some (.ref a)) ∧ e.isOw = true
  | .lst xs, _, ⟨vs, h, g⟩, q => by cases q; exact ⟨⟨List.mem_cons_self, vs, h, g⟩, rfl⟩
  | .dic xs, _, ⟨vs, h, e, g⟩, q => by cases q; exact ⟨⟨List.mem_cons_self, vs, h, e, g⟩, rfl⟩
  | .dct xs, _, ⟨vs, h, e, g⟩, q => by cases q; exact ⟨⟨List.mem_cons_self, vs, h, e, g⟩, rfl⟩
theorem Abs.setO (A : Abs F env σ L H) (k : KeepW F.W H H') (o : F.W.ok H') {a : Addr} {x : D} {e : En} (n : H a = none) (h : NewV F L H' a x) (he : enOf x = some e) (i : Nat) : Abs F (env.set i e) (σ.set i (some (.ref a))) (a :: L) H' := by
  have pr := pres_cons A k n
  have B : Abs F env σ (a :: L) H' := A.grow k o pr (fun b hb => List.mem_cons_of_mem _ hb) fun b hb => by
    rcases List.mem_cons.mp hb with hb | hb
    · exact .inr ⟨hb ▸ n, hb ▸ new_there h⟩
    · exact .inl hb
  obtain ⟨en, ow⟩ := en_new h he
  have no : ∀ (j : Nat) (ej : En), env[j]? = some ej → ej.isOw = true → σ[j]? = some (some (.ref a)) → False := fun j ej h1 h2 h3 => by
    have q := A.en j ej _ h1 h3
    have al : a ∈ L := by
      cases ej with
      | ow _ => exact q.1
      | od _ => exact q.1
      | ot _ => exact q.1
      | no => cases h2
      | fz _ => cases h2
    obtain ⟨_, u, hu, _⟩ := A.fr a al
    rw [n] at hu
    cases hu
  refine ⟨B.ok, B.al, B.wn, B.kp, B.fr, by rw [List.length_set, List.length_set, A.ls], fun j l b ej el h1 h2 o1 o2 s1 s2 => ?_, fun j e' y h1 h2 => ?_⟩
  · by_cases hi : i < env.length
    · have hi2 : i < σ.length := by rw [← A.ls]; exact hi
      by_cases hj : i = j
      · by_cases hl : i = l
        · omega
        · subst hj
          rw [List.getElem?_set_self hi2] at s1
          cases s1
          rw [List.getElem?_set_ne hl] at h2 s2
          exact (no l el h2 o2 s2).elim
      · rw [List.getElem?_set_ne hj] at h1 s1
        by_cases hl : i = l
        · subst hl
          rw [List.getElem?_set_self hi2] at s2
          cases s2
          exact (no j ej h1 o1 s1).elim
        · rw [List.getElem?_set_ne hl] at h2 s2
          exact A.sep j l b ej el h1 h2 o1 o2 s1 s2
    · have e1 : env.set i e = env := List.set_eq_of_length_le (by omega)
      have e2 : σ.set i (some (V.ref a)) = σ := List.set_eq_of_length_le (by rw [← A.ls]; omega)
      rw [e1] at h1 h2
      rw [e2] at s1 s2
      exact A.sep j l b ej el h1 h2 o1 o2 s1 s2
  · by_cases hj : i = j
    · subst hj
      by_cases hi : i < env.length
      · rw [List.getElem?_set_self hi] at h1
        rw [List.getElem?_set_self (by rw [← A.ls]; exact hi)] at h2
        cases h1
        cases h2
        exact en
      · rw [List.getElem?_eq_none (by rw [List.length_set]; omega)] at h1
        cases h1
    · rw [List.getElem?_set_ne hj] at h1 h2
      exact B.en j e' y h1 h2
theorem Abs.write (A : Abs F env σ L H) {i : Nat} {a : Addr} {e e' : En} {o' : HO} (hi : env[i]? = some e) (ow : e.isOw = true) (hs : σ[i]? = some (some (.ref a))) (ha : a ∈ L) (ow' : e'.isOw = true)
    (new : EnOk F L (upd H a o') e' (some (.ref a))) (po : Plo o' := by exact True.intro) : Abs F (env.set i e') σ L (upd H a o') ∧ Pres F L H L (upd H a o') := by
  have na : ¬ F.N0 a := A.out ha
  have nw : ¬ F.W.own a := fun z => na (A.wn a z)
  have pr : Pres F L H L (upd H a o') := fun x u q h => ⟨q, by
    have ne : x ≠ a := fun z => q (.inr (by rw [z]; exact ha))
    rw [upd_ne ne]
    exact h⟩
  have hil : i < env.length := (List.getElem?_eq_some_iff.mp hi).1
  refine ⟨⟨?_, A.al, A.wn, fun x u q h => ?_, fun b hb => ?_, by rw [List.length_set, A.ls], fun j l b ej el h1 h2 o1 o2 s1 s2 => ?_, fun j e2 y h1 h2 => ?_⟩, pr⟩
  · exact Wd.st A.ok (n := noT_upd po.ntb) fun b u h q => by
      have ne : b ≠ a := fun z => by
        rcases q with q | q
        · exact nw (by rw [← z]; exact q)
        · obtain ⟨_, o, e, pl⟩ := A.fr a ha
          rw [z, e] at h
          exact q (Option.some.inj h ▸ pl)
      rw [upd_ne ne]
      exact h
  · have hx := A.kp x u q h
    have ne : x ≠ a := fun z => by
      rw [z, (A.fr a ha).1] at h
      cases h
    rw [upd_ne ne]
    exact hx
  · refine ⟨(A.fr b hb).1, ?_⟩
    by_cases e : b = a
    · subst e
      exact ⟨_, upd_same, po⟩
    · rw [upd_ne e]
      exact (A.fr b hb).2
  · have f1 : ∀ (j : Nat) (ej : En), (env.set i e')[j]? = some ej → ej.isOw = true → ∃ e0 : En, env[j]? = some e0 ∧ e0.isOw = true := fun j ej h o => by
      by_cases hj : i = j
      · subst hj
        exact ⟨e, hi, ow⟩
      · rw [List.getElem?_set_ne hj] at h
        exact ⟨ej, h, o⟩
    obtain ⟨e1, g1, g2⟩ := f1 j ej h1 o1
    obtain ⟨e3, g3, g4⟩ := f1 l el h2 o2
    exact A.sep j l b e1 e3 g1 g3 g2 g4 s1 s2
  · by_cases hj : i = j
    · subst hj
      rw [List.getElem?_set_self hil] at h1
      cases h1
      rw [hs] at h2
      cases h2
      exact new
    · rw [List.getElem?_set_ne hj] at h1
      refine EnOk.keep A (fun x u q h => (pr x u q h).2) (fun _ z => z) (fun b hb ob hbL => ⟨hbL, fun u hu => ?_⟩) (A.en j e2 y h1 h2)
      have : b ≠ a := fun z => hj (A.sep i j a e e2 hi h1 ow ob hs (by rw [h2, hb, z]))
      rw [upd_ne this]
      exact hu
end
end DL
namespace DL
open PySem PySem.Spec PyProof.Rows L2 RK
section
variable {F : Fx} {env : De} {σ : L2.St} {L : List Addr} {H H' : Hp}
def Lone (env : De) (σ : L2.St) (a : Addr) : Prop := ∀ (j : Nat) (ej : En), env[j]? = some ej → ej.isOw = true → σ[j]? = some (some (.ref a)) → False
theorem Abs.lone (A : Abs F env σ L H) {a : Addr} (n : H a = none) : Lone env σ a := fun j ej h1 h2 h3 => by
  have q := A.en j ej _ h1 h3
  have al : a ∈ L := by
    cases ej with
    | ow _ => exact q.1
    | od _ => exact q.1
    | ot _ => exact q.1
    | no => cases h2
    | fz _ => cases h2
  obtain ⟨_, u, hu, _⟩ := A.fr a al
  rw [n] at hu
  cases hu
theorem Abs.setW (A : Abs F env σ L H) {a : Addr} {e : En} (no : Lone env σ a) (en : EnOk F L H e (some (.ref a))) (i : Nat) : Abs F (env.set i e) (σ.set i (some (.ref a))) L H := by
  refine ⟨A.ok, A.al, A.wn, A.kp, A.fr, by rw [List.length_set, List.length_set, A.ls], fun j l b ej el h1 h2 o1 o2 s1 s2 => ?_, fun j e' y h1 h2 => ?_⟩
  · by_cases hi : i < env.length
    · have hi2 : i < σ.length := by rw [← A.ls]; exact hi
      by_cases hj : i = j
      · by_cases hl : i = l
        · omega
        · subst hj
          rw [List.getElem?_set_self hi2] at s1
          cases s1
          rw [List.getElem?_set_ne hl] at h2 s2
          exact (no l el h2 o2 s2).elim
      · rw [List.getElem?_set_ne hj] at h1 s1
        by_cases hl : i = l
        · subst hl
          rw [List.getElem?_set_self hi2] at s2
          cases s2
          exact (no j ej h1 o1 s1).elim
        · rw [List.getElem?_set_ne hl] at h2 s2
          exact A.sep j l b ej el h1 h2 o1 o2 s1 s2
    · have e1 : env.set i e = env := List.set_eq_of_length_le (by omega)
      have e2 : σ.set i (some (V.ref a)) = σ := List.set_eq_of_length_le (by rw [← A.ls]; omega)
      rw [e1] at h1 h2
      rw [e2] at s1 s2
      exact A.sep j l b ej el h1 h2 o1 o2 s1 s2
  · by_cases hj : i = j
    · subst hj
      by_cases hi : i < env.length
      · rw [List.getElem?_set_self hi] at h1
        rw [List.getElem?_set_self (by rw [← A.ls]; exact hi)] at h2
        cases h1
        cases h2
        exact en
      · rw [List.getElem?_eq_none (by rw [List.length_set]; omega)] at h1
        cases h1
    · rw [List.getElem?_set_ne hj] at h1 h2
      exact A.en j e' y h1 h2
theorem Lone.setF {a : Addr} (h : Lone env σ a) (i : Nat) (x : D) (v : V) (l : env.length = σ.length) : Lone (env.set i (.fz x)) (σ.set i (some v)) a := fun j ej h1 h2 h3 => by
  by_cases hj : i = j
  · subst hj
    by_cases hi : i < env.length
    · rw [List.getElem?_set_self hi] at h1
      cases h1
      cases h2
    · rw [List.getElem?_eq_none (by rw [List.length_set]; omega)] at h1
      cases h1
  · rw [List.getElem?_set_ne hj] at h1 h3
    exact h j ej h1 h2 h3
theorem Lone.setW {a b : Addr} (h : Lone env σ a) (i : Nat) (e : En) (n : b ≠ a) (l : env.length = σ.length) : Lone (env.set i e) (σ.set i (some (.ref b))) a := fun j ej h1 h2 h3 => by
  by_cases hj : i = j
  · subst hj
    by_cases hi : i < env.length
    · rw [List.getElem?_set_self (by rw [← l]; exact hi)] at h3
      cases h3
      exact n rfl
    · rw [List.getElem?_eq_none (by rw [List.length_set]; omega)] at h1
      cases h1
  · rw [List.getElem?_set_ne hj] at h1 h3
    exact h j ej h1 h2 h3
theorem Abs.hold (A : Abs F env σ L H) (k : KeepW F.W H H') (o : F.W.ok H') {a : Addr} {x : D} (n : H a = none) (h : NewV F L H' a x) : Abs F env σ (a :: L) H' :=
  A.grow k o (pres_cons A k n) (fun b hb => List.mem_cons_of_mem _ hb) fun b hb => by
    rcases List.mem_cons.mp hb with hb | hb
    · exact .inr ⟨hb ▸ n, hb ▸ new_there h⟩
    · exact .inl hb
theorem NewV.step {a : Addr} (A : Abs F env σ (a :: L) H) (k : KeepW F.W H H') : ∀ {x : D}, NewV F L H a x → NewV F L H' a x := fun {x} h => by
  have w : ¬ F.W.own a := fun z => A.out List.mem_cons_self (A.wn a z)
  cases x with
  | lst ds => obtain ⟨vs, h1, h2⟩ := h; exact ⟨vs, k a _ w h1, A.kda k h2⟩
  | tup ds => obtain ⟨vs, h1, h2⟩ := h; exact ⟨vs, k a _ w h1, A.kda k h2⟩
  | dic ds => obtain ⟨vs, h1, h3, h2⟩ := h; exact ⟨vs, k a _ w h1, h3, A.kda k h2⟩
  | dct ds => obtain ⟨vs, h1, h3, h2⟩ := h; exact ⟨vs, k a _ w h1, h3, A.kda k h2⟩
  | _ => exact h
end
def sSet (i : Nat) (d : TDE) : TDS := fun P env => d env fun x => P.nx (env.set i (.fz x))
def sSetO (i : Nat) (d : TDE) : TDS := fun P env => d env fun x => ob (enOf x) fun e => P.nx (env.set i e)
def sDrop (d : TDE) : TDS := fun P env => d env fun _ => P.nx env
section
variable {X : Cx} {F : Fx} {e a b c : Expr} {es : List Expr} {d da db dc : TDE} {ds : TDA} {pos p : Pos} {i j l : Nat}
theorem l_setF {t : TE} (h : ∀ σ H Q, lC F d σ H Q → t σ H Q) : ∀ E σ H, lS F (sSet i d) E σ H → tAsg t (gName i) E σ H := fun E σ H ⟨env, L, P, A, pp, hn, _⟩ =>
  h σ H _ ⟨env, L, _, A, pp, fun x v H1 px k o dd => hn _ _ L H1 px ((A.step k o).setF dd i) (k.pres A)⟩
theorem l_setO {t : TE} (h : ∀ σ H Q, lN F d σ H Q → t σ H Q) : ∀ E σ H, lS F (sSetO i d) E σ H → tAsg t (gName i) E σ H := fun E σ H ⟨env, L, P, A, pp, hn, _⟩ =>
  h σ H _ ⟨env, L, _, A, pp, fun x v H1 px k o n dd => by
    obtain ⟨en, he, pn⟩ := ob_elim px
    exact hn _ _ _ H1 pn (A.setO k o n dd he i) (pres_cons A k n)⟩
theorem ds_set {x : Str} {pos' : Pos} (hN : X.N.Nodup) (hi : X.N[i]? = some x) (hx : Loc X.env.scope x) (he : PE X e (lC F d)) (hs : swapsWith e (some (.Name x pos')) pos.line X.env = pure false := by rfl) (hf : X.fn x = true ∨ X.env.scope.names.lookup x = some .local := by first | exact .inl rfl | exact .inr rfl | assumption) :
    PS X (.Assign [.Name x pos'] e pos) (lS F (sSet i d)) := PS.mono (ps_set hN hi hx he hs hf) (l_setF fun _ _ _ h => h)
theorem ds_setO {x : Str} {pos' : Pos} (hN : X.N.Nodup) (hi : X.N[i]? = some x) (hx : Loc X.env.scope x) (he : PE X e (lN F d)) (hs : swapsWith e (some (.Name x pos')) pos.line X.env = pure false := by rfl) (hf : X.fn x = true ∨ X.env.scope.names.lookup x = some .local := by first | exact .inl rfl | exact .inr rfl | assumption) :
    PS X (.Assign [.Name x pos'] e pos) (lS F (sSetO i d)) := PS.mono (ps_set hN hi hx he hs hf) (l_setO fun _ _ _ h => h)
theorem ds_expr (he : PE X e (lC F d)) (hs : swapsWith e none pos.line X.env = pure false := by rfl) : PS X (.Expr e pos) (lS F (sDrop d)) := PS.mono (ps_expr he hs) fun E σ H ⟨env, L, P, A, pp, hn, _⟩ =>
  ⟨env, L, _, A, pp, fun x v H1 px k o dd => hn env σ L H1 px (A.step k o) (k.pres A)⟩
abbrev TDG := D → De → (De → Prop) → Prop
abbrev TDGs := List D → De → (De → Prop) → Prop
def lG (F : Fx) (S : List Nat) (g : TDG) : TG := fun v σ H Q => ∃ env L x P, Abs F env σ L H ∧ Dd F.K (F.N L) F.W H v x ∧ g x env P ∧ ∀ env' σ', P env' → Abs F env' σ' L H → (∀ vs : List Nat, (∀ i ∈ S, i ∈ vs) → wipe σ' vs = wipe σ vs) → (∀ a, Lone env σ a → Lone env' σ' a) → Q σ' H
def lGs (F : Fx) (S : List Nat) (g : TDGs) : TGs := fun vs σ H Q => ∃ env L xs P, Abs F env σ L H ∧ DdAll F.K (F.N L) F.W H vs xs ∧ g xs env P ∧ ∀ env' σ', P env' → Abs F env' σ' L H → (∀ us : List Nat, (∀ i ∈ S, i ∈ us) → wipe σ' us = wipe σ us) → (∀ a, Lone env σ a → Lone env' σ' a) → Q σ' H
theorem wipe_set {σ : L2.St} {i : Nat} {v : Option V} : ∀ {vs : List Nat}, i ∈ vs → wipe (σ.set i v) vs = wipe σ vs
  | [], h => by cases h
  | w :: vs, h => by
    unfold wipe
    by_cases hw : i ∈ vs
    · rw [wipe_set hw]
    · have e : i = w := by
        rcases List.mem_cons.mp h with h | h
        · exact h
        · exact (hw h).elim
      subst e
      have comm : ∀ us : List Nat, i ∉ us → wipe (σ.set i v) us = (wipe σ us).set i v := by
        intro us
        induction us with
        | nil => intro _; rfl
        | cons u us ih =>
          intro hu
          unfold wipe
          rw [ih (fun z => hu (List.mem_cons_of_mem _ z)), List.set_comm]
          exact fun z => hu (by rw [z]; exact List.mem_cons_self)
      rw [comm vs hw, List.set_set]
theorem PG.mono {tg : Expr} {t t' : TG} (h : PG X tg t) (m : ∀ v σ H Q, t' v σ H Q → t v σ H Q) : PG X tg t' := ⟨fun pins s σ H v u Q I r q => h.run pins s σ H v u Q I r (m v σ H Q q)⟩
theorem PGs.mono {tg : List Expr} {t t' : TGs} (h : PGs X tg t) (m : ∀ v σ H Q, t' v σ H Q → t v σ H Q) : PGs X tg t' := ⟨fun pins s σ H v u Q I r q => h.run pins s σ H v u Q I r (m v σ H Q q)⟩
def gNm (i : Nat) : TDG := fun x env P => P (env.set i (.fz x))
theorem dg_name {x : Str} (hN : X.N.Nodup) (hi : X.N[i]? = some x) (hx : Loc X.env.scope x) (hf : X.fn x = true ∨ X.env.scope.names.lookup x = some .local := by first | exact .inl rfl | exact .inr rfl | assumption) : PG X (.Name x pos) (lG F [i] (gNm i)) :=
  PG.mono (pg_name hN hi hx hf) fun v σ H Q ⟨env, L, x, P, A, dd, g, q⟩ => q _ _ g (A.setF dd i) (fun vs h => wipe_set (h i List.mem_cons_self)) fun a h => h.setF i _ _ A.ls
def gsNil : TDGs := fun xs env P => xs = [] ∧ P env
def gsCons (g : TDG) (gs : TDGs) : TDGs := fun xs env P => match xs with | x :: r => g x env fun env' => gs r env' P | [] => False
theorem dgs_nil : PGs X [] (lGs F [] gsNil) := PGs.mono pgs_nil fun vs σ H Q ⟨env, L, xs, P, A, dd, g, q⟩ => by
  obtain ⟨rfl, g⟩ := g
  cases dd
  exact ⟨rfl, q env σ g A (fun _ _ => rfl) fun _ h => h⟩
theorem l_gcons {S S' : List Nat} {g : TDG} {gs : TDGs} : ∀ vs σ H Q, lGs F (S ++ S') (gsCons g gs) vs σ H Q → gCons (lG F S g) (lGs F S' gs) vs σ H Q := fun vs σ H Q ⟨env, L, xs, P, A, dd, gg, q⟩ => by
    cases dd with
    | nil => exact gg.elim
    | cons h t =>
      refine ⟨_, _, rfl, env, L, _, _, A, h, gg, fun env1 σ1 p1 A1 w1 n1 => ⟨env1, L, _, _, A1, t, p1, fun env2 σ2 p2 A2 w2 n2 => q env2 σ2 p2 A2 (fun us hu => ?_) fun a h => n2 a (n1 a h)⟩⟩
      rw [w2 us (fun i hi => hu i (List.mem_append_right _ hi)), w1 us (fun i hi => hu i (List.mem_append_left _ hi))]
def gTp (n : Nat) (gs : TDGs) : TDG := fun x env P => match x with | .tup xs => xs.length = n ∧ gs xs env P | _ => False
theorem l_gtup {S : List Nat} {n : Nat} {gs : TDGs} {K : PySem.W.Frag} (hK : F.K = K) : ∀ v σ H Q, lG F S (gTp n gs) v σ H Q → gTup K n (lGs F S gs) v σ H Q := fun v σ H Q ⟨env, L, x, P, A, dd, g, q⟩ => by
  cases x with
  | tup xs =>
    obtain ⟨a, vs, rfl, h1, _, h2⟩ := dd_tupE dd
    exact ⟨a, vs, rfl, SqT.of h1, h2.len.trans g.1, env, L, xs, P, A, h2, g.2, q⟩
  | _ => exact g.elim
def sAsg (d : TDE) (g : TDG) : TDS := fun P env => d env fun x => g x env P.nx
theorem l_asg {S : List Nat} {g : TDG} : ∀ E σ H, lS F (sAsg d g) E σ H → tAsg (lC F d) (lG F S g) E σ H := fun E σ H ⟨env, L, P, A, pp, hn, _⟩ =>
  ⟨env, L, _, A, pp, fun x v H1 px k o dd => ⟨env, L, x, _, A.step k o, dd, px, fun env' σ' p' A' _ _ => hn env' σ' L H1 p' A' (k.pres A)⟩⟩
def kn : Bool → D → Option En
  | true, x => enOf x
  | false, x => some (.fz x)
def sPar (i j : Nat) (ki kj : Bool) (da db : TDE) : TDS := fun P env => da env fun x => db env fun y => ob (kn ki x) fun ex => ob (kn kj y) fun ey => P.nx ((env.set i ex).set j ey)
theorem l_par : ∀ E σ H, lS F (sPar i j false false da db) E σ H → tPar i j (tCons (lC F da) (tCons (lC F db) tNil)) E σ H := fun E σ H ⟨env, L, P, A, pp, hn, _⟩ =>
  ⟨env, L, _, A, pp, fun x v H1 px k1 o1 d1 => ⟨env, L, _, A.step k1 o1, px, fun y u H2 py k2 o2 d2 => ⟨v, u, rfl, hn _ _ L H2 py ((((A.step k1 o1).step k2 o2).setF ((A.step k1 o1).kd k2 d1) i).setF d2 j) ((k1.trans k2).pres A)⟩⟩⟩
theorem l_parR : ∀ E σ H, lS F (sPar i j false true da db) E σ H → tPar i j (tCons (lC F da) (tCons (lN F db) tNil)) E σ H := fun E σ H ⟨env, L, P, A, pp, hn, _⟩ =>
  ⟨env, L, _, A, pp, fun x v H1 px k1 o1 d1 => ⟨env, L, _, A.step k1 o1, px, fun y a H2 py k2 o2 n2 d2 => by
    obtain ⟨ex, he0, pn⟩ := ob_elim py
    cases he0
    obtain ⟨ey, he, pn⟩ := ob_elim pn
    have A1 := A.step k1 o1
    have B := A1.hold k2 o2 n2 d2
    have pr := pres_cons A1 k2 n2
    exact ⟨v, _, rfl, hn _ _ _ H2 pn ((B.setF (d1.pres pr) i).setW ((A1.lone n2).setF i x v A.ls) (en_new d2 he).1 j) ((k1.pres A).trans pr)⟩⟩⟩
theorem l_parL : ∀ E σ H, lS F (sPar i j true false da db) E σ H → tPar i j (tCons (lN F da) (tCons (lC F db) tNil)) E σ H := fun E σ H ⟨env, L, P, A, pp, hn, _⟩ =>
  ⟨env, L, _, A, pp, fun x a H1 px k1 o1 n1 d1 => by
    have B := A.hold k1 o1 n1 d1
    have pr := pres_cons A k1 n1
    exact ⟨env, a :: L, _, B, px, fun y u H2 py k2 o2 d2 => by
      obtain ⟨ex, he, pn⟩ := ob_elim py
      obtain ⟨ey, he0, pn⟩ := ob_elim pn
      cases he0
      have B2 := B.step k2 o2
      have nv := d1.step B k2
      refine ⟨_, u, rfl, hn _ _ _ H2 pn ((B2.setW (A.lone n1) (en_new nv he).1 i).setF d2 j) (pr.trans (k2.pres B))⟩⟩⟩
end
end DL
namespace DL
open PySem PySem.Spec PyProof.Rows L2 RK
section
variable {X : Cx} {F : Fx} {e a b c o : Expr} {es : List Expr} {d da db dc : TDE} {ds : TDA} {pos p apos cpos : Pos} {i j l : Nat}
def owAt (env : De) (i : Nat) : Option (List D) := env[i]?.bind fun e => match e with | .ow xs => some xs | _ => none
theorem owAt_en {env : De} {i : Nat} {xs : List D} (h : owAt env i = some xs) : env[i]? = some (.ow xs) := by
  obtain ⟨e, h1, h2⟩ := Option.bind_eq_some_iff.mp h
  cases e <;> cases h2
  exact h1
theorem ow_get {env : De} {σ : L2.St} {L : List Addr} {H : Hp} (A : Abs F env σ L H) {xs : List D} (h : owAt env i = some xs) : ∃ a vs, σ[i]? = some (some (.ref a)) ∧ a ∈ L ∧ H a = some (.lst vs) ∧ DdAll F.K (F.N L) F.W H vs xs := by
  obtain ⟨v, h1, h2⟩ := abs_at A (owAt_en h) (by intro z; cases z)
  cases v with
  | ref a => obtain ⟨q1, vs, q2, q3⟩ := h2; exact ⟨a, vs, h1, q1, q2, q3⟩
  | _ => exact h2.elim
theorem ow_put {env : De} {σ : L2.St} {L : List Addr} {H : Hp} (A : Abs F env σ L H) {xs ys : List D} (h : owAt env i = some xs) {a : Addr} (hs : σ[i]? = some (some (.ref a))) (ha : a ∈ L) {us : List V} (hu : DdAll F.K (F.N L) F.W H us ys) :
    Abs F (env.set i (.ow ys)) σ L (upd H a (.lst us)) ∧ Pres F L H L (upd H a (.lst us)) := by
  refine A.write (owAt_en h) rfl hs ha rfl ⟨ha, us, upd_same, hu.keep (fun x u q h => ?_) fun _ z => z⟩
  have ne : x ≠ a := fun z => q (.inr (by rw [z]; exact ha))
  rw [upd_ne ne]
  exact h
def sApp (i : Nat) (d : TDE) : TDS := fun P env => ob (owAt env i) fun xs => d env fun x => xs.length < sizeLine ∧ P.nx (env.set i (.ow (xs ++ [x])))
theorem l_app {K : PySem.W.Frag} : ∀ E σ H, lS F (sApp i d) E σ H → tDrop (tBM K "list" rAppend (tVar i) (tCons (lC F d) tNil)) E σ H := fun E σ H ⟨env, L, P, A, pp, hn, _⟩ => by
  obtain ⟨xs, h, pp⟩ := ob_elim pp
  obtain ⟨a, vs, hs, ha, hv, hd⟩ := ow_get A h
  refine ⟨_, hs, .inl ⟨rfl, vs, SqL.of hv⟩, env, L, _, A, pp, fun x v H1 px k1 o1 d1 => ?_⟩
  have A1 := A.step k1 o1
  obtain ⟨a2, vs2, hs2, ha2, hv2, hd2⟩ := ow_get A1 h
  rw [hs] at hs2
  cases hs2
  obtain ⟨B, pr⟩ := ow_put A1 h hs ha2 (hd2.app (.cons d1 .nil))
  exact ⟨a, vs2, v, rfl, rfl, hv2, by rw [hd2.len]; exact px.1, hn _ _ _ _ px.2 B ((k1.pres A).trans pr)⟩
theorem ds_app (ho : PE X o (tVar i)) (he : PE X e (lC F d)) (hbase : attributeBase o "append" X.env (eval o X.env) = eval o X.env := by rfl)
    (hfew : ((backTo cpos (starEach [e] X.env)).all (fun x => !x.1) && (backToKw cpos (keywordEach [] X.env)).all (fun x => x.1.isSome) && decide (([e] : List Expr).length + ([] : List Keyword).length + (if ([] : List Keyword).isEmpty then 0 else 1) < 30)) = true := by rfl)
    (hline : (apos.endLine == cpos.line) = true := by rfl) (hs : starEach [e] X.env = (false, eval e X.env) :: starEach [] X.env := by rfl) (hplain : (backTo cpos (starEach [] X.env)).any (·.1) = false := by rfl)
    (hsw : swapsWith (.Call (.Attribute o "append" apos) [e] [] cpos) none pos.line X.env = pure false := by rfl) :
    PS X (.Expr (.Call (.Attribute o "append" apos) [e] [] cpos) pos) (lS F (sApp i d)) := PS.mono (ps_expr (pe_bm PySem.F.plainAttrs_list PySem.F.slot_list_append PySem.F.type_list_append mt_append ho (pa_cons he pa_nil hs) hbase hfew hline hs hplain) hsw) l_app
def sIns (i : Nat) (da db : TDE) : TDS := fun P env => ob (owAt env i) fun xs => da env fun y => db env fun x => match y with
  | .int n => xs.length < sizeLine ∧ 0 ≤ n ∧ n < 2 ^ 63 ∧ P.nx (env.set i (.ow (xs.take n.toNat ++ [x] ++ xs.drop n.toNat)))
  | _ => False
theorem ds_ins (ho : PE X o (tVar i)) (ha : PE X a (lC F da)) (hb : PE X b (lC F db)) (hbase : attributeBase o "insert" X.env (eval o X.env) = eval o X.env := by rfl)
    (hfew : ((backTo cpos (starEach [a, b] X.env)).all (fun x => !x.1) && (backToKw cpos (keywordEach [] X.env)).all (fun x => x.1.isSome) && decide (([a, b] : List Expr).length + ([] : List Keyword).length + (if ([] : List Keyword).isEmpty then 0 else 1) < 30)) = true := by rfl)
    (hline : (apos.endLine == cpos.line) = true := by rfl) (hs : starEach [a, b] X.env = (false, eval a X.env) :: starEach [b] X.env := by rfl) (hs2 : starEach [b] X.env = (false, eval b X.env) :: starEach [] X.env := by rfl) (hplain : (backTo cpos (starEach [b] X.env)).any (·.1) = false := by rfl)
    (hsw : swapsWith (.Call (.Attribute o "insert" apos) [a, b] [] cpos) none pos.line X.env = pure false := by rfl) :
    PS X (.Expr (.Call (.Attribute o "insert" apos) [a, b] [] cpos) pos) (lS F (sIns i da db)) := PS.mono (ps_expr (pe_bm PySem.F.plainAttrs_list PySem.F.slot_list_insert PySem.F.type_list_insert mt_insert ho (pa_cons ha (pa_cons hb pa_nil hs2) hs) hbase hfew hline hs hplain) hsw) fun E σ H ⟨env, L, P, A, pp, hn, _⟩ => by
  obtain ⟨xs, h, pp⟩ := ob_elim pp
  obtain ⟨t, vs, hs, ha, hv, hd⟩ := ow_get A h
  refine ⟨_, hs, .inl ⟨rfl, vs, SqL.of hv⟩, env, L, _, A, pp, fun y w H1 px k1 o1 d1 => ⟨env, L, _, A.step k1 o1, px, fun x v H2 px k2 o2 d2 => ?_⟩⟩
  cases y with
  | int n =>
    cases d1
    have A2 := (A.step k1 o1).step k2 o2
    obtain ⟨a2, vs2, hs2, ha2, hv2, hd2⟩ := ow_get A2 h
    rw [hs] at hs2
    cases hs2
    obtain ⟨B, pr⟩ := ow_put A2 h hs ha2 (((hd2.take n.toNat).app (.cons d2 .nil)).app (hd2.drop n.toNat))
    exact ⟨t, vs2, n, v, rfl, rfl, hv2, by rw [hd2.len]; exact px.1, px.2.1, px.2.2.1, hn _ _ _ _ px.2.2.2 B (((k1.trans k2).pres A).trans pr)⟩
  | _ => exact px.elim
def sExt (i : Nat) (d : TDE) : TDS := fun P env => ob (owAt env i) fun xs => d env fun x => match x with | .lst ys => xs.length + ys.length ≤ sizeLine ∧ P.nx (env.set i (.ow (xs ++ ys))) | _ => False
def sClr (i : Nat) : TDS := fun P env => ob (owAt env i) fun _ => P.nx (env.set i (.ow []))
def sRev (i : Nat) : TDS := fun P env => ob (owAt env i) fun xs => P.nx (env.set i (.ow xs.reverse))
def sPut (i : Nat) (de dk : TDE) : TDS := fun P env => de env fun x => ob (owAt env i) fun xs => dk env fun k => match k with | .int n => ob (ixN xs.length n) fun m => P.nx (env.set i (.ow (xs.set m x))) | _ => False
def odAt (env : De) (i : Nat) : Option En := env[i]?.bind fun e => match e with | .od k => some (.od k) | .ot k => some (.ot k) | _ => none
def odPut (e : En) (k v : D) : Option En := match e with
  | .od kds => (keyD k).bind fun k => if kds.length < sizeLine then some (.od (putD kds k v)) else none
  | .ot kds => match k with | .tup ks => (keysD ks).bind fun k => if kds.length < sizeLine then some (.ot (putD kds k v)) else none | _ => none
  | _ => none
def sDput (i : Nat) (dv dk : TDE) : TDS := fun P env => dv env fun v => ob (odAt env i) fun e0 => dk env fun k => ob (odPut e0 k v) fun e => P.nx (env.set i e)
theorem odAt_en {env : De} {i : Nat} {e : En} (h : odAt env i = some e) : env[i]? = some e ∧ e.isOw = true := by
  obtain ⟨e', h1, h2⟩ := Option.bind_eq_some_iff.mp h
  cases e' <;> cases h2
  · exact ⟨h1, rfl⟩
  · exact ⟨h1, rfl⟩
theorem kd_len {κ : Type} {kvs : List (κ × V)} {kds : List (κ × D)} (h : kvs.map (·.1) = kds.map (·.1)) : kvs.length = kds.length := by simpa using congrArg List.length h
theorem l_dput : ∀ E σ H, lS F (sDput i da db) E σ H → sDPut (tVar i) (lC F db) (lC F da) E σ H := fun E σ H ⟨env, L, P, A, pp, hn, _⟩ =>
  ⟨env, L, _, A, pp, fun x v H1 px k1 o1 d1 => by
    have A1 := A.step k1 o1
    obtain ⟨e0, h0, pp⟩ := ob_elim px
    obtain ⟨g1, g2⟩ := odAt_en h0
    obtain ⟨w, hs, en⟩ := abs_at A1 g1 (by rintro rfl; cases g2)
    refine ⟨w, hs, env, L, _, A1, pp, fun y u H2 py k2 o2 d2 => ?_⟩
    obtain ⟨e1, h1, pn⟩ := ob_elim py
    have A2 := A1.step k2 o2
    have en2 := A2.en i e0 _ g1 hs
    cases e0 with
    | od kds =>
      cases w with
      | ref t =>
        obtain ⟨ha, kvs, h2, h3, h4⟩ := en2
        obtain ⟨k, h5, h6⟩ := Option.bind_eq_some_iff.mp h1
        obtain ⟨hl, rfl⟩ := guard_elim h6
        have hu := keyD_v (F := F) (L := L) (.inl d2) h5
        obtain ⟨r1, r2⟩ := put_rel (k := k) h3 h4 (A1.kd k2 d1)
        obtain ⟨B, pr⟩ := A2.write (o' := .dK (putK kvs k v)) (e' := .od (putD kds k x)) g1 g2 hs ha rfl ⟨ha, _, upd_same, r1, r2.keep (fun z u q h => by
          have ne : z ≠ t := fun zz => q (.inr (by rw [zz]; exact ha))
          rw [upd_ne ne]
          exact h) fun _ z => z⟩
        exact ⟨t, _, rfl, .inl ⟨kvs, k, h2, hu, by rw [kd_len h3]; exact hl, rfl⟩, hn _ _ _ _ pn B (((k1.trans k2).pres A).trans pr)⟩
      | _ => exact en2.elim
    | ot kds =>
      cases w with
      | ref t =>
        obtain ⟨ha, kvs, h2, h3, h4⟩ := en2
        cases y with
        | tup ks =>
          obtain ⟨k, h5, h6⟩ := Option.bind_eq_some_iff.mp h1
          obtain ⟨hl, rfl⟩ := guard_elim h6
          obtain ⟨q, vs, rfl, g3, _, g4⟩ := dd_tupE d2
          have hu := keysD_v g4 h5
          subst hu
          obtain ⟨r1, r2⟩ := put_rel (k := k) h3 h4 (A1.kd k2 d1)
          obtain ⟨B, pr⟩ := A2.write (o' := .dT (putK kvs k v)) (e' := .ot (putD kds k x)) g1 g2 hs ha rfl ⟨ha, _, upd_same, r1, r2.keep (fun z u q h => by
            have ne : z ≠ t := fun zz => q (.inr (by rw [zz]; exact ha))
            rw [upd_ne ne]
            exact h) fun _ z => z⟩
          exact ⟨t, _, rfl, .inr ⟨kvs, k, q, h2, rfl, g3, by rw [kd_len h3]; exact hl, rfl⟩, hn _ _ _ _ pn B (((k1.trans k2).pres A).trans pr)⟩
        | _ => cases h1
      | _ => exact en2.elim
    | ow _ => cases h1
    | no => cases g2
    | fz _ => cases g2⟩
def frz (e : En) : Option En := (owD e).map En.fz
def sFrz (i : Nat) (s : TDS) : TDS := fun P env => ob (env[i]?.bind frz) fun e => s P (env.set i e)
theorem ss_frz {sts : List Stmt} {s : TDS} (h : PSs X sts (lS F s)) : PSs X sts (lS F (sFrz i s)) := PSs.mono h fun E σ H ⟨env, L, P, A, pp, hn, hr, hb, hc⟩ => by
  obtain ⟨e, h1, pp⟩ := ob_elim pp
  obtain ⟨e0, h2, h3⟩ := Option.bind_eq_some_iff.mp h1
  obtain ⟨x, h4, rfl⟩ := Option.map_eq_some_iff.mp h3
  obtain ⟨v, hs, en⟩ := abs_at A h2 (by rintro rfl; cases h4)
  obtain ⟨t, rfl⟩ := owD_ref en h4
  have ow : e0.isOw = true := by cases e0 <;> first | rfl | cases h4
  obtain ⟨ht, nv⟩ := ow_new A en h4
  have sub : ∀ y, F.N (L.filter fun z => decide (z ≠ t)) y → F.N L y := fun y hy => hy.imp id fun z => (List.mem_filter.mp z).1
  have pr : Pres F L H (L.filter fun z => decide (z ≠ t)) H := fun y o q h => ⟨fun z => q (sub y z), h⟩
  have nt : ¬ F.N (L.filter fun z => decide (z ≠ t)) t := fun z => by
    rcases z with z | z
    · exact A.out ht z
    · have := (List.mem_filter.mp z).2
      simp at this
  have dd : Dd F.K (F.N (L.filter fun z => decide (z ≠ t))) F.W H (.ref t) x := by
    have key : ∀ {vs : List V} {ds : List D}, DdAll F.K (F.N L) F.W H vs ds → DdAll F.K (F.N (L.filter fun z => decide (z ≠ t))) F.W H vs ds := fun h => h.keep (fun _ _ _ z => z) sub
    cases e0 with
    | ow ds => cases h4; obtain ⟨_, vs, q1, q2⟩ := en; exact .lst q1 nt (key q2)
    | od ds => cases h4; obtain ⟨_, vs, q1, q3, q2⟩ := en; exact .dic (.inl q1) nt q3 (key q2)
    | ot ds => cases h4; obtain ⟨_, vs, q1, q3, q2⟩ := en; exact .dct (.inl q1) nt q3 (key q2)
    | _ => cases h4
  have hil : i < env.length := (List.getElem?_eq_some_iff.mp h2).1
  have B : Abs F (env.set i (.fz x)) σ (L.filter fun z => decide (z ≠ t)) H := by
    refine ⟨A.ok, A.al, A.wn, A.kp, fun y hy => A.fr y (List.mem_filter.mp hy).1, by rw [List.length_set, A.ls], fun j l b ej el g1 g2 o1 o2 s1 s2 => ?_, fun j e' y g1 g2 => ?_⟩
    · by_cases hj : i = j
      · subst hj
        rw [List.getElem?_set_self hil] at g1
        cases g1
        cases o1
      · by_cases hl : i = l
        · subst hl
          rw [List.getElem?_set_self hil] at g2
          cases g2
          cases o2
        · rw [List.getElem?_set_ne hj] at g1
          rw [List.getElem?_set_ne hl] at g2
          exact A.sep j l b ej el g1 g2 o1 o2 s1 s2
    · by_cases hj : i = j
      · subst hj
        rw [List.getElem?_set_self hil] at g1
        cases g1
        rw [hs] at g2
        cases g2
        exact dd
      · rw [List.getElem?_set_ne hj] at g1
        refine EnOk.keep A (fun x u q h => h) sub (fun b hb ob hbL => ⟨List.mem_filter.mpr ⟨hbL, decide_eq_true ?_⟩, fun u hu => hu⟩) (A.en j e' y g1 g2)
        exact fun z => hj (A.sep i j t e0 e' h2 g1 ow ob hs (by rw [g2, hb, z]))
  exact ⟨_, _, P, B, pp, fun env2 σ2 L2 H2 p2 A2 pr2 => hn env2 σ2 L2 H2 p2 A2 (pr.trans pr2), hr, fun env2 σ2 L2 H2 p2 A2 pr2 => hb env2 σ2 L2 H2 p2 A2 (pr.trans pr2), fun env2 σ2 L2 H2 p2 A2 pr2 => hc env2 σ2 L2 H2 p2 A2 (pr.trans pr2)⟩
end
end DL
namespace DL
open PySem PySem.Spec PyProof.Rows L2 RK
structure Stn (H H' : Hp) : Prop where
  f : ∀ a o, H a = some o → H' a = some o
  n : NoT H H'
theorem Stn.refl (H : Hp) : Stn H H := ⟨fun _ _ z => z, fun _ _ z => ⟨_, z⟩⟩
theorem Stn.new {H : Hp} {p : Addr} {o : HO} (h : H p = none) (n : Ntb o) : Stn H (upd H p o) := ⟨fun a u q => by rw [upd_ne (ne_of_none q h)]; exact q, noT_upd n⟩
instance {H H' : Hp} : CoeFun (Stn H H') fun _ => ∀ a o, H a = some o → H' a = some o := ⟨Stn.f⟩
def ItOk (F : Fx) (Rel : (Addr → Prop) → Hp → Prop) (J : It) (xs : List D) : Prop := ∀ N' H', Rel N' H' → (∀ a, N' a → ∃ o, H' a = some o) → ∀ i : Nat, (xs.length = i → J.stop i H') ∧
  ∀ x, xs[i]? = some x → J.go i H' ∧ ∀ v H2, J.yld i H' v H2 → Stn H' H2 ∧ Dd F.K N' F.W H2 v x
def relP (F : Fx) (L : List Addr) (H : Hp) : (Addr → Prop) → Hp → Prop := fun N' H' => ∀ a o, ¬ F.N L a → H a = some o → ¬ N' a ∧ H' a = some o
def relK (F : Fx) (L : List Addr) (H : Hp) : (Addr → Prop) → Hp → Prop := fun N' H' => ∀ a o, ¬ F.W.own a → H a = some o → (¬ F.N L a → ¬ N' a) ∧ H' a = some o
abbrev TDI := De → (List D → Prop) → Prop
def lI (F : Fx) (d : TDI) : TI := fun σ H R => ∃ env L P, Abs F env σ L H ∧ d env P ∧ ∀ xs J H', P xs → KeepW F.W H H' → F.W.ok H' → ItOk F (relP F L H') J xs → R J H'
def lIb (F : Fx) (d : TDI) : TI := fun σ H R => ∃ env L P, Abs F env σ L H ∧ d env P ∧ ∀ xs J H', P xs → KeepW F.W H H' → F.W.ok H' → ItOk F (relK F L H') J xs → R J H'
section
variable {X : Cx} {F : Fx} {e a b c tg iter : Expr} {es : List Expr} {d da db dc : TDE} {ds : TDA} {pos p : Pos} {i j l : Nat}
theorem it_list {Rel : (Addr → Prop) → Hp → Prop} {t : Addr} {vs : List V} {xs : List D} (h : ∀ N' H', Rel N' H' → H' t = some (.lst vs) ∧ DdAll F.K N' F.W H' vs xs) : ItOk F Rel (Itl F.K t) xs := fun N' H' r _ i => by
  obtain ⟨h1, h2⟩ := h N' H' r
  refine ⟨fun hi => ⟨vs, SqL.of h1, by rw [h2.len]; exact Nat.le_of_eq hi⟩, fun x hx => ?_⟩
  obtain ⟨v, hv, dv⟩ := h2.get hx
  refine ⟨⟨vs, v, SqL.of h1, hv⟩, fun w H2 hy => ?_⟩
  obtain ⟨rfl, hy⟩ := hy
  have := hy vs (SqL.of h1)
  rw [hv] at this
  cases this
  exact ⟨.refl _, dv⟩
theorem it_tup {Rel : (Addr → Prop) → Hp → Prop} {t : Addr} {vs : List V} {xs : List D} (h : ∀ N' H', Rel N' H' → SqT F.K H' t vs ∧ DdAll F.K N' F.W H' vs xs) : ItOk F Rel (Itt F.K t) xs := fun N' H' r _ i => by
  obtain ⟨h1, h2⟩ := h N' H' r
  refine ⟨fun hi => ⟨vs, h1, by rw [h2.len]; exact Nat.le_of_eq hi⟩, fun x hx => ?_⟩
  obtain ⟨v, hv, dv⟩ := h2.get hx
  refine ⟨⟨vs, v, h1, hv⟩, fun w H2 hy => ?_⟩
  obtain ⟨rfl, hy⟩ := hy
  have := hy vs h1
  rw [hv] at this
  cases this
  exact ⟨.refl _, dv⟩
def rngD (lo : Int) (n : Nat) : List D := (List.range n).map fun k => .int (lo + (k : Nat))
theorem it_rng {Rel : (Addr → Prop) → Hp → Prop} {lo : Int} {n : Nat} : ItOk F Rel (Itr lo n) (rngD lo n) := fun N' H' r _ i => by
  refine ⟨fun hi => (show n ≤ i by have := Nat.le_of_eq hi; simpa [rngD] using this), fun x hx => ?_⟩
  have hi : i < n := by
    have := (List.getElem?_eq_some_iff.mp hx).1
    simpa [rngD] using this
  have e : x = .int (lo + (i : Nat)) := by
    unfold rngD at hx
    rw [List.getElem?_map, List.getElem?_range hi] at hx
    exact (Option.some.inj hx).symm
  subst e
  refine ⟨hi, fun w H2 hy => ?_⟩
  obtain ⟨rfl, rfl⟩ := hy
  exact ⟨.refl _, .int _⟩
theorem PI.mono {w w' : TI} (h : PI X tg iter w) (m : ∀ σ H R, w' σ H R → w σ H R) : PI X tg iter w' := ⟨fun pins s σ H R I q => h.run pins s σ H R I (m σ H R q)⟩
theorem PI.or {w w' : TI} (h : PI X tg iter w) (h' : PI X tg iter w') : PI X tg iter (fun σ H R => w σ H R ∨ w' σ H R) := ⟨fun pins s σ H R I q => by
  rcases q with q | q
  · exact h.run pins s σ H R I q
  · exact h'.run pins s σ H R I q⟩
def lstD : D → Option (List D)
  | .lst xs => some xs
  | _ => none
def tupD : D → Option (List D)
  | .tup xs => some xs
  | .ktp xs => some xs
  | _ => none
def sgnD : D → Option (List D)
  | .str z => some (z.cps.toList.map fun c => .str ⟨#[c]⟩)
  | _ => none
def iSeq (d : TDE) : TDI := fun env P => (d env fun x => ob (lstD x) P) ∨ ((d env fun x => ob (tupD x) P) ∨ (d env fun x => ob (sgnD x) P))
theorem it_str {Rel : (Addr → Prop) → Hp → Prop} {z : Str} : ItOk F Rel (Its z) (z.cps.toList.map fun c => .str ⟨#[c]⟩) := fun N' H' r _ i => by
  refine ⟨fun hi => (show z.cps.size ≤ i by have := Nat.le_of_eq hi; simpa using this), fun x hx => ?_⟩
  rw [List.getElem?_map] at hx
  obtain ⟨c, hc, rfl⟩ := Option.map_eq_some_iff.mp hx
  have hi : i < z.cps.size := by simpa using (List.getElem?_eq_some_iff.mp hc).1
  have hc2 : z.cps[i]? = some c := by rw [← Array.getElem?_toList]; exact hc
  refine ⟨hi, fun w H2 hy => ?_⟩
  obtain ⟨rfl, c', h1, rfl⟩ := hy
  rw [hc2] at h1
  cases h1
  exact ⟨.refl _, .str _⟩
theorem lstD_e {x : D} {xs : List D} (h : lstD x = some xs) : x = .lst xs := by cases x <;> cases h; rfl
theorem seqT_keep {N N' : Addr → Prop} {H H' : Hp} {v : V} {x : D} {xs : List D} (e : tupD x = some xs) (h : Dd F.K N F.W H v x) : ∃ t vs, v = .ref t ∧ SqT F.K H t vs ∧ ∀ N' H', (∀ a o, ¬ N a → H a = some o → ¬ N' a ∧ H' a = some o) → SqT F.K H' t vs ∧ DdAll F.K N' F.W H' vs xs := by
  cases x <;> cases e
  · obtain ⟨t, vs, rfl, h1, h2, h3⟩ := dd_tupE h
    exact ⟨t, vs, rfl, SqT.of h1, fun N' H' r => ⟨SqT.of (r t _ h2 h1).2, h3.pres r⟩⟩
  · cases h with | ktp h1 h2 h3 h4 h5 h6 => exact ⟨_, _, rfl, .inr ⟨_, _, _, h1, h2, h3, h4, h5⟩, fun N' H' r => ⟨.inr ⟨_, _, _, h1, h2, h3, h4, h5⟩, h6.pres r⟩⟩
theorem di_seq (he : PE X e (lC F d)) (hK : F.K = X.K := by rfl) : PI X tg e (lI F (iSeq d)) := PI.mono (PI.or (pi_list he) (PI.or (pi_tup he) (pi_str he))) fun σ H R ⟨env, L, P, A, pp, q⟩ => by
  rw [← hK]
  rcases pp with pp | pp | pp
  · refine .inl ⟨env, L, _, A, pp, fun x v H1 px k1 o1 d1 => ?_⟩
    obtain ⟨xs, e, px⟩ := ob_elim px
    have := lstD_e e
    subst this
    obtain ⟨t, vs, rfl, h1, h2, h3⟩ := dd_lstE d1
    exact ⟨t, rfl, ⟨vs, SqL.of h1⟩, q xs _ H1 px k1 o1 (it_list fun N' H' r => ⟨(r t _ h2 h1).2, h3.pres r⟩)⟩
  · refine .inr (.inl ⟨env, L, _, A, pp, fun x v H1 px k1 o1 d1 => ?_⟩)
    obtain ⟨xs, e, px⟩ := ob_elim px
    obtain ⟨t, vs, rfl, h1, h2⟩ := seqT_keep (N' := fun _ => False) (H' := H1) e d1
    exact ⟨t, rfl, ⟨vs, h1⟩, q xs _ H1 px k1 o1 (it_tup fun N' H' r => h2 N' H' r)⟩
  · refine .inr (.inr ⟨env, L, _, A, pp, fun x v H1 px k1 o1 d1 => ?_⟩)
    obtain ⟨xs, e, px⟩ := ob_elim px
    cases x <;> cases e
    have := dd_strE d1
    subst this
    exact ⟨_, rfl, q _ _ H1 px k1 o1 it_str⟩
theorem relK_p {L : List Addr} {H : Hp} {N' : Addr → Prop} {H' : Hp} {env : De} {σ : L2.St} (A : Abs F env σ L H) (r : relK F L H N' H') : ∀ a o, ¬ F.N L a → H a = some o → ¬ N' a ∧ H' a = some o := fun a o n h => ⟨(r a o (nw_of A n) h).1 n, (r a o (nw_of A n) h).2⟩
theorem bw_lstO {env : De} {σ : L2.St} {L : List Addr} {H : Hp} (A : Abs F env σ L H) {v : V} {xs : List D} (h : Bw F L H v (.lst xs)) : ∃ t vs, v = .ref t ∧ H t = some (.lst vs) ∧ ¬ F.W.own t ∧ DdAll F.K (F.N L) F.W H vs xs := by
  rcases h with h | ⟨e, h1, h2, h3⟩
  · obtain ⟨t, vs, rfl, h1, h2, h3⟩ := dd_lstE h
    exact ⟨t, vs, rfl, h1, nw_of A h2, h3⟩
  · cases e with
    | ow es =>
      cases h3
      cases v with
      | ref a =>
        obtain ⟨g1, vs, g2, g3⟩ := h2
        exact ⟨a, vs, rfl, g2, fun z => A.out g1 (A.wn a z), g3⟩
      | _ => exact h2.elim
    | no => cases h1
    | fz _ => cases h1
    | od _ => cases h3
    | ot _ => cases h3
theorem bw_tupC {L : List Addr} {H : Hp} {v : V} {x : D} {xs : List D} (e : tupD x = some xs) (h : Bw F L H v x) : Dd F.K (F.N L) F.W H v x := by
  rcases h with h | ⟨en, h1, h2, h3⟩
  · exact h
  · cases en with
    | no => cases h1
    | fz _ => cases h1
    | ow _ => subst h3; cases e
    | od _ => subst h3; cases e
    | ot _ => subst h3; cases e
theorem db_seq (he : PE X e (lB F d)) (hK : F.K = X.K := by rfl) : PI X tg e (lIb F (iSeq d)) := PI.mono (PI.or (pi_list he) (PI.or (pi_tup he) (pi_str he))) fun σ H R ⟨env, L, P, A, pp, q⟩ => by
  rw [← hK]
  rcases pp with pp | pp | pp
  · refine .inl ⟨env, L, _, A, pp, fun x v H1 px k1 o1 d1 => ?_⟩
    obtain ⟨xs, e, px⟩ := ob_elim px
    have := lstD_e e
    subst this
    obtain ⟨t, vs, rfl, h1, h2, h3⟩ := bw_lstO (A.step k1 o1) d1
    exact ⟨t, rfl, ⟨vs, SqL.of h1⟩, q xs _ H1 px k1 o1 (it_list fun N' H' r => ⟨(r t _ h2 h1).2, h3.pres (relK_p (A.step k1 o1) r)⟩)⟩
  · refine .inr (.inl ⟨env, L, _, A, pp, fun x v H1 px k1 o1 d1 => ?_⟩)
    obtain ⟨xs, e, px⟩ := ob_elim px
    obtain ⟨t, vs, rfl, h1, h2⟩ := seqT_keep (N' := fun _ => False) (H' := H1) e (bw_tupC e d1)
    exact ⟨t, rfl, ⟨vs, h1⟩, q xs _ H1 px k1 o1 (it_tup fun N' H' r => h2 N' H' (relK_p (A.step k1 o1) r))⟩
  · refine .inr (.inr ⟨env, L, _, A, pp, fun x v H1 px k1 o1 d1 => ?_⟩)
    obtain ⟨xs, e, px⟩ := ob_elim px
    cases x <;> cases e
    have := bw_str d1
    subst this
    exact ⟨_, rfl, q _ _ H1 px k1 o1 it_str⟩
def iRng (ds : TDA) : TDI := fun env P => ds env fun xs => match xs with
  | [.int n] => -(2 ^ 62) ≤ n ∧ n < 2 ^ 62 ∧ P (rngD 0 n.toNat)
  | _ => False
def iRngB (ds : TDA) : TDI := fun env P => ds env fun xs => match xs with
  | [.int m, .int n] => (-(2 ^ 62) ≤ m ∧ m < 2 ^ 62 ∧ -(2 ^ 62) ≤ n ∧ n < 2 ^ 62) ∧ P (rngD m (n - m).toNat)
  | _ => False
theorem ints1 {K : PySem.W.Frag} {N : Addr → Prop} {W : Wd} {H : Hp} {vs : List V} {n : Int} (h : DdAll K N W H vs [.int n]) : vs = [.int n] := by
  cases h with | cons h t => cases t; rw [dd_intE h]
theorem l_rng {q : TI → Prop} : ∀ σ H R, (lI F (iRng ds) σ H R ∨ lIb F (iRng ds) σ H R) → iRng1 (lA F ds) σ H R := fun σ H R h => by
  have key : ∀ (Rel : List Addr → Hp → (Addr → Prop) → Hp → Prop), (∃ env L P, Abs F env σ L H ∧ iRng ds env P ∧ ∀ xs J H', P xs → KeepW F.W H H' → F.W.ok H' → ItOk F (Rel L H') J xs → R J H') → iRng1 (lA F ds) σ H R := fun Rel ⟨env, L, P, A, pp, q⟩ =>
    ⟨env, L, _, A, pp, fun xs vs H1 px k1 o1 d1 => by
      match xs, px, d1 with
      | [.int n], px, d1 => exact ⟨n, ints1 d1, px.1, px.2.1, q _ _ H1 px.2.2 k1 o1 it_rng⟩⟩
  rcases h with h | h
  · exact key (relP F) h
  · exact key (relK F) h
theorem di_rng (hg : Gl X "range") (hm : X.mg "range" = none) (ha : PA X [a] (lA F ds)) (hs : starEach [a] X.env = [(false, eval a X.env)] := by rfl) : PI X tg (.Call (.Name "range" p) [a] [] pos) (lI F (iRng ds)) := PI.mono (pi_range1 hg hm ha hs) fun σ H R h => l_rng (q := fun _ => True) σ H R (.inl h)
theorem db_rng (hg : Gl X "range") (hm : X.mg "range" = none) (ha : PA X [a] (lA F ds)) (hs : starEach [a] X.env = [(false, eval a X.env)] := by rfl) : PI X tg (.Call (.Name "range" p) [a] [] pos) (lIb F (iRng ds)) := PI.mono (pi_range1 hg hm ha hs) fun σ H R h => l_rng (q := fun _ => True) σ H R (.inr h)
def sLoop (g : TDG) (body : TDS) (P : DEnds) : List D → De → Prop
  | [], env => P.nx env
  | x :: xs, env => g x env fun env' => body { nx := sLoop g body P xs, rt := P.rt, bk := P.nx, ct := sLoop g body P xs } env'
def sFor (it : TDI) (g : TDG) (body : TDS) : TDS := fun P env => it env fun xs => sLoop g body P xs env
theorem same_keep {W : Wd} {H H' : Hp} (h : Stn H H') : KeepW W H H' := fun a o _ q => h a o q
theorem same_ok {W : Wd} {H H' : Hp} (k : W.ok H) (h : Stn H H') : W.ok H' := Wd.st k (fun a o q _ => h a o q) h.n
theorem l_for {S : List Nat} {it : TDI} {g : TDG} {body : TDS} : ∀ E σ H, lS F (sFor it g body) E σ H → tFor (lI F it) (lG F S g) (lS F body) E σ H := fun E σ H ⟨env, L, P, A, pp, hn, hr, hb, hc⟩ =>
  ⟨env, L, _, A, pp, fun xs J H1 px k1 o1 ok => by
    have pr0 : Pres F L H L H1 := k1.pres A
    refine ⟨fun i m σ' H' => ∃ env' L', Abs F env' σ' L' H' ∧ Pres F L H1 L' H' ∧ sLoop g body P (xs.drop i) env' ∧ i ≤ xs.length ∧ m = xs.length - i, ⟨_, env, L, A.step k1 o1, .refl _ _ _, px, Nat.zero_le _, rfl⟩, ?_⟩
    rintro i m σ' H' ⟨env', L', A', pr, lp, hi, rfl⟩
    obtain ⟨st, go⟩ := ok (F.N L') H' (fun a o n h => pr a o n h) (fun a h => A'.alN h) i
    by_cases hlt : i < xs.length
    · obtain ⟨g1, g2⟩ := go xs[i] (List.getElem?_eq_getElem hlt)
      refine .inr ⟨g1, fun σ2 H2 => ∃ env2 L2, Abs F env2 σ2 L2 H2 ∧ Pres F L H1 L2 H2 ∧ sLoop g body P (xs.drop (i + 1)) env2, fun σ2 H2 ⟨env2, L2, a1, a2, a3⟩ => ⟨xs.length - (i + 1), by omega, env2, L2, a1, a2, a3, hlt, rfl⟩, fun v H2 hy => ?_⟩
      obtain ⟨sm, dd⟩ := g2 v H2 hy
      rw [List.drop_eq_getElem_cons hlt] at lp
      have A2 := A'.step (same_keep sm) (same_ok A'.ok sm)
      have pr2 : Pres F L H1 L' H2 := pr.trans fun a o n h => ⟨n, sm a o h⟩
      exact ⟨env', L', _, _, A2, dd, lp, fun env3 σ3 p3 A3 _ _ => ⟨env3, L', _, A3, p3, fun env4 σ4 L4 H4 p4 A4 pr4 => ⟨env4, L4, A4, pr2.trans pr4, p4⟩, hr, fun env4 σ4 L4 H4 p4 A4 pr4 => hn env4 σ4 L4 H4 p4 A4 ((pr0.trans pr2).trans pr4), fun env4 σ4 L4 H4 p4 A4 pr4 => ⟨env4, L4, A4, pr2.trans pr4, p4⟩⟩⟩
    · have e : xs.drop i = [] := List.drop_eq_nil_of_le (by omega)
      rw [e] at lp
      exact .inl ⟨st (by omega), hn env' σ' L' H' lp A' (pr0.trans pr)⟩⟩
theorem ds_for {S : List Nat} {it : TDI} {g : TDG} {sts : List Stmt} {body : TDS} (hp : PassesOwn (model X.prog X.w) X.A X.env X.xe) (hc : X.calm = true) (hi : PI X tg iter (lI F it)) (hg : PG X tg (lG F S g)) (hb : PSs X sts (lS F body)) (hs : ∀ x, foldedSetIterable iter X.env x = pure x := by intro _; rfl) :
    PS X (.For tg iter sts [] pos) (lS F (sFor it g body)) := PS.mono (ps_for hp hc hi hg hb hs) l_for
def sWhile (c : TDT) (body : TDS) : TDS := fun P env => ∃ I : Nat → De → Prop, (∃ m, I m env) ∧ ∀ m env, I m env → c env fun b => if b = true then body { nx := fun e => ∃ m', m' < m ∧ I m' e, rt := P.rt, bk := P.nx, ct := fun e => ∃ m', m' < m ∧ I m' e } env else P.nx env
theorem l_while {tc : TDT} {body : TDS} : ∀ E σ H, lS F (sWhile tc body) E σ H → tWhile (lT F tc) (lS F body) E σ H := fun E σ H ⟨env, L, P, A, ⟨I, ⟨m0, i0⟩, st⟩, hn, hr, hb, hc⟩ => by
  refine ⟨fun m σ' H' => ∃ env' L', Abs F env' σ' L' H' ∧ Pres F L H L' H' ∧ I m env', ⟨m0, env, L, A, .refl _ _ _, i0⟩, ?_⟩
  rintro m σ' H' ⟨env', L', A', pr, im⟩
  refine ⟨env', L', _, A', st m env' im, fun x H1 px k1 o1 => ?_⟩
  have pr1 : Pres F L H L' H1 := pr.trans (k1.pres A')
  cases x with
  | true => exact iteT ⟨fun σ2 H2 => ∃ env2 L2, Abs F env2 σ2 L2 H2 ∧ Pres F L H L2 H2 ∧ ∃ m', m' < m ∧ I m' env2, fun σ2 H2 ⟨env2, L2, a1, a2, m', a3, a4⟩ => ⟨m', a3, env2, L2, a1, a2, a4⟩, env', L', _, A'.step k1 o1, px, fun env2 σ2 L2 H2 p2 A2 pr2 => ⟨env2, L2, A2, pr1.trans pr2, p2⟩, hr, fun env2 σ2 L2 H2 p2 A2 pr2 => hn env2 σ2 L2 H2 p2 A2 (pr1.trans pr2), fun env2 σ2 L2 H2 p2 A2 pr2 => ⟨env2, L2, A2, pr1.trans pr2, p2⟩⟩
  | false => exact iteF (hn env' σ' L' H1 px (A'.step k1 o1) pr1)
theorem ds_while {tc : TDT} {sts : List Stmt} {body : TDS} (hp : PassesOwn (model X.prog X.w) X.A X.env X.xe) (hc : PT X c (lT F tc)) (hb : PSs X sts (lS F body)) : PS X (.While c sts [] pos) (lS F (sWhile tc body)) := PS.mono (ps_while hp hc hb) l_while
end
end DL
namespace DL
open PySem PySem.Spec PyProof.Rows L2 RK
def wipeE (env : De) : List Nat → De
  | [] => env
  | v :: vs => (wipeE env vs).set v .no
section
variable {F : Fx} {env : De} {σ : L2.St} {L : List Addr} {H H' : Hp}
theorem Abs.setN (A : Abs F env σ L H) (i : Nat) : Abs F (env.set i .no) (σ.set i none) L H := by
  refine ⟨A.ok, A.al, A.wn, A.kp, A.fr, by rw [List.length_set, List.length_set, A.ls], fun j l a ej el h1 h2 o1 o2 s1 s2 => ?_, fun j e y h1 h2 => ?_⟩
  · by_cases hj : i = j
    · subst hj
      by_cases hi : i < env.length
      · rw [List.getElem?_set_self hi] at h1
        cases h1
        cases o1
      · rw [List.getElem?_eq_none (by rw [List.length_set]; omega)] at h1
        cases h1
    · by_cases hl : i = l
      · subst hl
        by_cases hi : i < env.length
        · rw [List.getElem?_set_self hi] at h2
          cases h2
          cases o2
        · rw [List.getElem?_eq_none (by rw [List.length_set]; omega)] at h2
          cases h2
      · rw [List.getElem?_set_ne hj] at h1 s1
        rw [List.getElem?_set_ne hl] at h2 s2
        exact A.sep j l a ej el h1 h2 o1 o2 s1 s2
  · by_cases hj : i = j
    · subst hj
      by_cases hi : i < env.length
      · rw [List.getElem?_set_self hi] at h1
        cases h1
        trivial
      · rw [List.getElem?_eq_none (by rw [List.length_set]; omega)] at h1
        cases h1
    · rw [List.getElem?_set_ne hj] at h1 h2
      exact A.en j e y h1 h2
theorem Abs.wipe (A : Abs F env σ L H) : ∀ vs : List Nat, Abs F (wipeE env vs) (L2.wipe σ vs) L H
  | [] => A
  | v :: vs => (A.wipe vs).setN v
theorem Abs.poke (A : Abs F env σ L H) {a : Addr} {o' : HO} (ha : a ∈ L) (lo : Lone env σ a) (po : Plo o' := by exact True.intro) : Abs F env σ L (upd H a o') := by
  have na : ¬ F.N0 a := A.out ha
  have nw : ¬ F.W.own a := fun z => na (A.wn a z)
  refine ⟨?_, A.al, A.wn, fun x u q h => ?_, fun b hb => ?_, A.ls, A.sep, fun j e2 y h1 h2 => ?_⟩
  · exact Wd.st A.ok (n := noT_upd po.ntb) fun b u h q => by
      have ne : b ≠ a := fun z => by
        rcases q with q | q
        · exact nw (by rw [← z]; exact q)
        · obtain ⟨_, o, e, pl⟩ := A.fr a ha
          rw [z, e] at h
          exact q (Option.some.inj h ▸ pl)
      rw [upd_ne ne]
      exact h
  · have hx := A.kp x u q h
    have ne : x ≠ a := fun z => by
      rw [z, (A.fr a ha).1] at h
      cases h
    rw [upd_ne ne]
    exact hx
  · refine ⟨(A.fr b hb).1, ?_⟩
    by_cases e : b = a
    · subst e
      exact ⟨_, upd_same, po⟩
    · rw [upd_ne e]
      exact (A.fr b hb).2
  · refine EnOk.keep A (fun x u q h => ?_) (fun _ z => z) (fun b hb ob hbL => ⟨hbL, fun u hu => ?_⟩) (A.en j e2 y h1 h2)
    · have ne : x ≠ a := fun z => q (.inr (by rw [z]; exact ha))
      rw [upd_ne ne]
      exact h
    · have ne : b ≠ a := fun z => lo j e2 h1 ob (by rw [h2, hb, z])
      rw [upd_ne ne]
      exact hu
end
def dComp (g : TDG) (tt : TDT) (te : TDE) (P : D → Prop) (env : De) : List D → List D → Prop
  | [], acc => P (.lst acc)
  | x :: xs, acc => g x env fun env' => tt env' fun b => if b = true then te env' fun y => acc.length < sizeLine ∧ dComp g tt te P env xs (acc ++ [y]) else dComp g tt te P env xs acc
def dLc (it : TDI) (g : TDG) (tt : TDT) (te : TDE) (vs : List Nat) : TDE := fun env P => it env fun xs => dComp g tt te P (wipeE env vs) xs []
def tYesD : TDT := fun _ P => P true
section
variable {X : Cx} {F : Fx} {e a b c tg iter : Expr} {es : List Expr} {d da db dc : TDE} {ds : TDA} {pos p : Pos} {i j l : Nat}
theorem ts_nil : PTs X [] (lT F tYesD) := ⟨fun pins s σ H Q I h => pts_nil.run pins s σ H Q I (let ⟨_, _, _, A, pp, q⟩ := h; q true H pp (.refl _ _) A.ok)⟩
theorem ts_one {t : TDT} (h : PT X c (lT F t)) : PTs X [c] (lT F t) := pts_one h
theorem l_lc {S vs : List Nat} {it : TDI} {g : TDG} {tt : TDT} {te : TDE} (hS : ∀ i ∈ S, i ∈ vs) : ∀ σ H Q, lN F (dLc it g tt te vs) σ H Q → tLc (lIb F it) (lG F S g) (lT F tt) (lC F te) vs σ H Q := fun σ H Q ⟨env, L, P, A, pp, q⟩ =>
  ⟨env, L, _, A, pp, fun xs J H1 px k1 o1 ok D nD => by
    have A1 := A.step k1 o1
    have lo : Lone (wipeE env vs) (wipe σ vs) D := (A1.wipe vs).lone nD
    have B0 : Abs F (wipeE env vs) (wipe σ vs) (D :: L) (upd H1 D (.lst [])) := (A1.wipe vs).hold (x := .lst []) (.new nD) (ok_new o1 nD) nD ⟨[], upd_same, .nil⟩
    refine ⟨fun i m H' => ∃ acc us, Abs F (wipeE env vs) (wipe σ vs) (D :: L) H' ∧ (∀ a o, ¬ F.W.own a → H1 a = some o → H' a = some o) ∧ H' D = some (.lst us) ∧ DdAll F.K (F.N (D :: L)) F.W H' us acc ∧ dComp g tt te P (wipeE env vs) (xs.drop i) acc ∧ i ≤ xs.length ∧ m = xs.length - i,
      ⟨_, [], [], B0, fun a o _ h => by rw [upd_ne (ne_of_none h nD)]; exact h, upd_same, .nil, px, Nat.zero_le _, rfl⟩, ?_⟩
    rintro i m H' ⟨acc, us, B, kk, hD, hu, lp, hi, rfl⟩
    obtain ⟨st, go⟩ := ok (F.N (D :: L)) H' (fun a o n h => ⟨fun nn z => by
      rcases z with z | z
      · exact nn (.inl z)
      · rcases List.mem_cons.mp z with z | z
        · rw [z, nD] at h
          cases h
        · exact nn (.inr z), kk a o n h⟩) (fun a h => B.alN h) i
    by_cases hlt : i < xs.length
    · obtain ⟨g1, g2⟩ := go xs[i] (List.getElem?_eq_getElem hlt)
      rw [List.drop_eq_getElem_cons hlt] at lp
      refine .inr ⟨g1, fun H2 => ∃ acc us, Abs F (wipeE env vs) (wipe σ vs) (D :: L) H2 ∧ (∀ a o, ¬ F.W.own a → H1 a = some o → H2 a = some o) ∧ H2 D = some (.lst us) ∧ DdAll F.K (F.N (D :: L)) F.W H2 us acc ∧ dComp g tt te P (wipeE env vs) (xs.drop (i + 1)) acc,
        fun H2 ⟨acc, us, a1, a2, a3, a4, a5⟩ => ⟨xs.length - (i + 1), by omega, acc, us, a1, a2, a3, a4, a5, hlt, rfl⟩, fun v H2 hy => ?_⟩
      obtain ⟨sm, dd⟩ := g2 v H2 hy
      have B2 := B.step (same_keep sm) (same_ok B.ok sm)
      refine ⟨_, _, _, _, B2, dd, lp, fun env3 σ3 p3 B3 w3 _ => ⟨?_, env3, _, _, B3, p3, fun bb H3 p4 k4 o4 => ?_⟩⟩
      · rw [w3 vs hS]
        have : ∀ ws : List Nat, wipe (wipe σ ws) ws = wipe σ ws := by
          intro ws
          apply List.ext_getElem?
          intro n
          by_cases hn : n < (wipe σ ws).length
          · cases hx : (wipe (wipe σ ws) ws)[n]? with
            | none =>
              rw [List.getElem?_eq_none_iff, wipe_length] at hx
              omega
            | some y =>
              cases hz : (wipe σ ws)[n]? with
              | none =>
                rw [List.getElem?_eq_none_iff] at hz
                omega
              | some z =>
                cases y with
                | some y =>
                  rw [(wipe_some hx).1] at hz
                  rw [Option.some.inj hz]
                | none =>
                  cases z with
                  | none => rfl
                  | some z =>
                    exfalso
                    have nm := (wipe_some hz).2
                    have keep : ∀ (τ : L2.St) (us : List Nat), n ∉ us → (wipe τ us)[n]? = τ[n]? := by
                      intro τ us
                      induction us with
                      | nil => intro _; rfl
                      | cons u us ih =>
                        intro hu
                        unfold wipe
                        rw [List.getElem?_set_ne (fun z => hu (by rw [z]; exact List.mem_cons_self)), ih (fun z => hu (List.mem_cons_of_mem _ z))]
                    rw [keep _ ws nm, hz] at hx
                    cases hx
          · rw [List.getElem?_eq_none (by rw [wipe_length]; omega), List.getElem?_eq_none (by omega)]
        exact this vs
      · have B4 := B3.step k4 o4
        have W4 : Abs F (wipeE env vs) (wipe σ vs) (D :: L) H3 := B2.step k4 o4
        have nD0 : ¬ F.W.own D := fun z => B.out List.mem_cons_self (B.wn D z)
        cases bb with
        | true =>
          refine iteT ⟨env3, _, _, B4, p4, fun y v' H5 p5 k5 o5 d5 => ?_⟩
          have hD5 : H5 D = some (.lst us) := k5 D _ nD0 (k4 D _ nD0 (sm D _ hD))
          have hu5 : DdAll F.K (F.N (D :: L)) F.W H5 us acc := W4.kda k5 (B2.kda k4 (B.kda (same_keep sm) hu))
          have W5 := W4.step k5 o5
          refine ⟨us, hD5, by rw [hu5.len]; exact p5.1, acc ++ [y], us ++ [v'], W5.poke List.mem_cons_self lo, fun a o n h => ?_, upd_same, (hu5.app (.cons d5 .nil)).keep (fun x u q h => ?_) (fun _ z => z), p5.2⟩
          · rw [upd_ne (ne_of_none h nD)]
            exact k5 a o n (k4 a o n (sm a o (kk a o n h)))
          · have ne : x ≠ D := fun z => q (.inr (by rw [z]; exact List.mem_cons_self))
            rw [upd_ne ne]
            exact h
        | false => exact iteF ⟨acc, us, W4, fun a o n h => k4 a o n (sm a o (kk a o n h)), k4 D _ nD0 (sm D _ hD), B2.kda k4 (B.kda (same_keep sm) hu), p4⟩
    · have e : xs.drop i = [] := List.drop_eq_nil_of_le (by omega)
      rw [e] at lp
      refine .inl ⟨st (by omega), q _ D H' lp (k1.trans fun a o n h => kk a o n h) B.ok (free_of k1 o1 nD) ⟨us, hD, hu⟩⟩⟩
def dDcomp (g : TDG) (tt : TDT) (tk tv : TDE) (P : D → Prop) (env : De) : List D → List (Key × D) → Prop
  | [], acc => P (.dic acc)
  | x :: xs, acc => g x env fun env' => tt env' fun b => if b = true then tk env' fun k => tv env' fun y => ob (keyD k) fun k => acc.length < sizeLine ∧ dDcomp g tt tk tv P env xs (putD acc k y) else dDcomp g tt tk tv P env xs acc
def dDc (it : TDI) (g : TDG) (tt : TDT) (tk tv : TDE) (vs : List Nat) : TDE := fun env P => it env fun xs => dDcomp g tt tk tv P (wipeE env vs) xs []
theorem wipe_wipe (σ : L2.St) (ws : List Nat) : wipe (wipe σ ws) ws = wipe σ ws := by
  apply List.ext_getElem?
  intro n
  have keep : ∀ (τ : L2.St) (us : List Nat), n ∉ us → (wipe τ us)[n]? = τ[n]? := by
    intro τ us
    induction us with
    | nil => intro _; rfl
    | cons u us ih =>
      intro hu
      unfold wipe
      rw [List.getElem?_set_ne (fun z => hu (by rw [z]; exact List.mem_cons_self)), ih (fun z => hu (List.mem_cons_of_mem _ z))]
  by_cases hm : n ∈ ws
  · have no : ∀ τ : L2.St, ∀ y, (wipe τ ws)[n]? ≠ some (some y) := fun τ y h => (wipe_some h).2 hm
    by_cases hn : n < σ.length
    · have f : ∀ τ : L2.St, n < τ.length → (wipe τ ws)[n]? = some none := fun τ h => by
        cases hx : (wipe τ ws)[n]? with
        | none => rw [List.getElem?_eq_none_iff, wipe_length] at hx; omega
        | some y => cases y with
          | none => rfl
          | some y => exact (no τ y hx).elim
      rw [f _ hn, f _ (by rw [wipe_length]; exact hn)]
    · rw [List.getElem?_eq_none (by rw [wipe_length, wipe_length]; omega), List.getElem?_eq_none (by rw [wipe_length]; omega)]
  · rw [keep _ ws hm]
theorem l_dc {S vs : List Nat} {it : TDI} {g : TDG} {tt : TDT} {tk tv : TDE} (hS : ∀ i ∈ S, i ∈ vs) : ∀ σ H Q, lN F (dDc it g tt tk tv vs) σ H Q → tDc (lIb F it) (lG F S g) (lT F tt) (lC F tk) (lC F tv) vs σ H Q := fun σ H Q ⟨env, L, P, A, pp, q⟩ =>
  ⟨env, L, _, A, pp, fun xs J H1 px k1 o1 ok D nD => by
    have A1 := A.step k1 o1
    have lo : Lone (wipeE env vs) (wipe σ vs) D := (A1.wipe vs).lone nD
    have B0 : Abs F (wipeE env vs) (wipe σ vs) (D :: L) (upd H1 D (.dK [])) := (A1.wipe vs).hold (x := .dic []) (.new nD) (ok_new o1 nD) nD ⟨[], upd_same, rfl, .nil⟩
    refine ⟨fun i m H' => ∃ acc us, Abs F (wipeE env vs) (wipe σ vs) (D :: L) H' ∧ (∀ a o, ¬ F.W.own a → H1 a = some o → H' a = some o) ∧ H' D = some (.dK us) ∧ us.map (·.1) = acc.map (·.1) ∧ DdAll F.K (F.N (D :: L)) F.W H' (us.map (·.2)) (acc.map (·.2)) ∧ dDcomp g tt tk tv P (wipeE env vs) (xs.drop i) acc ∧ i ≤ xs.length ∧ m = xs.length - i,
      ⟨_, [], [], B0, fun a o _ h => by rw [upd_ne (ne_of_none h nD)]; exact h, upd_same, rfl, .nil, px, Nat.zero_le _, rfl⟩, ?_⟩
    rintro i m H' ⟨acc, us, B, kk, hD, hk, hu, lp, hi, rfl⟩
    obtain ⟨st, go⟩ := ok (F.N (D :: L)) H' (fun a o n h => ⟨fun nn z => by
      rcases z with z | z
      · exact nn (.inl z)
      · rcases List.mem_cons.mp z with z | z
        · rw [z, nD] at h
          cases h
        · exact nn (.inr z), kk a o n h⟩) (fun a h => B.alN h) i
    by_cases hlt : i < xs.length
    · obtain ⟨g1, g2⟩ := go xs[i] (List.getElem?_eq_getElem hlt)
      rw [List.drop_eq_getElem_cons hlt] at lp
      refine .inr ⟨g1, fun H2 => ∃ acc us, Abs F (wipeE env vs) (wipe σ vs) (D :: L) H2 ∧ (∀ a o, ¬ F.W.own a → H1 a = some o → H2 a = some o) ∧ H2 D = some (.dK us) ∧ us.map (·.1) = acc.map (·.1) ∧ DdAll F.K (F.N (D :: L)) F.W H2 (us.map (·.2)) (acc.map (·.2)) ∧ dDcomp g tt tk tv P (wipeE env vs) (xs.drop (i + 1)) acc,
        fun H2 ⟨acc, us, a1, a2, a3, a6, a4, a5⟩ => ⟨xs.length - (i + 1), by omega, acc, us, a1, a2, a3, a6, a4, a5, hlt, rfl⟩, fun v H2 hy => ?_⟩
      obtain ⟨sm, dd⟩ := g2 v H2 hy
      have B2 := B.step (same_keep sm) (same_ok B.ok sm)
      refine ⟨_, _, _, _, B2, dd, lp, fun env3 σ3 p3 B3 w3 _ => ⟨?_, env3, _, _, B3, p3, fun bb H3 p4 k4 o4 => ?_⟩⟩
      · rw [w3 vs hS]
        exact wipe_wipe σ vs
      · have B4 := B3.step k4 o4
        have W4 : Abs F (wipeE env vs) (wipe σ vs) (D :: L) H3 := B2.step k4 o4
        have nD0 : ¬ F.W.own D := fun z => B.out List.mem_cons_self (B.wn D z)
        cases bb with
        | true =>
          refine iteT ⟨env3, _, _, B4, p4, fun kx vk H4 p5 k5 o5 d5 => ⟨env3, _, _, B4.step k5 o5, p5, fun y v' H6 p6 k6 o6 d6 => ?_⟩⟩
          obtain ⟨k, ek, p7⟩ := ob_elim p6
          have hv := keyD_v (F := F) (L := D :: L) (.inl d5) ek
          have kt := k5.trans k6
          have hD5 : H6 D = some (.dK us) := kt D _ nD0 (k4 D _ nD0 (sm D _ hD))
          have hu5 : DdAll F.K (F.N (D :: L)) F.W H6 (us.map (·.2)) (acc.map (·.2)) := W4.kda kt (B2.kda k4 (B.kda (same_keep sm) hu))
          have W5 := W4.step kt o6
          obtain ⟨r1, r2⟩ := put_rel (k := k) hk hu5 d6
          refine ⟨us, k, hv, hD5, by rw [kd_len hk]; exact p7.1, putD acc k y, putK us k v', W5.poke List.mem_cons_self lo, fun a o n h => ?_, upd_same, r1, r2.keep (fun x u q h => ?_) (fun _ z => z), p7.2⟩
          · rw [upd_ne (ne_of_none h nD)]
            exact kt a o n (k4 a o n (sm a o (kk a o n h)))
          · have ne : x ≠ D := fun z => q (.inr (by rw [z]; exact List.mem_cons_self))
            rw [upd_ne ne]
            exact h
        | false => exact iteF ⟨acc, us, W4, fun a o n h => k4 a o n (sm a o (kk a o n h)), k4 D _ nD0 (sm D _ hD), hk, B2.kda k4 (B.kda (same_keep sm) hu), p4⟩
    · have e : xs.drop i = [] := List.drop_eq_nil_of_le (by omega)
      rw [e] at lp
      refine .inl ⟨st (by omega), q _ D H' lp (k1.trans fun a o n h => kk a o n h) B.ok (free_of k1 o1 nD) ⟨us, hD, hk, hu⟩⟩⟩
end
def startE (N : List Str) (ds : List D) : De := ds.map En.fz ++ List.replicate (N.length - ds.length) En.no
theorem abs_start {K : PySem.W.Frag} {W : Wd} {N0 : Addr → Prop} {H : Hp} {fr : Fr} {N : List Str} {vs : List V} {ds : List D} (al : ∀ a, N0 a → ∃ o, H a = some o) (wn : ∀ a, W.own a → N0 a) (ok : W.ok H) (dd : DdAll K N0 W H vs ds) :
    Abs ⟨K, W, N0, H, fr⟩ (startE N ds) (start N vs) [] H := by
  have hl := dd.len
  have noOw : ∀ (i : Nat) (e : En), (startE N ds)[i]? = some e → e.isOw = true → False := fun i e h ow => by
    have := List.mem_of_getElem? h
    unfold startE at this
    rcases List.mem_append.mp this with h | h
    · obtain ⟨d, _, rfl⟩ := List.mem_map.mp h
      cases ow
    · rw [(List.mem_replicate.mp h).2] at ow
      cases ow
  refine ⟨ok, al, wn, .refl _ _, fun a h => (by cases h), ?_, fun i j a ei ej h1 h2 o1 o2 s1 s2 => (noOw i ei h1 o1).elim, fun i e x h1 h2 => ?_⟩
  · unfold startE L2.start
    rw [List.length_append, List.length_append, List.length_map, List.length_map, List.length_replicate, List.length_replicate, hl]
  · unfold startE at h1
    unfold L2.start at h2
    by_cases hi : i < ds.length
    · rw [List.getElem?_append_left (by rw [List.length_map]; exact hi), List.getElem?_map, List.getElem?_eq_getElem hi] at h1
      rw [List.getElem?_append_left (by rw [List.length_map]; omega), List.getElem?_map, List.getElem?_eq_getElem (by omega)] at h2
      have e1 : e = .fz ds[i] := (Option.some.inj h1).symm
      have e2 : x = some (vs[i]'(by omega)) := (Option.some.inj h2).symm
      subst e1 e2
      obtain ⟨v, g1, g2⟩ := dd.get (List.getElem?_eq_getElem hi)
      rw [List.getElem?_eq_getElem (by omega)] at g1
      have e3 := Option.some.inj g1
      rw [e3]
      exact g2.keep (fun _ _ _ z => z) fun y hy => by
        rcases hy with hy | hy
        · exact hy
        · cases hy
    · rw [List.getElem?_append_right (by rw [List.length_map]; omega)] at h1
      rw [(List.mem_replicate.mp (List.mem_of_getElem? h1)).2]
      trivial
def fin (fr : Fr) (P : D → Prop) : DEnds := { nx := fun _ => fr = .b false ∧ P .non, rt := P }
theorem fn_d {K : PySem.W.Frag} {W : Wd} {N0 : Addr → Prop} {H : Hp} {fr : Fr} {N : List Str} {vs : List V} {ds : List D} {P : D → Prop} {Q : VK} {d : TDS} (al : ∀ a, N0 a → ∃ o, H a = some o) (wn : ∀ a, W.own a → N0 a) (ok : W.ok H) (dd : DdAll K N0 W H vs ds)
    (q : ∀ x v H', P x → KeepW W H H' → W.ok H' → Dd K N0 W H' v x → Nw K W N0 H fr H' v x → Q v H') (h : d (fin fr P) (startE N ds)) :
    lS ⟨K, W, N0, H, fr⟩ d { nx := fun _ H' => Q .non H', rt := Q } (start N vs) H := by
  have nv : ∀ {H' : Hp} {a : Addr} {x : D}, NewV ⟨K, W, N0, H, fr⟩ [] H' a x → NewV ⟨K, W, N0, H, .b true⟩ [] H' a x := fun {H' a x} h => by cases x <;> exact h
  refine ⟨_, [], _, abs_start al wn ok dd, h, fun env' σ' L' H' p A _ => ?_, fun x v H' p r => ?_, fun _ _ _ _ z => z.elim, fun _ _ _ _ z => z.elim⟩
  · exact q .non .non H' p.2 A.kp A.ok .non ⟨fun z => (by rw [p.1] at z; cases z), fun j z => by rw [p.1] at z; cases z⟩
  · exact q x v H' p r.kp r.ok r.dd ⟨fun z => (let ⟨a, h1, h2, h3⟩ := r.nw z; ⟨a, h1, h2, nv h3⟩), r.cj⟩
end DL
namespace DL
open PySem PySem.Spec PyProof.Rows L2 RK
section
variable {X : Cx} {F : Fx} {e a b c o : Expr} {es : List Expr} {d da db dc : TDE} {ds : TDA} {pos p : Pos} {i j l : Nat}
theorem l_setF_n {t : TE} (h : ∀ σ H Q, lN F d σ H Q → t σ H Q) : ∀ E σ H, lS F (sSet i d) E σ H → tAsg t (gName i) E σ H := fun E σ H ⟨env, L, P, A, pp, hn, _⟩ =>
  h σ H _ ⟨env, L, _, A, pp, fun x v H1 px k o n nv => hn _ _ L H1 px ((A.step k o).setF (nv.dd (A.new n)) i) (k.pres A)⟩
def sPar3 (i j l : Nat) (da db dc : TDE) : TDS := fun P env => da env fun x => db env fun y => dc env fun z => P.nx (((env.set i (.fz x)).set j (.fz y)).set l (.fz z))
def dFld (C : Addr) (f : Str) (d : TDE) : TDE := fun env P => d env fun x => match x with | .obj C' fs => C' = C ∧ ob (fs.lookup f) P | _ => False
def dMeth (C : Addr) (m : Str) (sp : DSp) (d : TDE) (ds : TDA) : TDE := fun env P => d env fun x => match x with | .obj C' fs => C' = C ∧ fs.lookup m = none ∧ ds env fun xs => sp (.obj C' fs :: xs) P | _ => False
def dMk (C : Addr) (f : Str) (sp : DSp) (ds : TDA) : TDE := fun env P => ds env fun xs => sp xs fun y => P (.obj C [(f, y)])
end
def mergeD (kds more : List (Key × D)) : List (Key × D) := more.foldl (fun acc kd => putD acc kd.1 kd.2) kds
def dDictZip (ds : TDA) : TDE := fun env P => ds env fun xs => match xs with
  | [.lst ks, .lst ys] => ob (keysD ks) fun kk => kk.length = ys.length ∧ P (.dic (mergeD [] (kk.zip ys)))
  | _ => False
section
variable {P : Program} {w : World} {K : PySem.W.Frag} {mg : Str → Option Value} {base : Heap} {CX : CXT} {k : Nat} {f : Addr} {fd : FuncData} {ps : List Str}
def sp_pull : DSp := fun ds P => ∃ n : Int, ds = [.bag, .int n] ∧ 1 ≤ n ∧ n ≤ 10000000000000000000000000000000000000000 ∧ ∀ r : Int, 0 ≤ r → r < n → P (.int r)
theorem keepW_of {b s : Addr} {T : List (Addr × Str)} {H H' : Hp} (k : RK.Keep b H H') : KeepW (some (b, s, T)) H H' := fun a o n h => k a o (fun z => n (.inl z)) h
theorem tabs_keep {b s : Addr} {T : List (Addr × Str)} {H H' : Hp} (B : Bag b s H) (t : LamX.Tabs T H) (k : RK.Keep b H H') : LamX.Tabs T H' := fun p hp => by
  obtain ⟨ys, hb⟩ := B.hb
  obtain ⟨ps, h1, h2, h3⟩ := t p hp
  refine ⟨ps, k _ _ (fun z => by rw [z, hb] at h1; cases h1) h1, h2, fun pos cv hc => ?_⟩
  obtain ⟨c, e, hcd⟩ := h3 pos cv hc
  exact ⟨c, e, k _ _ (fun z => by rw [z, hb] at hcd; cases hcd) hcd⟩
theorem bag_arg {N : Addr → Prop} {W : Wd} {H : Hp} {v : V} (h : Dd K N W H v .bag) : ∃ b s T, W = some (b, s, T) ∧ v = .ref b := by
  cases h with | bag e => exact ⟨_, _, _, e, rfl⟩
theorem pull_d (h : FnOk P w K mg base CX k f fd ps spPull) : FnOk P w K mg base CX k f fd ps (lSp K false sp_pull) := h.imp fun vs H Q E ⟨W, N0, ds, Pd, al, wn, ok, dd, ⟨n, e, h1, h2, h3⟩, q⟩ => by
  subst e
  cases dd with | cons d1 dd => cases dd with | cons d2 dd =>
    cases dd
    obtain ⟨b, s, T, rfl, rfl⟩ := bag_arg d1
    have := dd_intE d2
    subst this
    exact ⟨b, s, n, rfl, ok.1, h1, h2, fun r H' r0 r1 k B => q _ _ H' (h3 r r0 r1) (keepW_of k.f) ⟨B, tabs_keep ok.1 ok.2.1 k.f, fun ne a ps h => let ⟨qs, q⟩ := k.n a ps h; ok.2.2 ne a qs q⟩ (.int r) ⟨fun z => (by cases z), fun j z => by cases z⟩⟩
end
end DL
namespace DL
open PySem PySem.Spec PyProof.Rows L2 RK
def st (n : Nat) (ds : List D) : De := ds.map En.fz ++ List.replicate (n - ds.length) En.no
def kwP (π : List Nat) (xs : List D) : List D := π.map fun i => xs.getD i .non
def dCallK (sp : DSp) (π : List Nat) (ds : TDA) : TDE := fun env P => ds env fun xs => xs.length = π.length ∧ sp (kwP π xs) P
section
variable {X : Cx} {F : Fx} {dk : TDA} {pos p : Pos} {CX : CXT} {k : Nat} {f : Addr} {fd : FuncData} {ps ks : List Str} {sp : DSp} {E : XK} {x : Str} {fr : Fr} {K : PySem.W.Frag}
theorem dd_callKP {g : List Value → List Value → List Value} {gV : List V → List V → List V} {π : List Nat} {kws : List Keyword} (G : FnOk X.prog X.w X.K X.mg X.base CX k f fd ps (lSp K fr sp)) (hr : Room k X.A) (hg : Gl X x) (hm : X.mg x = some (.ref f)) (hk : PySem.W.keepIn X.K (.ref f) = true) (hb : KBinds X.K fd ps ks g gV) (hx : Passes CX X E) (hkw : PK X kws (lA F dk))
    (hD : ∀ {K : PySem.W.Frag} {N : Addr → Prop} {W : Wd} {H : Hp} {zs : List V} {es : List D}, DdAll K N W H zs es → es.length = π.length → DdAll K N W H (gV [] zs) (kwP π es)) (hK : F.K = K := by rfl)
    (hall : (backToKw pos (keywordEach kws X.env)).all (·.1.isSome) = true := by rfl) (hks : (backToKw pos (keywordEach kws X.env)).filterMap (·.1) = ks := by rfl) (hdb : (x == ("__debug__" : Str)) = false := by decide)
    (hpl : ((backTo pos (starEach [] X.env)).any (·.1) || (backToKw pos (keywordEach kws X.env)).any (·.1.isNone)) = false := by rfl) :
    PE X (.Call (.Name x p) [] kws pos) (lC F (dCallK sp π dk)) := PE.mono (pe_callK0 G hr hg hm hk hb hx hkw hall hks hdb hpl) fun σ H Q ⟨env, L, P, A, pp, q⟩ => by
  subst hK
  exact ⟨env, L, _, A, pp, fun xs vs H1 px k1 o1 d1 => ⟨F.W, F.N L, kwP π xs, P, fun a h => (A.step k1 o1).alN h, fun a h => .inl (A.wn a h), o1, hD d1 px.1, px.2, fun x v H2 p2 k2 o2 d2 _ => q x v H2 p2 (k1.trans k2) o2 d2⟩⟩
end
section
variable {F : Fx} {env : De} {σ : L2.St} {L : List Addr} {H H' : Hp}
theorem Abs.setAny (A : Abs F env σ L H) (i : Nat) (v : Option V) : Abs F (env.set i .no) (σ.set i v) L H := by
  refine ⟨A.ok, A.al, A.wn, A.kp, A.fr, by rw [List.length_set, List.length_set, A.ls], fun j l a ej el h1 h2 o1 o2 s1 s2 => ?_, fun j e y h1 h2 => ?_⟩
  · have f : ∀ (j : Nat) (ej : En), (env.set i .no)[j]? = some ej → ej.isOw = true → i ≠ j := fun j ej h o z => by
      subst z
      by_cases hi : i < env.length
      · rw [List.getElem?_set_self hi] at h
        cases h
        cases o
      · rw [List.getElem?_eq_none (by rw [List.length_set]; omega)] at h
        cases h
    have hj := f j ej h1 o1
    have hl := f l el h2 o2
    rw [List.getElem?_set_ne hj] at h1 s1
    rw [List.getElem?_set_ne hl] at h2 s2
    exact A.sep j l a ej el h1 h2 o1 o2 s1 s2
  · by_cases hj : i = j
    · subst hj
      by_cases hi : i < env.length
      · rw [List.getElem?_set_self hi] at h1
        cases h1
        trivial
      · rw [List.getElem?_eq_none (by rw [List.length_set]; omega)] at h1
        cases h1
    · rw [List.getElem?_set_ne hj] at h1 h2
      exact A.en j e y h1 h2
end
theorem pss_ex {X : Cx} {K : PySem.W.Frag} {sts : List Stmt} {d : TDS} (h : ∀ W N0 H0, PSs X sts (lS ⟨K, W, N0, H0, false⟩ d)) : PSs X sts (fun E σ H => ∃ W N0 H0, lS ⟨K, W, N0, H0, false⟩ d E σ H) := ⟨fun pins s σ H E I ⟨W, N0, H0, q⟩ => (h W N0 H0).run pins s σ H E I q⟩
def spLaw (K : PySem.W.Frag) : Sp := fun vs H Q _ => ∃ (a : Addr) (ns : List Int), vs = [.ref a] ∧ SqL K H a (ns.map V.int) ∧ ns.length ≤ 63 ∧ ∀ H', Q (.bl true) H'
theorem law_bag {K : PySem.W.Frag} {Q : VK} {d : TDS} {H H' : Hp} {a b s : Addr} {n : Nat} (e : Same H H') (nb : H b = none) (B : Bag b s H') (q : ∀ H', Q (.bl true) H') (h : d { nx := fun _ => False, rt := fun x => x = .bl true } (.no :: .fz .bag :: List.replicate n .no)) :
    ∃ W N0 H0, lS ⟨K, W, N0, H0, false⟩ d { nx := fun _ H' => Q .non H', rt := Q } (some (.ref a) :: some (.ref b) :: List.replicate n none) H' := by
  refine ⟨some (b, s, []), fun z => z = b ∨ z = s, H', _, [], _, ?_, h, fun _ _ _ _ z => z.elim, fun x v H2 hx r => ?_, fun _ _ _ _ z => z.elim, fun _ _ _ _ z => z.elim⟩
  · obtain ⟨yb, hb⟩ := B.hb
    obtain ⟨ys, hs⟩ := B.hs
    refine ⟨⟨B, (fun p hp => by cases hp), fun ne => absurd rfl ne⟩, fun z hz => ?_, fun z hz => hz.imp id fun hz => hz.resolve_right fun ⟨p, hp, _⟩ => (by cases hp), .refl _ _, fun z hz => (by cases hz), ?_, fun i j z ei ej h1 h2 o1 o2 _ _ => ?_, fun i e x h1 h2 => ?_⟩
    · rcases hz with rfl | rfl
      · exact ⟨_, hb⟩
      · exact ⟨_, hs⟩
    · simp
    · exfalso
      match i, h1 with
      | 0, h1 => cases h1; cases o1
      | 1, h1 => cases h1; cases o1
      | i + 2, h1 =>
        rw [List.getElem?_cons_succ, List.getElem?_cons_succ] at h1
        rw [(List.mem_replicate.mp (List.mem_of_getElem? h1)).2] at o1
        cases o1
    · match i, h1, h2 with
      | 0, h1, h2 => cases h1; trivial
      | 1, h1, h2 =>
        cases h1
        cases h2
        exact .bag rfl
      | i + 2, h1, h2 =>
        rw [List.getElem?_cons_succ, List.getElem?_cons_succ] at h1
        rw [(List.mem_replicate.mp (List.mem_of_getElem? h1)).2]
        trivial
  · subst hx
    have := dd_blE r.dd
    subst this
    exact q H2
end DL
namespace RK
open PySem PySem.Spec PyProof.Rows L2
open PySem.Sem (wp)
abbrev enT1 (l : Addr) : Obj := { cls := .type "tuple_iterator", data := .fields #[.ref l, .int 0 0] }
abbrev enT2 (n : Addr) : Obj := { cls := .type "enumerate", data := .fields #[.none, .bool false, .ref n, rawInt 0, .none, .none] }
theorem meets_enumT (l : Addr) (its : Array Value) :
    Meets (Builtin.«enumerate.__new__» ⟨[.type "enumerate", .ref l], []⟩) (fun _ R s => s.heap.IsTuple l its ∧ R (.ok (.ret (.ref (s.heap.push (enT1 l)).objs.size))) { s with heap := (s.heap.push (enT1 l)).push (enT2 s.heap.objs.size) }) :=
  .of_wp fun prog w A R s h => by
    obtain ⟨hp, g, d, tk, os⟩ := s
    obtain ⟨ht, h⟩ := h
    have sb := sub_enumerate
    have hT : Heap.IsTuple (Shared.heap ⟨hp, g, d, tk, os⟩) l its := ht
    obtain ⟨⟨c, dct, dt, sl⟩, ho, hc, n, hd⟩ := id hT
    replace hc : c = .type "tuple" := hc
    replace hd : dt = .seq its n := hd
    subst hc hd
    wp_walk using AutoSeq1.wpAny_loadPart' ho
    refine wpAny_stack_any fun stk => wpAny_pure ?_
    split
    · rename_i c _ _ _ _ _
      cases (c == Value.type "enumerate")
      · wp_walk using AutoSeq1.wpAny_loadPart' ho, wpAny_pyIter_tuple hT
        exact ⟨_, rfl, h⟩
      · wp_walk using AutoSeq1.wpAny_loadPart' ho, wpAny_pyIter_tuple hT
        exact ⟨_, rfl, h⟩
    · wp_walk using AutoSeq1.wpAny_loadPart' ho, wpAny_pyIter_tuple hT
      exact ⟨_, rfl, h⟩
theorem call_enumT {prog : Program} {w : World} {A : Around} {E : Value → Shared → Prop} {s : Shared} {l : Addr} {its : Array Value} {Q : Value → Shared → Prop} (hT : s.heap.IsTuple l its)
    (h : ∀ h', IsEnum h' (s.heap.objs.size + 1) s.heap.objs.size 0 .none → h'.IsTupleIter s.heap.objs.size l 0 → (∀ b o, s.heap.get? b = some o → h'.get? b = some o) → Q (.ref (s.heap.objs.size + 1)) { s with heap := h' }) :
    wpAny (model prog w) A (call (.type "enumerate") [.ref l]) Q E s := by
  refine callType_new F.called_enumerate (by decide) (F.typeCall_enumerate_1 _) (F.newCall_enumerate_1 _) (fun obj => F.args_object_init_2 obj _) F.entry_enumerate_new (meets_enumT l its) ⟨hT, ?_⟩
  have z1 : (s.heap.push (enT1 l)).objs.size = s.heap.objs.size + 1 := Heap.size_push ..
  show _ ∧ _
  rw [z1]
  have en : IsEnum ((s.heap.push (enT1 l)).push (enT2 s.heap.objs.size)) (s.heap.objs.size + 1) s.heap.objs.size 0 .none := by
    have g := Heap.get?_push_size (s.heap.push (enT1 l)) (o := enT2 s.heap.objs.size) rfl
    rw [z1] at g
    exact g
  exact ⟨⟨_, en, rfl⟩, h _ en ⟨_, Heap.get?_push_of_some _ (Heap.get?_push_size _ rfl), rfl, rfl⟩ fun b o q => Heap.get?_push_of_some _ (Heap.get?_push_of_some _ q)⟩
def IteT (K : PySem.W.Frag) (a : Addr) : It :=
  ⟨fun i H => ∃ (xs : List V) (x : V), SqT K H a xs ∧ xs[i]? = some x, fun i H v H' => ∃ T x, v = .ref T ∧ H T = none ∧ H' = upd H T (.tup [.int (i : Nat), x]) ∧ ∀ xs, SqT K H a xs → xs[i]? = some x, fun i H => ∃ xs : List V, SqT K H a xs ∧ xs.length = i⟩
theorem turn_enumT {P : Program} {w : World} {K : PySem.W.Frag} {elts : List Expr} {kk : Nat} {tpos : Pos} (a e it : Addr) (hae : e ≠ a) (hai : a ≠ it) (hei : e ≠ it) :
    Turn P w K (.Tuple elts kk tpos) (IteT K a) [e, it] e (fun i h => (∃ old, IsEnum h e it ((i : Nat) : Int) old) ∧ h.IsTupleIter it a i) where
  mem := List.mem_cons_self
  obj := fun i h tn b hb => by
    obtain ⟨⟨old, he⟩, ⟨o, ho, hc, hd⟩⟩ := tn
    rcases List.mem_cons.mp hb with z | z
    · rw [z]
      exact ⟨_, he, fun v q => nomatch q⟩
    · rw [List.mem_singleton.mp z]
      exact ⟨o, ho, fun v q => by rw [hd] at q; cases q⟩
  keep := fun i h h' tn k => ⟨let ⟨old, he⟩ := tn.1; ⟨old, k e List.mem_cons_self _ he⟩, tn.2.at fun o q => k it (by simp) o q⟩
  item := by
    intro X hP hw hK hc i pins s σ H E I hf tn go
    subst hP hw hK
    obtain ⟨⟨old, he⟩, hit⟩ := tn
    obtain ⟨xs, x, hq, hx⟩ := go
    obtain ⟨its, rv, p, hz⟩ := I.tuple hq
    obtain ⟨u, hu, ru⟩ := rv.get hx
    have hil : i < its.toArray.size := by simpa using (List.getElem?_eq_some_iff.mp hu).1
    have ue : its.toArray[i]? = some u := by simpa using hu
    have he1 : e < s.heap.objs.size := Heap.lt_size he
    have he2 : it < s.heap.objs.size := let ⟨_, q, _⟩ := hit; Heap.lt_size q
    refine wpAny_pyNext_enum_itemD (Draws.tuple (A := X.A.in1) (show X.A.in1.handled = none from I.ok.hd hc) it a hai its.toArray) he ⟨hit, p⟩ hil hei (by simp [hae, hei]) fun v h' tk hv ho st2 hT hsz hk => ?_
    have ev : v = u := Option.some.inj (hv.symm.trans ue)
    subst ev
    refine ⟨_, rfl, wpAny_letOwnedTupleGo_enum (s := { s with heap := h', toks := tk + 1 }) ho fun h'' en sb => ?_⟩
    have hT2 : h''.get? s.heap.objs.size = some { cls := .type "tuple", data := .seq #[.int i tk, v] } := (sb.2 _ (Nat.ne_of_gt he1)).trans hT
    have new : ObjOk X.prog X.w (upd H s.heap.objs.size (.tup [.int (i : Nat), x])) h'' s.heap.objs.size (.tup [.int (i : Nat), x]) :=
      ⟨(by show 2 ≤ sizeLine; decide), [.int i tk, v], .cons ⟨tk, rfl⟩ (.cons ru .nil), ⟨_, hT2, rfl, _, rfl⟩⟩
    have I1 : Inv X pins σ (upd H s.heap.objs.size (.tup [.int (i : Nat), x])) { s with heap := h'', toks := tk + 1 } :=
      I.turnedNew (ch := [e, it]) (fun b ob hb q => by
        have b1 : b ≠ e := fun z => hb (by rw [z]; exact List.mem_cons_self)
        have b2 : b ≠ it := fun z => hb (by rw [z]; simp)
        exact (sb.2 b b1).trans (hk b ob b1 b2 q)) hf (Nat.le_refl _) new
    refine ⟨.ref s.heap.objs.size, _, I1, rfl, ⟨_, x, rfl, I.hok.fresh (Nat.le_refl _), rfl, fun ys hy => by rw [I.tuple_inj hy hq]; exact hx⟩, ⟨⟨v, ?_⟩, st2.1.at fun o q => (sb.2 it hei.symm).trans q⟩, fun b hb => ?_⟩
    · rw [show ((i + 1 : Nat) : Int) = (i : Int) + 1 by omega]
      exact en
    · have lt : b < s.heap.objs.size := by
        rcases List.mem_cons.mp hb with z | z
        · rw [z]; exact he1
        · rw [List.mem_singleton.mp z]; exact he2
      rw [upd_ne (Nat.ne_of_lt lt)]
      exact (hf b hb).1
  done := by
    intro X hP hw hK hc i pins s σ H E I hf tn go
    subst hP hw hK
    obtain ⟨⟨old, he⟩, hit⟩ := tn
    obtain ⟨xs, hq, hx⟩ := go
    obtain ⟨its, rv, p, hz⟩ := I.tuple hq
    obtain ⟨f0, f1, f2, f3, f4, f5⟩ := hf it (by simp)
    have hl : its.toArray.size = i := by rw [List.size_toArray, ← rv.length]; exact hx
    exact wpAny_pyNext_enum_endD (Draws.tuple (A := X.A.in1) (show X.A.in1.handled = none from I.ok.hd hc) it a hai its.toArray) he (by rw [hl]; exact ⟨hit, p⟩) fun h' eb => ⟨rfl, I.turned (t' := s.toks) (fun b o hb q => eb b o hb q) f0 f1 f3 f4 f5⟩
  self := fun A i s Q E tn h => let ⟨⟨_, he⟩, _⟩ := tn; wpAny_pyIter_enum he h
def iEnumT (K : PySem.W.Frag) (ta : TA) : TI := fun σ H R => ta σ H fun vs H1 => ∃ a xs, vs = [.ref a] ∧ SqT K H1 a xs ∧ R (IteT K a) H1
theorem pi_enumT {X : Cx} {e : Expr} {ta : TA} {p pos tpos : Pos} {elts : List Expr} {kk : Nat} (hg : Gl X "enumerate") (hm : X.mg "enumerate" = none) (ha : PA X [e] ta) (hs : starEach [e] X.env = [(false, eval e X.env)] := by rfl) :
    PI X (.Tuple elts kk tpos) (.Call (.Name "enumerate" p) [e] [] pos) (iEnumT X.K ta) := ⟨fun pins s σ H R I h => by
  refine Call_ (ld_blt I hg hm boot_enumerate (PyProof.Rows.callWith_type1 (thn (ha.run pos pins s σ H _ I h) fun us s1 ⟨vs, H1, I1, r1, q1⟩ => ?_) hs rfl))
  obtain ⟨a, xs, rfl, hq, q⟩ := q1
  obtain ⟨u, rfl, ru⟩ := vals1 r1
  cases ru
  obtain ⟨its, rv, pt, hz⟩ := I1.tuple hq
  have la : a < s1.heap.objs.size := pt.lt
  refine call_enumT pt fun h' he hit hk => wpAny_pyIter_enum he ?_
  refine ⟨s1.heap.objs.size + 1, [s1.heap.objs.size + 1, s1.heap.objs.size], _, _, H1, rfl, I1.kept (t' := s1.toks) hk, turn_enumT a (s1.heap.objs.size + 1) s1.heap.objs.size (Nat.ne_of_gt (Nat.lt_succ_of_lt la)) (Nat.ne_of_lt la) (Nat.succ_ne_self _), ⟨⟨.none, he⟩, hit⟩, fun b hb => ?_, q⟩
  have le : s1.heap.objs.size ≤ b := by
    rcases List.mem_cons.mp hb with z | z
    · rw [z]; exact Nat.le_add_right _ _
    · rw [List.mem_singleton.mp z]; exact Nat.le_refl _
  exact I1.fpOk le (I1.hok.fresh le)⟩
end RK
namespace DL
open PySem PySem.Spec PyProof.Rows L2 RK
section
variable {X : Cx} {F : Fx} {e a b c tg iter : Expr} {es : List Expr} {d da db dc : TDE} {ds : TDA} {pos p : Pos} {i j l : Nat}
def enuD : Nat → List D → List D
  | _, [] => []
  | k, x :: xs => .tup [.int (k : Nat), x] :: enuD (k + 1) xs
theorem enu_len : ∀ (k : Nat) (xs : List D), (enuD k xs).length = xs.length
  | _, [] => rfl
  | k, x :: xs => by rw [enuD, List.length_cons, enu_len, List.length_cons]
theorem enu_get : ∀ (k i : Nat) (xs : List D), (enuD k xs)[i]? = xs[i]?.map fun x => .tup [.int ((k + i : Nat) : Int), x]
  | k, i, [] => by simp [enuD]
  | k, 0, x :: xs => rfl
  | k, i + 1, x :: xs => by
    rw [enuD, List.getElem?_cons_succ, enu_get (k + 1) i xs, List.getElem?_cons_succ]
    have : k + 1 + i = k + (i + 1) := by omega
    rw [this]
def iEnu (d : TDE) : TDI := fun env P => (d env fun x => ob (lstD x) fun xs => P (enuD 0 xs)) ∨ (d env fun x => ob (tupD x) fun xs => P (enuD 0 xs))
theorem enu_new {N' : Addr → Prop} {H' H2 : Hp} {T : Addr} {v : V} {x : D} {i : Nat} (al : ∀ a, N' a → ∃ o, H' a = some o) (hT : H' T = none) (h2 : H2 = upd H' T (.tup [.int (i : Nat), v])) (dv : Dd F.K N' F.W H' v x) :
    Stn H' H2 ∧ Dd F.K N' F.W H2 (.ref T) (.tup [.int (i : Nat), x]) := by
  subst h2
  have kp : ∀ a o, H' a = some o → upd H' T (.tup [.int (i : Nat), v]) a = some o := fun a o h => by rw [upd_ne (ne_of_none h hT)]; exact h
  refine ⟨.new hT True.intro, .tup upd_same (fun z => ?_) (.cons (.int _) (.cons (dv.keep (fun a u _ h => kp a u h) fun _ z => z) .nil))⟩
  obtain ⟨o, ho⟩ := al T z
  rw [hT] at ho
  cases ho
theorem it_enuL {Rel : (Addr → Prop) → Hp → Prop} {t : Addr} {vs : List V} {xs : List D} (h : ∀ N' H', Rel N' H' → H' t = some (.lst vs) ∧ DdAll F.K N' F.W H' vs xs) : ItOk F Rel (Ite F.K t) (enuD 0 xs) := fun N' H' r al i => by
  obtain ⟨h1, h2⟩ := h N' H' r
  refine ⟨fun hi => ⟨vs, SqL.of h1, by rw [h2.len, ← enu_len 0 xs]; exact Nat.le_of_eq hi⟩, fun x hx => ?_⟩
  rw [enu_get, Nat.zero_add] at hx
  obtain ⟨y, hy, rfl⟩ := Option.map_eq_some_iff.mp hx
  obtain ⟨v, hv, dv⟩ := h2.get hy
  refine ⟨⟨vs, v, SqL.of h1, hv⟩, fun w H2 hy => ?_⟩
  obtain ⟨T, z, rfl, hT, h2', hz⟩ := hy
  have := hz vs (SqL.of h1)
  rw [hv] at this
  cases this
  exact enu_new al hT h2' dv
theorem it_enuT {Rel : (Addr → Prop) → Hp → Prop} {t : Addr} {vs : List V} {xs : List D} (h : ∀ N' H', Rel N' H' → SqT F.K H' t vs ∧ DdAll F.K N' F.W H' vs xs) : ItOk F Rel (IteT F.K t) (enuD 0 xs) := fun N' H' r al i => by
  obtain ⟨h1, h2⟩ := h N' H' r
  refine ⟨fun hi => ⟨vs, h1, by rw [h2.len, ← enu_len 0 xs]; exact hi⟩, fun x hx => ?_⟩
  rw [enu_get, Nat.zero_add] at hx
  obtain ⟨y, hy, rfl⟩ := Option.map_eq_some_iff.mp hx
  obtain ⟨v, hv, dv⟩ := h2.get hy
  refine ⟨⟨vs, v, h1, hv⟩, fun w H2 hy => ?_⟩
  obtain ⟨T, z, rfl, hT, h2', hz⟩ := hy
  have := hz vs h1
  rw [hv] at this
  cases this
  exact enu_new al hT h2' dv
theorem di_enum {elts : List Expr} {kk : Nat} {tpos : Pos} (hg : Gl X "enumerate") (hm : X.mg "enumerate" = none) (he : PE X e (lC F d)) (hs : starEach [e] X.env = [(false, eval e X.env)] := by rfl) (hs2 : starEach [e] X.env = (false, eval e X.env) :: starEach [] X.env := by rfl) (hK : F.K = X.K := by rfl) :
    PI X (.Tuple elts kk tpos) (.Call (.Name "enumerate" p) [e] [] pos) (lI F (iEnu d)) := PI.mono (PI.or (pi_enum hg hm (pa_cons he pa_nil hs2) hs) (pi_enumT hg hm (pa_cons he pa_nil hs2) hs)) fun σ H R ⟨env, L, P, A, pp, q⟩ => by
  rw [← hK]
  rcases pp with pp | pp
  · refine .inl ⟨env, L, _, A, pp, fun x v H1 px k1 o1 d1 => ?_⟩
    obtain ⟨xs, e, px⟩ := ob_elim px
    have := lstD_e e
    subst this
    obtain ⟨t, vs, rfl, h1, h2, h3⟩ := dd_lstE d1
    exact ⟨t, vs, rfl, SqL.of h1, q _ _ H1 px k1 o1 (it_enuL fun N' H' r => ⟨(r t _ h2 h1).2, h3.pres r⟩)⟩
  · refine .inr ⟨env, L, _, A, pp, fun x v H1 px k1 o1 d1 => ?_⟩
    obtain ⟨xs, e, px⟩ := ob_elim px
    obtain ⟨t, vs, rfl, h1, h2⟩ := seqT_keep (N' := fun _ => False) (H' := H1) e d1
    exact ⟨t, vs, rfl, h1, q _ _ H1 px k1 o1 (it_enuT fun N' H' r => h2 N' H' r)⟩
theorem db_enum {elts : List Expr} {kk : Nat} {tpos : Pos} (hg : Gl X "enumerate") (hm : X.mg "enumerate" = none) (he : PE X e (lB F d)) (hs : starEach [e] X.env = [(false, eval e X.env)] := by rfl) (hs2 : starEach [e] X.env = (false, eval e X.env) :: starEach [] X.env := by rfl) (hK : F.K = X.K := by rfl) :
    PI X (.Tuple elts kk tpos) (.Call (.Name "enumerate" p) [e] [] pos) (lIb F (iEnu d)) := PI.mono (PI.or (pi_enum hg hm (pa_cons he pa_nil hs2) hs) (pi_enumT hg hm (pa_cons he pa_nil hs2) hs)) fun σ H R ⟨env, L, P, A, pp, q⟩ => by
  rw [← hK]
  rcases pp with pp | pp
  · refine .inl ⟨env, L, _, A, pp, fun x v H1 px k1 o1 d1 => ?_⟩
    obtain ⟨xs, e, px⟩ := ob_elim px
    have := lstD_e e
    subst this
    obtain ⟨t, vs, rfl, h1, h2, h3⟩ := bw_lstO (A.step k1 o1) d1
    exact ⟨t, vs, rfl, SqL.of h1, q _ _ H1 px k1 o1 (it_enuL fun N' H' r => ⟨(r t _ h2 h1).2, h3.pres (relK_p (A.step k1 o1) r)⟩)⟩
  · refine .inr ⟨env, L, _, A, pp, fun x v H1 px k1 o1 d1 => ?_⟩
    obtain ⟨xs, e, px⟩ := ob_elim px
    obtain ⟨t, vs, rfl, h1, h2⟩ := seqT_keep (N' := fun _ => False) (H' := H1) e (bw_tupC e d1)
    exact ⟨t, vs, rfl, h1, q _ _ H1 px k1 o1 (it_enuT fun N' H' r => h2 N' H' (relK_p (A.step k1 o1) r))⟩
abbrev SP := Str × Str
def pairD (p : SP) : D := .tup [.str p.1, .str p.2]
end
end DL
namespace DL
open PySem PySem.Spec PyProof.Rows L2 RK
section
variable {X : Cx} {F : Fx} {e a b c tg iter : Expr} {es : List Expr} {d da db dc : TDE} {ds : TDA} {pos p : Pos} {i j l : Nat}
end
end DL
namespace DL
open PySem PySem.Spec PyProof.Rows L2 RK
def isTxt (z : Str) : Value → Bool
  | .str x _ => x == z
  | _ => false
theorem isTxt_gives {z : Str} {t : Tok} : ∀ {us : List Value} {ys : List Str}, Vals (ys.map V.str) us → ∀ y ∈ us, MeetsSeq.EqGives y (.str z t) (isTxt z y)
  | [], _, _, y, h => by cases h
  | u :: us, [], r, y, h => by cases r
  | u :: us, x :: ys, r, y, h => by
    cases r with
    | cons r1 r2 =>
      obtain ⟨tx, rfl⟩ := r1
      rcases List.mem_cons.mp h with rfl | h
      · exact eqGives_str x z tx t
      · exact isTxt_gives r2 y h
theorem isTxt_at {z : Str} {us : List Value} {ys : List Str} (r : Vals (ys.map V.str) us) {i : Nat} (h : i < us.length) {y : Str} (hy : ys[i]? = some y) : isTxt z us[i] = (y == z) := by
  obtain ⟨u, hu, ru⟩ := r.get (show (ys.map V.str)[i]? = some (.str y) by rw [List.getElem?_map, hy]; rfl)
  rw [List.getElem?_eq_getElem h] at hu
  rw [Option.some.inj hu]
  obtain ⟨t, rfl⟩ := ru
  rfl
theorem first_txt : ∀ {ys : List Str} {z : Str}, z ∈ ys → ∃ j, ys[j]? = some z ∧ (∀ (m : Nat) (y : Str), m < j → ys[m]? = some y → y ≠ z) ∧ ys.eraseIdx j = ys.erase z
  | [], _, h => by cases h
  | x :: r, z, h => by
    by_cases e : x = z
    · subst e
      exact ⟨0, rfl, fun m y hm => absurd hm (Nat.not_lt_zero _), by simp⟩
    · obtain ⟨j, h1, h2, h3⟩ := first_txt ((List.mem_cons.mp h).resolve_left fun q => e q.symm)
      refine ⟨j + 1, h1, fun m y hm hy => ?_, ?_⟩
      · cases m with
        | zero =>
          have : x = y := Option.some.inj hy
          rw [← this]
          exact e
        | succ m => exact h2 m y (by omega) hy
      · rw [List.eraseIdx_cons_succ, h3, List.erase_cons_tail (by simpa using e)]
theorem erase_mapS : ∀ (l : List Str) (j : Nat), (l.map V.str).eraseIdx j = (l.eraseIdx j).map V.str
  | [], j => by simp
  | a :: r, 0 => by simp
  | a :: r, j + 1 => by
    have := erase_mapS r j
    simp [this]
section
variable {X : Cx} {F : Fx} {e o a b : Expr} {d : TDE} {pos apos cpos : Pos} {i : Nat}
def rRemT : V → List V → Hp → VK → Prop := fun x xs H Q => ∃ (l : Addr) (ys : List Str) (z : Str), x = .ref l ∧ xs = [.str z] ∧ H l = some (.lst (ys.map V.str)) ∧ z ∈ ys ∧ Q .non (upd H l (.lst ((ys.erase z).map V.str)))
theorem mt_remT : MtR X "list.remove" rRemT := by
  intro pins s σ H x xs v us Q I rx rxs h
  obtain ⟨l, ys, z, rfl, rfl, hH, hz, q⟩ := h
  cases rx
  obtain ⟨u, rfl, ru⟩ := rxs.one
  obtain ⟨t, rfl⟩ := ru
  obtain ⟨zz, its, n, r, hl, e⟩ := I.lstM hH
  rw [List.length_map] at hl zz
  obtain ⟨j, j1, j2, j3⟩ := first_txt hz
  have jn : j < ys.length := (List.getElem?_eq_some_iff.mp j1).1
  have jl : j < its.length := by omega
  have r2 : Vals ((ys.erase z).map V.str) (its.eraseIdx j) := by
    have w := r.eraseIdx j
    rw [erase_mapS, j3] at w
    exact w
  have hit : isTxt z its.toArray[j] = true := by
    show isTxt z its[j] = true
    rw [isTxt_at r jl j1]
    exact beq_self_eq_true z
  have hno : ∀ m (hm : m < its.toArray.size), m < j → isTxt z its.toArray[m] = false := fun m hm mj => by
    have hm2 : m < its.length := by simpa using hm
    have hm3 : m < ys.length := by omega
    show isTxt z its[m] = false
    rw [isTxt_at r hm2 (List.getElem?_eq_getElem hm3)]
    exact beq_eq_false_iff_ne.mpr (j2 m _ mj (List.getElem?_eq_getElem hm3))
  refine call_meets PySem.F.slot_list_remove ⟨_, e, rfl⟩ PySem.F.entry_list_remove (PySem.F.args_list_remove_2 _ _)
    (MeetsSeq.list_remove l its.toArray n (.str z t) (isTxt z) (fun y hy => isTxt_gives r y (by simpa using hy)) j (by rw [List.size_toArray]; exact jl) hit hno (by rw [List.size_toArray]; omega)) ⟨e, ?_⟩
  refine ⟨.non, _, I.lset (its' := its.eraseIdx j) (t' := s.toks) hH e ?_ r2 ?_, rfl, q⟩
  · exact List.eraseIdxIfInBounds_toArray ..
  · have := List.length_erase_le (a := z) (l := ys)
    rw [List.length_map]
    omega
def sRem (i : Nat) (d : TDE) : TDS := fun P env => ob (owAt env i) fun xs => d env fun x => match x with | .str z => ∃ zs, strsD xs = some zs ∧ z ∈ zs ∧ P.nx (env.set i (.ow ((zs.erase z).map D.str))) | _ => False
theorem ds_rem (ho : PE X o (tVar i)) (he : PE X e (lC F d)) (hbase : attributeBase o "remove" X.env (eval o X.env) = eval o X.env := by rfl)
    (hfew : ((backTo cpos (starEach [e] X.env)).all (fun x => !x.1) && (backToKw cpos (keywordEach [] X.env)).all (fun x => x.1.isSome) && decide (([e] : List Expr).length + ([] : List Keyword).length + (if ([] : List Keyword).isEmpty then 0 else 1) < 30)) = true := by rfl)
    (hline : (apos.endLine == cpos.line) = true := by rfl) (hs : starEach [e] X.env = (false, eval e X.env) :: starEach [] X.env := by rfl) (hplain : (backTo cpos (starEach [] X.env)).any (·.1) = false := by rfl)
    (hsw : swapsWith (.Call (.Attribute o "remove" apos) [e] [] cpos) none pos.line X.env = pure false := by rfl) :
    PS X (.Expr (.Call (.Attribute o "remove" apos) [e] [] cpos) pos) (lS F (sRem i d)) := PS.mono (ps_expr (pe_bm PySem.F.plainAttrs_list PySem.F.slot_list_remove PySem.F.type_list_remove mt_remT ho (pa_cons he pa_nil hs) hbase hfew hline hs hplain) hsw) fun E σ H ⟨env, L, P, A, pp, hn, _⟩ => by
  obtain ⟨xs, h, pp⟩ := ob_elim pp
  obtain ⟨t, vs, hs, ha, hv, hd⟩ := ow_get A h
  refine ⟨_, hs, .inl ⟨rfl, vs, SqL.of hv⟩, env, L, _, A, pp, fun x v H1 px k1 o1 d1 => ?_⟩
  cases x with
  | str z =>
    obtain ⟨zs, hz, mz, px⟩ := px
    have A1 := A.step k1 o1
    obtain ⟨a2, vs2, hs2, ha2, hv2, hd2⟩ := ow_get A1 h
    rw [hs] at hs2
    cases hs2
    have e1 := dd_strE d1
    subst e1
    have e2 := strs_v hd2 hz
    obtain ⟨B, pr⟩ := ow_put A1 h hs ha2 (dd_strs (zs.erase z))
    exact ⟨t, zs, z, rfl, rfl, by rw [hv2, e2], mz, hn _ _ _ _ px B ((k1.pres A).trans pr)⟩
  | _ => exact px.elim
end
end DL
namespace DL
open PySem PySem.Spec PyProof.Rows L2 RK
section
variable {X : Cx}
abbrev oneGen (tg iter : Expr) (ifs : List Expr) : List Comprehension := [⟨tg, iter, ifs, 0⟩]
theorem ps_setDc {i : Nat} {x : Str} {px ps cp : Pos} {kx vx tg iter : Expr} {ifs : List Expr} {sco : Scope} {own : List (Str × Nat)} {wi : TI} {g : TG} {tt : TT} {tk tv : TE} (calm : X.calm = true) (nd : X.N.Nodup) (at_ : X.N[i]? = some x) (loc : X.env.scope.names.lookup x = some .local)
    (sw : swapsWith (.DictComp kx vx (oneGen tg iter ifs) sco cp) (some (.Name x px)) ps.line X.env = pure true) (pi : PI X tg iter wi) (blk : BlkOk X.N X.env.scope sco own)
    (pg : ∀ (s : Shared) (H : Hp) (C : Addr) (cl : List (Str × Addr)) (fp : List Addr), PG (X.blk s H sco (compEnvC sco cl C X.env) fp) tg g)
    (pt : ∀ (s : Shared) (H : Hp) (C : Addr) (cl : List (Str × Addr)) (fp : List Addr), PTs (X.blk s H sco (compEnvC sco cl C X.env) fp) ifs tt)
    (pk : ∀ (s : Shared) (H : Hp) (C : Addr) (cl : List (Str × Addr)) (fp : List Addr), PE (X.blk s H sco (compEnvC sco cl C X.env) fp) kx tk)
    (pv : ∀ (s : Shared) (H : Hp) (C : Addr) (cl : List (Str × Addr)) (fp : List Addr), PE (X.blk s H sco (compEnvC sco cl C X.env) fp) vx tv) (fs : ∀ z, foldedSetIterable iter X.env z = pure z := by intro _; rfl) :
    PS X (.Assign [.Name x px] (.DictComp kx vx (oneGen tg iter ifs) sco cp) ps) (tAsg (tDc wi g tt tk tv (own.map (·.2))) (gName i)) := ⟨fun pins s σ H D I h => by
  rw [exec_Assign_Name_used _ _ _ _ sw]
  refine wpAny_bind (wpAny_standAt (wpAny_bind ?_))
  show wpAny _ X.A (do let _ ← comprehension (.DictComp kx vx (oneGen tg iter ifs) sco cp) sco X.env (firstIterPos (oneGen tg iter ifs) cp) newDict false (eval iter X.env) (some (assign (.Name x px) X.env))) _ _ s
  have q0 : tDc wi g tt tk tv (own.map (·.2)) σ H fun v H1 => gName i v σ H1 D.nx := h
  refine wpAny_bind (thn (dc_core (Qf := fun _ s' => L2.SP X pins D .next s') calm nd I pi blk pg pt pk pv fs q0 fun Dn C s1 m H1 I1 q1 ns fp => ?_) fun _ s1 q1 => wpAny_pure (wpAny_pure q1))
  show wpAny _ _ (assign (.Name x px) X.env (.ref Dn)) _ _ _
  refine wpAny_assign_Name (store_ok2 (v := V.ref Dn) I1 nd at_ (.inl loc) rfl (fun s2 I2 st => ?_) (.inr loc))
  obtain ⟨c, sb, hc⟩ := st
  have ne : C ≠ c := by
    rcases hc with z | z
    · rw [z]; exact fp.2.1
    · exact fun e => fp.2.2.2.2.1 x c z e.symm
  exact ⟨m, ns.sameBut sb ne, fun h3 sb3 => ⟨_, H1, I2.turned (t' := s2.toks) (fun b o hb e => (sb3.2 b hb).trans e) fp.1 fp.2.1 fp.2.2.2.1 fp.2.2.2.2.1 fp.2.2.2.2.2, q1⟩⟩⟩
theorem swD_true {kx vx : Expr} {gs : List Comprehension} {sco : Scope} {cp px : Pos} {x : Str} {l : Nat} {env : Env} (fn : env.scope.kind = .function) (loc : env.scope.names.lookup x = some .local) (ln : (px.line == cp.line) = true)
    (no : (sco.names.any fun (n, k) => n == x && (k == .local || k == .cell)) = false) : swapsWith (.DictComp kx vx gs sco cp) (some (.Name x px)) l env = pure true := by
  have k1 : env.kindOf x = some .local := loc
  have k2 : env.blockKind = .function := by
    unfold Env.blockKind
    rw [fn]
    rfl
  unfold swapsWith
  simp only [k2, k1, no, Expr.pos, ln]
  rfl
end
end DL
namespace DL
open PySem PySem.Spec PyProof.Rows L2 RK
section
variable {X : Cx} {F : Fx} {e a b c o : Expr} {es : List Expr} {d da db dc : TDE} {ds : TDA} {pos p apos : Pos}
def dBits (d : TDE) : TDE := fun env P => d env fun x => match x with | .int i => P (.int (Builtin.Int.intBits i : Nat)) | _ => False
theorem dd_bits (ho : PE X o (lC F d)) (hbase : attributeBase o "bit_length" X.env (eval o X.env) = eval o X.env := by rfl) (hline : (apos.endLine == pos.line) = true := by rfl) : PE X (.Call (.Attribute o "bit_length" apos) [] [] pos) (lC F (dBits d)) :=
  PE.mono (pe_bits ho hbase hline) fun σ H Q ⟨env, L, P, A, pp, q⟩ => ⟨env, L, _, A, pp, fun x v H1 px k1 o1 d1 => by
    cases x with
    | int i =>
      have := dd_intE d1
      subst this
      exact ⟨i, rfl, q _ _ H1 px k1 o1 (.int _)⟩
    | _ => exact px.elim⟩
end
end DL
namespace DL
open PySem PySem.Spec PyProof.Rows L2 RK
section
variable {X : Cx} {F : Fx} {e a b c o : Expr} {es : List Expr} {d da db dc : TDE} {ds : TDA} {pos p apos : Pos}
end
section
variable {X : Cx} {F : Fx} {e : Expr} {d : TDE} {pos p : Pos} {k : Nat}
end
end DL
namespace RK
open PySem PySem.Spec PyProof.Rows L2
def metK (val : Nat → Key) (i : Nat) (k : Key) : Bool := (List.range i).any fun j => decide (val j = k)
def cntK (val : Nat → Key) : Nat → Nat
  | 0 => 0
  | i + 1 => if metK val i (val i) = true then cntK val i else cntK val i + 1
theorem cntK_le (val : Nat → Key) : ∀ i, cntK val i ≤ i
  | 0 => Nat.le_refl _
  | i + 1 => by
    have := cntK_le val i
    rw [cntK]
    split <;> omega
theorem metK_succ (val : Nat → Key) (i : Nat) (k : Key) : metK val (i + 1) k = (metK val i k || decide (k = val i)) := by
  unfold metK
  rw [List.range_succ, List.any_append, List.any_cons, List.any_nil, Bool.or_false]
  congr 1
  exact decide_eq_decide.mpr eq_comm
section
variable {prog : Program} {w : World} {A : Around} {R : Result → Shared → Prop} {I S : Addr} {fp wr : List Addr} {G : Array GenState → Array GenState → Prop} {n : Nat} {P : Nat → Value → Prop} {St : Nat → Shared → Prop}
theorem keep_set {h z : Heap} {S' : Key → Bool} {c : Nat} (q : h.SetOf (mixKind prog w) S S' c) (k : ∀ o, h.get? S = some o → z.get? S = some o) : z.SetOf (mixKind prog w) S S' c := by
  obtain ⟨o, es, ep, t, ho, r⟩ := q
  exact ⟨o, es, ep, t, k o ho, r⟩
theorem set_go (W : WalksS prog w A.in1 I fp wr G n P St) (out : S ∉ fp) {val : Nat → Key} (hv : ∀ i v, P i v → (mixKind prog w).is (val i) v = true ∧ v.scannable = true) (room : n + 1 < scanBound) :
    ∀ (m i : Nat) (s : Shared), n = i + m → St i s → s.heap.SetOf (mixKind prog w) S (metK val i) (cntK val i) → (∀ z, Moved (S :: wr) G s z → z.heap.SetOf (mixKind prog w) S (metK val n) (cntK val n) → R (.ok (.ret .none)) z) →
      codeAny (model prog w) A (.builtin "set.update.loop" ⟨[.ref S, .ref I], []⟩) R s := by
  have nw : S ∉ wr := fun z => out (W.sub _ z)
  have up : ∀ b ∈ wr, b ∈ S :: wr := fun b z => List.mem_cons_of_mem _ z
  intro m
  induction m with
  | zero =>
    intro i s e st q fin
    have e : n = i := by omega
    subst e
    refine codeAny_builtin (by exact F.entry_set_update_loop) ?_
    rw [Around.under_plainId (by exact F.plain_set_update_loop)]
    refine wpAny_bind (W.done s _ _ st fun z mv => wpAny_pure (fin z (mv.mono up) (keep_set q fun o ho => mv.heap S _ nw ho)))
  | succ m go =>
    intro i s e st q fin
    refine codeAny_builtin (by exact F.entry_set_update_loop) ?_
    rw [Around.under_plainId (by exact F.plain_set_update_loop)]
    refine wpAny_bind (W.item i s _ _ (by omega) st fun v z hP st2 mv => ?_)
    obtain ⟨hk, hs⟩ := hv i v hP
    have q2 := keep_set q (z := z.heap) fun o ho => mv.heap S _ nw ho
    refine wpAny_bind (wpAny_holding ?_)
    unfold setAdd
    refine wpAny_holding (wpAny_bind ((mixKind prog w).pyHash hk ?_))
    refine wpAny_setAddHashed_of (s := { z with toks := z.toks + 1 }) hk hs q2 (by have := cntK_le val i; omega) fun g sb q3 => ?_
    have q4 : g.SetOf (mixKind prog w) S (metK val (i + 1)) (cntK val (i + 1)) := by
      have e1 : (fun k => metK val i k || decide (k = val i)) = metK val (i + 1) := funext fun k => (metK_succ val i k).symm
      rw [e1] at q3
      rw [cntK]
      exact q3
    refine wpAny_pure ⟨plainId_quiet (by exact F.plain_set_update_loop) _, go (i + 1) _ (by omega) (W.frame _ z _ _ st2 (Nat.le_succ _) fun b hb o eb => ?_) q4 fun y my qy => fin y ?_ qy⟩
    · rw [sb.2 b fun x => out (x ▸ hb)]
      exact eb
    · refine Moved.trans W.gtrans ((mv.mono up).then_heap (Nat.le_succ _) fun b o hb eb => ?_) my
      rw [sb.2 b fun x => hb (x ▸ List.mem_cons_self)]
      exact eb
end
section
variable {prog : Program} {w : World} {A : Around} {E : Value → Shared → Prop} {s : Shared}
def newSet (led : Bool) : Obj := { cls := .type "set", dict := none, data := .set #[] 0 (.fresh 0 0 led) }
theorem set_made {x : Value} {Q : Value → Shared → Prop} (K : Shared → Prop) (fin : ∀ z, K z → Q (.ref s.heap.objs.size) z)
    (go : ∀ led : Bool, wpAny (model prog w) A.in1.in1 (Builtin.«set.__init__» ⟨[.ref s.heap.objs.size, x], []⟩) (fun f z => match f with | .done f => wants (fun r y => r = Value.none ∧ K y) E (.ok f) z | .again c => c.quiet = true ∧ codeAny (model prog w) A.in1 c (wants (fun r y => r = Value.none ∧ K y) E) z) (fun e z => wants (fun r y => r = Value.none ∧ K y) E (.error e) z) { s with heap := s.heap.push (newSet led) }) :
    wpAny (model prog w) A (call (.type "set") [x]) Q E s := by
  have a1 := PySem.F.called_set.made
  have a2 := PySem.F.called_set.sub
  obtain ⟨c, tl, a3⟩ := PySem.F.called_set.mro
  refine wpAny_call (codeAny_of_tree (wpAny_pure ⟨Code.quiet_builtin _ (by decide +kernel), codeAny_builtin (by exact PySem.F.entry_type_call) ?_⟩))
  rw [Around.under_plain (weight_type_call_type "set" [x] []) rfl]
  have a4 := PySem.F.called_set.notType
  have a5 := PySem.F.called_set.canCreate
  have a6 := PySem.F.typeCall_set_1 x
  repeat (any_goals (first | assumption | wp_step))
  refine codeAny_mono (code_set_new_1 x (E := E) (Q₁ := fun v z => v = .ref s.heap.objs.size ∧ ∃ led : Bool, z = { s with heap := s.heap.push (newSet led) }) fun led => ⟨rfl, led, rfl⟩) fun r z hr => ?_
  cases r with
  | error e => exact hr
  | ok f =>
    cases f with
    | ret v =>
      obtain ⟨rfl, led, rfl⟩ := hr
      have b1 : (s.heap.push (newSet led)).get? s.heap.objs.size = some (newSet led) := Heap.get?_push_size _ rfl
      have b2 : Shared.TypeIs { s with heap := s.heap.push (newSet led) } (.ref s.heap.objs.size) "set" := ⟨_, b1, rfl⟩
      have b3 := PySem.F.called_set.init.lookup
      have b4 := PySem.F.called_set.init.bind (.ref s.heap.objs.size)
      repeat (any_goals (first | assumption | wp_step))
      refine codeAny_mono (codeAny_call_builtin (R := wants (fun r y => r = .none ∧ K y) E) PySem.F.called_set.init.plain PySem.F.entry_set_init (check_set_init_1 b2 ?_)) fun r y hy => ?_
      · exact go led
      · cases r with
        | error e => exact hy
        | ok f =>
          cases f with
          | ret v =>
            obtain ⟨rfl, ky⟩ := hy
            repeat (any_goals (first | assumption | wp_step))
            exact fin _ ky
          | _ => exact hy.elim
    | _ => exact hr.elim
def SetMade (prog : Program) (w : World) (s : Shared) (val : Nat → Key) (n : Nat) (z : Shared) : Prop :=
  ∃ g tk, z = { s with heap := g, toks := tk } ∧ g.SetOf (mixKind prog w) s.heap.objs.size (metK val n) (cntK val n) ∧ ∀ b o, s.heap.get? b = some o → g.get? b = some o
theorem fresh_set (led : Bool) {h : Heap} {a : Addr} (q : h.get? a = some (newSet led)) (val : Nat → Key) : h.SetOf (mixKind prog w) a (metK val 0) (cntK val 0) := by
  exact ⟨_, #[], 0, _, q, ⟨rfl, rfl, rfl⟩, rfl, fun e he => (by simp at he), fun k => (by simp [metK]), (by decide), (by rfl), rfl⟩
theorem set_end {wr : List Addr} {val : Nat → Key} {n : Nat} {led : Bool} {ob : Obj} {z : Shared} (mv : Moved (s.heap.objs.size :: [(s.heap.push (newSet led)).objs.size]) (fun a b => b = a) { s with heap := (s.heap.push (newSet led)).push ob } z) (q : z.heap.SetOf (mixKind prog w) s.heap.objs.size (metK val n) (cntK val n)) : SetMade prog w s val n z := by
  obtain ⟨g, a, b, c, d⟩ := z
  obtain rfl : a = s.gens := mv.gens
  obtain rfl : b = s.drawn := mv.drawn
  obtain rfl : d = s.os := mv.os
  refine ⟨g, c, rfl, q, fun x o e => mv.heap x o (fun hx => ?_) (Heap.get?_push_of_some _ (Heap.get?_push_of_some _ e))⟩
  have lt := Heap.lt_size e
  rw [Heap.size_push] at hx
  simp only [List.mem_cons, List.not_mem_nil, or_false] at hx
  rcases hx with hx | hx
  · exact absurd lt (hx ▸ Nat.lt_irrefl _)
  · exact absurd lt (hx ▸ Nat.not_lt.mpr (Nat.le_succ _))
theorem apart (led : Bool) {l : Addr} (lt : l < s.heap.objs.size) : s.heap.objs.size ∉ [(s.heap.push (newSet led)).objs.size, l] := fun z => by
  rw [Heap.size_push] at z
  rcases List.mem_cons.mp z with z | z
  · exact Nat.ne_of_lt (Nat.lt_succ_self _) z
  · exact Nat.ne_of_gt lt (List.mem_singleton.mp z)
theorem set_list {l : Addr} {items : Array Value} {val : Nat → Key} {Q : Value → Shared → Prop} (hh : A.handled = none) (hl : s.heap.IsList l items) (hv : ∀ i v, items[i]? = some v → (mixKind prog w).is (val i) v = true ∧ v.scannable = true) (room : items.size + 1 < scanBound)
    (h : ∀ z, SetMade prog w s val items.size z → Q (.ref s.heap.objs.size) z) : wpAny (model prog w) A (call (.type "set") [.ref l]) Q E s := by
  refine set_made (SetMade prog w s val items.size) h fun led => ?_
  obtain ⟨⟨k1, k2, k3, k4⟩, c1, c2, c4, c5⟩ := hl
  simp only at c2 c5
  subst c2 c5
  have d1 : (s.heap.push (newSet led)).get? l = some { cls := .type "list", dict := k2, data := .seq items c4, slots := k4 } := Heap.get?_push_of_some _ c1
  have d2 := PySem.F.sub_list_set
  have d3 := PySem.F.sub_list_frozenset
  have d4 : (Value.type "list" == Value.type "dict") = false := by decide
  have d5 : (s.heap.push (newSet led)).IsList l items := ⟨_, d1, rfl, c4, rfl⟩
  unfold Builtin.«set.__init__» noKeywords Builtin.Frozenset.updateFrom
  generalize hPI : pyIter = PI
  wp_walk
  subst hPI
  have lt : l < s.heap.objs.size := Heap.lt_size c1
  refine wpAny_pyIter_list d5 (wpAny_bind (wpAny_runValue (set_go ((Walks.list (by simp [hh]) _ l (by rw [Heap.size_push]; exact Nat.ne_of_lt (Nat.lt_succ_of_lt lt)) items).toS) (apart led lt) hv room items.size 0 _ (by omega) ⟨⟨_, Heap.get?_push_size _ rfl, rfl, rfl⟩, d5.push _⟩ ?_ fun z mv q => ?_)))
  · exact fresh_set led (Heap.get?_push_of_some _ (Heap.get?_push_size _ rfl)) val
  · exact wpAny_pure (wpAny_pure ⟨rfl, set_end (wr := []) mv q⟩)
theorem set_tuple {l : Addr} {items : Array Value} {val : Nat → Key} {Q : Value → Shared → Prop} (hh : A.handled = none) (hl : s.heap.IsTuple l items) (hv : ∀ i v, items[i]? = some v → (mixKind prog w).is (val i) v = true ∧ v.scannable = true) (room : items.size + 1 < scanBound)
    (h : ∀ z, SetMade prog w s val items.size z → Q (.ref s.heap.objs.size) z) : wpAny (model prog w) A (call (.type "set") [.ref l]) Q E s := by
  refine set_made (SetMade prog w s val items.size) h fun led => ?_
  obtain ⟨⟨k1, k2, k3, k4⟩, c1, c2, c4, c5⟩ := hl
  simp only at c2 c5
  subst c2 c5
  have d1 : (s.heap.push (newSet led)).get? l = some { cls := .type "tuple", dict := k2, data := .seq items c4, slots := k4 } := Heap.get?_push_of_some _ c1
  have d2 := PySem.F.sub_tuple_set
  have d3 := PySem.F.sub_tuple_frozenset
  have d4 : (Value.type "tuple" == Value.type "dict") = false := by decide
  have d5 : (s.heap.push (newSet led)).IsTuple l items := ⟨_, d1, rfl, c4, rfl⟩
  unfold Builtin.«set.__init__» noKeywords Builtin.Frozenset.updateFrom
  generalize hPI : pyIter = PI
  wp_walk
  subst hPI
  have lt : l < s.heap.objs.size := Heap.lt_size c1
  refine wpAny_pyIter_tuple d5 (wpAny_bind (wpAny_runValue (set_go ((Walks.tuple (by simp [hh]) _ l (by rw [Heap.size_push]; exact Nat.ne_of_lt (Nat.lt_succ_of_lt lt)) items).toS) (apart led lt) hv room items.size 0 _ (by omega) ⟨⟨_, Heap.get?_push_size _ rfl, rfl, rfl⟩, d5.push _⟩ ?_ fun z mv q => ?_)))
  · exact fresh_set led (Heap.get?_push_of_some _ (Heap.get?_push_size _ rfl)) val
  · exact wpAny_pure (wpAny_pure ⟨rfl, set_end (wr := []) mv q⟩)
def keyAt (ks : List Key) (i : Nat) : Key := ks.getD i (.inl 0)
def cntL (ks : List Key) : Nat := cntK (keyAt ks) ks.length
theorem vals_kat {ks : List Key} {its : List Value} (r : Vals (ks.map kV) its) (i : Nat) (v : Value) (h : its.toArray[i]? = some v) : (mixKind prog w).is (keyAt ks i) v = true ∧ v.scannable = true := by
  have h' : its[i]? = some v := by simpa using h
  have hi : i < ks.length := by
    have := (List.getElem?_eq_some_iff.mp h').1
    rw [← r.length, List.length_map] at this
    exact this
  obtain ⟨u, hu, ru⟩ := r.get (i := i) (x := kV ks[i]) (by rw [List.getElem?_map, List.getElem?_eq_getElem hi]; rfl)
  rw [h'] at hu
  obtain rfl : v = u := Option.some.inj hu
  have e : keyAt ks i = ks[i] := by
    unfold keyAt
    rw [List.getD_eq_getElem?_getD, List.getElem?_eq_getElem hi]
    rfl
  rw [e]
  exact ⟨kV_is ru, key_scan ru⟩
end
def tLenSetK (K : PySem.W.Frag) (ta : TE) : TE := fun σ H Q => ta σ H fun x H1 => ∃ (l : Addr) (ks : List Key), x = .ref l ∧ (SqL K H1 l (ks.map kV) ∨ SqT K H1 l (ks.map kV)) ∧ ks.length ≤ 1000 ∧ Q (.int (cntL ks)) H1
theorem pe_lenSetK {X : Cx} {a : Expr} {ta : TE} {p p2 q pos : Pos} (hc : X.calm = true) (hg : Gl X "len") (hm : X.mg "len" = none) (hg2 : Gl X "set") (hm2 : X.mg "set" = none) (ha : PE X a ta) (na : starEach [a] X.env = (false, eval a X.env) :: starEach [] X.env := by rfl) :
    PE X (.Call (.Name "len" p) [.Call (.Name "set" p2) [a] [] q] [] pos) (tLenSetK X.K ta) := by
  refine ⟨fun pins s σ H Q I h => ?_⟩
  refine Call_ (ld_blt I hg hm boot_len (PyProof.Rows.callWith_builtin1 (PyProof.Rows.args_cons ?_ rfl) rfl rfl))
  refine Call_ (ld_blt I hg2 hm2 boot_set (PyProof.Rows.callWith_type1 (PyProof.Rows.args_cons (thn (ha.run pins s σ H _ I h) fun v s1 ⟨x, H1, I1, r1, l, ks, ex, hq, h1, q1⟩ => PyProof.Rows.args_nil ?_) na) na rfl))
  subst ex
  cases r1
  have room : ∀ n, n = ks.length → n + 1 < scanBound := fun n e => by unfold scanBound; omega
  have fin : ∀ n, n = ks.length → ∀ z, SetMade X.prog X.w s1 (keyAt ks) n z → wpAny (model X.prog X.w) X.A (spliced (backTo pos (starEach [] X.env))) (fun vs y => wpAny (model X.prog X.w) X.A (call (.builtin "len") (Value.ref s1.heap.objs.size :: vs)) (EP X pins σ Q) X.xe y) X.xe z := fun n e z hz => by
    subst e
    obtain ⟨g, tk, rfl, hS, hk⟩ := hz
    refine PyProof.Rows.args_nil ?_
    obtain ⟨o, es, ep, t, ho, hex, hd, _, _, _, hf, hn⟩ := hS
    have I2 : Inv X pins σ H1 { s1 with heap := g, toks := tk } := I1.kept hk
    have le := cntK_le (keyAt ks) ks.length
    exact call_len_set ho hex hd hf (by rw [hn]; omega) ⟨.int (cntL ks), H1, I2.tok _, ⟨_, by rw [hn]; rfl⟩, q1⟩
  rcases hq with hq | hq
  · obtain ⟨its, r, pl, hz⟩ := I1.list hq
    have sz : its.toArray.size = ks.length := by rw [List.size_toArray, ← r.length, List.length_map]
    exact set_list (I1.ok.hd hc) pl.isList (vals_kat r) (room _ sz) fun z hz => fin _ sz z hz
  · obtain ⟨its, r, pl, hz⟩ := I1.tuple hq
    have sz : its.toArray.size = ks.length := by rw [List.size_toArray, ← r.length, List.length_map]
    exact set_tuple (I1.ok.hd hc) pl (vals_kat r) (room _ sz) fun z hz => fin _ sz z hz
theorem metK_iff {val : Nat → Key} {i : Nat} {k : Key} : metK val i k = true ↔ ∃ j, j < i ∧ val j = k := by
  unfold metK
  rw [List.any_eq_true]
  constructor
  · rintro ⟨j, hj, e⟩
    exact ⟨j, List.mem_range.mp hj, of_decide_eq_true e⟩
  · rintro ⟨j, hj, e⟩
    exact ⟨j, List.mem_range.mpr hj, decide_eq_true e⟩
theorem cntK_iff {val : Nat → Key} : ∀ {n : Nat}, cntK val n = n ↔ ∀ i j, i < j → j < n → val i ≠ val j
  | 0 => ⟨fun _ i j _ h => by omega, fun _ => rfl⟩
  | n + 1 => by
    have le := cntK_le val n
    rw [cntK]
    constructor
    · intro h
      have hm : ¬ metK val n (val n) = true := fun z => by
        rw [if_pos z] at h
        omega
      rw [if_neg hm] at h
      have ih := (cntK_iff (val := val) (n := n)).mp (by omega)
      intro i j hij hj e
      by_cases hjn : j = n
      · subst hjn
        exact hm (metK_iff.mpr ⟨i, hij, e⟩)
      · exact ih i j hij (by omega) e
    · intro h
      have hm : ¬ metK val n (val n) = true := fun z => by
        obtain ⟨i, hi, e⟩ := metK_iff.mp z
        exact h i n hi (by omega) e
      rw [if_neg hm, (cntK_iff (val := val) (n := n)).mpr fun i j hij hj => h i j hij (by omega)]
theorem cntL_iff {ks : List Key} : cntL ks = ks.length ↔ ks.Nodup := by
  unfold cntL
  rw [cntK_iff, List.nodup_iff_pairwise_ne, List.pairwise_iff_getElem]
  have e : ∀ i (h : i < ks.length), keyAt ks i = ks[i] := fun i h => by
    unfold keyAt
    rw [List.getD_eq_getElem?_getD, List.getElem?_eq_getElem h]
    rfl
  constructor
  · intro h i j hi hj hij
    have := h i j hij hj
    rw [e i hi, e j hj] at this
    exact this
  · intro h i j hij hj
    rw [e i (by omega), e j hj]
    exact h i j (by omega) hj hij
theorem cntL_le (ks : List Key) : cntL ks ≤ ks.length := cntK_le _ _
end RK
namespace PySem
namespace SplatX
open PySem.Spec PyProof.Rows
section
variable {prog : Program} {w : World} {K : Type} [DecidableEq K] {knd : KeyKind prog w K} {A : Around} {E : Value → Shared → Prop} {s : Shared}
end
end SplatX
end PySem
namespace RK
open PySem PySem.Spec PyProof.Rows L2
end RK
namespace DL
open PySem PySem.Spec PyProof.Rows L2 RK
section
variable {X : Cx} {F : Fx} {e a b c e1 e2 k0 : Expr} {es : List Expr} {d da db dc d1 d2 dk : TDE} {ds : TDA} {pos p p2 q0 : Pos}
def dLenSet (d : TDE) : TDE := fun env P => d env fun x => ob (itemsD x) fun xs => ob (keysD xs) fun ks => ks.length ≤ 1000 ∧ P (.int (cntL ks))
theorem lenSetR (hc : X.calm = true) (hg : Gl X "len") (hm : X.mg "len" = none) (hg2 : Gl X "set") (hm2 : X.mg "set" = none) {ta : TE} (ha : PE X a ta) (hK : F.K = X.K) (na : starEach [a] X.env = (false, eval a X.env) :: starEach [] X.env) :
    PE X (.Call (.Name "len" p) [.Call (.Name "set" p2) [a] [] q0] [] pos) (tLenSetK F.K ta) := by rw [hK]; exact pe_lenSetK hc hg hm hg2 hm2 ha na
theorem dd_lenSet (hg : Gl X "len") (hm : X.mg "len" = none) (hg2 : Gl X "set") (hm2 : X.mg "set" = none) (ha : PE X a (lB F d)) (hc : X.calm = true := by rfl) (na : starEach [a] X.env = (false, eval a X.env) :: starEach [] X.env := by rfl) (hK : F.K = X.K := by rfl) :
    PE X (.Call (.Name "len" p) [.Call (.Name "set" p2) [a] [] q0] [] pos) (lC F (dLenSet d)) := PE.mono (lenSetR hc hg hm hg2 hm2 ha hK na) fun σ H Q ⟨env, L, P, A, pp, q⟩ =>
  ⟨env, L, _, A, pp, fun x v H1 px k1 o1 b1 => by
    obtain ⟨xs, ex, px⟩ := ob_elim px
    obtain ⟨ks, ek, hl, px⟩ := ob_elim px
    obtain ⟨t, vs, rfl, g1, g2⟩ := bw_items b1 ex
    have hv := keysD_v g2 ek
    subst hv
    exact ⟨t, ks, rfl, g1, hl, q _ _ H1 px k1 o1 (.int _)⟩⟩
end
end DL
namespace DL
open PySem PySem.Spec PyProof.Rows L2 RK
section
variable {X : Cx} {F : Fx}
end
end DL
namespace DL
open PySem PySem.Spec PyProof.Rows L2 RK
section
variable {X : Cx} {F : Fx} {e : Expr} {d : TDE} {pos p : Pos}
def dictD : List D → Option D
  | [.dic kds] => some (.dic kds)
  | _ => none
theorem dict_okN : CaN F (fun xs H Q => ∃ (a : Addr) (kvs : List (Key × V)), xs = [.ref a] ∧ Rd H a (.dK kvs) ∧ ∀ p, H p = none → Q (.ref p) (upd H p (.dK kvs))) dictD := fun A b e Q q => by
  rename_i dl z
  match dl, b, e with
  | [.dic kds], .cons h .nil, e =>
    obtain ⟨a, kvs, rfl, h1, h2, h3⟩ := bw_dic h
    cases e
    exact ⟨_, _, rfl, h1, fun t ht => q _ _ (.new ht) (ok_new A.ok ht) ht ⟨kvs, upd_same, h2, new_pres A ht h3⟩⟩
theorem dn_dict (hg : Gl X "dict") (hm : X.mg "dict" = none) (ha : PE X e (lB F d)) (he : starEach [e] X.env = (false, eval e X.env) :: starEach [] X.env := by rfl) (hpl : (backTo pos (starEach [] X.env)).any (·.1) = false := by rfl) (hK : F.K = X.K := by rfl) :
    PE X (.Call (.Name "dict" p) [e] [] pos) (lN F (dCa dictD (aCons d aNil))) := PE.mono (pe_callTy call_dictD hg hm (by decide +kernel) (db_cons ha db_nil he) (by decide) (by decide) he hpl) (lcaN dict_okN)
end
end DL
namespace DL
open PySem PySem.Spec PyProof.Rows L2 RK
section
variable {X : Cx} {F : Fx} {e a b : Expr} {d da db : TDE} {pos p : Pos}
end
end DL
namespace DL
open PySem PySem.Spec PyProof.Rows L2 RK
section
variable {X : Cx} {F : Fx} {a b : Expr} {da db : TDE} {pos : Pos}
end
end DL
namespace RK
open PySem PySem.Spec PyProof.Rows L2
def FnAt (P : Program) (w : World) (K : PySem.W.Frag) (mg : Str → Option Value) (base : Heap) (CX : CXT) (A : Around) (f : Addr) (fd : FuncData) (ps : List Str) (sp : Sp) : Prop :=
  ∀ (outer : List Env) (s : Shared) (H : Hp) (args : Args) (us : List Value) (vs : List V) (Q : VK) (E : XK), Env0 P w K mg base A outer s H → BindsTo s fd args (ps.zip us) → Vals vs us → sp vs H Q E → codeAny (model P w) A (.call (.ref f) args) (CR CX outer P w H s Q E) s
variable {P : Program} {w : World} {K : PySem.W.Frag} {mg : Str → Option Value} {base : Heap}
theorem fn_at {CX : CXT} {k : Nat} {f : Addr} {name qual : Str} {params : Arguments} {body : List Stmt} {scope : Scope} {dV kV doc pm cdv ct oc : Value} {an od : Option Addr} {osl : Array (Option Value)} {N ps : List Str} {sp : Sp} {A : Around} (hr : Room (k + 1) A)
    (lk : K.lookup f = some ⟨oc, od, .func (PySem.W.fnOf name qual params body scope dV kV doc pm an cdv ct), osl⟩) (hcd : PySem.W.codeIn K cdv qual = true) (S : FnScope N ps scope) (len : ∀ vs H Q E, sp vs H Q E → vs.length = ps.length)
    (hbody : ∀ (outer : List Env) (s : Shared) (H : Hp) (vs : List V) (Q : VK) (E : XK), sp vs H Q E → ∃ t, PSs (cxOf CX P w K mg base N qual scope f cdv A outer s H E) body t ∧ t { nx := fun _ H' => Q .non H', rt := Q } (start N vs) H) :
    FnAt P w K mg base CX A f (PySem.W.fnOf name qual params body scope dV kV doc pm an cdv ct) ps sp := by
  intro outer s H args us vs Q E e0 hb rv hsp
  have KX : K.In s.heap := e0.mod.kin.keeps fun b o e => (e0.bs b o e).1
  have nl : s.heap.NoLimit := e0.mod.nolimit.keeps fun b o e => (e0.bs b o e).1
  have kinds : ∀ y ∈ ps.zip us, scope.names.lookup y.1 = some .local ∨ (scope.names.lookup y.1 = some .cell ∧ ((cellsFrom (s.heap.objs.size + 1) scope.names []).lookup y.1).isSome = true) := by
    rintro ⟨n, v⟩ hy
    exact (S.par n (List.of_mem_zip hy).1).imp id fun q => ⟨q, PySem.W.cellsFrom_some _ _ _ (.inl q)⟩
  refine codeAny_call_function hr.depth (KX _ _ lk) rfl S.co S.gen rfl (PySem.W.codeRec_of KX hcd) (hb _ _ _ _ (wpAny_newFunctionEnv_cells S.kind kinds fun env he s1 x => ?_))
  cases he
  obtain ⟨t, ht, hq⟩ := hbody outer s H vs Q E hsp
  refine ⟨nl.keeps x.toInCall.keep, codeAny_func (wpAny_mono (ht.run [] s1 (start N vs) H _ (inv_start S hr.hd e0 (len _ _ _ _ hsp) rv x) hq) (fun fl s' hs => ?_) fun e s' hs => hs)⟩
  cases fl with
  | ret u => exact (let ⟨v, _, H', J, rv, q⟩ := hs; ⟨v, H', J.os, J.bare, J.base, J.hok, rv, q⟩)
  | next => exact (let ⟨_, H', J, q⟩ := hs; ⟨V.non, H', J.os, J.bare, J.base, J.hok, rfl, q⟩)
  | brk => exact (let ⟨_, _, _, q⟩ := hs; False.elim q)
  | cont => exact (let ⟨_, _, _, q⟩ := hs; False.elim q)
theorem law_core {mb : Str → Option Value} {CX : CXT} {fa a : Addr} {fd : FuncData} {x : Str} {sp : Sp} {s1 : Shared} {vs : List Value} {H : Hp}
    (KX : K.In s1.heap) (hns : s1.heap.Ns mainGlobals mg) (hb : s1.heap.Ns builtinsNs mb) (hbb : ∀ x : Str, x ≠ "__name__" → mb x = bootBuiltins x) (hlim : s1.heap.NoLimit) (hg : s1.gens = #[])
    (ha : s1.heap.get? a = some { cls := .type "list", data := .seq vs.toArray }) (F : ∀ bs : Heap, K.In bs → bs.Ns mainGlobals mg → FnAt P w K mg bs CX callerA fa fd [x] sp) (hbind : ∀ (s : Shared) (u : Value), BindsTo s fd ⟨[u], []⟩ [(x, u)])
    (hCX : ∀ H e s', CX [] H s1 (fun _ _ _ => False) e s' → False) (hO : Only H) (hsp : sp [.ref a] H (fun v _ => v = .bl true) fun _ _ _ => False) (hok : HOk P w H s1.heap) (one : ∀ b, H b ≠ none → b = a ∧ K.lookup a = none) :
    codeAny (model P w) callerA (.call (.ref fa) ⟨[.ref a], []⟩) (fun r s' => r = .ok (.ret (.bool true)) ∧ OldK s1.heap s'.heap ∧ s'.os = s1.os ∧ AllBare s'.gens) s1 := by
  have hid : ∀ {b : Addr} {o : Obj}, s1.heap.get? b = some o → (b ≠ a ∨ K.lookup a ≠ none) → (hidT s1.heap H).get? b = some o := fun {b o} e h => hidT_get e (Classical.byContradiction fun z => h.elim (fun n => n (one b z).1) fun n => n (one b z).2)
  have ns : ∀ {b : Addr} {m : Str → Option Value}, s1.heap.Ns b m → (hidT s1.heap H).Ns b m := fun {b m} ⟨o, es, ep, e, d, r⟩ => ⟨o, es, ep, hid e (.inl fun z => by
    rw [z, ha] at e
    cases e
    cases d), d, r⟩
  have kin : K.In (hidT s1.heap H) := fun b o e => hid (KX b o e) (by
    rcases Classical.em (b = a) with z | z
    · exact .inr (by rw [← z, e]; simp)
    · exact .inl z)
  have md : Mod K mg (hidT s1.heap H) := ⟨kin, ns hns, ⟨mb, ns hb, hbb⟩, (let ⟨mc, h1, h2⟩ := hlim; ⟨mc, ns h1, h2⟩)⟩
  have env : Env0 P w K mg (hidT s1.heap H) callerA [] s1 H := { frames := rfl, mod := md, bs := fun b o e => of_hidT e, bsz := Nat.le_of_eq (hidT_size _ _), funs := trivial, frf := fun b hb => (by cases hb), hok := hok, bare := .of_eq hg }
  refine codeAny_mono (F _ kin (ns hns) [] s1 H ⟨[.ref a], []⟩ [.ref a] [.ref a] _ _ env (hbind s1 (.ref a)) (.cons rfl .nil) hsp) fun r s' h => ?_
  match r, h with
  | .error e, h => exact (hCX H e s' h).elim
  | .ok (.ret u), ⟨v, H', os, bare, un, hok', rv, q⟩ =>
    cases (show v = .bl true from q)
    cases (show u = Value.bool true from rv)
    refine ⟨rfl, OldK.of_keep fun b o e => ?_, os, bare⟩
    rcases hO b with z | ⟨ob, xs, z⟩
    · exact un.keep b o e z (fun y => (by cases y)) (by simp)
    · have e1 := (hok b _ z).1
      have e2 := (hok' b _ (un.frzs b ob _ z)).1
      rw [e] at e1
      cases e1
      exact e2
  | .ok .next, h => exact False.elim h
  | .ok .brk, h => exact False.elim h
  | .ok .cont, h => exact False.elim h
theorem law_at {mb : Str → Option Value} {CX : CXT} {fa a : Addr} {fd : FuncData} {x : Str} {sp : Sp} {s1 : Shared} {vs : List Value} {ns : List Int}
    (KX : K.In s1.heap) (hns : s1.heap.Ns mainGlobals mg) (hb : s1.heap.Ns builtinsNs mb) (hbb : ∀ x : Str, x ≠ "__name__" → mb x = bootBuiltins x) (hlim : s1.heap.NoLimit) (hg : s1.gens = #[])
    (ha : s1.heap.get? a = some { cls := .type "list", data := .seq vs.toArray }) (hi : IntsAre vs ns) (hl : ns.length ≤ sizeLine) (F : ∀ bs : Heap, K.In bs → bs.Ns mainGlobals mg → FnAt P w K mg bs CX callerA fa fd [x] sp) (hbind : ∀ (s : Shared) (u : Value), BindsTo s fd ⟨[u], []⟩ [(x, u)])
    (hsp : ∀ H : Hp, Only H → SqL K H a (ns.map V.int) → sp [.ref a] H (fun v _ => v = .bl true) fun _ _ _ => False) (hCX : ∀ H e s', CX [] H s1 (fun _ _ _ => False) e s' → False) :
    codeAny (model P w) callerA (.call (.ref fa) ⟨[.ref a], []⟩) (fun r s' => r = .ok (.ret (.bool true)) ∧ OldK s1.heap s'.heap ∧ s'.os = s1.os ∧ AllBare s'.gens) s1 := by
  have rv := vals_ints hi
  have lv := hi.length
  cases hk : K.lookup a with
  | some o =>
    have e := KX a o hk
    rw [ha] at e
    cases e
    have hO : Only (fun _ => none) := fun _ => .inl rfl
    refine law_core KX hns hb hbb hlim hg ha F hbind hCX hO (hsp _ hO (.inr ⟨_, vs.toArray, _, hk, rfl, rfl, rfl, ?_, ?_⟩)) (fun b u z => by cases z) (fun b z => (z rfl).elim)
    · rw [List.size_toArray, lv]
      exact hl
    · rw [List.toList_toArray]
      exact rv
  | none =>
    let ob : Obj := { cls := .type "list", data := .seq vs.toArray }
    let H : Hp := fun b => if b = a then some (.frz ob (.lst (ns.map V.int))) else none
    have hH : ∀ b, H b = none ∨ (b = a ∧ H b = some (.frz ob (.lst (ns.map V.int)))) := fun b => by
      by_cases h : b = a
      · exact .inr ⟨h, if_pos h⟩
      · exact .inl (if_neg h)
    have hO : Only H := fun b => (hH b).imp id fun h => ⟨_, _, h.2⟩
    refine law_core KX hns hb hbb hlim hg ha F hbind hCX hO (hsp H hO (.inl (.inr ⟨ob, if_pos rfl⟩))) (fun b u z => ?_) (fun b z => ?_)
    · rcases hH b with h | ⟨e, h⟩
      · rw [h] at z
        cases z
      · rw [h] at z
        cases z
        subst e
        exact ⟨ha, by rw [List.length_map]; exact hl, vs, _, rv, ha⟩
    · rcases hH b with h | ⟨e, _⟩
      · exact (z h).elim
      · exact ⟨e, hk⟩
theorem walk_at {l : PySem.W.OpenLaw} {n : Nat} {q : Program} {loose : List Str} {XP : (Str → Option Value) → Heap → Prop} {YP : World → Heap → Prop} {d : DefRec} {K : Params → PySem.W.Frag} {CX : World → CXT} {sp : World → Sp} {x : Str}
    (hn : l.most = some n) (hn2 : n ≤ sizeLine) (hdf : d.params.defaults = []) (hY : ∀ (w : World) (h : Heap), YP w h → (K w.params).In h)
    (F : ∀ (w : World) (mg : Str → Option Value) (fa : Addr) (h : Heap), (K w.params).In h → h.Ns mainGlobals mg → mg d.name = some (.ref fa) → ∃ fd : FuncData, (∀ (s : Shared) (u : Value), BindsTo s fd ⟨[u], []⟩ [(x, u)]) ∧ ∀ bs : Heap, (K w.params).In bs → bs.Ns mainGlobals mg → FnAt l.prog w (K w.params) mg bs (CX w) callerA fa fd [x] (sp w))
    (hsp : ∀ (w : World) (H : Hp) (a : Addr) (ns : List Int), ns.length ≤ n → Only H → SqL (K w.params) H a (ns.map V.int) → sp w [.ref a] H (fun v _ => v = .bl true) fun _ _ _ => False)
    (hCX : ∀ (w : World) (H : Hp) (s : Shared) (e : Value) (s' : Shared), CX w [] H s (fun _ _ _ => False) e s' → False) :
    PySem.W.WalkO q loose XP YP l.row.toRowW d [] (fun f vs => PySem.call f vs) :=
  Att.attach_call hn hdf fun w s0 s1 mg mb fa o pm cd doc a vs ns G Y ho hd hcd hmg hobj hints hlen hg => by
    obtain ⟨fd, hb, hF⟩ := F w mg fa _ (hY w _ Y) G.T.g hmg
    exact law_at (hY w _ Y) G.T.g G.T.b G.T.builtins G.T.nolimit hg hobj hints (Nat.le_trans hlen hn2) hF hb (fun H hO hS => hsp w H a ns hlen hO hS) fun H e s' => hCX w H s1 e s'
end RK
namespace DL
open PySem PySem.Spec PyProof.Rows L2 RK
section
variable {X : Cx} {F : Fx} {e : Expr} {d : TDE} {pos p : Pos}
def rRepr (K : PySem.W.Frag) : List V → Hp → VK → Prop := fun xs H Q => ∃ (a : Addr) (q : PyData), xs = [.ref a] ∧ Dp K H (.ref a) q ∧ q.showable = true ∧ q.hasDict = false ∧ q.depth ≤ 60 ∧ q.shown.length ≤ sizeLine ∧ Q (.str q.shown) H
theorem call_repr (hg : X.A.guards = some []) (hu : X.A.units + 64 < cLine) : CallR X (.builtin "repr") (rRepr X.K) := by
  intro pins s σ H xs us Q I r h
  obtain ⟨a, q, rfl, hd, h1, h2, h3, h4, hq⟩ := h
  obtain ⟨u, rfl, rx⟩ := vals1 r
  cases rx
  obtain ⟨as, rd⟩ := Dp.reads I q _ _ hd (show RelV (.ref a) (.ref a) from rfl)
  exact repr_of_reads' rd h1 (PyData.noDict_hsm h2) hg (by omega) (fun _ _ e => e) (fun h' u tk hk => ⟨.str q.shown, H, I.kept hk, ⟨_, rfl⟩, hq⟩) h4
end
theorem fun_at {P : Program} {w : World} {K : PySem.W.Frag} {mg : Str → Option Value} {base : Heap} {x qual : Str} {st : Stmt} {f : Addr} {fd : FuncData} {N ps : List Str} {k : Nat} {sp : Sp} {A : Around} (F : Fun K x qual st f fd) (S : FnScope N ps (defScope st)) (hr : Room (k + 1) A) (len : ∀ vs H Q E, sp vs H Q E → vs.length = ps.length)
    (hbody : ∀ (cdv : Value) (outer : List Env) (s : Shared) (H : Hp) (vs : List V) (Q : VK) (E : XK), Room k (A.deeper (envOfC qual (defScope st) s.heap.objs.size f cdv)) → sp vs H Q E → ∃ t, PSs (cxOf CX0 P w K mg base N qual (defScope st) f cdv A outer s H E).nox (defBody st) t ∧ t { nx := fun _ H' => Q .non H', rt := Q } (start N vs) H) : FnAt P w K mg base CX0 A f fd ps sp := by
  obtain ⟨oc, od, kV, doc, pm, an, cdv, ct, osl, rfl, lk, hcd⟩ := F.ex
  refine fn_at hr lk hcd S len fun outer s H vs Q E hsp => ?_
  obtain ⟨t, h, q⟩ := hbody cdv outer s H vs Q E (hr.deeper _) hsp
  exact ⟨t, h.nox, q⟩
end DL
namespace RK
open PySem PySem.Calls PyProof.Rows PyProof.V PySem.Spec PySem.W
section
variable {prog : Program} {w : World} {K : Type} [DecidableEq K] {knd : KeyKind prog w K} {A : Around} {E : Value → Shared → Prop} {s : Shared}
end
end RK
namespace DL
open PySem PySem.Spec PyProof.Rows L2 RK
section
variable {X : Cx} {F : Fx} {e a b : Expr} {d da db : TDE} {pos p : Pos}
end
end DL
namespace RK
open PySem PySem.Spec PyProof.Rows L2
open PySem.Sem (wp)
inductive Out : Value → Prop
  | no : Out .none
  | num (T : Addr) : Out (rawInt T)
abbrev ZR (h : Heap) (z : Addr) (o f : Value) (p q : Addr) : Prop :=
  h.get? z = some { cls := .type "zip", dict := none, data := .fields #[o, f, .bool false, .ref p, .ref q], slots := #[] }
theorem lives {prog : Program} {w : World} {A : Around} {E : Value → Shared → Prop} {s : Shared} {t : Addr} {Q : Option Obj → Shared → Prop} (h : Q (s.heap.get? t) s) : wpAny (model prog w) A (loadIfAlive t) Q E s := fun _ _ _ => h
theorem raised {prog : Program} {w : World} {A : Around} {E : Value → Shared → Prop} {s : Shared} {z e p q : Addr} {o f : Value} {Q : Unit → Shared → Prop} (r : ZR s.heap z o f p q) (x : ∃ u, s.heap.get? e = some u ∧ u.cls = .type "StopIteration")
    (k : ∀ h', Heap.SameBut z s.heap h' → (∃ u, h'.get? e = some u ∧ u.cls = .type "StopIteration") → Q () { s with heap := h' }) : wpAny (model prog w) A (setField (.ref z) 0 .none) Q E s :=
  wpAny_setField_rec r (by simp) fun h' _ k1 => k h' k1 (by
    obtain ⟨u, e1, e2⟩ := x
    refine ⟨u, k1.extBut _ _ (fun y => ?_) e1, e2⟩
    subst y
    rw [r] at e1
    cases e1
    exact absurd (show Value.type "zip" = .type "StopIteration" from e2) (by decide))
section
variable {prog : Program} {w : World} {A : Around} {E : Value → Shared → Prop} {z TI TO i1 i2 : Addr} {fp1 fp2 : List Addr} {n1 n2 : Nat} {P1 P2 : Nat → Value → Prop} {St1 St2 : Nat → Heap → Prop}
structure Zs (z TI TO i1 i2 : Addr) (St1 St2 : Nat → Heap → Prop) (h0 : Heap) (m : Nat) (o : Value) (f : Bool) (j1 j2 : Nat) (a b : Value) (h : Heap) : Prop where
  rcd : ZR h z o (.bool f) TI TO
  ins : IsPair h TI (.ref i1) (.ref i2)
  out : IsPair h TO a b
  s1 : St1 j1 h
  s2 : St2 j2 h
  num : h.objs.size = m
  rest : ∀ c u, c ≠ z → c ≠ TO → c ≠ i1 → c ≠ i2 → h0.get? c = some u → h.get? c = some u
variable (S : ZipSep2 z TI TO i1 i2 fp1 fp2) (D1 : Draws prog w A i1 fp1 n1 P1 St1) (D2 : Draws prog w A i2 fp2 n2 P2 St2)
variable {h0 h h' : Heap} {m : Nat} {o o' : Value} {f f' : Bool} {j1 j2 : Nat} {a b a' b' : Value}
include S D1 D2
theorem Zs.note (q : Zs z TI TO i1 i2 St1 St2 h0 m o f j1 j2 a b h) (k : Heap.SameBut z h h') (r : ZR h' z o' (.bool f') TI TO) : Zs z TI TO i1 i2 St1 St2 h0 m o' f' j1 j2 a b h' :=
  ⟨r, k.extBut _ _ S.TIz q.ins, k.extBut _ _ S.TOz q.out, D1.over q.s1 k S.zf1, D2.over q.s2 k S.zf2, k.1.trans q.num, fun c u e1 e2 e3 e4 x => k.extBut _ _ e1 (q.rest c u e1 e2 e3 e4 x)⟩
theorem Zs.write (q : Zs z TI TO i1 i2 St1 St2 h0 m o f j1 j2 a b h) (k : Heap.SameBut TO h h') (r : IsPair h' TO a' b') : Zs z TI TO i1 i2 St1 St2 h0 m o f j1 j2 a' b' h' :=
  ⟨k.extBut _ _ S.TOz.symm q.rcd, k.extBut _ _ S.TITO q.ins, r, D1.over q.s1 k S.Tf1, D2.over q.s2 k S.Tf2, k.1.trans q.num, fun c u e1 e2 e3 e4 x => k.extBut _ _ e2 (q.rest c u e1 e2 e3 e4 x)⟩
theorem Zs.one (q : Zs z TI TO i1 i2 St1 St2 h0 m o f j1 j2 a b h) (k : Heap.SameBut i1 h h') (r : St1 (j1 + 1) h') : Zs z TI TO i1 i2 St1 St2 h0 m o f (j1 + 1) j2 a b h' :=
  ⟨k.extBut _ _ S.zi1 q.rcd, k.extBut _ _ S.TIi1 q.ins, k.extBut _ _ S.Ti1 q.out, r, D2.over q.s2 k S.sep1_2, k.1.trans q.num, fun c u e1 e2 e3 e4 x => k.extBut _ _ e3 (q.rest c u e1 e2 e3 e4 x)⟩
theorem Zs.two (q : Zs z TI TO i1 i2 St1 St2 h0 m o f j1 j2 a b h) (k : Heap.SameBut i2 h h') (r : St2 (j2 + 1) h') : Zs z TI TO i1 i2 St1 St2 h0 m o f j1 (j2 + 1) a b h' :=
  ⟨k.extBut _ _ S.zi2 q.rcd, k.extBut _ _ S.TIi2 q.ins, k.extBut _ _ S.Ti2 q.out, D1.over q.s1 k S.sep2_1, r, k.1.trans q.num, fun c u e1 e2 e3 e4 x => k.extBut _ _ e4 (q.rest c u e1 e2 e3 e4 x)⟩
theorem Zs.more (q : Zs z TI TO i1 i2 St1 St2 h0 m o f j1 j2 a b h) (t : Obj) : Zs z TI TO i1 i2 St1 St2 h0 (m + 1) o f j1 j2 a b (h.push t) := by
  have up : ∀ c u, h.get? c = some u → (h.push t).get? c = some u := fun c u e => Heap.get?_push_of_some _ e
  exact ⟨up _ _ q.rcd, up _ _ q.ins, up _ _ q.out, D1.frame _ _ _ q.s1 fun c _ u e => up c u e, D2.frame _ _ _ q.s2 fun c _ u e => up c u e, by rw [Heap.size_push, q.num], fun c u e1 e2 e3 e4 x => up c u (q.rest c u e1 e2 e3 e4 x)⟩
theorem Zs.draw1 {s : Shared} {Q : Value → Shared → Prop} (q : Zs z TI TO i1 i2 St1 St2 h0 m o f j1 j2 a b s.heap) (l : j1 < n1)
    (k : ∀ x h' t, P1 j1 x → Zs z TI TO i1 i2 St1 St2 h0 m o f (j1 + 1) j2 a b h' → Q x { s with heap := h', toks := t }) : wpAny (model prog w) A (Builtin.SmallTypes.nextOf (.ref i1)) Q E s :=
  D1.item j1 s Q E l q.s1 fun x h' t p st sb => k x h' t p (q.one S D1 D2 sb st)
theorem Zs.draw2 {s : Shared} {Q : Value → Shared → Prop} (q : Zs z TI TO i1 i2 St1 St2 h0 m o f j1 j2 a b s.heap) (l : j2 < n2)
    (k : ∀ x h' t, P2 j2 x → Zs z TI TO i1 i2 St1 St2 h0 m o f j1 (j2 + 1) a b h' → Q x { s with heap := h', toks := t }) : wpAny (model prog w) A (Builtin.SmallTypes.nextOf (.ref i2)) Q E s :=
  D2.item j2 s Q E l q.s2 fun x h' t p st sb => k x h' t p (q.two S D1 D2 sb st)
theorem Zs.ask {s : Shared} {Q : Bool → Shared → Prop} (q : Zs z TI TO i1 i2 St1 St2 h0 m o f j1 j2 a b s.heap) (ho : Out o)
    (k : ∀ y h' f', Zs z TI TO i1 i2 St1 St2 h0 m o f' j1 j2 a b h' → Q y { s with heap := h' }) : wpAny (model prog w) A (Builtin.SmallTypes.ownedTupleIsFree (.ref z)) Q E s := by
  unfold Builtin.SmallTypes.ownedTupleIsFree
  refine wpAny_bind (wpAny_field q.rcd rfl (x := o) rfl ?_)
  cases ho with
  | no => exact wpAny_pure (k true s.heap f q)
  | num T =>
    refine wpAny_bind (lives ?_)
    generalize s.heap.get? _ = al
    cases al with
    | none => exact wpAny_pure (k true s.heap f q)
    | some u =>
      refine wpAny_bind (wpAny_field q.rcd rfl (x := .bool f) rfl ?_)
      cases f with
      | true => exact wpAny_pure (k false s.heap true q)
      | false => exact wpAny_bind (wpAny_setField_rec q.rcd (by simp) fun h' r sb => wpAny_pure (k false h' true (q.note S D1 D2 sb r)))
theorem Zs.put {s : Shared} {β : Type} {r : Sem β} {Q : β → Shared → Prop} {x : Value} (q : Zs z TI TO i1 i2 St1 St2 h0 m o f j1 j2 a b s.heap) (n : Nat) (e : (#[a, b] : Array Value).setIfInBounds n x = #[a', b'])
    (k : ∀ h', Zs z TI TO i1 i2 St1 St2 h0 m o f j1 j2 a' b' h' → wpAny (model prog w) A r Q E { s with heap := h' }) :
    wpAny (model prog w) A (do let some kept ← seqItems? (.ref TO) | unsupported "internal:zip.__next__"
                               updateSeq TO (·.setIfInBounds n x)
                               letGo [kept.getD n .none]
                               r) Q E s := by
  refine wpAny_bind (wpAny_seqItems q.out rfl (wpAny_bind (wpAny_updateSeq q.out rfl (wpAny_bind (wpAny_letGo (k _ (q.write S D1 D2 (Heap.SameBut.update ..) ?_)))))))
  show Heap.get? _ _ = _
  rw [Heap.get?_update_self _ q.out rfl, ← e]
  simp [Obj.mapSeq]
theorem Zs.next {s : Shared} {Q : Value → Shared → Prop} {j : Nat} (q : Zs z TI TO i1 i2 St1 St2 s.heap s.heap.objs.size o f j j a b s.heap) (ho : Out o) (l1 : j < n1) (l2 : j < n2)
    (k : ∀ x y h' t o' f' a' b', P1 j x → P2 j y → Out o' → IsPair h' s.heap.objs.size x y → Zs z TI TO i1 i2 St1 St2 s.heap (s.heap.objs.size + 1) o' f' (j + 1) (j + 1) a' b' h' → Q (.ref s.heap.objs.size) { s with heap := h', toks := t }) :
    wpAny (model prog w) A (Builtin.«zip.__next__» ⟨[.ref z], []⟩) (fun v s' => ∃ u, v = .done (.ret u) ∧ Q u s') E s := by
  have lz : z < s.heap.objs.size := Heap.lt_size q.rcd
  show wpAny _ _ (field (.ref z) 2 >>= _) _ _ _
  refine wpAny_bind (wpAny_field q.rcd rfl (x := .bool false) rfl (wpAny_bind (wpAny_field q.rcd rfl (x := .ref TI) rfl (wpAny_bind (wpAny_seqItems q.ins rfl ?_)))))
  refine wpAny_bind (q.ask S D1 D2 ho fun y h1 f1 q1 => ?_)
  cases y
  · refine wpAny_bind ?_
    rw [← Array.forIn_toList]
    simp only [List.forIn_cons, List.forIn_nil]
    refine wpAny_bind (wpAny_bind (wpAny_holding (wpAny_bind (Zs.draw1 S D1 D2 (s := { s with heap := h1 }) q1 l1 fun x h2 t2 px q2 => wpAny_pure (wpAny_pure ?_)))))
    refine wpAny_bind (wpAny_bind (wpAny_holding (wpAny_bind (Zs.draw2 S D1 D2 (s := { s with heap := h2, toks := t2 }) q2 l2 fun y h3 t3 py q3 => wpAny_pure (wpAny_pure (wpAny_pure ?_))))))
    refine wpAny_bind (wpAny_newTuple (hsz := by show 2 ≤ sizeLine; decide) (wpAny_pure ⟨_, rfl, ?_⟩))
    have e := Heap.get?_push_size h3 (o := { cls := .type "tuple", data := .seq #[x, y] }) rfl
    rw [q3.num] at e
    have g := k x y _ t3 o f1 a b px py ho e (q3.more S D1 D2 _)
    rw [← q3.num] at g
    exact g
  · refine wpAny_bind (wpAny_rule (wpAny_bind (wpAny_field q1.rcd rfl (x := .ref TO) rfl (wpAny_bind (wpAny_setField_rec q1.rcd (by simp) fun h2 r2 k2 => ?_)))))
    have q2 : Zs z TI TO i1 i2 St1 St2 s.heap s.heap.objs.size .ellipsis f1 j j a b h2 := q1.note S D1 D2 k2 r2
    refine wpAny_bind ?_
    simp only [List.zipIdx_cons, List.zipIdx_nil, List.forIn_cons, List.forIn_nil]
    refine wpAny_bind (wpAny_bind (wpAny_onRaise (wpAny_bind (Zs.draw1 S D1 D2 (s := { s with heap := h2 }) q2 l1 fun x h3 t3 px q3 => wpAny_pure ?_))))
    refine Zs.put S D1 D2 (s := { s with heap := h3, toks := t3 }) q3 0 (a' := x) (b' := b) rfl fun h4 q4 => wpAny_pure ?_
    refine wpAny_bind (wpAny_bind (wpAny_onRaise (wpAny_bind (Zs.draw2 S D1 D2 (s := { s with heap := h4, toks := t3 }) q4 l2 fun y h5 t5 py q5 => wpAny_pure ?_))))
    refine Zs.put S D1 D2 (s := { s with heap := h5, toks := t5 }) q5 1 (a' := x) (b' := y) rfl fun h6 q6 => wpAny_pure (wpAny_pure ?_)
    refine wpAny_bind (wpAny_seqItems q6.out rfl (wpAny_bind (wpAny_newTuple (hsz := by show 2 ≤ sizeLine; decide) ?_)))
    have e := Heap.get?_push_size h6 (o := { cls := .type "tuple", data := .seq #[x, y] }) rfl
    have q7 := q6.more S D1 D2 { cls := .type "tuple", data := .seq #[x, y] }
    refine wpAny_bind (wpAny_bind (wpAny_setField_rec q7.rcd (by simp) fun h8 r8 k8 => ?_))
    refine wpAny_setField_rec r8 (by simp) fun h9 r9 k9 => wpAny_pure ⟨_, rfl, ?_⟩
    have q9 : Zs z TI TO i1 i2 St1 St2 s.heap (s.heap.objs.size + 1) (rawInt h6.objs.size) false (j + 1) (j + 1) x y h9 := (q7.note S D1 D2 (o' := rawInt h6.objs.size) (f' := f1) k8 r8).note S D1 D2 k9 r9
    have e9 : IsPair h9 h6.objs.size x y := by
      have ne : h6.objs.size ≠ z := by rw [q6.num]; exact Nat.ne_of_gt lz
      exact k9.extBut _ _ ne (k8.extBut _ _ ne e)
    rw [q6.num] at e9
    have g := k x y _ t5 _ false x y px py (.num _) e9 q9
    rw [← q6.num] at g
    exact g
theorem Zs.over {s : Shared} {Q : Fin → Shared → Prop} {j : Nat} (q : Zs z TI TO i1 i2 St1 St2 s.heap s.heap.objs.size o f j j a b s.heap) (ho : Out o) (l : j = n1 ∨ (j < n1 ∧ j = n2))
    (k : ∀ h' t e, (∀ c u, c ≠ z → c ≠ TO → c ≠ i1 → c ≠ i2 → s.heap.get? c = some u → h'.get? c = some u) → (∃ u, h'.get? e = some u ∧ u.cls = .type "StopIteration") → E (.ref e) { s with heap := h', toks := t }) :
    wpAny (model prog w) A (Builtin.«zip.__next__» ⟨[.ref z], []⟩) Q E s := by
  show wpAny _ _ (field (.ref z) 2 >>= _) _ _ _
  refine wpAny_bind (wpAny_field q.rcd rfl (x := .bool false) rfl (wpAny_bind (wpAny_field q.rcd rfl (x := .ref TI) rfl (wpAny_bind (wpAny_seqItems q.ins rfl ?_)))))
  refine wpAny_bind (q.ask S D1 D2 ho fun y h1 f1 q1 => ?_)
  cases y
  · refine wpAny_bind ?_
    rw [← Array.forIn_toList]
    simp only [List.forIn_cons, List.forIn_nil]
    refine wpAny_bind (wpAny_bind (wpAny_holding (wpAny_bind ?_)))
    rcases l with rfl | ⟨l1, rfl⟩
    · exact D1.done { s with heap := h1 } _ _ q1.s1 fun h2 e k2 x => k h2 s.toks e (fun c u e1 e2 e3 e4 y => k2 _ _ e3 (q1.rest c u e1 e2 e3 e4 y)) x
    · refine Zs.draw1 S D1 D2 (s := { s with heap := h1 }) q1 l1 fun x h2 t2 px q2 => wpAny_pure (wpAny_pure ?_)
      refine wpAny_bind (wpAny_bind (wpAny_holding (wpAny_bind ?_)))
      exact D2.done { s with heap := h2, toks := t2 } _ _ q2.s2 fun h3 e k3 x => k h3 t2 e (fun c u e1 e2 e3 e4 y => k3 _ _ e4 (q2.rest c u e1 e2 e3 e4 y)) x
  · refine wpAny_bind (wpAny_rule (wpAny_bind (wpAny_field q1.rcd rfl (x := .ref TO) rfl (wpAny_bind (wpAny_setField_rec q1.rcd (by simp) fun h2 r2 k2 => ?_)))))
    have q2 : Zs z TI TO i1 i2 St1 St2 s.heap s.heap.objs.size .ellipsis f1 j j a b h2 := q1.note S D1 D2 k2 r2
    refine wpAny_bind ?_
    simp only [List.zipIdx_cons, List.zipIdx_nil, List.forIn_cons, List.forIn_nil]
    refine wpAny_bind (wpAny_bind (wpAny_onRaise (wpAny_bind ?_)))
    rcases l with rfl | ⟨l1, rfl⟩
    · exact D1.done { s with heap := h2 } _ _ q2.s1 fun h3 e k3 x => raised (s := { s with heap := h3 }) (k3 _ _ S.zi1 q2.rcd) x fun h4 k4 y => k h4 s.toks e (fun c u e1 e2 e3 e4 y => k4.extBut _ _ e1 (k3 _ _ e3 (q2.rest c u e1 e2 e3 e4 y))) y
    · refine Zs.draw1 S D1 D2 (s := { s with heap := h2 }) q2 l1 fun x h3 t3 px q3 => wpAny_pure ?_
      refine Zs.put S D1 D2 (s := { s with heap := h3, toks := t3 }) q3 0 (a' := x) (b' := b) rfl fun h4 q4 => wpAny_pure ?_
      refine wpAny_bind (wpAny_bind (wpAny_onRaise (wpAny_bind ?_)))
      exact D2.done { s with heap := h4, toks := t3 } _ _ q4.s2 fun h5 e k5 x => raised (s := { s with heap := h5, toks := t3 }) (k5 _ _ S.zi2 q4.rcd) x fun h6 k6 y => k h6 t3 e (fun c u e1 e2 e3 e4 y => k6.extBut _ _ e1 (k5 _ _ e4 (q4.rest c u e1 e2 e3 e4 y))) y
end
section
variable {prog : Program} {w : World} {A : Around} {E : Value → Shared → Prop} {z TI TO i1 i2 : Addr} {fp1 fp2 : List Addr} {n1 n2 : Nat} {P1 P2 : Nat → Value → Prop} {St1 St2 : Nat → Heap → Prop} {o : Value} {f : Bool} {a b : Value}
end
structure Kin (Sq : PySem.W.Frag → Hp → Addr → List V → Prop) (Has : Heap → Addr → Array Value → Prop) (Itr : Heap → Addr → Addr → Nat → Prop) : Prop where
  stay : ∀ {h h' : Heap} {i l : Addr} {k : Nat}, Itr h i l k → (∀ u, h.get? i = some u → h'.get? i = some u) → Itr h' i l k
  live : ∀ {h : Heap} {i l : Addr} {k : Nat}, Itr h i l k → ∃ u, h.get? i = some u ∧ ∀ v, u.data ≠ .cell v
  lt : ∀ {h : Heap} {l : Addr} {xs : Array Value}, Has h l xs → l < h.objs.size
  items : ∀ {X : Cx} {pins : List (Addr × Obj)} {σ : L2.St} {H : Hp} {s : Shared} {l : Addr} {xs : List V}, Inv X pins σ H s → Sq X.K H l xs → ∃ its : List Value, Vals xs its ∧ Has s.heap l its.toArray
  inj : ∀ {X : Cx} {pins : List (Addr × Obj)} {σ : L2.St} {H : Hp} {s : Shared} {l : Addr} {xs ys : List V}, Inv X pins σ H s → Sq X.K H l xs → Sq X.K H l ys → xs = ys
  goes : ∀ {prog : Program} {w : World} {A : Around}, A.handled = none → ∀ (i l : Addr) (xs : Array Value), l ≠ i → Draws prog w A i [i, l] xs.size (fun k v => xs[k]? = some v) (fun k h => Itr h i l k ∧ Has h l xs)
  ends : ∀ {prog : Program} {w : World} {A : Around}, A.handled = none → ∀ (i l : Addr) (xs : Array Value) (n : Nat), l ≠ i → xs.size ≤ n → Draws prog w A i [i, l] n (fun _ _ => False) (fun k h => k = n ∧ Itr h i l n ∧ Has h l xs)
section
variable {Sq : PySem.W.Frag → Hp → Addr → List V → Prop} {Has : Heap → Addr → Array Value → Prop} {Itr : Heap → Addr → Addr → Nat → Prop}
def ZipAt (Itr : Heap → Addr → Addr → Nat → Prop) (z TI TO i1 i2 l1 l2 : Addr) (i : Nat) (h : Heap) : Prop :=
  ∃ o f a b, Out o ∧ ZR h z o (.bool f) TI TO ∧ IsPair h TI (.ref i1) (.ref i2) ∧ IsPair h TO a b ∧ Itr h i1 l1 i ∧ Itr h i2 l2 i
theorem made {X : Cx} {pins : List (Addr × Obj)} {σ : L2.St} {H : Hp} {s : Shared} {h' : Heap} {l1 l2 : Addr} {x : String} {px : Pos} {J : It} {R : It → Hp → Prop} (kin : Kin Sq Has Itr) (I : Inv X pins σ H s) (e1 : l1 < s.heap.objs.size) (e2 : l2 < s.heap.objs.size)
    (k : ∀ c u, s.heap.get? c = some u → h'.get? c = some u) (at0 : ZipAt Itr (s.heap.objs.size + 4) (s.heap.objs.size + 2) (s.heap.objs.size + 3) s.heap.objs.size (s.heap.objs.size + 1) l1 l2 0 h')
    (t : Turn X.prog X.w X.K (.Name x px) J [s.heap.objs.size + 4, s.heap.objs.size + 2, s.heap.objs.size + 3, s.heap.objs.size, s.heap.objs.size + 1] (s.heap.objs.size + 4) (ZipAt Itr (s.heap.objs.size + 4) (s.heap.objs.size + 2) (s.heap.objs.size + 3) s.heap.objs.size (s.heap.objs.size + 1) l1 l2)) (q : R J H) :
    PIE X pins σ (.Name x px) R (.ref (s.heap.objs.size + 4)) { s with heap := h' } := by
  refine ⟨_, _, _, J, H, rfl, I.kept (t' := s.toks) k, t, at0, fun c hc => ?_, q⟩
  have le : s.heap.objs.size ≤ c := by
    simp only [List.mem_cons, List.not_mem_nil, or_false] at hc
    rcases hc with rfl | rfl | rfl | rfl | rfl
    all_goals first | exact Nat.le_add_right _ _ | exact Nat.le_refl _
  exact I.fpOk le (I.hok.fresh le)
end
end RK
namespace RK
open PySem PySem.Spec PyProof.Rows L2
section
variable {X : Cx} {pins : List (Addr × Obj)} {σ τ : L2.St} {s0 s : Shared} {H0 H : Hp} {sco : Scope} {own : List (Str × Nat)} {tg : Expr} {J : It} {fp : List Addr} {it : Addr} {tn : Nat → Heap → Prop} {i : Nat}
abbrev bEnv (X : Cx) (sco : Scope) (s0 : Shared) : Env := compEnvC sco (cellsFrom (s0.heap.objs.size + 1) sco.names (cloFrom X.env.cells sco.names [])) s0.heap.objs.size X.env
abbrev bCx (X : Cx) (sco : Scope) (fp : List Addr) (s0 : Shared) (H0 : Hp) : Cx := X.blk s0 H0 sco (bEnv X sco s0) fp
structure Outer (X : Cx) (pins : List (Addr × Obj)) (σ : L2.St) (s0 : Shared) (H0 : Hp) (fp : List Addr) : Prop where
  inv : Inv X pins σ H0 s0
  cells : ∀ b ∈ fp, FpOk X pins H0 b ∧ b < s0.heap.objs.size
structure Inner (X : Cx) (sco : Scope) (fp : List Addr) (s0 : Shared) (H0 : Hp) (tn : Nat → Heap → Prop) (τ : L2.St) (i : Nat) (H : Hp) (s : Shared) : Prop where
  inv : Inv (bCx X sco fp s0 H0) [] τ H s
  at_ : tn i s.heap
  out : ∀ b ∈ fp, H b = none
theorem Inner.cells (B : Inner X sco fp s0 H0 tn τ i H s) : ∀ b ∈ fp, FpOk (bCx X sco fp s0 H0) [] H b := fun b hb =>
  ⟨B.out b hb, (B.inv.ok.exf b hb).1, B.inv.ok.exfs b hb, .inl hb, (B.inv.ok.exf b hb).2, fun _ h => nomatch h⟩
theorem Outer.back (O : Outer X pins σ s0 H0 fp) (I : Inv (bCx X sco fp s0 H0) [] τ H s) : Inv X pins σ H s ∧ FpOk X pins H s0.heap.objs.size ∧ ∃ m, s.heap.Ns s0.heap.objs.size m :=
  ⟨O.inv.call' (ch := fp) I.os I.base I.hok I.bare fun b hb => let ⟨_, f1, _, f3, f4, f5⟩ := (O.cells b hb).1; ⟨f3, f1, f4, f5⟩, O.inv.fpOk (Nat.le_refl _) I.free, let ⟨m, h, _⟩ := I.loc; ⟨m, h⟩⟩
theorem Inner.stop (B : Inner X sco fp s0 H0 tn τ i H s) (O : Outer X pins σ s0 H0 fp) (calm : X.calm = true) (T : Turn X.prog X.w X.K tg J fp it tn) (e : J.stop i H) {E : Value → Shared → Prop} :
    wpAny (model X.prog X.w) X.A (pyNext (.ref it)) (fun r s1 => r = none ∧ Inv X pins σ H s1 ∧ FpOk X pins H s0.heap.objs.size ∧ ∃ m, s1.heap.Ns s0.heap.objs.size m) E s :=
  thn (T.done (bCx X sco fp s0 H0) rfl rfl rfl calm i [] s τ H E B.inv B.cells B.at_ e) fun _ _ h => ⟨h.1, O.back h.2⟩
theorem Inner.take (B : Inner X sco fp s0 H0 tn τ i H s) (calm : X.calm = true) (T : Turn X.prog X.w X.K tg J fp it tn) (e : J.go i H) {E : Value → Shared → Prop} :
    wpAny (model X.prog X.w) X.A (pyNext (.ref it)) (fun r s1 => ∃ u, r = some u ∧ wpAny (model X.prog X.w) X.A (letOwnedTupleGo tg (.ref it) u) (fun _ s2 =>
      ∃ x H2, RelV x u ∧ J.yld i H x H2 ∧ Inv (bCx X sco fp s0 H0) ([] ++ pinsAt fp s2.heap) τ H2 s2 ∧
        ∀ τ3 H3 s3, Inv (bCx X sco fp s0 H0) ([] ++ pinsAt fp s2.heap) τ3 H3 s3 → Inner X sco fp s0 H0 tn τ3 (i + 1) H3 s3) E s1) E s := by
  refine thn (T.item (bCx X sco fp s0 H0) rfl rfl rfl calm i [] s τ H E B.inv B.cells B.at_ e) fun r s1 ⟨u, hr, h⟩ => ⟨u, hr, thn h fun _ s2 ⟨x, H2, I2, rx, y, t2, n2⟩ => ?_⟩
  have B2 : Inner X sco fp s0 H0 tn τ (i + 1) H2 s2 := ⟨I2, t2, n2⟩
  refine ⟨x, H2, rx, y, I2.pinned B2.cells (T.obj _ _ t2), fun τ3 H3 s3 I3 => ?_⟩
  have pin : ∀ b ∈ fp, ∀ o, s2.heap.get? b = some o → s3.heap.get? b = some o ∧ H3 b = none := fun b hb o e =>
    let p := I3.pin (b, o) (List.mem_append_right _ (List.mem_append_right _ (mem_pinsAt hb e)))
    ⟨p.1, p.2.1⟩
  exact ⟨I3.unpinned, T.keep _ _ _ t2 fun b hb o e => (pin b hb o e).1, fun b hb => let ⟨o, e, _⟩ := T.obj _ _ t2 b hb; (pin b hb o e).2⟩
end
end RK
namespace DL
open PySem PySem.Spec PyProof.Rows L2 RK
section
variable {X : Cx} {F : Fx} {e a b c tg iter : Expr} {es : List Expr} {d da db dc : TDE} {ds : TDA} {pos p : Pos} {i j l : Nat}
end
end DL
namespace DL
open PySem PySem.Spec PyProof.Rows L2 RK
section
variable {X : Cx} {F : Fx} {e : Expr} {es : List Expr} {d : TDE} {ds : TDA} {p : Pos}
end
end DL
namespace DL
open PySem PySem.Spec PyProof.Rows L2 RK
section
variable {X : Cx}
theorem strs_of_vals {xs : List Str} {its : List Value} (r : Vals (xs.map V.str) its) : StrsAre its xs := r.strs
theorem call_sortedTS : CallR X (.builtin "sorted") (fun vs H Q => ∃ (a : Addr) (zs : List Str), vs = [V.ref a] ∧ SqT X.K H a (zs.map V.str) ∧ zs.length < 64 ∧ ∀ (ys : List Str) (p : Addr), ys.Perm zs → sortedS ys = true → H p = none → Q (.ref p) (upd H p (.lst (ys.map V.str)))) := by
  intro pins s σ H vs us Q I r ⟨a, zs, ev, ht, h64, q⟩
  subst ev
  obtain ⟨u, rfl, ru⟩ := vals1 r
  cases ru
  obtain ⟨its, ri, ⟨o, ho, hc, n, hd⟩, hz⟩ := I.tuple ht
  have li : its.length = zs.length := by rw [← ri.length, List.length_map]
  have S := strs_of_vals ri
  refine Calls.call_function_entry PyProof.Rows.kind_sorted PyProof.Rows.plain_sorted PyProof.Rows.entry_sorted (PyProof.Rows.args_sorted1 _) ?_
  unfold Builtin.«sorted»
  refine wpAny_bind (m := checkCount "sorted" 1 1 _) (wpAny_pure (wpAny_bind (wpAny_collect_seq a (.inr rfl) ho hc hd (fun h' hk => ?_) (by rw [List.size_toArray, li, sizeLine_eq]; omega))))
  have e0 : its.toArray.toList = its := by simp
  have J : Inv X pins σ H { s with heap := h' } := I.kept (t' := s.toks) hk
  obtain ⟨ob, eob⟩ : ∃ ob, ob = seqObj "list" its.toArray 0 := ⟨_, rfl⟩
  refine wpAny_bind (wpAny_newList ?_ (by rw [e0, li, sizeLine_eq]; omega))
  rw [e0]
  have at_ : (h'.push (seqObj "list" its.toArray 0)).get? h'.objs.size = some (seqObj "list" its.toArray 0) := Heap.get?_push_size _ rfl
  refine wpAny_bind (wpAny_holding (wpAny_call_entry PyProof.Rows.slot_list_sort (s := { s with heap := h'.push (seqObj "list" its.toArray 0) }) ⟨_, at_, rfl⟩ PyProof.Rows.entry_list_sort
    (list_sort_treeK strKind_oneLt (s := { s with heap := h'.push (seqObj "list" its.toArray 0) }) at_ S.keysOf (fun v1 v2 rest e => keyKind_strs (by rw [← e]; exact S)) (by rw [li]; exact h64) fun st' hp hs => ⟨_, rfl, ?_⟩)
    (PyProof.Rows.args_list_sort _)))
  obtain ⟨ys, y1, y2, y3⟩ := sorted_out_str S hp hs
  obtain ⟨e', h2⟩ := PyProof.Rows.sortedHeap_at (vs := its) (out := (arrOf st').map (·.2)) at_
  have yl : (ys.map V.str).length ≤ sizeLine := by rw [List.length_map, y2.length_eq]; exact Nat.le_trans (Nat.le_of_lt h64) (by decide)
  have new : ObjOk X.prog X.w (upd H h'.objs.size (.lst (ys.map V.str))) _ h'.objs.size (.lst (ys.map V.str)) := ⟨yl, ((arrOf st').map (·.2)).toList, e', vals_of_strs y1, by rw [Array.toArray_toList]; exact h2⟩
  refine wpAny_pure ⟨_, rfl, .ref h'.objs.size, upd H h'.objs.size (.lst (ys.map V.str)), J.laid (t' := s.toks) (fun b u e => ?_) (Nat.le_refl _) new, rfl, q ys _ y2 y3 (J.hok.fresh (Nat.le_refl _))⟩
  have lb : b < h'.objs.size := Heap.lt_size e
  rw [PyProof.Rows.sortedHeap_old (Nat.ne_of_lt lb) (by rw [size_push']; exact Nat.lt_succ_of_lt lb)]
  exact Heap.get?_push_of_some _ e
end
def dSortT (d : TDE) : TDE := fun env P => d env fun x => match x with
  | .tup xs => ∃ zs, strsD xs = some zs ∧ zs.length < 64 ∧ ∀ ys, SortS zs ys → P (.lst (ys.map D.str))
  | _ => False
section
variable {X : Cx} {F : Fx} {e : Expr} {d : TDE} {pos p : Pos}
def dSortB (d : TDE) : TDE := fun env P => dSort d env P ∨ dSortT d env P
theorem dn_sortB (hg : Gl X "sorted") (hm : X.mg "sorted" = none) (ha : PE X e (lB F d)) (hc : X.calm = true := by rfl) (he : starEach [e] X.env = (false, eval e X.env) :: starEach [] X.env := by rfl) (hpl : (backTo pos (starEach [] X.env)).any (·.1) = false := by rfl) (hK : F.K = X.K := by rfl) :
    PE X (.Call (.Name "sorted" p) [e] [] pos) (lN F (dSortB d)) := ⟨fun pins s σ H Q I ⟨env, L, P, A, pp, q⟩ => by
  rcases pp with pp | pp
  · exact (dn_sort hg hm ha hc he hpl hK).run pins s σ H Q I ⟨env, L, P, A, pp, q⟩
  · refine (pe_callB (by rw [hK]; exact call_sortedTS : CallR X (.builtin "sorted") (fun vs H Q => ∃ (a : Addr) (zs : List Str), vs = [V.ref a] ∧ SqT F.K H a (zs.map V.str) ∧ zs.length < 64 ∧ ∀ (ys : List Str) (p : Addr), ys.Perm zs → sortedS ys = true → H p = none → Q (.ref p) (upd H p (.lst (ys.map V.str))))) hg hm (by decide +kernel) (pa_cons ha pa_nil he) (by decide) (by decide) he hpl).run pins s σ H Q I ⟨env, L, _, A, pp, fun x v H1 px k1 o1 b1 => ?_⟩
    have A1 := A.step k1 o1
    cases x with
    | tup xs =>
      obtain ⟨a, vs, rfl, h1, h2⟩ := bw_tup b1
      obtain ⟨zs, hz, h64, px⟩ := px
      exact ⟨a, zs, rfl, SqT.of (by rw [h1, strs_v h2 hz]), h64, fun ys t py so ht => q _ _ _ (px ys ⟨py, so⟩) (k1.trans (.new ht)) (ok_new o1 ht) (free_of k1 o1 ht) (new_lstN A1 ht (dd_strs ys))⟩
    | _ => exact px.elim⟩
end
end DL
namespace RK
open PySem PySem.Spec PyProof.Rows L2
inductive TestOk (X : Cx) : Expr → List Value → Prop
  | one {x : Str} {c : Value} {np : Pos} (hc : L2.Names X x c) : TestOk X (.Name x np) [c]
  | two {x1 x2 : Str} {c1 c2 : Value} {p1 p2 tp : Pos} {kk : Nat} (h1 : L2.Names X x1 c1) (h2 : L2.Names X x2 c2) : TestOk X (.Tuple [.Name x1 p1, .Name x2 p2] kk tp) [c1, c2]
inductive HdsAs (X : Cx) (n : Str) : List ExceptHandler → List (List Value × (Addr → Value → Option Addr → TS)) → Prop
  | nil : HdsAs X n [] []
  | cons {te : Expr} {cs : List Value} {ts : Addr → Value → Option Addr → TS} {b₀ : Stmt} {suite : List Stmt} {pos' : Pos} {hds : List ExceptHandler} {l : List (List Value × (Addr → Value → Option Addr → TS))} (hc : TestOk X te cs)
      (hsu : ∀ (a : Addr) (oe : Obj) (cls : Value) (d : Option Addr) (pn : List (Addr × Obj)), Zc cls d oe → (∃ vs, oe.data = .fields vs) → PSs (X.suite a ((a, oe) :: pn)) (b₀ :: suite) (ts a cls d)) (r : HdsAs X n hds l) :
      HdsAs X n (.ExceptHandler (some te) (some n) (b₀ :: suite) pos' :: hds) ((cs, ts) :: l)
section
variable {X : Cx} {n : Str} {i : Nat} {body : List Stmt} {h₀ : ExceptHandler} {hds : List ExceptHandler} {l : List (List Value × (Addr → Value → Option Addr → TS))} {pos : Pos} {tb : WX → TS} {Wout : WX}
end
end RK
namespace RK
open PySem PySem.Spec PyProof.Rows L2 L2H
abbrev SpP := Addr × Obj → Sp
structure FnP (P : Program) (w : World) (K : PySem.W.Frag) (mg : Str → Option Value) (base : Heap) (CX : CXT) (k : Nat) (f : Addr) (fd : FuncData) (ps : List Str) (sp : SpP) : Prop where
  len : ∀ p vs H Q E, sp p vs H Q E → vs.length = ps.length
  run : ∀ (A : Around) (outer : List Env) (s : Shared) (H : Hp) (args : Args) (us : List Value) (vs : List V) (Q : VK) (E : XK) (p : Addr × Obj), RoomH k A → PinOk outer H s p → Env0 P w K mg base A outer s H → BindsTo s fd args (ps.zip us) → Vals vs us → sp p vs H Q E →
    codeAny (model P w) A (.call (.ref f) args) (CR CX outer P w H s Q E) s
section
variable {X : Cx} {CX : CXT} {k : Nat} {f C : Addr} {fd : FuncData} {ps : List Str} {sp : SpP} {E : XK} {x m : Str} {q pos apos : Pos} {e o : Expr} {es : List Expr} {ta : TE} {t : TA} {p : Addr × Obj}
end
end RK
namespace PySem
namespace OEG
open PySem.W PySem.Calls PyProof.Rows PySem.HandSPX
structure BD where
  B : String
  newId : String
  initId : String
  bm : List Value
structure BD.Ok (b : BD) : Prop where
  F : ExcBaseFacts b.B b.newId b.initId b.bm
  S : StoreFacts b.B b.bm "object.__setattr__" "object"
theorem BD.Ok.ne {b : BD} (o : b.Ok) : b.bm ≠ [] := fun e => by
  have := o.S.hasOwner
  rw [e] at this
  cases this
section
open Builtin Builtin.ObjectAttr
variable {prog : Program} {w : World} {A : Around} {E : Value → Shared → Prop} {R : Result → Shared → Prop} {hp : Heap} {g : Array GenState} {d : Drawn} {t : Nat} {os : OsState}
end
abbrev bdV : BD := ⟨"ValueError", "ValueError.__new__", "ValueError.__init__", [.type "ValueError", .type "Exception", .type "BaseException", .type "object"]⟩
abbrev bdL : BD := ⟨"LookupError", "LookupError.__new__", "LookupError.__init__", [.type "LookupError", .type "Exception", .type "BaseException", .type "object"]⟩
abbrev bdI : BD := ⟨"IndexError", "IndexError.__new__", "IndexError.__init__", [.type "IndexError", .type "LookupError", .type "Exception", .type "BaseException", .type "object"]⟩
theorem cls_of {K : W.Frag} {C : Addr} {bmB : List Value} {newId : String} (q : excInitIn K C bmB newId = true) : ∃ nm N qn bs bm hdct sn sub ab col dd k0 k1 k2 k3 k5,
    K.lookup C = some (excClassObj nm qn C N bs bm hdct sn sub ab col dd k0 k1 k2 k3 k5 newId) ∧ excTail bmB bm = true := by
  unfold excInitIn at q
  split at q
  · rename_i dd cd sl ho
    split at q
    · rename_i C' bm k0 k1 k2 k3 n k5 hm hs
      simp only [Bool.and_eq_true, beq_iff_eq, Bool.not_eq_true'] at q
      obtain ⟨⟨⟨rfl, rfl⟩, hdel⟩, ht⟩ := q
      obtain ⟨nm, bs, mro, ns, qn, hd, sn, sub, ab, col, del⟩ := cd
      dsimp only at hm hdel
      subst hm hdel
      have hsl : sl = #[k0, k1, k2, k3, some (.builtin n), k5] := by
        obtain ⟨l⟩ := sl
        simp only at hs
        rw [hs]
      subst hsl
      exact ⟨nm, ns, qn, bs, bm, hd, sn, sub, ab, col, dd, k0, k1, k2, k3, k5, ho, ht⟩
    · cases q
  · cases q
end OEG
end PySem
namespace RK
open PySem PySem.Spec PyProof.Rows L2 PySem.OEG
structure OexG (K : PySem.W.Frag) (C : Addr) (b : BD) : Prop where
  ob : b.Ok
  ini : PySem.W.excInitIn K C b.bm b.newId = true
  hd : PySem.W.hasDictIn K C = true
  sa : PySem.W.findIn K (.ref C) "__setattr__" = some (some (.builtin "object.__setattr__"))
  exC : PySem.W.subIn K (.ref C) (.type "BaseException") = some true
  tyC : PySem.W.typeIn K (.ref C) = some (.type "type")
  kC : PySem.W.keepIn K (.ref C) = true
theorem OexG.cls {K : PySem.W.Frag} {C : Addr} {b : BD} (T : OexG K C b) : ∃ nm q N bs bm sn sub ab col dd k0 k1 k2 k3 k5, K.lookup C = some (excClassObj nm q C N bs bm true sn sub ab col dd k0 k1 k2 k3 k5 b.newId) ∧ PySem.W.excTail b.bm bm = true := by
  obtain ⟨nm, N, qn, bs, bm, hdct, sn, sub, ab, col, dd, k0, k1, k2, k3, k5, hC, ht⟩ := cls_of T.ini
  have h := T.hd
  have e : hdct = true := by
    unfold PySem.W.hasDictIn PySem.W.clsIn at h
    rw [hC] at h
    simpa using h
  subst e
  exact ⟨nm, qn, N, bs, bm, sn, sub, ab, col, dd, k0, k1, k2, k3, k5, hC, ht⟩
section
variable {X : Cx} {pins : List (Addr × Obj)} {σ : L2.St} {H : Hp} {s : Shared} {a C dx : Addr} {f : Str} {y : V} {u : Value} {fs : List (Str × V)} {Q : Unit → Shared → Prop} {E : Value → Shared → Prop} {A : Around} {b : BD}
end
section
variable {X : Cx} {o e : Expr} {es : List Expr} {to te : TE} {ta : TA} {f : Str} {p p' p1 p2 pos : Pos}
end
end RK
namespace RK
open PySem PySem.Spec PyProof.Rows L2 PySem.OEG
structure FunA (K : PySem.W.Frag) (x qual : Str) (st : Stmt) (f : Addr) (fd : FuncData) : Prop where
  ex : ∃ (oc : Value) (od : Option Addr) (dV kV doc pm : Value) (an : Option Addr) (cdv ct : Value) (osl : Array (Option Value)),
    fd = PySem.W.fnOf x qual (defArgs st) (defBody st) (defScope st) dV kV doc pm an cdv ct ∧ K.lookup f = some ⟨oc, od, .func fd, osl⟩ ∧ PySem.W.codeIn K cdv qual = true
  kp : PySem.W.keepIn K (.ref f) = true
theorem FunA.ok {P : Program} {w : World} {K : PySem.W.Frag} {mg : Str → Option Value} {base : Heap} {x qual : Str} {st : Stmt} {f : Addr} {fd : FuncData} {N ps : List Str} {k : Nat} {sp : Sp} (F : FunA K x qual st f fd) (S : FnScope N ps (defScope st)) (len : ∀ vs H Q E, sp vs H Q E → vs.length = ps.length)
    (hbody : ∀ (cdv : Value) (A : Around) (outer : List Env) (s : Shared) (H : Hp) (vs : List V) (Q : VK) (E : XK), Room k (A.deeper (envOfC qual (defScope st) s.heap.objs.size f cdv)) → sp vs H Q E →
      ∃ t, PSs (cxOf CX0 P w K mg base N qual (defScope st) f cdv A outer s H E).nox (defBody st) t ∧ t { nx := fun _ H' => Q .non H', rt := Q } (start N vs) H) : FnOk P w K mg base CX0 (k + 1) f fd ps sp := by
  obtain ⟨oc, od, dV, kV, doc, pm, an, cdv, ct, osl, rfl, lk, hcd⟩ := F.ex
  refine fn_of lk hcd S len fun A outer s H vs Q E hr hsp => ?_
  obtain ⟨t, ht, hq⟩ := hbody cdv A outer s H vs Q E hr hsp
  exact ⟨t, ht.nox, hq⟩
def TxtOk (y : Str) : Prop := y.length ≤ 1000 ∧ ∀ c ∈ y.cps.toList, c < 16 ^ 8
theorem TxtOk.repr {y : Str} (h : TxtOk y) : (reprText y).length ≤ 20000 := by
  have := PySem.StrLaws.reprText_len y h.2
  have := h.1
  omega
end RK
namespace RK
open PySem PySem.Spec PyProof.Rows L2 PySem.OEG
structure WinsW (H : Hp) (ws : List W3) : Prop where
  nd : (Names ws).Nodup
  tx : ∀ w ∈ ws, TxtOk w.1
  at_ : ∀ w ∈ ws, H w.2.1 = some (.tup w.2.2.vs)
theorem WinsW.same {H H' : Hp} {ws : List W3} (W : WinsW H ws) (e : Same H H') : WinsW H' ws := ⟨W.nd, W.tx, fun w hw => e _ _ (W.at_ w hw)⟩
theorem WinsW.perm {H : Hp} {ws us : List W3} (W : WinsW H ws) (p : us.Perm ws) : WinsW H us := ⟨(List.Perm.map (fun x : W3 => x.1) p).nodup_iff.mpr W.nd, fun w hw => W.tx w (p.mem_iff.mp hw), fun w hw => W.at_ w (p.mem_iff.mp hw)⟩
theorem WinsW.full {H : Hp} {ws : List W3} (W : WinsW H ws) (n : ∀ w ∈ ws, NameOk w.1) (g : ∀ w ∈ ws, w.2.2.good) : Wins H ws := ⟨W.nd, n, W.at_, g⟩
def errS (z f : Str) (y : V) : List (Str × V) := [(f, y), ("word", .str z)]
def err0 (z : Str) : List (Str × V) := [("word", .str z)]
def ChkX (CS CN CR : Addr) (ws : List W3) (H : Hp) (Q : Hp → Prop) (E : XK) : Prop :=
  (¬ (1 ≤ ws.length ∧ ws.length ≤ 24) → ∀ dx, H dx = none → E (.ref CS) (some dx) (upd H dx (.xd (err0 "BadSize")))) ∧
  (1 ≤ ws.length ∧ ws.length ≤ 24 → ∀ us : List W3, us.Perm ws → sortedS (Names us) = true → ∀ H', Same H H' →
    ((∀ w ∈ us, NameOk w.1) → (∀ w ∈ us, w.2.2.good) → Q H') ∧
    (∀ pre w post, us = pre ++ w :: post → (∀ v ∈ pre, NameOk v.1) → ¬ NameOk w.1 → ∀ dx, H' dx = none → E (.ref CN) (some dx) (upd H' dx (.xd (errS "BadName" "name" (.str w.1))))) ∧
    (∀ pre w post, us = pre ++ w :: post → (∀ v ∈ us, NameOk v.1) → (∀ v ∈ pre, v.2.2.good) → ¬ w.2.2.good → ∀ dx, H' dx = none → E (.ref CR) (some dx) (upd H' dx (.xd (errS "BadRectangle" "name" (.str w.1))))))
theorem ChkX.same {CS CN CR : Addr} {ws : List W3} {H : Hp} {Q Q' : Hp → Prop} {E : XK} (h : ChkX CS CN CR ws H Q E) (k : ∀ H', Same H H' → Q H' → Q' H') : ChkX CS CN CR ws H Q' E :=
  ⟨h.1, fun l us pu so H' s' => ⟨fun n g => k H' s' ((h.2 l us pu so H' s').1 n g), (h.2 l us pu so H' s').2⟩⟩
end RK
namespace DL
open PySem PySem.Spec PyProof.Rows L2 RK
structure Er where
  C : Addr
  w : Str
  f : Option (Str × D)
def lfV : D → V
  | .str x => .str x
  | .int i => .int i
  | .bl b => .bl b
  | _ => .non
def Er.fs (e : Er) : List (Str × V) := match e.f with
  | none => err0 e.w
  | some (f, d) => errS e.w f (lfV d)
abbrev DSpX := List D → (D → Prop) → (Er → Prop) → Prop
def ErOk (F : Fx) (PX : Er → Prop) (E : XK) : Prop := ∀ (e : Er) (dx : Addr) (H' : Hp), PX e → KeepW F.W F.H0 H' → F.W.ok H' → F.H0 dx = none → H' dx = some (.xd e.fs) → E (.ref e.C) (some dx) H'
section
variable {X : Cx} {F : Fx} {e a b c : Expr} {es : List Expr} {d da db dc : TDE} {ds dk : TDA} {pos p : Pos} {PX : Er → Prop}
theorem ErOk.up {E : XK} {env : De} {σ : L2.St} {L : List Addr} {H : Hp} {fr : Fr} {N0 : Addr → Prop} (hE : ErOk F PX E) (A : Abs F env σ L H) : ErOk ⟨F.K, F.W, N0, H, fr⟩ PX E := fun er dx H2 pe k2 o2 n2 h2 => hE er dx H2 pe (A.kp.trans k2) o2 (free_of A.kp A.ok n2) h2
variable {CX : CXT} {k : Nat} {f : Addr} {fd : FuncData} {ps ks : List Str} {sp : DSpX} {E : XK} {x : Str} {fr : Fr} {K : PySem.W.Frag}
end
end DL
namespace PySem.W
open PySem PySem.Spec PySem.Calls PyProof.Rows
abbrev kld_fn (name qual : Str) (params : Arguments) (body : Expr) (scope : Scope) (cl : List (Str × Addr)) (dV pm cdv ct : Value) : FuncData := { kla_fn name qual params body scope cl pm cdv ct with defaults := dV }
abbrev kld_obj (name qual : Str) (params : Arguments) (body : Expr) (scope : Scope) (clos : List (Str × Addr)) (dV pm cdv ctv : Value) : Obj :=
  { cls := .type "function", data := .func (kld_fn name qual params body scope clos dV pm cdv ctv) }
section
variable {M : Model} {A : Around} {E : Value → Shared → Prop} {s : Shared} {name qual : Str} {params : Arguments} {body : Expr} {scope : Scope} {env : Env} {c P : Addr} {ps : Array Value} {pos : Pos} {firstLine : Nat} {mg : Str → Option Value}
  {clos : List (Str × Addr)} {Q : Value → Shared → Prop} {dV : Value}
end
end PySem.W
namespace RK
open PySem PySem.Spec PyProof.Rows L2 LamX
structure LamD (N : List Str) (sc scope : Scope) : Prop where
  kind : scope.kind = .function
  co : scope.isCoroutine = false
  gen : scope.isGenerator = false
  own : ∀ y ∈ scope.names, y.2 ≠ .cell ∧ (y.2 = .local → y.1 ∉ N)
  free : ∀ y ∈ scope.names, y.2 = .free → sc.names.lookup y.1 = some .cell ∨ sc.names.lookup y.1 = some .free
theorem LamD.has {X : Cx} {N : List Str} {scope : Scope} (L : LamD N X.env.scope scope) (ok : X.Ok) : ∀ y ∈ scope.names, y.2 = .free → ∃ c, X.env.cells.lookup y.1 = some c := fun y hy e => by
  rcases L.free y hy e with k | k
  · exact ok.has _ (.inl k)
  · exact ok.has _ (.inr k)
section
variable {X : Cx} {pins : List (Addr × Obj)} {σ : L2.St} {H HZ : Hp} {s s1 : Shared}
end
end RK
namespace RK
open PySem PySem.Spec PyProof.Rows L2 LamX
section
variable {X : Cx} {pins : List (Addr × Obj)} {σ : L2.St} {H HZ : Hp} {s s1 : Shared}
end
end RK
namespace RK
open PySem PySem.Spec PyProof.Rows L2 LamX
section
variable {X : Cx} {pins : List (Addr × Obj)} {σ : L2.St} {H H1 : Hp} {s s1 : Shared}
end
end RK
namespace RK
open PySem PySem.Spec PyProof.Rows L2
def mx (i j : Int) : Int := if j > i then j else i
def mn (i j : Int) : Int := if j < i then j else i
def R.meets (p q : R) : Prop := mx p.l q.l < mn p.r q.r ∧ mx p.t q.t < mn p.b q.b
instance (p q : R) : Decidable (p.meets q) := by unfold R.meets; infer_instance
def ltS (a b : Str) : Bool := decide (a.cps.toList < b.cps.toList)
def TxP (H : Hp) (ts : List Addr) (ps : List (Str × Str)) : Prop := Paired (fun p (z : Str × Str) => H p = some (.tup [.str z.1, .str z.2])) ts ps
theorem TxP.mono {H H' : Hp} (k : ∀ p xs, H p = some (.tup xs) → H' p = some (.tup xs)) : ∀ {ts : List Addr} {ps : List (Str × Str)}, TxP H ts ps → TxP H' ts ps
  | _, _, .nil => .nil
  | _, _, .cons h t => .cons (k _ _ h) (TxP.mono k t)
theorem TxP.append {H : Hp} : ∀ {ts us : List Addr} {ps qs : List (Str × Str)}, TxP H ts ps → TxP H us qs → TxP H (ts ++ us) (ps ++ qs)
  | _, _, _, _, .nil, h => h
  | _, _, _, _, .cons g t, h => .cons g (TxP.append t h)
theorem TxP.len {H : Hp} {ts : List Addr} {ps : List (Str × Str)} (h : TxP H ts ps) : ts.length = ps.length := Paired.length h
theorem TxP.dp {K : PySem.W.Frag} {H : Hp} : ∀ {ts : List Addr} {ps : List (Str × Str)}, TxP H ts ps → DpAll K H (ts.map V.ref) (ps.map fun z => .tuple [.str z.1, .str z.2])
  | _, _, .nil => .nil
  | _, _, .cons h t => .cons (.tup (.inl (.inl h)) (.cons (.str _) (.cons (.str _) .nil))) (TxP.dp t)
inductive Stp where
  | mv (up : Bool) (names : List Str)
  | pl (z : Str) (a : Addr) (r : R)
def wordOf (up : Bool) : Str := if up = true then "raise" else "lower"
def StpAt (H : Hp) (p : Addr) : Stp → Prop
  | .mv up zs => ∃ l, H p = some (.tup [.str (wordOf up), .ref l]) ∧ H l = some (.lst (zs.map V.str))
  | .pl z a r => H p = some (.tup [.str "place", .str z, .ref a]) ∧ H a = some (.tup r.vs)
def Apart (b : Addr) (H : Hp) (p : Addr) : Prop := ∀ w l, H p = some (.tup [.str w, .ref l]) → l ≠ b
theorem StpAt.keep {b s : Addr} {H H' : Hp} {p : Addr} (k : Keep b H H') (B : Bag b s H) (ap : Apart b H p) : ∀ {x : Stp}, StpAt H p x → StpAt H' p x
  | .mv up zs, h => by
    obtain ⟨l, h1, h2⟩ := h
    exact ⟨l, k.of_tup B h1, k _ _ (ap _ _ h1) h2⟩
  | .pl z a r, h => ⟨k.of_tup B h.1, k.of_tup B h.2⟩
theorem StpAt.same {H H' : Hp} {p : Addr} (e : Same H H') : ∀ {x : Stp}, StpAt H p x → StpAt H' p x
  | .mv up zs, h => by
    obtain ⟨l, h1, h2⟩ := h
    exact ⟨l, e _ _ h1, e _ _ h2⟩
  | .pl z a r, h => ⟨e _ _ h.1, e _ _ h.2⟩
theorem StpAt.tup {H : Hp} {p : Addr} : ∀ {x : Stp}, StpAt H p x → ∃ xs, H p = some (.tup xs)
  | .mv up zs, h => by
    obtain ⟨l, h1, _⟩ := h
    exact ⟨_, h1⟩
  | .pl z a r, h => ⟨_, h.1⟩
theorem Apart.keep {b s : Addr} {H H' : Hp} {p : Addr} {xs : List V} (k : Keep b H H') (B : Bag b s H) (hp : H p = some (.tup xs)) (ap : Apart b H p) : Apart b H' p := fun w l h => by
  have := k.of_tup B hp
  rw [this] at h
  have e : xs = [.str w, .ref l] := by
    injection h with h
    injection h
  exact ap w l (e ▸ hp)
theorem Apart.same {b : Addr} {H H' : Hp} {p : Addr} {xs : List V} (e : Same H H') (hp : H p = some (.tup xs)) (ap : Apart b H p) : Apart b H' p := fun w l h => by
  have := e _ _ hp
  rw [this] at h
  have e2 : xs = [.str w, .ref l] := by
    injection h with h
    injection h
  exact ap w l (e2 ▸ hp)
def StpsAt (H : Hp) (ps : List Addr) (xs : List Stp) : Prop := Paired (fun p x => StpAt H p x) ps xs
theorem StpsAt.same {H H' : Hp} (e : Same H H') : ∀ {ps : List Addr} {xs : List Stp}, StpsAt H ps xs → StpsAt H' ps xs
  | _, _, .nil => .nil
  | _, _, .cons h t => .cons (h.same e) (StpsAt.same e t)
theorem StpsAt.snoc {H : Hp} {p : Addr} {x : Stp} (h : StpAt H p x) : ∀ {ps : List Addr} {xs : List Stp}, StpsAt H ps xs → StpsAt H (ps ++ [p]) (xs ++ [x])
  | _, _, .nil => .cons h .nil
  | _, _, .cons g t => .cons g (StpsAt.snoc h t)
theorem StpsAt.len {H : Hp} {ps : List Addr} {xs : List Stp} (h : StpsAt H ps xs) : ps.length = xs.length := Paired.length h
theorem StpsAt.get {H : Hp} : ∀ {ps : List Addr} {xs : List Stp} {i : Nat} {p : Addr}, StpsAt H ps xs → ps[i]? = some p → ∃ x, xs[i]? = some x ∧ StpAt H p x
  | _, _, _, _, .nil, h => by simp at h
  | _, _, 0, _, .cons g _, h => by
    have e := Option.some.inj h
    subst e
    exact ⟨_, rfl, g⟩
  | _, _, i + 1, _, .cons _ t, h => StpsAt.get (i := i) t h
theorem StpsAt.map {H H' : Hp} : ∀ {ps : List Addr} {xs : List Stp}, (∀ p ∈ ps, ∀ x, StpAt H p x → StpAt H' p x) → StpsAt H ps xs → StpsAt H' ps xs
  | _, _, _, .nil => .nil
  | _, _, k, .cons h t => .cons (k _ List.mem_cons_self _ h) (StpsAt.map (fun p hp => k p (List.mem_cons_of_mem _ hp)) t)
end RK
namespace RK
open PySem PySem.Spec PyProof.Rows L2 PySem.OEG
structure Sn (H H' : Hp) : Prop where
  f : Same H H'
  n : NoT H H'
theorem Sn.new {H : Hp} {p : Addr} (h : H p = none) (o : HO) (n : Ntb o := by exact True.intro) : Sn H (upd H p o) := ⟨same_new h o, noT_upd n⟩
theorem Sn.trans {H H1 H2 : Hp} (a : Sn H H1) (b : Sn H1 H2) : Sn H H2 := ⟨a.f.trans b.f, fun x ps h => let ⟨qs, q⟩ := b.n x ps h; a.n x qs q⟩
structure ErrP (K : PySem.W.Frag) (H : Hp) (p : Addr × Obj) (C dd : Addr) (fs : List (Str × V)) (w : Str) : Prop where
  data : ∃ vs, p.2.data = .fields vs
  z : Zc (.ref C) (some dd) p.2
  xf : XfC K C
  nw : PySem.W.findIn K (.ref C) "word" = some none
  hx : H dd = some (.xd fs)
  lw : fs.lookup ("word" : Str) = some (.str w)
theorem ErrP.same {K : PySem.W.Frag} {H H' : Hp} {p : Addr × Obj} {C dd : Addr} {fs : List (Str × V)} {w : Str} (e : ErrP K H p C dd fs w) (s : Same H H') : ErrP K H' p C dd fs w := ⟨e.data, e.z, e.xf, e.nw, s _ _ e.hx, e.lw⟩
def lNam : List Str := ["BadName", "BadRectangle", "BadCost", "Unknown"]
def lAt : List Str := ["BadStep", "BadWish", "BadFact", "BadDeed", "BadText"]
def lStm : List Str := ["Taken", "Clash", "NoStamp"]
def lNum : List Str := ["Full", "NoWatch", "BadPage"]
def fieldName (w : Str) : Option Str := if w ∈ lNam then some "name" else if w ∈ lAt then some "at" else if w ∈ lStm then some "stamp" else if w ∈ lNum then some (if w = "Full" then "most" else if w = "BadPage" then "row" else "number") else none
end RK
namespace DL
open PySem PySem.Spec PyProof.Rows L2 RK LamX
def En.hide : En → En
  | .fz d => .fz d
  | _ => .no
def hideO (env : De) : De := env.map En.hide
section
variable {F : Fx} {env : De} {σ : L2.St} {L : List Addr} {H H' : Hp}
theorem En.hide_ow : ∀ e : En, e.hide.isOw = false
  | .no => rfl
  | .fz _ => rfl
  | .ow _ => rfl
  | .od _ => rfl
  | .ot _ => rfl
theorem n_nil {N : Addr → Prop} {a : Addr} {K : PySem.W.Frag} {W : Wd} {H0 : Hp} {fr : Fr} : Fx.N ⟨K, W, N, H0, fr⟩ [] a ↔ N a := ⟨fun h => h.elim id (fun z => by cases z), fun h => .inl h⟩
theorem Abs.hid (A : Abs F env σ L H) : Abs ⟨F.K, F.W, F.N L, H, false⟩ (hideO env) σ [] H where
  ok := A.ok
  al := fun a h => A.alN h
  wn := fun a h => .inl (A.wn a h)
  kp := .refl _ _
  fr := fun a h => by cases h
  ls := by unfold hideO; rw [List.length_map]; exact A.ls
  sep := fun i j a ei ej h1 _ h3 _ _ _ => by
    unfold hideO at h1
    rw [List.getElem?_map] at h1
    obtain ⟨e, _, rfl⟩ := Option.map_eq_some_iff.mp h1
    rw [En.hide_ow] at h3
    cases h3
  en := fun i e x h1 h2 => by
    unfold hideO at h1
    rw [List.getElem?_map] at h1
    obtain ⟨e, he, rfl⟩ := Option.map_eq_some_iff.mp h1
    have h3 := A.en i e x he h2
    cases e with
    | fz d =>
      cases x with
      | none => exact h3.elim
      | some v => exact Dd.keep (fun a o _ h => h) (fun a h => n_nil.mp h) h3
    | _ => exact trivial
abbrev ErCl := List (Addr × Str × Option Str)
def ErCl.has (ec : ErCl) (e : Er) : Prop := (e.C, e.w, e.f.map (·.1)) ∈ ec ∧ ∀ p, e.f = some p → p.2.leaf = true
def Er.val (e : Er) : D := match e.f with | none => .non | some p => p.2
structure ClOk (K : PySem.W.Frag) (CD CM CL : Addr) (k : Addr × Str × Option Str) : Prop where
  xf : XfC K k.1
  nw : PySem.W.findIn K (.ref k.1) "word" = some none
  ct : (PySem.W.exmAny K (.ref k.1) [.ref CD, .ref CM] = some true ∧ fieldName k.2.1 = k.2.2 ∧ ∀ n, k.2.2 = some n → n ≠ "word" ∧ PySem.W.findIn K (.ref k.1) n = some none) ∨
    (PySem.W.exmAny K (.ref k.1) [.ref CD, .ref CM] = some false ∧ PySem.W.exmAny K (.ref k.1) [.ref CL] = some true ∧ k.2.2 = none)
variable {ec : ErCl} {d : (Er → Prop) → TDE} {CD CM CL : Addr} {b s : Addr} {T : List (Addr × Str)}
end
end DL
namespace DL
open PySem PySem.Spec PyProof.Rows L2 RK
structure AbY (F : Fx) (env : De) (σ : L2.St) (L : List Addr) (H : Hp) (i j : Nat) (H0 : Hp) : Prop where
  a : Abs F env σ L H
  y : ∀ xs ys, env[i]? = some (.fz (.tup xs)) → xs[j]? = some (.lst ys) → ∃ t vs c us, σ[i]? = some (some (.ref t)) ∧ H t = some (.tup vs) ∧ vs[j]? = some (.ref c) ∧ H0 c = none ∧ H c = some (.lst us) ∧ Lone (env.set i .no) σ c ∧ Abs F (env.set i .no) σ (c :: L) H
def lSY (F : Fx) (i j : Nat) (d : TDS) : TS := fun E σ H => ∃ env L P L0 H0, AbY F env σ L H i j H0 ∧ Pres F L0 H0 L H ∧ d P env ∧ (∀ env' σ' L' H', P.nx env' → Abs F env' σ' L' H' → Pres F L0 H0 L' H' → E.nx σ' H') ∧ (∀ x v H', P.rt x → RetOk F H' v x → E.rt v H') ∧
  (∀ env' σ' L' H', P.bk env' → Abs F env' σ' L' H' → Pres F L0 H0 L' H' → E.bk σ' H') ∧ (∀ env' σ' L' H', P.ct env' → Abs F env' σ' L' H' → Pres F L0 H0 L' H' → E.ct σ' H')
section
variable {X : Cx} {F : Fx} {e c o : Expr} {d : TDE} {pos p : Pos} {i j : Nat} {sa rest : List Stmt} {r r2 : TDS} {t : TDT}
theorem AbY.step {env : De} {σ : L2.St} {L : List Addr} {H H' H0 : Hp} (A : AbY F env σ L H i j H0) (k : KeepW F.W H H') (ok : F.W.ok H') : AbY F env σ L H' i j H0 := by
  refine ⟨A.a.step k ok, fun xs ys h1 h2 => ?_⟩
  obtain ⟨t, vs, c, us, a1, a2, a3, a4, a5, lo, B⟩ := A.y xs ys h1 h2
  have hv := A.a.en i _ _ h1 a1
  have nt : ¬ F.W.own t := by
    cases hv with | tup g1 g2 _ => exact nw_of A.a g2
  have nc : ¬ F.W.own c := fun z => B.out List.mem_cons_self (B.wn c z)
  exact ⟨t, vs, c, us, a1, k _ _ nt a2, a3, a4, k _ _ nc a5, lo, B.step k ok⟩
theorem pres_one {env : De} {σ : L2.St} {L : List Addr} {H H' : Hp} {c : Addr} (A : Abs F env σ L H) (k : KeepW F.W H H') (n : H c = none) : Pres F L H (c :: L) H' := fun a o nn h => by
  refine ⟨fun z => ?_, k a o (nw_of A nn) h⟩
  rcases z with z | z
  · exact nn (.inl z)
  · rcases List.mem_cons.mp z with z | z
    · rw [z, n] at h; cases h
    · exact nn (.inr z)
theorem sY_start {x : Str} {pos' : Pos} (hN : X.N.Nodup) (hi : X.N[i]? = some x) (hx : Loc X.env.scope x) (he : PE X e (lJ F j d)) (h : PSs X rest (lSY F i j r)) (hs : swapsWith e (some (.Name x pos')) pos.line X.env = pure false := by rfl) (hf : X.fn x = true ∨ X.env.scope.names.lookup x = some .local := by first | exact .inl rfl | exact .inr rfl | assumption) :
    PSs X (.Assign [.Name x pos'] e pos :: rest) (lS F (sSeq (sSet i d) r)) := PSs.mono (pss_cons (ps_set hN hi hx he hs hf) h) fun E σ H ⟨env, L, P, A, pp, hn, hr, hb, hc⟩ =>
  ⟨env, L, _, A, pp, fun y v H1 px k o dd cc => ⟨env.set i (.fz y), L, P, L, H, ⟨(A.step k o).setF dd i, fun xs ys h1 h2 => by
    by_cases hlt : i < env.length
    · rw [List.getElem?_set_self hlt] at h1
      cases h1
      obtain ⟨t, vs, c, us, rfl, b2, b3, b4, b5⟩ := cc xs ys rfl h2
      refine ⟨t, vs, c, us, by rw [List.getElem?_set_self (by rw [← A.ls]; exact hlt)], b2, b3, b4, b5, fun k2 ek h1 h2 h3 => ?_, ?_⟩
      · by_cases hk : i = k2
        · subst hk
          rw [List.getElem?_set_self (by rw [List.length_set]; exact hlt)] at h1
          cases h1
          cases h2
        · rw [List.getElem?_set_ne hk, List.getElem?_set_ne hk] at h1
          rw [List.getElem?_set_ne hk] at h3
          exact A.lone b4 k2 ek h1 h2 h3
      · have G : Abs F env σ (c :: L) H1 := A.grow k o (pres_one A k b4) (fun a h => List.mem_cons_of_mem _ h) fun a h => (List.mem_cons.mp h).elim (fun e => .inr (by rw [e]; exact ⟨b4, _, b5, True.intro⟩)) .inl
        have := G.setAny i (some (.ref t))
        rw [show (env.set i (.fz (.tup xs))).set i .no = env.set i .no by rw [List.set_set]]
        exact this
    · rw [List.getElem?_eq_none (by rw [List.length_set]; omega)] at h1
      cases h1⟩, k.pres A, px, hn, hr, hb, hc⟩⟩
def sIfY (t : TDT) (r r2 : TDS) : TDS := fun P env => t env fun b => if b = true then r { P with nx := fun _ => False } env else r2 P env
theorem sY_if (ht : PT X c (lT F t)) (ha : PSs X sa (lS F r)) (h : PSs X rest (lSY F i j r2)) : PSs X (.If c sa [] pos :: rest) (lSY F i j (sIfY t r r2)) :=
  PSs.mono (pss_cons (ps_if ht ha pss_nil) h) fun E σ H ⟨env, L, P, L0, H0, A, pr, pp, hn, hr, hb, hc⟩ => ⟨env, L, _, A.a, pp, fun b H1 pb k o => by
    have pr1 : Pres F L0 H0 L H1 := pr.trans (k.pres A.a)
    cases b with
    | true => exact iteT ⟨env, L, _, A.a.step k o, pb, fun _ _ _ _ z => z.elim, hr, fun env' σ' L' H' p1 A1 pr2 => hb env' σ' L' H' p1 A1 (pr1.trans pr2), fun env' σ' L' H' p1 A1 pr2 => hc env' σ' L' H' p1 A1 (pr1.trans pr2)⟩
    | false => exact iteF ⟨env, L, P, L0, H0, A.step k o, pr1, pb, hn, hr, hb, hc⟩⟩
def sMutY (i j : Nat) (r : TDS) : TDS := fun P env => (∃ xs ys, env[i]? = some (.fz (.tup xs)) ∧ xs[j]? = some (.lst ys)) ∧ r P (env.set i .no)
theorem mut_y {env : De} {σ : L2.St} {L L0 : List Addr} {H H0 : Hp} (A : AbY F env σ L H i j H0) (pr : Pres F L0 H0 L H) (h : ∃ xs ys, env[i]? = some (.fz (.tup xs)) ∧ xs[j]? = some (.lst ys)) : ∃ t vs c us, σ[i]? = some (some (.ref t)) ∧ H t = some (.tup vs) ∧ vs[j]? = some (.ref c) ∧ H c = some (.lst us) ∧ ∀ ws, Abs F (env.set i .no) σ (c :: L) (upd H c (.lst ws)) ∧ Pres F L0 H0 (c :: L) (upd H c (.lst ws)) := by
  obtain ⟨xs, ys, h1, h2⟩ := h
  obtain ⟨t, vs, c, us, a1, a2, a3, a4, a5, lo, B⟩ := A.y xs ys h1 h2
  refine ⟨t, vs, c, us, a1, a2, a3, a5, fun ws => ⟨B.poke List.mem_cons_self lo, fun a o n h => ?_⟩⟩
  obtain ⟨b1, b2⟩ := pr a o n h
  have ne : a ≠ c := fun z => by rw [z, a4] at h; cases h
  refine ⟨fun z => ?_, by rw [upd_ne ne]; exact b2⟩
  rcases z with z | z
  · exact b1 (.inl z)
  · rcases List.mem_cons.mp z with z | z
    · exact ne z
    · exact b1 (.inr z)
theorem sY_clr {o : Expr} {kk : Nat} {q1 q2 apos cpos : Pos} (ho : PE X o (tVar i)) (h : PSs X rest (lS F r)) (hs : PlainIx (.Constant (.int (j : Int)) kk q1) := by intro _ _; rfl) (hbase : attributeBase (.Subscript o (.Constant (.int (j : Int)) kk q1) q2) "clear" X.env (eval (.Subscript o (.Constant (.int (j : Int)) kk q1) q2) X.env) = eval (.Subscript o (.Constant (.int (j : Int)) kk q1) q2) X.env := by rfl) (hline : (apos.endLine == cpos.line) = true := by rfl)
    (hsw : swapsWith (.Call (.Attribute (.Subscript o (.Constant (.int (j : Int)) kk q1) q2) "clear" apos) [] [] cpos) none pos.line X.env = pure false := by rfl) :
    PSs X (.Expr (.Call (.Attribute (.Subscript o (.Constant (.int (j : Int)) kk q1) q2) "clear" apos) [] [] cpos) pos :: rest) (lSY F i j (sMutY i j r)) :=
  PSs.mono (pss_cons (ps_expr (pe_bm0 PySem.F.plainAttrs_list PySem.F.slot_list_clear PySem.F.type_list_clear mt_clear (pe_ix ix_tup ho pe_int hs) hbase hline) hsw) h) fun E σ H ⟨env, L, P, L0, H0, A, pr, ⟨pm, pp⟩, hn, hr, hb, hc⟩ => by
    obtain ⟨t, vs, c, us, a1, a2, a3, a5, gg⟩ := mut_y A pr pm
    obtain ⟨B, pr2⟩ := gg []
    refine ⟨.ref t, a1, t, vs, _, _, rfl, rfl, SqT.of a2, atI_nat a3, .inl ⟨rfl, us, SqL.of a5⟩, c, us, rfl, rfl, a5, ?_⟩
    exact ⟨_, c :: L, P, B, pp, fun env' σ' L' H' p1 A1 pr1 => hn env' σ' L' H' p1 A1 (pr2.trans pr1), hr, fun env' σ' L' H' p1 A1 pr1 => hb env' σ' L' H' p1 A1 (pr2.trans pr1), fun env' σ' L' H' p1 A1 pr1 => hc env' σ' L' H' p1 A1 (pr2.trans pr1)⟩
end
end DL
namespace DL
open PySem PySem.Spec PyProof.Rows L2 RK
section
variable {X : Cx} {F : Fx} {e : Expr} {es : List Expr} {ds dk : TDA} {pos p : Pos} {CX : CXT} {k n m : Nat} {f : Addr} {fd : FuncData} {ps ks : List Str} {sp : DSp} {E : XK} {x : Str} {fr : Fr} {K : PySem.W.Frag}
variable {a b c : Expr} {d da db dc : TDE} {i j : Nat} {kk : Nat}
end
end DL
namespace DL
open PySem PySem.Spec PyProof.Rows L2 RK
section
variable {X : Cx} {F : Fx} {o : Expr} {d : TDE} {dk : TDA} {pos apos : Pos} {CX : CXT} {k q : Nat} {f C : Addr} {fd : FuncData} {ps ks : List Str} {sp : DSp} {E : XK} {m : Str} {fr : Fr} {K : PySem.W.Frag} {pl : Sem Bool}
end
end DL
namespace RK
open PySem PySem.Spec PyProof.Rows L2
section
variable {prog : Program} {w : World} {A : Around} {R : Result → Shared → Prop} {I : Addr} {fp wr : List Addr} {n : Nat} {P : Nat → Value → Prop} {St : Nat → Heap → Prop} {kw : List (Str × Value)}
theorem mx_name : (toString "max" ++ toString ".loop" : String) = "max.loop" := by decide
theorem mx_loop (W : Walks prog w A.in1 I fp wr n P St) (bt : Nat → Nat → Bool) (cmp : CmpOf prog w A.in1 .Gt P bt) (S : Addr) (out : S ∉ fp) : ∀ (m i : Nat) (s : Shared) (v : Value) (q : Nat), n = i + 1 + m → St (i + 1) s.heap → P (argBest bt i) v →
    s.heap.get? S = some { cls := .type "list", dict := none, data := .seq #[v, v] q, slots := #[] } →
    (∀ x g t, P (argBest bt (n - 1)) x → (∀ b o, b ∉ wr → b ≠ S → s.heap.get? b = some o → g.get? b = some o) → R (.ok (.ret x)) { s with heap := g, toks := t }) →
    codeAny (model prog w) A (.builtin "max.loop" ⟨[.ref I, .none, .ref S], kw⟩) R s := by
  have nw : S ∉ wr := fun z => out (W.sub _ z)
  intro m
  induction m with
  | zero =>
    intro i s v q e st pv hS fin
    have e : i + 1 = n := by omega
    refine codeAny_builtin (by exact F.entry_max_loop) ?_
    rw [Around.under_plainId (by exact F.plain_max_loop)]
    show wpAny (model prog w) A.in1 (seqItems? (.ref S) >>= _) _ _ s
    refine wpAny_bind (wpAny_seqItems hS rfl ?_)
    show wpAny (model prog w) A.in1 (tryCatch (pyNext (.ref I)) _ >>= _) _ _ s
    refine wpAny_bind (wpAny_tryCatch (W.done s _ _ (e ▸ st) fun g t kk => ?_))
    have hS2 := kk S _ nw hS
    show wpAny (model prog w) A.in1 (updateSeq S (fun _ => #[]) >>= _) _ _ _
    refine wpAny_bind (wpAny_updateSeq hS2 rfl (wpAny_bind (wpAny_letGo (wpAny_pure (fin v _ t (by rw [← e]; exact pv) fun b o h1 h2 h3 => ?_)))))
    exact (Heap.get?_update_other _ _ fun z => h2 z.symm).trans (kk b o h1 h3)
  | succ m go =>
    intro i s v q e st pv hS fin
    have lt : i + 1 < n := by omega
    refine codeAny_builtin (by exact F.entry_max_loop) ?_
    rw [Around.under_plainId (by exact F.plain_max_loop)]
    show wpAny (model prog w) A.in1 (seqItems? (.ref S) >>= _) _ _ s
    refine wpAny_bind (wpAny_seqItems hS rfl ?_)
    show wpAny (model prog w) A.in1 (tryCatch (pyNext (.ref I)) _ >>= _) _ _ s
    refine wpAny_bind (wpAny_tryCatch (W.item (i + 1) s _ _ lt st fun u g t pu st2 kk => ?_))
    have hS2 := kk S _ nw hS
    show wpAny (model prog w) A.in1 (tryCatch (holding [u, u] (richCompare .Gt u v >>= _)) _ >>= _) _ _ _
    refine wpAny_bind (wpAny_tryCatch (wpAny_holding (wpAny_bind (cmp (i + 1) (argBest bt i) u v _ _ _ pu pv ?_))))
    refine wpAny_bind (wpAny_holding (wpAny_truthy_bool (wpAny_bind (wpAny_letGo (wpAny_pure ?_)))))
    cases hb : bt (i + 1) (argBest bt i) with
    | true =>
      simp only [if_true]
      refine wpAny_bind (wpAny_updateSeq hS2 rfl (wpAny_bind (wpAny_letGo ?_)))
      rw [mx_name]
      refine wpAny_pure ⟨plainId_quiet (by exact F.plain_max_loop) _, go (i + 1) _ u _ (by omega) (W.frame _ _ _ st2 fun b hf o eb => ?_) (by simp only [argBest, hb, if_true]; exact pu) (Heap.get?_update_self _ hS2 rfl) fun x g2 t2 px k2 => ?_⟩
      · exact (Heap.get?_update_other _ _ fun z : S = b => out (by rw [z]; exact hf)).trans eb
      · exact fin x g2 t2 px fun b o h1 h2 h3 => k2 b o h1 h2 ((Heap.get?_update_other _ _ fun z => h2 z.symm).trans (kk b o h1 h3))
    | false =>
      simp only [Bool.false_eq_true, if_false]
      refine wpAny_bind (wpAny_letGo ?_)
      rw [mx_name]
      refine wpAny_pure ⟨plainId_quiet (by exact F.plain_max_loop) _, go (i + 1) _ v q (by omega) st2 (by simp only [argBest, hb, Bool.false_eq_true, if_false]; exact pv) hS2 fun x g2 t2 px k2 => ?_⟩
      exact fin x g2 t2 px fun b o h1 h2 h3 => k2 b o h1 h2 (kk b o h1 h3)
theorem mx_first (W : Walks prog w A.in1 I fp wr n P St) (bt : Nat → Nat → Bool) (cmp : CmpOf prog w A.in1 .Gt P bt) (S : Addr) (out : S ∉ fp) (pos : 0 < n) {s : Shared} {q : Nat} (st : St 0 s.heap)
    (hS : s.heap.get? S = some { cls := .type "list", dict := none, data := .seq #[] q, slots := #[] })
    (fin : ∀ x g t, P (argBest bt (n - 1)) x → (∀ b o, b ∉ wr → b ≠ S → s.heap.get? b = some o → g.get? b = some o) → R (.ok (.ret x)) { s with heap := g, toks := t }) :
    codeAny (model prog w) A (.builtin "max.loop" ⟨[.ref I, .none, .ref S], kw⟩) R s := by
  have nw : S ∉ wr := fun z => out (W.sub _ z)
  refine codeAny_builtin (by exact F.entry_max_loop) ?_
  rw [Around.under_plainId (by exact F.plain_max_loop)]
  show wpAny (model prog w) A.in1 (seqItems? (.ref S) >>= _) _ _ s
  refine wpAny_bind (wpAny_seqItems hS rfl ?_)
  show wpAny (model prog w) A.in1 (tryCatch (pyNext (.ref I)) _ >>= _) _ _ s
  refine wpAny_bind (wpAny_tryCatch (W.item 0 s _ _ pos st fun u g t pu st2 kk => ?_))
  have hS2 := kk S _ nw hS
  show wpAny (model prog w) A.in1 (updateSeq S (fun _ => #[u, u]) >>= _) _ _ _
  refine wpAny_bind (wpAny_updateSeq hS2 rfl ?_)
  rw [mx_name]
  refine wpAny_pure ⟨plainId_quiet (by exact F.plain_max_loop) _, mx_loop W bt cmp S out (n - 1) 0 _ u _ (by omega) (W.frame _ _ _ st2 fun b hf o eb => ?_) pu (Heap.get?_update_self _ hS2 rfl) fun x g2 t2 px k2 => ?_⟩
  · exact (Heap.get?_update_other _ _ fun z : S = b => out (by rw [z]; exact hf)).trans eb
  · exact fin x g2 t2 px fun b o h1 h2 h3 => k2 b o h1 h2 ((Heap.get?_update_other _ _ fun z => h2 z.symm).trans (kk b o h1 h3))
end
section
variable {prog : Program} {w : World} {A : Around} {E : Value → Shared → Prop} {s : Shared} {l : Addr} {its : List Value} {ns : List Int}
theorem mx_call {d : Value} {Q : Value → Shared → Prop} (hh : A.handled = none) (hl : s.heap.IsList l its.toArray) (hi : IntsAre its ns) (hne : 0 < ns.length)
    (h : ∀ g tk M t', (∀ b o, s.heap.get? b = some o → g.get? b = some o) → M ∈ ns → (∀ a, a ∈ ns → a ≤ M) → Q (.int M t') { s with heap := g, toks := tk }) : wpAny (model prog w) A (call (.builtin "max") [.ref l] [("default", d)]) Q E s := by
  obtain ⟨xs, e⟩ := hi.allInts.items
  have hn : numsOf (intItems xs).toList = ns := by rw [← e]; exact hi.numsOf
  rw [nums_intItems] at hn
  subst hn
  rw [e] at hl
  have hsz : 0 < xs.size := by simpa using hne
  have body : wpAny (model prog w) A.in1 (Builtin.«max» ⟨[.ref l], [("default", d)]⟩) (fun f z => match f with
      | .done f => wants Q E (.ok f) z
      | .again c => c.quiet = true ∧ codeAny (model prog w) A c (wants Q E) z) (fun e z => wants Q E (.error e) z) s := by
    show wpAny _ A.in1 (Builtin.Builtins.bindParams "max" ["key", "default"] 0 ⟨[], [("default", d)]⟩ >>= _) _ _ s
    refine wpAny_bind (wpAny_of_eq (show Builtin.Builtins.bindParams "max" ["key", "default"] 0 ⟨[], [("default", d)]⟩ = pure [none, some d] from by rfl) (wpAny_bind (wpAny_pure ?_)))
    refine wpAny_bind (iter_intList hl fun z ez st bd nl => ?_)
    subst ez
    refine wpAny_bind (wpAny_newObj_type ?_)
    rw [mx_name]
    have Wk := Walks.list (A := A.in1) (prog := prog) (w := w) hh s.heap.objs.size l nl (intItems xs)
    refine wpAny_pure ⟨plainId_quiet (by exact F.plain_max_loop) _, mx_first Wk _ (CmpOf.ints_gt (numAt xs) fun _ _ => intItems_at) _ (fun z => Nat.lt_irrefl _ (bd _ z)) (by simpa [intItems] using hsz) (Wk.frame _ _ _ st fun b _ o eb => Heap.get?_push_of_some _ eb) (Heap.get?_push_size _ rfl) fun x g t px kk => ?_⟩
    obtain ⟨tk, rfl⟩ := intItems_at px
    obtain ⟨h1, h2⟩ := argBest_gt (numAt xs) (xs.size - 1)
    have sz : (intItems xs).size = xs.size := by simp [intItems]
    rw [sz]
    refine h _ _ _ _ (old_kept (l := l) fun b o hb eb => kk b o hb (Nat.ne_of_lt (Heap.lt_size eb)) (Heap.get?_push_of_some _ eb)) ?_ fun a ha => ?_
    · rw [numAt_eq]
      exact PySem.getD_mem (by rw [List.length_map, Array.length_toList]; omega)
    · obtain ⟨j, hj, rfl⟩ := mem_getD ha
      rw [List.length_map, Array.length_toList] at hj
      rw [← numAt_eq]
      exact h2 j (by omega)
  refine wpAny_call (codeAny_call_builtin (by exact F.plain_max) (by exact F.entry_max) ?_)
  simp only [checkBuiltinCall, F.kind_max]
  cases hsig : Manifest.signature? "max" with
  | none => exact wpAny_pure body
  | some sig =>
    have ok : argsOk "max" ⟨[Value.ref l], [("default", d)]⟩ := by unfold argsOk; kernel_rfl
    simp only [argsOk, hsig] at ok
    have h2 : Bind.checkArgs "max" sig ⟨[Value.ref l], [("default", d)]⟩ = pure () := ok
    show wpAny _ A.in1 (Bind.checkArgs "max" sig ⟨[Value.ref l], [("default", d)]⟩) _ _ s
    rw [h2]
    exact wpAny_pure body
end
section
variable {X : Cx}
def rMaxD (K : PySem.W.Frag) : List V → List V → Hp → VK → Prop := fun vs zs H Q => ∃ (a : Addr) (ns : List Int) (d : V), vs = [V.ref a] ∧ zs = [d] ∧ SqL K H a (ns.map V.int) ∧ 0 < ns.length ∧ ∀ m, m ∈ ns → (∀ y, y ∈ ns → y ≤ m) → Q (.int m) H
theorem cr_maxD (hc : X.calm = true) : CallRK X (.builtin "max") ["default"] (rMaxD X.K) := by
  intro pins s σ H xs zs us ws Q I r1 r2 h
  obtain ⟨a, ns, d, rfl, rfl, hs, hne, q⟩ := h
  obtain ⟨its, rv, hl, _⟩ := I.list hs
  rw [Vals.ref1 r1]
  match ws, r2 with
  | [u], .cons _ .nil => exact mx_call (d := u) (I.ok.hd hc) hl.isList rv.ints hne fun h' tk m t' hk h1 h2 => ⟨.int _, H, I.kept hk, ⟨_, rfl⟩, q m h1 h2⟩
end
end RK
namespace DL
open PySem PySem.Spec PyProof.Rows L2 RK
section
variable {X : Cx} {F : Fx} {e a b c : Expr} {d da db dc : TDE} {ds dk : TDA} {pos p : Pos} {k : Nat}
def bShr : B2 := iI (fun _ j => decide (0 ≤ j)) fun i j => .int (i / 2 ^ j.toNat)
theorem dd_shr (ha : PE X a (lB F da)) (hb : PE X b (lB F db)) : PE X (.BinOp a .RShift b pos) (lC F (dO2 bShr da db)) := dd_op (iI_ok (C' := fun _ j => 0 ≤ j) (fun i j h => of_decide_eq_true h) fun i j _ _ _ _ => .int _) op_shr ha hb
def bAnd : B2 := iI0 fun i j => .int (Builtin.bitAnd i j)
theorem dd_bitand (ha : PE X a (lB F da)) (hb : PE X b (lB F db)) : PE X (.BinOp a .BitAnd b pos) (lC F (dO2 bAnd da db)) := dd_op (iI0_ok fun i j _ _ _ _ => .int _) op_and ha hb
theorem dd_lteq (hr : Room k X.A) (ha : PE X a (lB F da)) (hb : PE X b (lB F db)) (hc : PE X c (lB F dc)) (hm : lastMarks [.Lt, .Eq] [b, c] = false := by with_unfolding_all rfl) (hK : F.K = X.K := by rfl) : PE X (.Compare a [.Lt, .Eq] [b, c] pos) (lC F (dChain (iI0 fun i j => .bl (decide (i < j))) (bEqN false) da db dc)) :=
  PE.mono (pe_chain op_lt (eqR hr hK) ha hb hc hm) (lchain (iI0_ok fun i j _ _ _ _ => .bl _) (Op2.or eqS_ok eqP_ok))
def dMaxD (d : TDE) (ds : TDA) : TDE := fun env P => d env fun x => ds env fun ys => ys.length = 1 ∧ match x with
  | .lst xs => ∃ is, intsD xs = some is ∧ 0 < is.length ∧ ∀ m, m ∈ is → (∀ y ∈ is, y ≤ m) → P (.int m)
  | _ => False
theorem intsD_w {K : PySem.W.Frag} {N : Addr → Prop} {W : Wd} {H : Hp} : ∀ {vs : List V} {ds : List D} {is : List Int}, DdAll K N W H vs ds → intsD ds = some is → vs = is.map V.int
  | _, _, _, .nil, e => by cases e; rfl
  | _, _, _, .cons (v := v) (d := d) h a, e => by
    cases d <;> try cases e
    obtain ⟨js, h3, h4⟩ := Option.map_eq_some_iff.mp e
    subst h4
    rw [intsD_w a h3, dd_intE h]
    rfl
theorem dd_maxD {kws : List Keyword} (hg : Gl X "max") (hm : X.mg "max" = none) (hc : X.calm = true) (ha : PE X e (lC F d)) (hk : PK X kws (lA F ds)) (hn : starEach [e] X.env = (false, eval e X.env) :: starEach [] X.env := by rfl) (hK : F.K = X.K := by rfl)
    (he : backTo pos (starEach [e] X.env) = (false, eval e X.env) :: backTo pos (starEach [] X.env) := by rfl) (hpl : (backTo pos (starEach [e] X.env)).any (·.1) = false := by rfl)
    (hall : (backToKw pos (keywordEach kws X.env)).all (·.1.isSome) = true := by rfl) (hnone : (backToKw pos (keywordEach kws X.env)).any (·.1.isNone) = false := by rfl) (hks : (backToKw pos (keywordEach kws X.env)).filterMap (·.1) = [Str.ofString "default"] := by rfl) :
    PE X (.Call (.Name "max" p) [e] kws pos) (lC F (dMaxD d ds)) := PE.mono (pe_callBK (cr_maxD hc) hg hm (by decide +kernel) (pa_cons ha pa_nil hn) hk (by decide) (by decide) he hpl hall hnone hks) fun σ H Q ⟨env, L, P, A, pp, q⟩ =>
  ⟨env, L, _, A, pp, fun x v H1 px k1 o1 d1 => ⟨env, L, _, A.step k1 o1, px, fun ys zs H2 py k2 o2 d2 => by
    obtain ⟨hl, py⟩ := py
    match ys, hl, d2 with
    | [y], _, .cons (v := z) _ .nil =>
      cases x with
      | lst xs =>
        obtain ⟨is, e1, e2, py⟩ := py
        obtain ⟨a, vs, rfl, h1, _, h2⟩ := dd_lstE ((A.step k1 o1).kd k2 d1)
        have ev := intsD_w h2 e1
        subst ev
        exact ⟨a, is, _, rfl, rfl, by rw [← hK]; exact SqL.of h1, e2, fun m h3 h4 => q _ _ H2 (py m h3 h4) (k1.trans k2) o2 (.int m)⟩
      | _ => exact py.elim⟩⟩
def dEmp : TDE := fun _ P => P (.dic [])
theorem dn_emp : PE X (.Dict [] [] pos) (lN F dEmp) := PE.mono pe_dnewK fun σ H Q ⟨env, L, P, A, pp, q⟩ => fun t ht => q _ _ _ pp (.new ht) (ok_new A.ok ht) ht ⟨[], upd_same, rfl, .nil⟩
end
end DL
namespace DL
open PySem PySem.Spec PyProof.Rows L2 RK
section
variable {K : PySem.W.Frag} {N : Addr → Prop} {W : Wd} {H H' : Hp} {d : Addr} {kvs : List (Key × V)}
structure LkR (H H' : Hp) (d : Addr) (kvs : List (Key × V)) : Prop where
  o : ∀ a, a ≠ d → H' a = H a
  l : Rd H d (.dK kvs)
  r : Rd H' d (.dK kvs)
theorem LkR.symm (h : LkR H H' d kvs) : LkR H' H d kvs := ⟨fun a n => (h.o a n).symm, h.r, h.l⟩
theorem LkR.keep (h : LkR H H' d kvs) {a : Addr} {u : HO} (e : H a = some u) (n : ∀ o, u ≠ .dK kvs ∧ u ≠ .frz o (.dK kvs)) : H' a = some u := by
  by_cases z : a = d
  · subst z
    rcases h.l with q | ⟨o, q⟩
    · rw [q] at e
      exact absurd (Option.some.inj e).symm (n (Classical.choice ⟨default⟩)).1
    · rw [q] at e
      exact absurd (Option.some.inj e).symm (n o).2
  · rw [h.o a z]; exact e
theorem LkR.rd (h : LkR H H' d kvs) {a : Addr} {us : List (Key × V)} (e : Rd H a (.dK us)) : Rd H' a (.dK us) := by
  by_cases z : a = d
  · subst z
    have : us = kvs := by
      rcases h.l with q | ⟨o, q⟩ <;> rcases e with e | ⟨o', e⟩ <;> rw [q] at e <;> cases e <;> rfl
    rw [this]
    exact h.r
  · rcases e with e | ⟨o, e⟩
    · exact .inl (by rw [h.o a z]; exact e)
    · exact .inr ⟨o, by rw [h.o a z]; exact e⟩
theorem LkR.rdT (h : LkR H H' d kvs) {a : Addr} {us : List (List Key × V)} (e : Rd H a (.dT us)) : Rd H' a (.dT us) := by
  rcases e with e | ⟨o, e⟩
  · exact .inl (h.keep e fun o => ⟨fun z => (by cases z), fun z => (by cases z)⟩)
  · exact .inr ⟨o, h.keep e fun o => ⟨fun z => (by cases z), fun z => (by cases z)⟩⟩
mutual
theorem Dd.lk (h : LkR H H' d kvs) : ∀ {v : V} {x : D}, Dd K N W H v x → Dd K N W H' v x
  | _, _, .non => .non
  | _, _, .bl b => .bl b
  | _, _, .int i => .int i
  | _, _, .str x => .str x
  | _, _, .lst e q a => .lst (h.keep e fun o => ⟨fun z => (by cases z), fun z => (by cases z)⟩) q (DdAll.lk h a)
  | _, _, .tup e q a => .tup (h.keep e fun o => ⟨fun z => (by cases z), fun z => (by cases z)⟩) q (DdAll.lk h a)
  | _, _, .ktp h1 h2 h3 h4 h5 a => .ktp h1 h2 h3 h4 h5 (DdAll.lk h a)
  | _, _, .dic e q z a => .dic (h.rd e) q z (DdAll.lk h a)
  | _, _, .dct e q z a => .dct (h.rdT e) q z (DdAll.lk h a)
  | _, _, .obj e q z a => .obj (h.keep e fun o => ⟨fun z => (by cases z), fun z => (by cases z)⟩) q z (DdAll.lk h a)
  | _, _, .bag e => .bag e
theorem DdAll.lk (h : LkR H H' d kvs) : ∀ {vs : List V} {xs : List D}, DdAll K N W H vs xs → DdAll K N W H' vs xs
  | _, _, .nil => .nil
  | _, _, .cons e a => .cons (Dd.lk h e) (DdAll.lk h a)
end
theorem LkR.ok (h : LkR H H' d kvs) (k : W.ok H) (nd : ¬ W.own d) : W.ok H' := by
  refine Wd.st k (fun a o e n => ?_) (fun a ps e => ?_)
  · by_cases ad : a = d
    · subst ad
      exfalso
      rcases n with n | n
      · exact nd n
      · rcases h.l with q | ⟨z, q⟩ <;> rw [q] at e <;> cases e <;> exact n True.intro
    · rw [h.o a ad]; exact e
  · exact ⟨ps, h.symm.keep e fun z => ⟨fun q => (by cases q), fun q => (by cases q)⟩⟩
end
def En.hk : En → En
  | .fz d => .fz d
  | _ => .no
def hidK (env : De) : De := env.map En.hk
theorem En.hk_ow : ∀ e : En, e.hk.isOw = false
  | .no => rfl
  | .fz _ => rfl
  | .ow _ => rfl
  | .od _ => rfl
  | .ot _ => rfl
theorem nk_nil {N : Addr → Prop} {a : Addr} {K : PySem.W.Frag} {W : Wd} {H0 : Hp} {fr : Fr} : Fx.N ⟨K, W, N, H0, fr⟩ [] a ↔ N a := ⟨fun h => h.elim id (fun z => by cases z), fun h => .inl h⟩
section
variable {F : Fx} {env : De} {σ : L2.St} {L : List Addr} {H H' : Hp} {d : Addr} {kvs : List (Key × V)}
theorem Abs.lk (A : Abs F env σ L H) (h : LkR H H' d kvs) (nd : ¬ F.N L d) : Abs ⟨F.K, F.W, F.N L, H', false⟩ (hidK env) σ [] H' where
  ok := h.ok A.ok fun z => nd (.inl (A.wn d z))
  al := fun a n => by
    obtain ⟨o, e⟩ := A.alN n
    by_cases z : a = d
    · exact absurd (z ▸ n) nd
    · exact ⟨o, (h.o a z).trans e⟩
  wn := fun a h => .inl (A.wn a h)
  kp := .refl _ _
  fr := fun a h => by cases h
  ls := by unfold hidK; rw [List.length_map]; exact A.ls
  sep := fun i j a ei ej h1 _ h3 _ _ _ => by
    unfold hidK at h1
    rw [List.getElem?_map] at h1
    obtain ⟨e, _, rfl⟩ := Option.map_eq_some_iff.mp h1
    rw [En.hk_ow] at h3
    cases h3
  en := fun i e x h1 h2 => by
    unfold hidK at h1
    rw [List.getElem?_map] at h1
    obtain ⟨e, he, rfl⟩ := Option.map_eq_some_iff.mp h1
    have h3 := A.en i e x he h2
    cases e with
    | fz y =>
      cases x with
      | none => exact h3.elim
      | some v => exact Dd.keep (fun a o _ h => h) (fun a h => nk_nil.mp h) (Dd.lk h h3)
    | _ => exact trivial
def kdD : Key → D
  | .inl i => .int i
  | .inr x => .str x
theorem kdD_dd {K : PySem.W.Frag} {N : Addr → Prop} {W : Wd} {H : Hp} : ∀ k : Key, Dd K N W H (kV k) (kdD k)
  | .inl i => .int i
  | .inr x => .str x
theorem lcK_core {S vs : List Nat} {g : TDG} {tt : TDT} {te : TDE} {i : Nat} {od : Obj} {kds : List (Key × D)} {P : D → Prop} {Q : VK} (hS : ∀ i ∈ S, i ∈ vs) (A : Abs F env σ [] H) (hi : σ[i]? = some (some (.ref d))) (hd : H d = some (.frz od (.dK kvs))) (nd : ¬ F.N [] d) (ek : kvs.map (·.1) = kds.map (·.1))
    (pp : dComp g tt te P (wipeE env vs) (kds.map fun kd => kdD kd.1) []) (q : ∀ x a H', P x → KeepW F.W H H' → F.W.ok H' → H a = none → NewV F [] H' a x → Q (.ref a) H') : tLc (iKeys (tVar i)) (lG F S g) (lT F tt) (lC F te) vs σ H Q := by
  have h0 : lN F (dLc (fun _ P => P (kds.map fun kd => kdD kd.1)) g tt te vs) σ H Q := ⟨env, [], P, A, pp, q⟩
  obtain ⟨env', L', P', A', p', r⟩ := l_lc hS σ H Q h0
  refine ⟨.ref d, hi, d, od, rfl, .inl ⟨kvs, hd, r _ (Itk d od kvs) H p' (.refl _ _) A'.ok fun N' H2 rel _ j => ?_⟩⟩
  have hd2 : H2 d = some (.frz od (.dK kvs)) := (rel d _ (fun z => nd (.inl (A.wn d z))) hd).2
  have el : kvs.length = kds.length := by
    have := congrArg List.length ek
    rwa [List.length_map, List.length_map] at this
  refine ⟨fun e => ⟨hd2, by rw [List.length_map] at e; omega⟩, fun x hx => ?_⟩
  rw [List.getElem?_map] at hx
  obtain ⟨kd, hk, rfl⟩ := Option.map_eq_some_iff.mp hx
  have lt := (List.getElem?_eq_some_iff.mp hk).1
  refine ⟨⟨hd2, by omega⟩, fun v H3 hy => ?_⟩
  obtain ⟨rfl, k, w, h1, rfl⟩ := hy
  have : k = kd.1 := by
    have e1 : (kvs.map (·.1))[j]? = some k := by rw [List.getElem?_map, h1]; rfl
    rw [ek, List.getElem?_map, hk] at e1
    exact (Option.some.inj e1).symm
  subst this
  exact ⟨.refl _, kdD_dd _⟩
def dLcK (i : Nat) (g : TDG) (tt : TDT) (te : TDE) (vs : List Nat) : TDE := fun env P => ∃ kds, env[i]? = some (.fz (.dic kds)) ∧ dComp g tt te P (wipeE (hidK env) vs) (kds.map fun kd => kdD kd.1) []
def tLcK (F : Fx) (i : Nat) (S : List Nat) (g : TDG) (tt : TDT) (te : TDE) (vs : List Nat) : TE := fun σ H Q => ∃ (N0 : Addr → Prop) (H0 : Hp), tLc (iKeys (tVar i)) (lG ⟨F.K, F.W, N0, H0, false⟩ S g) (lT ⟨F.K, F.W, N0, H0, false⟩ tt) (lC ⟨F.K, F.W, N0, H0, false⟩ te) vs σ H Q
theorem l_lcK {S vs : List Nat} {g : TDG} {tt : TDT} {te : TDE} {i : Nat} (hS : ∀ i ∈ S, i ∈ vs) : ∀ σ H Q, lN F (dLcK i g tt te vs) σ H Q → tLockE (tLcK F i S g tt te vs) σ H Q ∨ tLcK F i S g tt te vs σ H Q := fun σ H Q ⟨env, L, P, A, ⟨kds, he, pp⟩, q⟩ => by
  obtain ⟨v, hv, dv⟩ := abs_at A he (by simp)
  obtain ⟨d, kvs, rfl, rd, nd, ek, da⟩ : ∃ (d : Addr) (kvs : List (Key × V)), v = .ref d ∧ Rd H d (.dK kvs) ∧ ¬ F.N L d ∧ kvs.map (·.1) = kds.map (·.1) ∧ DdAll F.K (F.N L) F.W H (kvs.map (·.2)) (kds.map (·.2)) := by
    cases dv with | dic g1 g2 g3 g4 => exact ⟨_, _, rfl, g1, g2, g3, g4⟩
  have nw : ¬ F.W.own d := fun z => nd (.inl (A.wn d z))
  have nd' : ∀ {H2 : Hp}, ¬ Fx.N ⟨F.K, F.W, F.N L, H2, false⟩ [] d := fun z => nd (nk_nil.mp z)
  have back : ∀ {H2 H3 H4 : Hp} {x : D} {a : Addr}, LkR H H2 d kvs → KeepW F.W H2 H3 → F.W.ok H3 → H2 a = none → NewV ⟨F.K, F.W, F.N L, H2, false⟩ [] H3 a x → LkR H3 H4 d kvs → H4 d = H d → P x → Q (.ref a) H4 := fun {H2 H3 H4 x a} l1 k3 o3 n2 nv l2 e4 px => by
    refine q x a H4 px (fun b o hb e => ?_) (l2.ok o3 nw) ?_ ?_
    · by_cases z : b = d
      · rw [z, e4, ← z]; exact e
      · rw [l2.o b z]
        exact k3 b o hb (by rw [l1.o b z]; exact e)
    · have ad : a ≠ d := fun z => by
        subst z
        rcases l1.r with r | ⟨_, r⟩ <;> rw [r] at n2 <;> cases n2
      rw [← l1.o a ad]; exact n2
    · have ad : a ≠ d := fun z => by
        subst z
        rcases l1.r with r | ⟨_, r⟩ <;> rw [r] at n2 <;> cases n2
      have tr : ∀ {vs : List V} {xs : List D}, DdAll F.K (Fx.N ⟨F.K, F.W, F.N L, H2, false⟩ [a]) F.W H3 vs xs → DdAll F.K (F.N (a :: L)) F.W H4 vs xs := fun {vs xs} h => (DdAll.lk l2 h).keep (fun _ _ _ e => e) fun b hb => by
        rcases hb with hb | hb
        · exact .inl (.inl hb)
        · rcases List.mem_cons.mp hb with hb | hb
          · exact .inr (by rw [hb]; exact List.mem_cons_self)
          · exact .inl (.inr hb)
      cases x with
      | lst xs => obtain ⟨us, u1, u2⟩ := nv; exact ⟨us, by rw [l2.o a ad]; exact u1, tr u2⟩
      | tup xs => obtain ⟨us, u1, u2⟩ := nv; exact ⟨us, by rw [l2.o a ad]; exact u1, tr u2⟩
      | dic xs => obtain ⟨us, u1, u2, u3⟩ := nv; exact ⟨us, by rw [l2.o a ad]; exact u1, u2, tr u3⟩
      | dct xs => obtain ⟨us, u1, u2, u3⟩ := nv; exact ⟨us, by rw [l2.o a ad]; exact u1, u2, tr u3⟩
      | _ => exact nv.elim
  rcases rd with rd | ⟨od, rd⟩
  · refine .inl ⟨d, .dK kvs, rd, True.intro, fun od => ?_⟩
    have l1 : LkR H (upd H d (.frz od (.dK kvs))) d kvs := ⟨fun a n => upd_ne n, .inl rd, .inr ⟨od, upd_same⟩⟩
    refine ⟨F.N L, upd H d (.frz od (.dK kvs)), lcK_core hS (A.lk l1 nd) hv upd_same nd' ek pp fun x a H3 px k3 o3 n3 nv => ?_⟩
    have hd3 : H3 d = some (.frz od (.dK kvs)) := k3 d _ nw upd_same
    exact ⟨hd3, back l1 k3 o3 n3 nv ⟨fun b n => upd_ne n, .inr ⟨od, hd3⟩, .inl upd_same⟩ (by rw [upd_same, rd]) px⟩
  · have l1 : LkR H H d kvs := ⟨fun a n => rfl, .inr ⟨od, rd⟩, .inr ⟨od, rd⟩⟩
    refine .inr ⟨F.N L, H, lcK_core hS (A.lk l1 nd) hv rd nd' ek pp fun x a H3 px k3 o3 n3 nv => ?_⟩
    have hd3 : H3 d = some (.frz od (.dK kvs)) := k3 d _ nw rd
    exact back l1 k3 o3 n3 nv ⟨fun b n => rfl, .inr ⟨od, hd3⟩, .inr ⟨od, hd3⟩⟩ (by rw [hd3, rd]) px
end
theorem PE.or2 {X : Cx} {e : Expr} {t t' : TE} (h : PE X e t) (h' : PE X e t') : PE X e (fun σ H Q => t σ H Q ∨ t' σ H Q) := ⟨fun pins s σ H Q I q => by
  rcases q with q | q
  · exact h.run pins s σ H Q I q
  · exact h'.run pins s σ H Q I q⟩
theorem dn_lcK {X : Cx} {F : Fx} {x : Str} {px pos : Pos} {elt tg : Expr} {ifs : List Expr} {scope : Scope} {own : List (Str × Nat)} {i : Nat} {S : List Nat} {g : TDG} {tt : TDT} {te : TDE} (hv : PE X (.Name x px) (tVar i)) (hS : ∀ i ∈ S, i ∈ own.map (·.2))
    (h : ∀ (N0 : Addr → Prop) (H0 : Hp) (wi : TI), PI X tg (.Name x px) wi → PE X (.ListComp elt [⟨tg, .Name x px, ifs, 0⟩] scope pos) (tLc wi (lG ⟨F.K, F.W, N0, H0, false⟩ S g) (lT ⟨F.K, F.W, N0, H0, false⟩ tt) (lC ⟨F.K, F.W, N0, H0, false⟩ te) (own.map (·.2)))) :
    PE X (.ListComp elt [⟨tg, .Name x px, ifs, 0⟩] scope pos) (lN F (dLcK i g tt te (own.map (·.2)))) := by
  have hp : PE X (.ListComp elt [⟨tg, .Name x px, ifs, 0⟩] scope pos) (tLcK F i S g tt te (own.map (·.2))) := ⟨fun pins s σ H Q I ⟨N0, H0, q⟩ => (h N0 H0 _ (pi_keys hv)).run pins s σ H Q I q⟩
  exact PE.mono (PE.or2 (pe_lock hp) hp) (l_lcK hS)
end DL
namespace RK
open PySem PySem.Spec PyProof.Rows L2 LamX
variable {P : Program} {w : World} {K : PySem.W.Frag} {mg : Str → Option Value}
abbrev tab0 : Obj := { cls := .none, data := .fields #[] }
structure OnlyT (cs : List (Addr × Addr)) (H : Hp) : Prop where
  tb : ∀ p ∈ cs, H p.2 = some (.tbl #[])
  on : ∀ b, H b = none ∨ (∃ p ∈ cs, p.2 = b) ∨ ∃ o xs, H b = some (.frz o (.lst xs))
structure TabW (h : Heap) (K : PySem.W.Frag) (cs : List (Addr × Addr)) : Prop where
  e : ∀ p ∈ cs, h.get? p.2 = some tab0
  n : ∀ p ∈ cs, K.lookup p.2 = none
  c : ∀ p ∈ cs, PySem.W.codeHdIn K p.1 p.2 = true
end RK
namespace DL
open PySem PySem.Spec PyProof.Rows L2 RK LamX
section
variable {P : Program} {w : World} {K : PySem.W.Frag} {mg : Str → Option Value} {base : Heap} {k : Nat} {f : Addr} {fd : FuncData} {ps : List Str}
end
section
variable {X : Cx} {F : Fx} {dk : TDA} {pos p : Pos} {CX : CXT} {k : Nat} {f : Addr} {fd : FuncData} {ps ks : List Str} {sp : DSpX} {E : XK} {x : Str} {fr : Fr} {K : PySem.W.Frag} {PX : Er → Prop}
end
abbrev lamT (cs : List (Addr × Addr)) (q : Str) : List (Addr × Str) := cs.map fun p => (p.2, q)
structure Cls where
  Desk : Addr := 0
  BadName : Addr := 0
  BadRectangle : Addr := 0
  BadSize : Addr := 0
  BadOrder : Addr := 0
  BadStep : Addr := 0
  TooLong : Addr := 0
  BadWish : Addr := 0
  BadFact : Addr := 0
  BadCost : Addr := 0
  Impossible : Addr := 0
  BadStamp : Addr := 0
  Taken : Addr := 0
  Clash : Addr := 0
  OtherLog : Addr := 0
  Full : Addr := 0
  BadDeed : Addr := 0
  BadWatch : Addr := 0
  BadText : Addr := 0
  BadPage : Addr := 0
  Unknown : Addr := 0
  NoStamp : Addr := 0
  NoWatch : Addr := 0
  NothingLeft : Addr := 0
end DL
namespace RK
open PySem PySem.Spec PyProof.Rows L2
section
variable {P : Program} {w : World} {A : Around} {E : Value → Shared → Prop} {s : Shared}
abbrev TuK (P : Program) (w : World) (h : Heap) (k : List Key) (b : Addr) : Prop := IsTupleKey (mixKind P w) h k b
abbrev hsh (P : Program) (w : World) (k : List Key) : Int := tupleKeyHash (mixKind P w) k
theorem mem_shape {k : List Key} {vs : List Value} (h : ItemsAre (mixKind P w) k vs) : ∀ v ∈ vs, (∃ i t, v = Value.int i t) ∨ ∃ x t, v = Value.str x t := by
  induction h with
  | nil => exact fun v hv => nomatch hv
  | cons h1 _ ih =>
    intro v hv
    rcases List.mem_cons.mp hv with rfl | hv
    · rcases keyIs_shape h1 with ⟨i, t, _, e⟩ | ⟨x, t, _, e⟩
      · exact .inl ⟨i, t, e⟩
      · exact .inr ⟨x, t, e⟩
    · exact ih v hv
theorem leaf_no (n : Nat) {v : Value} (h : (∃ i t, v = Value.int i t) ∨ ∃ x t, v = Value.str x t) : ofAClassStatement n v = pure false := by
  rcases h with ⟨i, t, rfl⟩ | ⟨x, t, rfl⟩ <;> cases n <;> rfl
theorem leaf_by (n : Nat) {v : Value} (h : (∃ i t, v = Value.int i t) ∨ ∃ x t, v = Value.str x t) : ∃ b, hashByValue n v = pure b := by
  rcases h with ⟨i, t, rfl⟩ | ⟨x, t, rfl⟩
  · exact ⟨true, by cases n <;> rfl⟩
  · exact ⟨false, by cases n <;> rfl⟩
abbrev Lf (vs : List Value) : Prop := ∀ v ∈ vs, (∃ i t, v = Value.int i t) ∨ ∃ x t, v = Value.str x t
theorem tup_no {k : List Key} {b : Addr} {Q : Bool → Shared → Prop} (hk : TuK P w s.heap k b) (q : Q false s) : wpAny (model P w) A (ofAClassStatement 8 (.ref b)) Q E s := by
  have ty := hk.typeIs
  obtain ⟨o, its, n, ho, _, hd, hi⟩ := hk
  unfold ofAClassStatement
  refine wpAny_bind (wpAny_typeOf ty ?_)
  dsimp only
  simp only [show (("tuple" : String) == "tuple") = true by decide, if_true, Bool.not_true, Bool.false_eq_true, if_false]
  first | refine wpAny_bind (wpAny_pure ?_) | skip
  first | simp only [Bool.not_true, Bool.false_eq_true, if_false] | skip
  show wpAny _ _ (seqItems? (.ref b) >>= _) _ _ s
  refine wpAny_bind (wpAny_seqItems ho hd ?_)
  dsimp only
  refine wpAny_bind ?_
  show wpAny _ _ (forIn its _ _) _ _ s
  rw [← Array.forIn_toList]
  refine wpAny_forIn_list _ (fun l r z => r.1 = none ∧ z = s ∧ Lf l) _ (fun v l r z hh => ?_) (fun r z hh => ?_) _ _ ⟨rfl, rfl, mem_shape hi⟩
  · obtain ⟨hr, rfl, al⟩ := hh
    rw [leaf_no _ (al v List.mem_cons_self)]
    refine wpAny_bind (wpAny_pure ?_)
    simp only [Bool.false_eq_true, if_false]
    exact wpAny_pure ⟨rfl, rfl, fun u hu => al u (List.mem_cons_of_mem _ hu)⟩
  · obtain ⟨r1, r2⟩ := r
    obtain ⟨hr, rfl, _⟩ := hh
    have hr : r1 = none := hr
    subst hr
    exact wpAny_pure q
theorem tup_by {k : List Key} {b : Addr} {Q : Bool → Shared → Prop} (hk : TuK P w s.heap k b) (q : ∀ b, Q b s) : wpAny (model P w) A (hashByValue 8 (.ref b)) Q E s := by
  have ty := hk.typeIs
  obtain ⟨o, its, n, ho, _, hd, hi⟩ := hk
  unfold hashByValue
  refine wpAny_bind (wpAny_specialOf ty F.slot_tuple_hash.lookup ?_)
  show wpAny _ _ (seqItems? (.ref b) >>= _) _ _ s
  refine wpAny_bind (wpAny_seqItems ho hd (wpAny_bind ?_))
  show wpAny _ _ (forIn its _ _) _ _ s
  rw [← Array.forIn_toList]
  refine wpAny_forIn_list _ (fun l r z => (r.1 = none ∨ r.1 = some false) ∧ z = s ∧ Lf l) _ (fun v l r z hh => ?_) (fun r z hh => ?_) _ _ ⟨.inl rfl, rfl, mem_shape hi⟩
  · obtain ⟨hr, rfl, al⟩ := hh
    obtain ⟨c, ec⟩ := leaf_by 7 (al v List.mem_cons_self)
    rw [ec]
    refine wpAny_bind (wpAny_pure ?_)
    cases c with
    | true =>
      simp only [Bool.not_true, Bool.false_eq_true, if_false]
      exact wpAny_pure ⟨.inl rfl, rfl, fun u hu => al u (List.mem_cons_of_mem _ hu)⟩
    | false =>
      simp only [Bool.not_false, if_true]
      exact wpAny_pure (wpAny_pure (q false))
  · obtain ⟨r1, r2⟩ := r
    obtain ⟨hr, rfl, _⟩ := hh
    have hr : r1 = none ∨ r1 = some false := hr
    rcases hr with rfl | rfl <;> exact wpAny_pure (q _)
abbrev AllT (P : Program) (w : World) (h : Heap) (ys : List Value) : Prop := ∀ y ∈ ys, ∃ k c, y = Value.ref c ∧ TuK P w h k c
theorem unseen {k : List Key} {b : Addr} {Q : Bool → Shared → Prop} (hk : TuK P w s.heap k b) {ys : List Value} (hy : AllT P w s.heap ys) (q : Q false s) : wpAny (model P w) A (searchCouldBeSeen (.ref b) ys) Q E s := by
  unfold searchCouldBeSeen
  refine wpAny_bind ?_
  refine wpAny_forIn_list _ (fun l r z => r.1 = none ∧ z = s ∧ AllT P w s.heap l) _ (fun v l r z hh => ?_) (fun r z hh => ?_) _ _ ⟨rfl, rfl, hy⟩
  · obtain ⟨hr, rfl, al⟩ := hh
    obtain ⟨k2, c, rfl, hc⟩ := al v List.mem_cons_self
    have tl : AllT P w z.heap l := fun u hu => al u (List.mem_cons_of_mem _ hu)
    dsimp only
    by_cases e : (b == c || (carriedByValue (.ref b) && carriedByValue (.ref c))) = true
    · exact wp_if_pos e (wpAny_pure ⟨rfl, rfl, tl⟩)
    · refine wp_if_neg e (wpAny_bind (wpAny_eqIsQuiet_tuple hk ?_))
      simp only [Bool.not_true, Bool.false_eq_true, if_false]
      refine wpAny_bind (wpAny_eqIsQuiet_tuple hc ?_)
      simp only [Bool.not_true, Bool.false_eq_true, if_false]
      refine wpAny_bind (tup_no hk ?_)
      simp only [Bool.false_eq_true, if_false]
      refine wpAny_bind (tup_no hc ?_)
      simp only [Bool.false_eq_true, if_false]
      exact wpAny_pure ⟨rfl, rfl, tl⟩
  · obtain ⟨r1, r2⟩ := r
    obtain ⟨hr, rfl, _⟩ := hh
    have hr : r1 = none := hr
    subst hr
    exact wpAny_pure q
abbrev Mem := Addr × List Key
def entries (P : Program) (w : World) (L : List Mem) : List (Int × Value) := L.map fun p => (hsh P w p.2, Value.ref p.1)
def hashes (P : Program) (w : World) (L : List Mem) : List Int := L.map fun p => hsh P w p.2
structure TSt (P : Program) (w : World) (h : Heap) (a : Addr) (L : List Mem) (es : Array (Int × Value)) (ep : Nat) (t : SetTable) : Prop where
  ob : ∃ o, h.get? a = some o ∧ o.ExactSet ∧ o.data = .set es ep t
  es : es.toList = entries P w L
  tb : TabOk t (hashes P w L)
  nd : (L.map (·.2)).Nodup
  tu : ∀ p ∈ L, TuK P w h p.2 p.1
  ld : w.params.followText "set-order" = true ∨ t.led = true
  rm : L.length * 5 < t.mask * 3
  fw : L.length < 64
variable {a : Addr} {L : List Mem} {es : Array (Int × Value)} {ep : Nat} {t : SetTable}
theorem ent_size (h : es.toList = entries P w L) : es.size = L.length := by
  have := congrArg List.length h
  rwa [Array.length_toList, entries, List.length_map] at this
theorem hashes_len (L : List Mem) : (hashes P w L).length = L.length := List.length_map _
theorem ent_at (h : es.toList = entries P w L) {i : Nat} {p : Mem} (hp : L[i]? = some p) : es[i]? = some (hsh P w p.2, Value.ref p.1) := by
  rw [← Array.getElem?_toList, h, entries, List.getElem?_map, hp]
  rfl
theorem fits_of (h1 : t.place.size = es.size) (h2 : t.dummies = #[]) (h3 : es.size ≤ t.mask) : t.fits es.size = true := by
  unfold SetTable.fits SetTable.fill
  rw [h2, Bool.and_eq_true, beq_iff_eq, decide_eq_true_eq]
  exact ⟨h1, by show t.place.size + 0 ≤ _; omega⟩
theorem TSt.fits (R : TSt P w s.heap a L es ep t) : t.fits es.size = true := by
  have h1 := R.tb.sz
  have h2 := ent_size R.es
  have h3 := R.rm
  rw [hashes_len] at h1
  exact fits_of (h1.trans h2.symm) R.tb.dm (by omega)
theorem TSt.odd (R : TSt P w s.heap a L es ep t) : ¬ t.gaveWay = true := by
  unfold SetTable.gaveWay
  rw [mask_odd R.tb.mok]
  decide
theorem nth_calm (m : Nat) : ∀ (n : Nat) (p : SetTable.Probe), p.dummy = none → (nth m p n).dummy = none
  | 0, _, h => h
  | n + 1, p, h => nth_calm m n (adv m p) (by unfold adv; split <;> exact h)
abbrev stp (t : SetTable) (h : Int) (c : Nat) : SetTable.Probe := nth t.mask (runAt t.mask (SetTable.bits h % (t.mask + 1)) (SetTable.bits h)) c
theorem stp_add (t : SetTable) (h : Int) (c q : Nat) : nth t.mask (stp t h c) q = stp t h (c + q) := (nth_add t.mask c _ q).symm
theorem seek (R : TSt P w s.heap a L es ep t) {x : Addr} {k : List Key} (hx : TuK P w s.heap k x) (hu : A.units < cLine) {n : Nat} (hn : n < 10 * SetTable.turns t.mask) (hf : way t.mask (hsh P w k) n ∉ t.place.toList) (hb : ∀ c, c < n → way t.mask (hsh P w k) c ∈ t.place.toList)
    {Q : SetFound → Shared → Prop} (yes : k ∈ L.map (·.2) → Q (.there none) s) (no : k ∉ L.map (·.2) → Q (.free (way t.mask (hsh P w k) n) false) s) :
    ∀ (f c : Nat) (st : Option SetTable.Probe), st.getD (t.probeStart (hsh P w k)) = stp t (hsh P w k) c → c ≤ n → n - c < f →
      (∀ (i : Nat) (p : Mem), L[i]? = some p → p.2 = k → ∃ c', c ≤ c' ∧ c' < n ∧ t.place.toList[i]? = some (way t.mask (hsh P w k) c')) → wpAny (model P w) A (setSearchFrom a (.ref x) (hsh P w k) true f st) Q E s
  | 0, _, _, _, _, hf0, _ => absurd hf0 (Nat.not_lt_zero _)
  | f + 1, c, st, e, hc, hfu, later => by
    obtain ⟨o, ho, hex, hd⟩ := R.ob
    have eh : ∀ (i : Nat) (p : Mem), L[i]? = some p → (fun i => (es[i]?.map (·.1)).getD 0) i = hsh P w p.2 := fun i p hp => by
      show (es[i]?.map (·.1)).getD 0 = _
      rw [ent_at R.es hp]
      rfl
    have sj : ∀ q, (nth t.mask (stp t (hsh P w k) c) q).j = way t.mask (hsh P w k) (c + q) := fun q => congrArg SetTable.Probe.j (stp_add t _ c q)
    rw [setSearchFrom_succ]
    refine wpAny_bind (wpAny_setState_of ho hd R.fits ?_)
    dsimp only
    refine wp_if_neg R.odd ?_
    first | refine wpAny_bind (wpAny_pure ?_) | skip
    rcases go_spec t R.tb.ris R.tb.dm (fun i => (es[i]?.map (·.1)).getD 0) (hsh P w k) (10 * SetTable.turns t.mask) (n - c) (stp t (hsh P w k) c) (nth_calm _ _ _ rfl) (by omega) (fun q hq => by rw [sj]; exact hb _ (by omega)) (by rw [sj, show c + (n - c) = n by omega]; exact hf) with ⟨q, i, hq, hi, hh, none_before, pr⟩ | ⟨none_at, pr⟩
    · have pr' : t.probe (fun i => (es[i]?.map (·.1)).getD 0) (hsh P w k) (st.getD (t.probeStart (hsh P w k))) = some (.candidate (way t.mask (hsh P w k) (c + q)) i (stp t (hsh P w k) (c + (q + 1)))) := by
        rw [e, ← sj, ← stp_add]
        exact pr
      rw [pr']
      dsimp only
      rw [sj] at hi
      have il : i < L.length := by
        have h1 := (List.getElem?_eq_some_iff.mp hi).1
        have h2 := R.tb.sz
        rw [hashes_len] at h2
        rw [Array.length_toList] at h1
        omega
      obtain ⟨p, hp⟩ : ∃ p, L[i]? = some p := ⟨_, List.getElem?_eq_getElem il⟩
      have pm := List.mem_of_getElem? hp
      have sl := slot_live R.tb.ris hi
      have go : wpAny (model P w) A (searchRest a (.ref x) (hsh P w k) true f es t (way t.mask (hsh P w k) (c + q)) i (stp t (hsh P w k) (c + (q + 1)))) Q E s := by
        unfold searchRest
        rw [ent_at R.es hp]
        dsimp only
        refine wpAny_bind (wpAny_holding (wpAny_eqBool_tuple hu (R.tu p pm) hx (wpAny_bind (wpAny_setState_of ho hd R.fits ?_))))
        dsimp only
        by_cases ek : p.2 = k
        · exact wp_if_pos (by simp [ek]) (wpAny_pure (yes (List.mem_map.mpr ⟨p, pm, ek⟩)))
        · refine wp_if_neg (by simp [ek]) ?_
          first | refine wpAny_bind (wpAny_pure ?_) | skip
          rw [sameMem]
          dsimp only
          simp only [if_true, sl, ent_at R.es hp]
          refine wpAny_bind (wpAny_isSame_ref_self (wpAny_bind (wpAny_pure ?_)))
          simp only [if_true]
          refine wp_if_neg (by simp [ek]) (seek R hx hu hn hf hb yes no f (c + (q + 1)) _ rfl (by omega) (by omega) fun i2 p2 h2 k2 => ?_)
          obtain ⟨c', b1, b2, b3⟩ := later i2 p2 h2 k2
          refine ⟨c', ?_, b2, b3⟩
          rcases Nat.lt_trichotomy c' (c + q) with z | z | z
          · exact absurd ((eh i2 p2 h2).trans (by rw [k2])) (none_before (c' - c) i2 (by omega) (by rw [sj, show c + (c' - c) = c' by omega]; exact b3))
          · exfalso
            rw [z] at b3
            have s2 := slot_live R.tb.ris b3
            rw [sl] at s2
            injection s2 with s2
            rw [← s2, hp] at h2
            cases h2
            exact ek k2
          · omega
      by_cases hl : t.led = true
      · refine wp_if_neg (by simp [hl]) ?_
        first | refine wpAny_bind (wpAny_pure ?_) | skip
        exact go
      · refine wp_if_pos (by simp [hl]) (wpAny_bind (unseen hx (fun y hy => ?_) ?_))
        · obtain ⟨z, hz, rfl⟩ := List.mem_map.mp hy
          have hz1 : z ∈ es ∧ z.1 = hsh P w k := by simpa using hz
          have hz2 : z ∈ es.toList := by simpa using hz1.1
          rw [R.es] at hz2
          obtain ⟨p2, m2, rfl⟩ := List.mem_map.mp hz2
          exact ⟨p2.2, p2.1, rfl, R.tu p2 m2⟩
        · refine wp_if_neg (by decide) ?_
          first | refine wpAny_bind (wpAny_pure ?_) | skip
          exact go
    · have pr' : t.probe (fun i => (es[i]?.map (·.1)).getD 0) (hsh P w k) (st.getD (t.probeStart (hsh P w k))) = some (.empty (way t.mask (hsh P w k) n) none) := by
        have z : way t.mask (hsh P w k) n = (nth t.mask (stp t (hsh P w k) c) (n - c)).j := by rw [sj, show c + (n - c) = n by omega]
        rw [e, z]
        exact pr
      rw [pr']
      dsimp only
      refine wpAny_pure (no fun hm => ?_)
      obtain ⟨p2, m2, k2⟩ := List.mem_map.mp hm
      obtain ⟨i2, l2, g2⟩ := List.getElem_of_mem m2
      have h2 : L[i2]? = some p2 := by rw [List.getElem?_eq_getElem l2, g2]
      obtain ⟨c', b1, b2, b3⟩ := later i2 p2 h2 k2
      exact none_at (c' - c) i2 (by omega) (by rw [sj, show c + (c' - c) = c' by omega]; exact b3) ((eh i2 p2 h2).trans (by rw [k2]))
theorem seek_all (R : TSt P w s.heap a L es ep t) {x : Addr} {k : List Key} (hx : TuK P w s.heap k x) (hu : A.units < cLine) {Q : SetFound → Shared → Prop} (yes : k ∈ L.map (·.2) → Q (.there none) s)
    (no : ∀ n, k ∉ L.map (·.2) → way t.mask (hsh P w k) n ∉ t.place.toList → (∀ c, c < n → way t.mask (hsh P w k) c ∈ t.place.toList) → Q (.free (way t.mask (hsh P w k) n) false) s) : wpAny (model P w) A (setSearch a (.ref x) (hsh P w k) true) Q E s := by
  have rm := R.rm
  obtain ⟨n, h1, h2, h3⟩ := R.tb.first (by rw [hashes_len]; omega) (hsh P w k)
  have hbig : n < 100000 := by
    refine Nat.lt_of_lt_of_le h1 ?_
    unfold SetTable.turns
    rcases R.tb.mok with e | e | e <;> omega
  unfold setSearch
  refine seek R hx hu h1 h2 h3 yes (fun z => no n z h2 h3) 100000 0 none rfl (Nat.zero_le _) (by omega) fun i p hp ek => ?_
  have hi : (hashes P w L)[i]? = some (hsh P w k) := by
    unfold hashes
    rw [List.getElem?_map, hp, ← ek]
    rfl
  have il : i < t.place.toList.length := by
    have z1 := (List.getElem?_eq_some_iff.mp hp).1
    have z2 := R.tb.sz
    rw [hashes_len] at z2
    rw [Array.length_toList]
    omega
  have hj := List.getElem?_eq_getElem il
  obtain ⟨c, hc, e⟩ := R.tb.before h2 hi hj
  exact ⟨c, Nat.zero_le _, hc, by rw [hj, e]⟩
theorem tuK_keep {h h' : Heap} {k : List Key} {b : Addr} (x : TuK P w h k b) (kp : ∀ o, h.get? b = some o → h'.get? b = some o) : TuK P w h' k b :=
  let ⟨o, its, n, ho, r⟩ := x
  ⟨o, its, n, kp o ho, r⟩
theorem tuK_ne {h : Heap} {k : List Key} {b : Addr} {o : Obj} (x : TuK P w h k b) (ho : h.get? a = some o) (hd : o.data = .set es ep t) : b ≠ a := by
  rintro rfl
  obtain ⟨o2, its, n, g1, _, g2, _⟩ := x
  rw [ho] at g1
  cases g1
  rw [hd] at g2
  cases g2
theorem perm_put {α : Type} (l : List α) (p : Nat) (x : α) : (l.take p ++ x :: l.drop p).Perm (x :: l) := by
  have z : (l.take p ++ x :: l.drop p).Perm (x :: (l.take p ++ l.drop p)) := List.perm_middle
  rwa [List.take_append_drop] at z
theorem reorder {order : Array Nat} (h : es.toList = entries P w L) (hp : order.toList.Perm (List.range L.length)) :
    ∃ L2, (order.filterMap (es[·]?)).toList = entries P w L2 ∧ L2.Perm L ∧ hashes P w L2 = order.toList.map fun i => (es.map (·.1)).getD i 0 := by
  have sz := ent_size h
  refine ⟨order.toList.filterMap (fun i => L[i]?), ?_, ?_, ?_⟩
  · rw [Array.toList_filterMap]
    have : ∀ l : List Nat, (∀ i ∈ l, i < L.length) → l.filterMap (fun i => es[i]?) = entries P w (l.filterMap fun i => L[i]?) := fun l => by
      induction l with
      | nil => exact fun _ => rfl
      | cons i l ih =>
        intro hl
        have hi := List.getElem?_eq_getElem (hl i List.mem_cons_self)
        rw [List.filterMap_cons_some (ent_at h hi), List.filterMap_cons_some hi, ih fun j hj => hl j (List.mem_cons_of_mem _ hj)]
        rfl
    exact this _ fun i hi => List.mem_range.mp (hp.mem_iff.mp hi)
  · refine (hp.filterMap _).trans (List.Perm.of_eq ?_)
    have : ∀ n, n ≤ L.length → (List.range n).filterMap (fun i => L[i]?) = L.take n := fun n => by
      induction n with
      | zero => exact fun _ => rfl
      | succ n ih =>
        intro hn
        rw [List.range_succ, List.filterMap_append, ih (by omega), List.take_succ, List.getElem?_eq_getElem (show n < L.length from hn), List.filterMap_cons_some (List.getElem?_eq_getElem (show n < L.length from hn))]
        rfl
    rw [this _ (Nat.le_refl _), List.take_length]
  · have : ∀ l : List Nat, (∀ i ∈ l, i < L.length) → hashes P w (l.filterMap fun i => L[i]?) = l.map fun i => (es.map (·.1)).getD i 0 := fun l => by
      induction l with
      | nil => exact fun _ => rfl
      | cons i l ih =>
        intro hl
        have hi := List.getElem?_eq_getElem (hl i List.mem_cons_self)
        have e5 : (es.map (·.1))[i]? = some (hsh P w (L[i]'(hl i List.mem_cons_self)).2) := by
          rw [Array.getElem?_map, ent_at h hi]
          rfl
        rw [List.filterMap_cons_some hi, List.map_cons, ← ih fun j hj => hl j (List.mem_cons_of_mem _ hj)]
        show hsh P w _ :: hashes P w _ = _
        rw [Array.getD_eq_getD_getElem?, e5]
        rfl
    exact this _ fun i hi => List.mem_range.mp (hp.mem_iff.mp hi)
theorem wider {o : Obj} (ho : s.heap.get? a = some o) (hex : o.ExactSet) (hd : o.data = .set es ep t) (he : es.toList = entries P w L) (hsz : t.place.size = es.size) (hdm : t.dummies = #[]) (hfl : es.size ≤ t.mask)
    (nd : (L.map (·.2)).Nodup) (tu : ∀ p ∈ L, TuK P w s.heap p.2 p.1) (ld : w.params.followText "set-order" = true ∨ t.led = true) (fw : L.length < 64) {wanted M : Nat}
    (hw : SetTable.sizeAbove wanted - 1 = M) (hM : MaskOk M) (hw2 : SetTable.sizeAbove wanted ≤ 128) (hn : L.length * 5 < M * 3) {Q : Unit → Shared → Prop}
    (q : ∀ h' L' es' ep' t', Heap.SameBut a s.heap h' → TSt P w h' a L' es' ep' t' → L'.Perm L → Q () { s with heap := h' }) : wpAny (model P w) A (setRelay a wanted) Q E s := by
  have sl := ent_size he
  obtain ⟨t', order, e, hp, T, em, el, ep', ed⟩ := relaid_ok t (hs := es.map (·.1)) (wanted := wanted) hw hM (by rw [Array.size_map, sl]; omega)
  rw [Array.size_map, sl] at hp
  obtain ⟨L2, r1, r2, r3⟩ := reorder he hp
  rw [← r3] at T
  have s2 : (order.filterMap (es[·]?)).size = es.size := by rw [ent_size r1, r2.length_eq, sl]
  have sb : Heap.SameBut a s.heap (s.heap.update a (Obj.putSet (order.filterMap (es[·]?)) t')) := Heap.SameBut.update ..
  rw [setRelay_eq]
  refine wpAny_bind (wpAny_setState_of ho hd (fits_of hsz hdm hfl) ?_)
  dsimp only
  refine wp_if_neg (by rw [sizeLine_eq]; omega) ?_
  first | refine wpAny_bind (wpAny_pure ?_) | skip
  rw [e]
  dsimp only
  refine wpAny_bind ?_
  refine wp_if_neg (by rw [s2]; simp) ?_
  first | refine wpAny_bind (wpAny_pure ?_) | skip
  refine wpAny_pure ?_
  dsimp only
  refine wpAny_storeSet_of ho hd (q _ L2 _ (ep + 1) t' sb ⟨⟨_, store_at ho hd, ⟨hex.1, hex.2.1, hex.2.2⟩, rfl⟩, r1, T, (r2.map (·.2)).nodup_iff.mpr nd, fun p hm => ?_, by rw [el]; exact ld, by rw [r2.length_eq, em]; exact hn, by rw [r2.length_eq]; exact fw⟩ r2) (by rw [s2, sl, sizeLine_eq]; omega)
  have tp := tu p (r2.mem_iff.mp hm)
  exact tuK_keep tp fun o g => (sb.2 p.1 (tuK_ne tp ho hd)).trans g
theorem put_end (R : TSt P w s.heap a L es ep t) {x : Addr} {k : List Key} {p : Nat} {o : Obj} {t1 : SetTable} (hx : TuK P w s.heap k x) (ho : s.heap.get? a = some o) (hex : o.ExactSet) (hd : o.data = .set es ep t) (hm : k ∉ L.map (·.2)) (fw : L.length + 1 < 64)
    (q3 : TabOk t1 ((hashes P w L).take p ++ hsh P w k :: (hashes P w L).drop p)) (q4 : t1.mask = t.mask) (q5 : t1.led = t.led) (q9 : t1.fill = (hashes P w L).length + 1) {Q : Bool → Shared → Prop}
    (q : ∀ b h' L' es' ep' t', Heap.SameBut a s.heap h' → TSt P w h' a L' es' ep' t' → (k ∈ L.map (·.2) → L' = L) → (k ∉ L.map (·.2) → L'.Perm ((x, k) :: L)) → Q b { s with heap := h' }) :
    wpAny (model P w) A (do
      storeSet a (SetTable.insertAt es p (hsh P w k, Value.ref x)) t1
      if !false && t1.tooFull then setRelay a (SetTable.grown (es.size + 1))
      pure true) Q E s := by
  have sl := ent_size R.es
  have rm := R.rm
  have pm := perm_put L p (x, k)
  have hin : (SetTable.insertAt es p (hsh P w k, Value.ref x)).toList = entries P w (L.take p ++ (x, k) :: L.drop p) := by
    rw [SetTable.toList_insertAt, R.es]
    unfold entries
    rw [List.map_append, List.map_cons, List.map_take, List.map_drop]
  have hhs : (hashes P w L).take p ++ hsh P w k :: (hashes P w L).drop p = hashes P w (L.take p ++ (x, k) :: L.drop p) := by
    unfold hashes
    rw [List.map_append, List.map_cons, List.map_take, List.map_drop]
  rw [hhs] at q3
  rw [hashes_len] at q9
  generalize SetTable.insertAt es p (hsh P w k, Value.ref x) = es1 at hin ⊢
  generalize L.take p ++ (x, k) :: L.drop p = L1 at pm hin q3
  have ll : L1.length = L.length + 1 := pm.length_eq
  have s1 := (ent_size hin).trans ll
  have nd1 : (L1.map (·.2)).Nodup := (pm.map (·.2)).nodup_iff.mpr (List.nodup_cons.mpr ⟨hm, R.nd⟩)
  refine wpAny_bind (wpAny_storeSet_of ho hd ?_ (by rw [s1, sizeLine_eq]; omega))
  have sb : Heap.SameBut a s.heap (s.heap.update a (Obj.putSet es1 t1)) := Heap.SameBut.update ..
  have ho1 := store_at (es' := es1) (t' := t1) ho hd
  generalize s.heap.update a (Obj.putSet es1 t1) = h1 at sb ho1 ⊢
  have tu1 : ∀ p ∈ L1, TuK P w h1 p.2 p.1 := fun p hp => by
    have tp : TuK P w s.heap p.2 p.1 := by
      rcases List.mem_cons.mp (pm.mem_iff.mp hp) with rfl | hp
      · exact hx
      · exact R.tu p hp
    exact tuK_keep tp fun o g => (sb.2 p.1 (tuK_ne tp ho hd)).trans g
  have ld1 : w.params.followText "set-order" = true ∨ t1.led = true := by rw [q5]; exact R.ld
  by_cases hfull : t1.tooFull = true
  · have f1 := hfull
    unfold SetTable.tooFull at f1
    rw [decide_eq_true_eq, q9] at f1
    first | (refine wpAny_bind ?_; refine wp_if_pos (by simp [hfull]) ?_) | (refine wp_if_pos (by simp [hfull]) ?_; refine wpAny_bind ?_)
    rw [sl]
    have z1 : t1.place.size = es1.size := by
      have h := q3.sz
      rw [hashes_len, ll] at h
      rw [h, s1]
    have go : ∀ M, SetTable.sizeAbove (SetTable.grown (L.length + 1)) - 1 = M → MaskOk M → SetTable.sizeAbove (SetTable.grown (L.length + 1)) ≤ 128 → (L.length + 1) * 5 < M * 3 → es1.size ≤ t1.mask →
        wpAny (model P w) A (setRelay a (SetTable.grown (L.length + 1))) (fun _ s' => wpAny (model P w) A (pure true) Q E s') E { s with heap := h1 } := fun M m1 m2 m3 m4 m5 =>
      wider (s := { s with heap := h1 }) ho1 ⟨hex.1, hex.2.1, hex.2.2⟩ rfl hin z1 q3.dm m5 nd1 tu1 ld1 (by rw [ll]; exact fw) m1 m2 m3 (by rw [ll]; exact m4) fun h2 L2 es2 ep2 t2 sb2 R2 pm2 => wpAny_pure (q true h2 L2 es2 ep2 t2 (sb.trans sb2) R2 (fun z => absurd z hm) fun _ => pm2.trans pm)
    rw [q4] at f1 go
    rcases R.tb.mok with e | e | e
    · rw [e] at f1 rm go
      have e2 : L.length = 4 := by omega
      exact go 31 (by rw [e2, size_20]) (.inr (.inl rfl)) (by rw [e2, size_20]; decide) (by omega) (by rw [s1]; omega)
    · rw [e] at f1 rm go
      have e2 : L.length = 18 := by omega
      exact go 127 (by rw [e2, size_76]) (.inr (.inr rfl)) (by rw [e2, size_76]; decide) (by omega) (by rw [s1]; omega)
    · rw [e] at f1
      omega
  · have f1 := hfull
    unfold SetTable.tooFull at f1
    rw [decide_eq_true_eq, q9] at f1
    first | refine wp_if_neg (by simp [hfull]) ?_ | (refine wpAny_bind ?_; refine wp_if_neg (by simp [hfull]) ?_; refine wpAny_pure ?_)
    exact wpAny_pure (q true h1 L1 es1 (ep + 1) t1 sb ⟨⟨_, ho1, ⟨hex.1, hex.2.1, hex.2.2⟩, rfl⟩, hin, q3, nd1, tu1, ld1, by rw [ll]; omega, by rw [ll]; exact fw⟩ (fun z => absurd z hm) fun _ => pm)
theorem put_in (R : TSt P w s.heap a L es ep t) {x : Addr} {k : List Key} (hx : TuK P w s.heap k x) (hu : A.units < cLine) (fw : k ∉ L.map (·.2) → L.length + 1 < 64) {Q : Bool → Shared → Prop}
    (q : ∀ b h' L' es' ep' t', Heap.SameBut a s.heap h' → TSt P w h' a L' es' ep' t' → (k ∈ L.map (·.2) → L' = L) → (k ∉ L.map (·.2) → L'.Perm ((x, k) :: L)) → Q b { s with heap := h' }) : wpAny (model P w) A (setAddHashed a (.ref x) (hsh P w k)) Q E s := by
  obtain ⟨o, ho, hex, hd⟩ := R.ob
  have sl := ent_size R.es
  have rm := R.rm
  unfold setAddHashed
  refine wpAny_holding ?_
  rw [show (100000 : Nat) = 99999 + 1 from rfl, setAddHashedIn_succ]
  refine wpAny_bind (wpAny_setState_of ho hd R.fits ?_)
  dsimp only
  refine wp_if_neg (by simp [byScan, Value.scannable]) ?_
  first | refine wpAny_bind (wpAny_pure ?_) | skip
  refine wpAny_bind (seek_all R hx hu (fun hm => ?_) fun n hm hf hb => ?_)
  · dsimp only
    exact wpAny_pure (q false s.heap L es ep t (Heap.SameBut.refl a s.heap) R (fun _ => rfl) fun z => absurd hm z)
  have fw := fw hm
  dsimp only
  refine wpAny_bind (wpAny_setState_of ho hd R.fits ?_)
  dsimp only
  obtain ⟨q1, q2, q3, q4, q5, q6, q7, q8, q9⟩ := R.tb.put hf hb
  generalize t.put (way t.mask (hsh P w k) n) = pt at q1 q3 q4 q5 q6 q7 q8 q9 ⊢
  obtain ⟨t1, p⟩ := pt
  dsimp only at q1 q3 q4 q5 q6 q7 q8 q9 ⊢
  subst q1
  generalize SetTable.below t.place (way t.mask (hsh P w k) n) = p at q2 q3 ⊢
  have key : ∀ b : Bool, wpAny (model P w) A ((fun byV : Bool => do
      let t2 := if byV then t1 else { t1 with plain := false }
      storeSet a (SetTable.insertAt es p (hsh P w k, Value.ref x)) t2
      if !false && t2.tooFull then setRelay a (SetTable.grown (es.size + 1))
      pure true) b) Q E s := fun b => by
    dsimp only
    have T2 : TabOk (if b = true then t1 else { t1 with plain := false }) ((hashes P w L).take p ++ hsh P w k :: (hashes P w L).drop p) := by
      cases b
      · exact ⟨q3.ris, q3.dm, q3.sz, q3.mok, q3.bd, q3.reach⟩
      · exact q3
    have m2 : (if b = true then t1 else { t1 with plain := false }).mask = t.mask := by cases b <;> exact q4
    have d2 : (if b = true then t1 else { t1 with plain := false }).led = t.led := by cases b <;> exact q5
    have f2 : (if b = true then t1 else { t1 with plain := false }).fill = (hashes P w L).length + 1 := by cases b <;> exact q9
    generalize (if b = true then t1 else { t1 with plain := false }) = t2 at T2 m2 d2 f2 ⊢
    exact put_end R hx ho hex hd hm fw T2 m2 d2 f2 q
  by_cases pl : t1.plain = true
  · first | (refine wpAny_bind ?_; refine wp_if_pos pl ?_; refine tup_by hx fun b => ?_) | refine wp_if_pos pl (wpAny_bind (tup_by hx fun b => ?_))
    exact key b
  · first | (refine wpAny_bind ?_; refine wp_if_neg pl ?_; refine wpAny_pure ?_) | refine wp_if_neg pl (wpAny_bind (wpAny_pure ?_))
    exact key true
end
end RK
namespace RK
open PySem PySem.Spec PyProof.Rows L2
theorem len_sub {α : Type} [DecidableEq α] : ∀ {l U : List α}, l.Nodup → (∀ x ∈ l, x ∈ U) → l.length ≤ U.length
  | [], _, _, _ => Nat.zero_le _
  | x :: l, U, n, h => by
    have n' := List.nodup_cons.mp n
    have hx := h x List.mem_cons_self
    have ih := len_sub (U := U.erase x) n'.2 fun y hy => (List.mem_erase_of_ne fun e : y = x => n'.1 (by rw [← e]; exact hy)).mpr (h y (List.mem_cons_of_mem _ hy))
    rw [List.length_erase_of_mem hx] at ih
    have := List.length_pos_of_mem hx
    rw [List.length_cons]
    omega
structure Met (ks : List Mem) (i : Nat) (L : List Mem) : Prop where
  sub : ∀ p ∈ L, p ∈ ks.take i
  all : ∀ p ∈ ks.take i, p.2 ∈ L.map (·.2)
theorem take_one {α : Type} {l : List α} {i : Nat} {x : α} (h : l[i]? = some x) : l.take (i + 1) = l.take i ++ [x] := by
  rw [List.take_succ, h]
  rfl
theorem Met.old {ks L : List Mem} {i : Nat} {x : Mem} (g : Met ks i L) (h : ks[i]? = some x) (hm : x.2 ∈ L.map (·.2)) : Met ks (i + 1) L := by
  constructor
  · exact fun p hp => by rw [take_one h]; exact List.mem_append_left _ (g.sub p hp)
  · intro p hp
    rw [take_one h] at hp
    rcases List.mem_append.mp hp with z | z
    · exact g.all p z
    · rw [List.mem_singleton.mp z]; exact hm
theorem Met.new {ks L L' : List Mem} {i : Nat} {x : Mem} (g : Met ks i L) (h : ks[i]? = some x) (pm : L'.Perm (x :: L)) : Met ks (i + 1) L' := by
  constructor
  · intro p hp
    rw [take_one h]
    rcases List.mem_cons.mp (pm.mem_iff.mp hp) with e | z
    · exact List.mem_append_right _ (List.mem_singleton.mpr e)
    · exact List.mem_append_left _ (g.sub p z)
  · intro p hp
    rw [(pm.map (·.2)).mem_iff, List.map_cons]
    rw [take_one h] at hp
    rcases List.mem_append.mp hp with z | z
    · exact List.mem_cons_of_mem _ (g.all p z)
    · rw [List.mem_singleton.mp z]; exact List.mem_cons_self
section
variable {P : Program} {w : World} {A : Around} {E : Value → Shared → Prop} {s : Shared}
theorem TSt.keep {h h' : Heap} {a : Addr} {L : List Mem} {es : Array (Int × Value)} {ep : Nat} {t : SetTable} (R : TSt P w h a L es ep t) (ka : ∀ o, h.get? a = some o → h'.get? a = some o) (ht : ∀ p ∈ L, TuK P w h' p.2 p.1) : TSt P w h' a L es ep t :=
  let ⟨o, ho, r⟩ := R.ob
  ⟨⟨o, ka o ho, r⟩, R.es, R.tb, R.nd, ht, R.ld, R.rm, R.fw⟩
theorem tset0 {h : Heap} {a : Addr} (ho : h.get? a = some (newSet (!w.params.followText "set-order"))) : TSt P w h a [] #[] 0 (.fresh 0 0 (!w.params.followText "set-order")) where
  ob := ⟨_, ho, ⟨rfl, rfl, rfl⟩, rfl⟩
  es := rfl
  tb := ⟨List.Pairwise.nil, rfl, rfl, .inl rfl, fun x hx => (nomatch hx), fun i h j hi => by simp [hashes] at hi⟩
  nd := List.nodup_nil
  tu := fun p hp => nomatch hp
  ld := by
    show _ ∨ (!w.params.followText "set-order") = true
    cases w.params.followText "set-order" <;> simp
  rm := by show 0 * 5 < 7 * 3; decide
  fw := by show 0 < 64; decide
theorem tset_go {I S : Addr} {fp wr : List Addr} {G : Array GenState → Array GenState → Prop} {n : Nat} {Pv : Nat → Value → Prop} {St : Nat → Shared → Prop} {R : Result → Shared → Prop} (W : WalksS P w A.in1 I fp wr G n Pv St) (out : S ∉ fp) {ks : List Mem} (hn : n = ks.length) {U : List (List Key)} (hU : ∀ p ∈ ks, p.2 ∈ U) (lU : U.length < 64)
    (hv : ∀ i v, Pv i v → ∃ p, ks[i]? = some p ∧ v = .ref p.1) {h0 : Heap} (hk : ∀ p ∈ ks, TuK P w h0 p.2 p.1) (hS : h0.get? S = none) (hw : ∀ b ∈ wr, h0.get? b = none) (hu : A.in1.units < cLine) :
    ∀ (m i : Nat) (s : Shared), n = i + m → St i s → (∀ b o, h0.get? b = some o → s.heap.get? b = some o) → (∃ L es ep t, TSt P w s.heap S L es ep t ∧ Met ks i L) →
      (∀ z L es ep t, Moved (S :: wr) G s z → TSt P w z.heap S L es ep t → Met ks n L → (∀ b o, h0.get? b = some o → z.heap.get? b = some o) → R (.ok (.ret .none)) z) → codeAny (model P w) A (.builtin "set.update.loop" ⟨[.ref S, .ref I], []⟩) R s := by
  have nw : S ∉ wr := fun z => out (W.sub _ z)
  have up : ∀ b ∈ wr, b ∈ S :: wr := fun b z => List.mem_cons_of_mem _ z
  have mk : ∀ {s z : Shared}, Moved wr G s z → (∀ b o, h0.get? b = some o → s.heap.get? b = some o) → ∀ b o, h0.get? b = some o → z.heap.get? b = some o := fun mv k b o e => mv.heap b o (fun hb => by rw [hw b hb] at e; cases e) (k b o e)
  intro m
  induction m with
  | zero =>
    intro i s e st k0 ⟨L, es, ep, t, T, g⟩ fin
    obtain rfl : n = i := by omega
    refine codeAny_builtin (by exact F.entry_set_update_loop) ?_
    rw [Around.under_plainId (by exact F.plain_set_update_loop)]
    refine wpAny_bind (W.done s _ _ st fun z mv => wpAny_pure ?_)
    have k1 := mk mv k0
    exact fin z L es ep t (mv.mono up) (T.keep (fun o ho => mv.heap S _ nw ho) fun p hp => tuK_keep (hk p (List.mem_of_mem_take (g.sub p hp))) (k1 p.1)) g k1
  | succ m go =>
    intro i s e st k0 ⟨L, es, ep, t, T, g⟩ fin
    refine codeAny_builtin (by exact F.entry_set_update_loop) ?_
    rw [Around.under_plainId (by exact F.plain_set_update_loop)]
    refine wpAny_bind (W.item i s _ _ (by omega) st fun v z hP st2 mv => ?_)
    obtain ⟨p, hp, rfl⟩ := hv i v hP
    have pm := List.mem_of_getElem? hp
    have k1 := mk mv k0
    have T1 : TSt P w z.heap S L es ep t := T.keep (fun o ho => mv.heap S _ nw ho) fun q hq => tuK_keep (hk q (List.mem_of_mem_take (g.sub q hq))) (k1 q.1)
    have hx : TuK P w z.heap p.2 p.1 := tuK_keep (hk p pm) (k1 p.1)
    have few : p.2 ∉ L.map (·.2) → L.length + 1 < 64 := fun hm => by
      have := len_sub (l := p.2 :: L.map (·.2)) (U := U) (List.nodup_cons.mpr ⟨hm, T.nd⟩) fun y hy => by
        rcases List.mem_cons.mp hy with rfl | hy
        · exact hU p pm
        · obtain ⟨q, hq, rfl⟩ := List.mem_map.mp hy
          exact hU q (List.mem_of_mem_take (g.sub q hq))
      rw [List.length_cons, List.length_map] at this
      omega
    refine wpAny_bind (wpAny_holding ?_)
    unfold setAdd
    refine wpAny_holding (wpAny_bind (wpAny_pyHash_tuple hu hx ?_))
    refine put_in (s := { z with toks := z.toks + (p.2.length + 1) }) T1 hx hu few fun b g1 L' es' ep' t' sb T2 c1 c2 => ?_
    have g' : Met ks (i + 1) L' := by
      by_cases c : p.2 ∈ L.map (·.2)
      · rw [c1 c]; exact g.old hp c
      · exact g.new hp (c2 c)
    have k2 : ∀ b o, h0.get? b = some o → g1.get? b = some o := fun b o e => (sb.2 b fun z => by rw [z, hS] at e; cases e).trans (k1 b o e)
    refine wpAny_pure ⟨plainId_quiet (by exact F.plain_set_update_loop) _, go (i + 1) _ (by omega) (W.frame _ z _ _ st2 (Nat.le_add_right _ _) fun b hb o eb => ?_) k2 ⟨L', es', ep', t', T2, g'⟩ fun y L2 es2 ep2 t2 my T3 g3 k3 => fin y L2 es2 ep2 t2 ?_ T3 g3 k3⟩
    · rw [sb.2 b fun x => out (x ▸ hb)]; exact eb
    · refine Moved.trans W.gtrans ((mv.mono up).then_heap (Nat.le_add_right _ _) fun b o hb eb => ?_) my
      rw [sb.2 b fun x => hb (x ▸ List.mem_cons_self)]; exact eb
theorem set_madeL {x : Value} {Q : Value → Shared → Prop} (K : Shared → Prop) (fin : ∀ z, K z → Q (.ref s.heap.objs.size) z)
    (go : wpAny (model P w) A.in1.in1 (Builtin.«set.__init__» ⟨[.ref s.heap.objs.size, x], []⟩) (fun f z => match f with | .done f => wants (fun r y => r = Value.none ∧ K y) E (.ok f) z | .again c => c.quiet = true ∧ codeAny (model P w) A.in1 c (wants (fun r y => r = Value.none ∧ K y) E) z) (fun e z => wants (fun r y => r = Value.none ∧ K y) E (.error e) z) { s with heap := s.heap.push (newSet (!w.params.followText "set-order")) }) :
    wpAny (model P w) A (call (.type "set") [x]) Q E s := by
  have a1 := PySem.F.called_set.made
  have a2 := PySem.F.called_set.sub
  obtain ⟨c, tl, a3⟩ := PySem.F.called_set.mro
  refine wpAny_call (codeAny_of_tree (wpAny_pure ⟨Code.quiet_builtin _ (by decide +kernel), codeAny_builtin (by exact PySem.F.entry_type_call) ?_⟩))
  rw [Around.under_plain (weight_type_call_type "set" [x] []) rfl]
  have a4 := PySem.F.called_set.notType
  have a5 := PySem.F.called_set.canCreate
  have a6 := PySem.F.typeCall_set_1 x
  repeat (any_goals (first | assumption | wp_step))
  refine codeAny_mono (code_set_led1 x (E := E) (Q₁ := fun v z => v = .ref s.heap.objs.size ∧ z = { s with heap := s.heap.push (newSet (!w.params.followText "set-order")) }) ⟨rfl, rfl⟩) fun r z hr => ?_
  cases r with
  | error e => exact hr
  | ok f =>
    cases f with
    | ret v =>
      obtain ⟨rfl, rfl⟩ := hr
      have b1 : (s.heap.push (newSet (!w.params.followText "set-order"))).get? s.heap.objs.size = some (newSet (!w.params.followText "set-order")) := Heap.get?_push_size _ rfl
      have b2 : Shared.TypeIs { s with heap := s.heap.push (newSet (!w.params.followText "set-order")) } (.ref s.heap.objs.size) "set" := ⟨_, b1, rfl⟩
      have b3 := PySem.F.called_set.init.lookup
      have b4 := PySem.F.called_set.init.bind (.ref s.heap.objs.size)
      repeat (any_goals (first | assumption | wp_step))
      refine codeAny_mono (codeAny_call_builtin (R := wants (fun r y => r = .none ∧ K y) E) PySem.F.called_set.init.plain PySem.F.entry_set_init (check_set_init_1 b2 go)) fun r y hy => ?_
      cases r with
      | error e => exact hy
      | ok f =>
        cases f with
        | ret v =>
          obtain ⟨rfl, ky⟩ := hy
          repeat (any_goals (first | assumption | wp_step))
          exact fin _ ky
        | _ => exact hy.elim
    | _ => exact hr.elim
def TMade (P : Program) (w : World) (s : Shared) (ks : List Mem) (z : Shared) : Prop :=
  ∃ g tk L es ep t, z = { s with heap := g, toks := tk } ∧ TSt P w g s.heap.objs.size L es ep t ∧ Met ks ks.length L ∧ ∀ b o, s.heap.get? b = some o → g.get? b = some o
theorem set_tups {l : Addr} {items : Array Value} {ks : List Mem} {U : List (List Key)} {Q : Value → Shared → Prop} (hh : A.handled = none) (hl : s.heap.IsList l items) (hi : items.toList = ks.map fun p => Value.ref p.1) (hk : ∀ p ∈ ks, TuK P w s.heap p.2 p.1) (hU : ∀ p ∈ ks, p.2 ∈ U) (lU : U.length < 64) (hu : A.units + 3 < cLine)
    (h : ∀ z, TMade P w s ks z → Q (.ref s.heap.objs.size) z) : wpAny (model P w) A (call (.type "set") [.ref l]) Q E s := by
  have sz : items.size = ks.length := by
    have q := congrArg List.length hi
    rwa [Array.length_toList, List.length_map] at q
  have fresh : ∀ b, s.heap.objs.size ≤ b → s.heap.get? b = none := fun b hb => by
    cases q : s.heap.get? b with
    | none => rfl
    | some o => exact absurd (Nat.lt_of_lt_of_le (Heap.lt_size q) hb) (Nat.lt_irrefl _)
  have val : ∀ (i : Nat) (v : Value), items[i]? = some v → ∃ p, ks[i]? = some p ∧ v = .ref p.1 := fun i v hv => by
    have q : items.toList[i]? = some v := by rw [Array.getElem?_toList]; exact hv
    rw [hi, List.getElem?_map] at q
    obtain ⟨p, e1, e2⟩ := Option.map_eq_some_iff.mp q
    exact ⟨p, e1, e2.symm⟩
  refine set_madeL (TMade P w s ks) h ?_
  obtain ⟨⟨k1, k2, k3, k4⟩, c1, c2, c4, c5⟩ := hl
  simp only at c2 c5
  subst c2 c5
  have d1 : (s.heap.push (newSet (!w.params.followText "set-order"))).get? l = some { cls := .type "list", dict := k2, data := .seq items c4, slots := k4 } := Heap.get?_push_of_some _ c1
  have d2 := PySem.F.sub_list_set
  have d3 := PySem.F.sub_list_frozenset
  have d4 : (Value.type "list" == Value.type "dict") = false := by decide
  have d5 : (s.heap.push (newSet (!w.params.followText "set-order"))).IsList l items := ⟨_, d1, rfl, c4, rfl⟩
  unfold Builtin.«set.__init__» noKeywords Builtin.Frozenset.updateFrom
  generalize hPI : pyIter = PI
  wp_walk
  subst hPI
  have lt : l < s.heap.objs.size := Heap.lt_size c1
  refine wpAny_pyIter_list d5 (wpAny_bind (wpAny_runValue (tset_go (ks := ks) (U := U) (h0 := s.heap) ((Walks.list (by simp [hh]) _ l (by rw [Heap.size_push]; exact Nat.ne_of_lt (Nat.lt_succ_of_lt lt)) items).toS) (apart _ lt) sz hU lU val hk (fresh _ (Nat.le_refl _)) (fun b hb => fresh b (by rw [List.mem_singleton.mp hb, Heap.size_push]; exact Nat.le_succ _)) hu items.size 0 _ (by omega) ⟨⟨_, Heap.get?_push_size _ rfl, rfl, rfl⟩, d5.push _⟩ (fun b o e => Heap.get?_push_of_some _ (Heap.get?_push_of_some _ e)) ⟨[], #[], 0, _, tset0 (Heap.get?_push_of_some _ (Heap.get?_push_size _ rfl)), ⟨fun p h => (nomatch h), fun p h => by simp at h⟩⟩ fun z L es ep t mv T g k => ?_)))
  obtain ⟨g1, a, b, c, d⟩ := z
  obtain rfl : a = s.gens := mv.gens
  obtain rfl : b = s.drawn := mv.drawn
  obtain rfl : d = s.os := mv.os
  rw [sz] at g
  exact wpAny_pure (wpAny_pure ⟨rfl, g1, c, L, es, ep, t, rfl, T, g, k⟩)
def kP : Key → PyData
  | .inl i => .int i
  | .inr x => .str x
def encT (k : List Key) : PyData := .tuple (k.map kP)
theorem reads_items {h : Heap} {k : List Key} {vs : List Value} (e : ItemsAre (mixKind P w) k vs) : ∃ as, ReadsAll h vs (k.map kP) as ∧ as = [] := by
  induction e with
  | nil => exact ⟨_, .nil, rfl⟩
  | cons h1 _ ih =>
    obtain ⟨as, r, rfl⟩ := ih
    rcases keyIs_shape h1 with ⟨i, t, rfl, rfl⟩ | ⟨x, t, rfl, rfl⟩
    · exact ⟨_, .cons (.int i t) r, rfl⟩
    · exact ⟨_, .cons (.str x t) r, rfl⟩
theorem reads_tup {h : Heap} {k : List Key} {b : Addr} (x : TuK P w h k b) : ∃ as, Reads h (.ref b) (encT k) as ∧ as = [] := by
  obtain ⟨o, its, n, ho, hc, hd, hi⟩ := x
  obtain ⟨as, r, rfl⟩ := reads_items (h := h) hi
  exact ⟨_, .tuple ho hc hd r, rfl⟩
theorem depth_tup (k : List Key) : (encT k).depth ≤ 1 := by
  have : PyData.depthAll (k.map kP) = 0 := by
    induction k with
    | nil => rfl
    | cons x k ih => cases x <;> simp [kP, PyData.depthAll, PyData.depth, ih]
  simp [encT, PyData.depth, this]
theorem refs_perm {L : List Mem} : ∀ {vs : List Value}, vs.Perm (L.map fun p => Value.ref p.1) → ∃ L1 : List Mem, vs = L1.map (fun p => Value.ref p.1) ∧ L1.Perm L := by
  intro vs h
  induction L generalizing vs with
  | nil => exact ⟨[], List.Perm.eq_nil h, .nil⟩
  | cons p L ih =>
    have hm : Value.ref p.1 ∈ vs := h.mem_iff.mpr List.mem_cons_self
    obtain ⟨a, b, rfl⟩ := List.append_of_mem hm
    have h2 : (a ++ b).Perm (L.map fun p => Value.ref p.1) := List.Perm.cons_inv ((List.perm_middle.symm).trans h)
    obtain ⟨L1, e, p1⟩ := ih h2
    obtain ⟨A1, B1, rfl, ea, eb⟩ := List.map_eq_append_iff.mp e.symm
    refine ⟨A1 ++ p :: B1, ?_, List.perm_middle.trans (p1.cons p)⟩
    rw [List.map_append, List.map_cons, ea, eb]
theorem each_refs (L : List Mem) : PySem.W.EachIs (fun (v : Value) (p : Mem) => v = .ref p.1) (L.map fun p => Value.ref p.1) L := by
  induction L with
  | nil => exact .nil
  | cons p L ih => exact .cons rfl ih
theorem of_refs {vs : List Value} {L : List Mem} (h : PySem.W.EachIs (fun (v : Value) (p : Mem) => v = .ref p.1) vs L) : vs = L.map fun p => Value.ref p.1 := by
  induction h with
  | nil => rfl
  | cons h _ ih => rw [h, ih]; rfl
theorem sorted_tset {a : Addr} {L : List Mem} {es : Array (Int × Value)} {ep : Nat} {t : SetTable} {Q : Value → Shared → Prop} (R : TSt P w s.heap a L es ep t) (hh : A.handled = none) (hu : A.units + 8 < cLine) (al : ∀ p ∈ L, ∀ q ∈ L, PySem.W.alike (encT p.2) (encT q.2) = true) (ne : ∀ p ∈ L, p.2 ≠ [])
    (hQ : ∀ s' b c (L' : List Mem), (∀ x o, s.heap.get? x = some o → s'.heap.get? x = some o) → s'.gens = s.gens → s'.os = s.os → s.heap.objs.size ≤ b → s'.heap.get? b = some (seqObj "list" (L'.map fun p => Value.ref p.1).toArray c) → L'.Perm L → L'.Pairwise (fun p q => PySem.W.dataLe false (fun p : Mem => encT p.2) p q = true) → Q (.ref b) s') :
    wpAny (model P w) A (call (.builtin "sorted") [.ref a]) Q E s := by
  obtain ⟨o, ho, hex, hd⟩ := R.ob
  have fw := R.fw
  refine Calls.call_function_entry kind_sorted plain_sorted entry_sorted (args_sorted1 _) ?_
  unfold Builtin.«sorted»
  refine wpAny_bind (m := checkCount "sorted" 1 1 _) (wpAny_pure ?_)
  refine wpAny_bind (collect_set (A := A.in1) hh ⟨o, ho, hex.1, hd⟩ R.fits (by rw [ent_size R.es]; unfold scanBound; omega) R.tb.ris R.ld fun s1 vs k1 hz g1 o1 pm => ?_)
  rw [R.es, show (entries P w L).map (·.2) = L.map (fun p => Value.ref p.1) by unfold entries; rw [List.map_map]; rfl] at pm
  obtain ⟨L1, rfl, p1⟩ := refs_perm pm
  have l1 : L1.length = L.length := p1.length_eq
  refine wpAny_bind (wpAny_newList ?_ (by rw [List.length_map, sizeLine_eq]; omega))
  have hoL : (s1.heap.push (seqObj "list" (L1.map fun p => Value.ref p.1).toArray 0)).get? s1.heap.objs.size = some (seqObj "list" (L1.map fun p => Value.ref p.1).toArray 0) := Heap.get?_push_size _ rfl
  have tu : ∀ p ∈ L1, TuK P w (s1.heap.push (seqObj "list" (L1.map fun p => Value.ref p.1).toArray 0)) p.2 p.1 := fun p hp => tuK_keep (R.tu p (p1.mem_iff.mp hp)) fun u e => Heap.get?_push_of_some _ (k1 p.1 u e)
  have er : PySem.W.EachIs (fun v (p : Mem) => ∃ as, Reads (s1.heap.push (seqObj "list" (L1.map fun p => Value.ref p.1).toArray 0)) v (encT p.2) as ∧ s1.heap.objs.size ∉ as) (L1.map fun p => Value.ref p.1) L1 := by
    have : ∀ l : List Mem, (∀ p ∈ l, p ∈ L1) → PySem.W.EachIs (fun v (p : Mem) => ∃ as, Reads (s1.heap.push (seqObj "list" (L1.map fun p => Value.ref p.1).toArray 0)) v (encT p.2) as ∧ s1.heap.objs.size ∉ as) (l.map fun p => Value.ref p.1) l := fun l => by
      induction l with
      | nil => exact fun _ => .nil
      | cons p l ih =>
        intro hl
        obtain ⟨as, r, rfl⟩ := reads_tup (tu p (hl p List.mem_cons_self))
        exact .cons ⟨_, r, fun z => nomatch z⟩ (ih fun q hq => hl q (List.mem_cons_of_mem _ hq))
    exact this L1 fun _ h => h
  refine wpAny_bind (wpAny_holding (PySem.W.list_sort_data (s := { s1 with heap := s1.heap.push (seqObj "list" (L1.map fun p => Value.ref p.1).toArray 0) }) (enc := fun p : Mem => encT p.2) hoL (each_refs L1) er (fun d hd d' hd' => ?_) (.inl fun d hd => ?_) (by rw [l1, sizeLine_eq]; omega) (fun p hp => ?_) fun out lo eo => ?_))
  · obtain ⟨p, hp, rfl⟩ := List.mem_map.mp hd
    obtain ⟨q, hq, rfl⟩ := List.mem_map.mp hd'
    exact al p (p1.mem_iff.mp hp) q (p1.mem_iff.mp hq)
  · obtain ⟨p, hp, rfl⟩ := List.mem_map.mp hd
    have := ne p (p1.mem_iff.mp hp)
    unfold encT
    cases hk : p.2 with
    | nil => exact absurd hk this
    | cons x r => exact ⟨_, _, rfl⟩
  · have := depth_tup p.2
    have hin : A.in1.units ≤ A.units + 1 := by first | exact Nat.le_refl _ | simp [Around.in1]
    omega
  obtain rfl := of_refs eo
  obtain ⟨c, hc⟩ := sortedHeap_at (vs := L1.map fun p => Value.ref p.1) (out := ((L1.mergeSort (PySem.W.dataLe false fun p : Mem => encT p.2)).map fun p => Value.ref p.1).toArray) hoL
  have T : PySem.W.TotalLe (PySem.W.dataLe false fun p : Mem => encT p.2) := PySem.W.sortLe_total _ false _
  refine wpAny_pure ⟨_, rfl, hQ _ s1.heap.objs.size c (L1.mergeSort (PySem.W.dataLe false fun p : Mem => encT p.2)) (fun b u e => ?_) g1 o1 hz hc ((List.mergeSort_perm _ _).trans p1) (List.pairwise_mergeSort (fun a b c => T.trans a b c) (fun a b => by have := T.total a b; simpa using this) L1)⟩
  have q := k1 b u e
  have hlt := Heap.lt_size q
  show (sortedHeap (s1.heap.push _) s1.heap.objs.size _ _).get? b = some u
  rw [sortedHeap_old (Nat.ne_of_lt hlt) (by rw [size_push']; exact Nat.lt_succ_of_lt hlt)]
  exact Heap.get?_push_of_some _ q
end
def tSoSet (K : PySem.W.Frag) (ta : TE) : TE := fun σ H Q => ta σ H fun x H1 => ∃ (l : Addr) (ks : List Mem) (U : List (List Key)), x = .ref l ∧ SqL K H1 l (ks.map fun p => V.ref p.1) ∧ (∀ p ∈ ks, SqT K H1 p.1 (p.2.map kV)) ∧ (∀ p ∈ ks, p.2 ∈ U) ∧ U.length < 64 ∧
  (∀ p ∈ ks, ∀ q ∈ ks, PySem.W.alike (encT p.2) (encT q.2) = true) ∧ (∀ p ∈ ks, p.2 ≠ []) ∧
  ∀ (L : List Mem) (b : Addr), (∀ p ∈ L, p ∈ ks) → (∀ p ∈ ks, p.2 ∈ L.map (·.2)) → (L.map (·.2)).Nodup → L.Pairwise (fun p q => PySem.W.dataLe false (fun p : Mem => encT p.2) p q = true) → H1 b = none → Q (.ref b) (upd H1 b (.lst (L.map fun p => V.ref p.1)))
theorem refs_vals : ∀ {ks : List Mem} {us : List Value}, Vals (ks.map fun p => V.ref p.1) us → us = ks.map fun p => Value.ref p.1
  | [], _, h => by
    have h : Vals [] _ := h
    cases h
    rfl
  | p :: ks, _, h => by
    have h : Vals (V.ref p.1 :: ks.map fun p => V.ref p.1) _ := h
    cases h with
    | cons r t =>
      obtain rfl := (show _ = Value.ref p.1 from r)
      rw [refs_vals t]
      rfl
theorem vals_refs : ∀ (ks : List Mem), Vals (ks.map fun p => V.ref p.1) (ks.map fun p => Value.ref p.1)
  | [] => .nil
  | _ :: ks => .cons rfl (vals_refs ks)
theorem items_keys {P : Program} {w : World} : ∀ {k : List Key} {us : List Value}, Vals (k.map kV) us → ItemsAre (mixKind P w) k us
  | [], _, h => by
    have h : Vals [] _ := h
    cases h
    exact .nil
  | x :: k, _, h => by
    have h : Vals (kV x :: k.map kV) _ := h
    cases h with
    | cons r t => exact .cons (kV_is r) (items_keys t)
theorem inv_tuK {X : Cx} {pins : List (Addr × Obj)} {σ : L2.St} {H : Hp} {s : Shared} {b : Addr} {k : List Key} (I : Inv X pins σ H s) (h : SqT X.K H b (k.map kV)) : TuK X.prog X.w s.heap k b := by
  obtain ⟨its, r, ⟨o, g1, g2, n, g3⟩, _⟩ := I.tuple h
  exact ⟨o, its.toArray, n, g1, g2, g3, by simpa using items_keys r⟩
theorem pe_soSet {X : Cx} {a : Expr} {ta : TE} {p p2 q pos : Pos} {k : Nat} (hr : Room k X.A) (calm : X.calm = true) (hg : Gl X "sorted") (hm : X.mg "sorted" = none) (hg2 : Gl X "set") (hm2 : X.mg "set" = none) (ha : PE X a ta) (na : starEach [a] X.env = (false, eval a X.env) :: starEach [] X.env := by rfl) :
    PE X (.Call (.Name "sorted" p) [.Call (.Name "set" p2) [a] [] q] [] pos) (tSoSet X.K ta) := by
  refine ⟨fun pins s σ H Q I h => ?_⟩
  refine Call_ (ld_blt I hg hm boot_sorted (PyProof.Rows.callWith_builtin1 (PyProof.Rows.args_cons ?_ rfl) rfl rfl))
  refine Call_ (ld_blt I hg2 hm2 boot_set (PyProof.Rows.callWith_type1 (PyProof.Rows.args_cons (thn (ha.run pins s σ H _ I h) fun v s1 ⟨x, H1, I1, r1, l, ks, U, ex, hq, ht, hU, lU, al, ne, fin⟩ => PyProof.Rows.args_nil ?_) na) na rfl))
  subst ex
  cases r1
  have u := hr.units
  obtain ⟨its, r, pl, hz⟩ := I1.list hq
  refine set_tups (ks := ks) (U := U) (I1.ok.hd calm) pl.isList (by simpa using refs_vals r) (fun p hp => inv_tuK I1 (ht p hp)) hU lU (by omega) fun z ⟨g, tk, L, es, ep, t, ez, T, mt, kp⟩ => PyProof.Rows.args_nil ?_
  subst ez
  have I2 : Inv X pins σ H1 { s1 with heap := g, toks := tk } := I1.kept kp
  have sub : ∀ p ∈ L, p ∈ ks := fun p hp => List.mem_of_mem_take (mt.sub p hp)
  refine sorted_tset (s := { s1 with heap := g, toks := tk }) T (I1.ok.hd calm) (by omega) (fun p hp q hq => al p (sub p hp) q (sub q hq)) (fun p hp => ne p (sub p hp)) fun s' b c L' kk hg' ho hb hl pm pw => ?_
  have nb : H1 b = none := I2.hok.fresh hb
  have fw := T.fw
  have sz : (L'.map fun p => V.ref p.1).length ≤ sizeLine := by rw [List.length_map, pm.length_eq, sizeLine_eq]; omega
  have J : Inv X pins σ (upd H1 b (.lst (L'.map fun p => V.ref p.1))) s' := I2.call' (ch := []) ho (Un.laid kk hb nb) (I2.hok.laid kk hb ⟨sz, _, c, vals_refs L', hl⟩) (by rw [hg']; exact I2.bare) (fun _ z => nomatch z)
  refine ⟨.ref b, _, J, rfl, fin L' b (fun p hp => sub p (pm.mem_iff.mp hp)) (fun p hp => ?_) ((pm.map (·.2)).nodup_iff.mpr T.nd) pw nb⟩
  rw [(pm.map (·.2)).mem_iff]
  exact mt.all p (by rw [List.take_length]; exact hp)
end RK
namespace DL
open PySem PySem.Spec PyProof.Rows L2 RK
def tkD (k : List Key) : D := .tup (k.map kdD)
def LeT (a b : List Key) : Prop := PySem.W.dataLe false encT a b = true
def dSoSet (d : TDE) : TDE := fun env P => d env fun x => match x with
  | .lst xs => ∃ (kss U : List (List Key)), xs = kss.map tkD ∧ (∀ k ∈ kss, k ≠ []) ∧ (∀ k ∈ kss, ∀ j ∈ kss, PySem.W.alike (encT k) (encT j) = true) ∧ (∀ k ∈ kss, k ∈ U) ∧ U.length < 64 ∧ ∀ ys : List (List Key), ys.Nodup → (∀ k, k ∈ ys ↔ k ∈ kss) → ys.Pairwise LeT → P (.lst (ys.map tkD))
  | _ => False
section
variable {X : Cx} {F : Fx} {e : Expr} {d : TDE} {pos p : Pos}
theorem key_vals {K : PySem.W.Frag} {N : Addr → Prop} {W : Wd} {H : Hp} : ∀ {k : List Key} {us : List V}, DdAll K N W H us (k.map kdD) → us = k.map kV
  | [], _, h => by
    have h : DdAll K N W H _ [] := h
    cases h
    rfl
  | x :: k, _, h => by
    have h : DdAll K N W H _ (kdD x :: k.map kdD) := h
    cases h with
    | cons h t =>
      rw [key_vals t]
      cases x with
      | inl i => cases h; rfl
      | inr y => cases h; rfl
theorem mems_of {K : PySem.W.Frag} {N : Addr → Prop} {W : Wd} {H : Hp} : ∀ {kss : List (List Key)} {vs : List V}, DdAll K N W H vs (kss.map tkD) → ∃ ks : List Mem, vs = (ks.map fun p => V.ref p.1) ∧ kss = ks.map (·.2) ∧ ∀ p ∈ ks, SqT K H p.1 (p.2.map kV) ∧ Dd K N W H (.ref p.1) (tkD p.2)
  | [], _, h => by
    have h : DdAll K N W H _ [] := h
    cases h
    exact ⟨[], rfl, rfl, fun _ h => nomatch h⟩
  | k :: kss, _, h => by
    have h : DdAll K N W H _ (tkD k :: kss.map tkD) := h
    cases h with
    | cons h0 t =>
      obtain ⟨ks, rfl, rfl, al⟩ := mems_of t
      obtain ⟨b, us, rfl, g1, g2, g3⟩ := dd_tupE h0
      rw [key_vals g3] at g1
      refine ⟨(b, k) :: ks, rfl, rfl, fun p hp => ?_⟩
      rcases List.mem_cons.mp hp with rfl | hp
      · exact ⟨SqT.of g1, h0⟩
      · exact al p hp
theorem dds_of {K : PySem.W.Frag} {N : Addr → Prop} {W : Wd} {H : Hp} : ∀ {L : List Mem}, (∀ p ∈ L, Dd K N W H (.ref p.1) (tkD p.2)) → DdAll K N W H (L.map fun p => V.ref p.1) ((L.map (·.2)).map tkD)
  | [], _ => .nil
  | _ :: _, h => .cons (h _ List.mem_cons_self) (dds_of fun q hq => h q (List.mem_cons_of_mem _ hq))
theorem pws {M : List Mem} (h : M.Pairwise (fun p q => PySem.W.dataLe false (fun p : Mem => encT p.2) p q = true)) : (M.map (·.2)).Pairwise LeT := List.pairwise_map.mpr h
theorem dn_soSet {k : Nat} {p2 q : Pos} (hr : Room k X.A) (hg : Gl X "sorted") (hm : X.mg "sorted" = none) (hg2 : Gl X "set") (hm2 : X.mg "set" = none) (ha : PE X e (lB F d)) (hc : X.calm = true := by rfl) (he : starEach [e] X.env = (false, eval e X.env) :: starEach [] X.env := by rfl) (hK : F.K = X.K := by rfl) :
    PE X (.Call (.Name "sorted" p) [.Call (.Name "set" p2) [e] [] q] [] pos) (lN F (dSoSet d)) := PE.mono (pe_soSet hr hc hg hm hg2 hm2 ha he) fun σ H Q ⟨env, L, P, A, pp, q⟩ =>
  ⟨env, L, _, A, pp, fun x v H1 px k1 o1 b1 => by
    have A1 := A.step k1 o1
    cases x with
    | lst xs =>
      obtain ⟨kss, U, rfl, ne, al, hU, lU, px⟩ := px
      obtain ⟨a, vs, rfl, h1, h2⟩ := bw_lst b1
      obtain ⟨ks, rfl, rfl, h3⟩ := mems_of h2
      have m2 : ∀ p ∈ ks, p.2 ∈ ks.map (·.2) := fun p hp => List.mem_map.mpr ⟨p, hp, rfl⟩
      refine ⟨a, ks, U, rfl, hK ▸ SqL.of h1, fun p hp => hK ▸ (h3 p hp).1, fun p hp => hU _ (m2 p hp), lU, fun p hp q hq => al _ (m2 p hp) _ (m2 q hq), fun p hp => ne _ (m2 p hp), fun M b sub all nd pw hb => q _ _ _ (px (M.map (·.2)) nd (fun k => ⟨fun hk => ?_, fun hk => ?_⟩) (pws pw)) (k1.trans (.new hb)) (ok_new o1 hb) (free_of k1 o1 hb) (new_lstN A1 hb (dds_of fun p hp => (h3 p (sub p hp)).2))⟩
      · obtain ⟨p, hp, rfl⟩ := List.mem_map.mp hk
        exact m2 p (sub p hp)
      · obtain ⟨p, hp, rfl⟩ := List.mem_map.mp hk
        exact all p hp
    | _ => exact px.elim⟩
end
end DL
namespace DL
open PySem PySem.Spec PyProof.Rows L2 RK
section
variable {F : Fx} {da db : TDE} {i j : Nat} {K : PySem.W.Frag}
end
end DL
namespace DL
open PySem PySem.Spec PyProof.Rows L2 RK
section
variable {X : Cx} {F : Fx} {c : Expr} {pos : Pos} {i j : Nat} {sa rest : List Stmt} {r r2 : TDS} {t : TDT}
end
end DL
namespace DL
open PySem PySem.Spec PyProof.Rows L2 RK
section
variable {X : Cx} {F : Fx} {a b c : Expr} {d da db dc : TDE} {pos p : Pos} {kk : Nat}
theorem dj_tup3 (ha : PE X a (lC F da)) (hb : PE X b (lN F d)) (hc : PE X c (lC F dc)) (h1 : starEach [a, b, c] X.env = (false, eval a X.env) :: starEach [b, c] X.env := by rfl) (h2 : starEach [b, c] X.env = (false, eval b X.env) :: starEach [c] X.env := by rfl)
    (h3 : starEach [c] X.env = (false, eval c X.env) :: starEach [] X.env := by rfl) : PE X (.Tuple [a, b, c] kk pos) (lJ F 1 (dTup (aCons da (aCons d (aCons dc aNil))))) :=
  PE.mono (pe_tup (pa_cons ha (pa_cons hb (pa_cons hc pa_nil h3) h2) h1)) fun σ H Q ⟨env, L, P, A, pp, q⟩ => ⟨env, L, _, A, pp, fun x v H1 px k1 o1 d1 => ⟨env, L, _, A.step k1 o1, px, fun l cc H2 pl k2 o2 n2 nv => by
    have A1 := A.step k1 o1
    have A2 := A1.step k2 o2
    refine ⟨env, L, _, A2, pl, fun z u H3 pz k3 o3 d3 => ⟨pz.1, fun t ht => ?_⟩⟩
    have d2 := nv.dd (A1.new n2)
    refine q _ _ _ pz.2 (((k1.trans k2).trans k3).trans (.new ht)) (ok_new o3 ht) (new_tup (A2.step k3 o3) ht (.cons (A2.kd k3 (A1.kd k2 d1)) (.cons (A2.kd k3 d2) (.cons d3 .nil)))) fun xs ys e1 e2 => ?_
    cases e1
    cases e2
    obtain ⟨us, u1, _⟩ := nv
    have nw : ¬ F.W.own cc := fun w => A1.new n2 (.inl (A1.wn cc w))
    have u3 : H3 cc = some (.lst us) := k3 cc _ nw u1
    exact ⟨t, _, cc, us, rfl, upd_same, rfl, free_of k1 o1 n2, by rw [upd_ne (ne_of_none u3 ht)]; exact u3⟩⟩⟩
end
end DL
namespace DL
open PySem PySem.Spec PyProof.Rows L2 RK
section
variable {F : Fx} {da db dx dy : TDE} {i : Nat}
variable {j : Nat} {K : PySem.W.Frag}
end
end DL
namespace DL
open PySem PySem.Spec PyProof.Rows L2 RK
section
variable {X : Cx} {F : Fx} {e : Expr} {d : TDE} {pos p : Pos}
def rReprN (K : PySem.W.Frag) : List V → Hp → VK → Prop := fun xs H Q => (xs = [V.non] ∧ Q (.str "None") H) ∨ rRepr K xs H Q
theorem call_reprN (hg : X.A.guards = some []) (hu : X.A.units + 64 < cLine) : CallR X (.builtin "repr") (rReprN X.K) := by
  intro pins s σ H xs us Q I r h
  rcases h with ⟨rfl, q⟩ | h
  · obtain ⟨u, rfl, rx⟩ := vals1 r
    cases rx
    exact P.repr_of_none ⟨.str "None", H, I.tok _, ⟨_, rfl⟩, q⟩
  · exact call_repr hg hu pins s σ H xs us Q I r h
def pRepr (x : D) (P : D → Prop) : Prop := ob (toPy x) fun q => q.showable = true ∧ q.hasDict = false ∧ q.depth ≤ 60 ∧ q.shown.length ≤ sizeLine ∧ P (.str q.shown)
def rpN (x : D) (P : D → Prop) : Prop := match x with
  | .non => P (.str "None")
  | .lst xs => pRepr (.lst xs) P
  | .tup xs => pRepr (.tup xs) P
  | _ => False
def dReprN (d : TDE) : TDE := fun env P => d env fun x => rpN x P
theorem reprRN (hg : X.A.guards = some []) (hu : X.A.units + 64 < cLine) (hK : F.K = X.K) : CallR X (.builtin "repr") (rReprN F.K) := by
  rw [hK]
  exact call_reprN hg hu
theorem dd_reprN {k : Nat} (hgd : X.A.guards = some []) (hr : Room k X.A) (hg : Gl X "repr") (hm : X.mg "repr" = none) (ha : PE X e (lB F d)) (he : starEach [e] X.env = (false, eval e X.env) :: starEach [] X.env := by rfl) (hpl : (backTo pos (starEach [] X.env)).any (·.1) = false := by rfl) (hK : F.K = X.K := by rfl) :
    PE X (.Call (.Name "repr" p) [e] [] pos) (lC F (dReprN d)) := PE.mono (pe_callB (reprRN hgd hr.units hK) hg hm (by decide +kernel) (pa_cons ha pa_nil he) (by decide) (by decide) he hpl) fun σ H Q ⟨env, L, P, A, pp, q⟩ =>
  ⟨env, L, _, A, pp, fun x v H1 px k1 o1 b1 => by
    cases x with
    | non =>
      rw [bw_non b1]
      exact .inl ⟨rfl, q _ _ H1 px k1 o1 (.str _)⟩
    | lst xs =>
      obtain ⟨z, e, h1, h2, h3, h4, px⟩ := ob_elim px
      obtain ⟨a, vs, rfl, g1, g2⟩ := bw_lst b1
      exact .inr ⟨a, z, rfl, bw_py b1 e, h1, h2, h3, h4, q _ _ H1 px k1 o1 (.str _)⟩
    | tup xs =>
      obtain ⟨z, e, h1, h2, h3, h4, px⟩ := ob_elim px
      obtain ⟨a, vs, rfl, g1, g2⟩ := bw_tup b1
      exact .inr ⟨a, z, rfl, bw_py b1 e, h1, h2, h3, h4, q _ _ H1 px k1 o1 (.str _)⟩
    | _ => exact px.elim⟩
end
end DL
namespace DL
open PySem PySem.Spec PyProof.Rows L2 RK
theorem bIx_l {xs : List D} {j : Nat} {x : D} (h : xs[j]? = some x) : bIx (.lst xs) (.int (j : Nat)) = some x := by
  show (atI xs (j : Int)).or _ = some x
  rw [atI_nat h]
  rfl
theorem bIx_tp {xs : List D} {j : Nat} {x : D} (h : xs[j]? = some x) : bIx (.tup xs) (.int (j : Nat)) = some x := by
  show (atI xs (j : Int)).or _ = some x
  rw [atI_nat h]
  rfl
theorem bIx_s {z : Str} (hz : z.length ≤ sizeLine) {j : Nat} {c : Nat} (h : z.cps.toList[j]? = some c) : bIx (.str z) (.int (j : Nat)) = some (.str ⟨#[c]⟩) := by
  show (none : Option D).or ((if z.length ≤ sizeLine then (atI z.cps.toList (j : Int)).map (fun c => D.str ⟨#[c]⟩) else none).or _) = _
  rw [if_pos hz, atI_nat h]
  rfl
theorem allD_map (bs : List Bool) : allD [.lst (bs.map D.bl)] = some (.bl (bs.all id)) := by
  show (blsD (bs.map D.bl)).map _ = _
  rw [blsD_map]
  rfl
theorem anyD_map (bs : List Bool) : anyD [.lst (bs.map D.bl)] = some (.bl (bs.any id)) := by
  show (blsD (bs.map D.bl)).map _ = _
  rw [blsD_map]
  rfl
theorem allD_f {α : Type} (l : List α) (f : α → Bool) : allD [.lst (l.map fun a => D.bl (f a))] = some (.bl (l.all f)) := by
  have : (l.map fun a => D.bl (f a)) = (l.map f).map D.bl := by rw [List.map_map]; rfl
  rw [this, allD_map, List.all_map]
  rfl
theorem anyD_f {α : Type} (l : List α) (f : α → Bool) : anyD [.lst (l.map fun a => D.bl (f a))] = some (.bl (l.any f)) := by
  have : (l.map fun a => D.bl (f a)) = (l.map f).map D.bl := by rw [List.map_map]; rfl
  rw [this, anyD_map, List.any_map]
  rfl
theorem szM {n : Nat} (h : n ≤ 1000000) : n < sizeLine := Nat.lt_of_le_of_lt h (by rw [sizeLine_eq]; decide)
theorem comp_map {α : Type} {g : TDG} {tt : TDT} {te : TDE} {P : D → Prop} {env : De} (enc f : α → D) : ∀ (l : List α) (acc : List D), (∀ a ∈ l, ∀ (Q : D → Prop) (Z : Prop), Q (f a) → g (enc a) env fun env' => tt env' fun b => if b = true then te env' Q else Z) → acc.length + l.length ≤ 1000000 →
    P (.lst (acc ++ l.map f)) → dComp g tt te P env (l.map enc) acc
  | [], acc, _, _, q => by
    rw [List.map_nil, List.append_nil] at q
    exact q
  | a :: l, acc, h, hl, q => h a List.mem_cons_self _ _ (by
      refine ⟨szM (by simp at hl; omega), comp_map enc f l (acc ++ [f a]) (fun b hb => h b (List.mem_cons_of_mem _ hb)) (by simp at hl ⊢; omega) ?_⟩
      rw [List.append_assoc]
      exact q)
theorem comp_filter {α : Type} {g : TDG} {tt : TDT} {te : TDE} {P : D → Prop} {env : De} (enc f : α → D) (p : α → Bool) : ∀ (l : List α) (acc : List D), (∀ a ∈ l, ∀ (Q : D → Prop) (Z : Prop), (p a = true → Q (f a)) → (p a = false → Z) → g (enc a) env fun env' => tt env' fun b => if b = true then te env' Q else Z) → acc.length + l.length ≤ 1000000 →
    P (.lst (acc ++ (l.filter p).map f)) → dComp g tt te P env (l.map enc) acc
  | [], acc, _, _, q => by
    rw [List.filter_nil, List.map_nil, List.append_nil] at q
    exact q
  | a :: l, acc, h, hl, q => by
    refine h a List.mem_cons_self _ _ (fun hp => ⟨szM (by simp at hl; omega), comp_filter enc f p l (acc ++ [f a]) (fun b hb => h b (List.mem_cons_of_mem _ hb)) (by simp at hl ⊢; omega) ?_⟩) (fun hp => comp_filter enc f p l acc (fun b hb => h b (List.mem_cons_of_mem _ hb)) (by simp at hl ⊢; omega) ?_)
    · rw [List.filter_cons_of_pos hp, List.map_cons] at q
      rw [List.append_assoc]
      exact q
    · rw [List.filter_cons_of_neg (by rw [hp]; exact Bool.false_ne_true)] at q
      exact q
theorem loop_inv {α : Type} {g : TDG} {body : TDS} {P : DEnds} (enc : α → D) (l : List α) (I : List α → De → Prop)
    (step : ∀ (pre : List α) (a : α) (post : List α) (env : De), l = pre ++ a :: post → I pre env → ∀ k : De → Prop, (∀ env', I (pre ++ [a]) env' → k env') → g (enc a) env fun env' => body { nx := k, rt := P.rt, bk := P.nx, ct := k } env') (done : ∀ env, I l env → P.nx env) :
    ∀ (post pre : List α) (env : De), l = pre ++ post → I pre env → sLoop g body P (post.map enc) env
  | [], pre, env, e, h => by
    rw [List.append_nil] at e
    exact done env (e ▸ h)
  | a :: post, pre, env, e, h => step pre a post env e h _ fun env' h' => loop_inv enc l I step done post (pre ++ [a]) env' (by rw [List.append_assoc]; exact e) h'
theorem loop_all {α : Type} {g : TDG} {body : TDS} {P : DEnds} {env : De} (enc : α → D) (l : List α) (I : List α → De → Prop) (h0 : I [] env)
    (step : ∀ (pre : List α) (a : α) (post : List α) (env : De), l = pre ++ a :: post → I pre env → ∀ k : De → Prop, (∀ env', I (pre ++ [a]) env' → k env') → g (enc a) env fun env' => body { nx := k, rt := P.rt, bk := P.nx, ct := k } env') (done : ∀ env, I l env → P.nx env) :
    sLoop g body P (l.map enc) env := loop_inv enc l I step done l [] env rfl h0
theorem loop_rng {g : TDG} {body : TDS} {P : DEnds} {env : De} {lo : Int} {n : Nat} (I : Nat → De → Prop) (h0 : I 0 env)
    (step : ∀ (i : Nat) (env : De), i < n → I i env → ∀ k : De → Prop, (∀ env', I (i + 1) env' → k env') → g (.int (lo + (i : Nat))) env fun env' => body { nx := k, rt := P.rt, bk := P.nx, ct := k } env') (done : ∀ env, I n env → P.nx env) :
    sLoop g body P (rngD lo n) env := by
  unfold rngD
  refine loop_all (fun k : Nat => D.int (lo + (k : Nat))) (List.range n) (fun pre env => I pre.length env) h0 (fun pre a post env e h k hk => ?_) (fun env h => done env (by rw [List.length_range] at h; exact h))
  have hl : pre.length < n := by
    have := congrArg List.length e
    simp at this
    omega
  have ha : a = pre.length := by
    have h1 : (List.range n)[pre.length]? = some a := by rw [e]; simp
    rw [List.getElem?_range hl] at h1
    exact (Option.some.inj h1).symm
  rw [ha]
  exact step pre.length env hl h k fun env' h' => hk env' (by rw [List.length_append]; exact h')
def sp_of : DSp := fun ds P => (∃ xs, (ds = [.bag, .lst xs] ∨ ds = [.bag, .tup xs]) ∧ 1 ≤ xs.length ∧ xs.length ≤ 1000000 ∧ ∀ x ∈ xs, P x) ∨ (∃ z : Str, ds = [.bag, .str z] ∧ 1 ≤ z.length ∧ z.length ≤ 1000000 ∧ ∀ c ∈ z.cps.toList, P (.str ⟨#[c]⟩))
def d_of : TDS := (sRet (dO2 bIx (dV 1) (dCall sp_pull (aCons (dV 0) (aCons (dCa lenD (aCons (dV 1) aNil)) aNil)))))
theorem rd_of {ds : List D} {P : D → Prop} (h : sp_of ds P) : d_of (fin false P) (st 2 ds) := by
  rcases h with ⟨xs, h | h, l1, l2, q⟩ | ⟨z, rfl, l1, l2, q⟩
  · subst h
    simp only [d_of, dC, dV, dB, dO2, ob_some, dT, dAndT, dOrT, dNotT, dIf, dAndV, dOrV, dNotV, dChain, aNil, aCons, dTup, dLst, dCut, oNone, oSome, dRev, dNeg, dTru, dCa, dIs, dIsA, dCall, dCallK, sNil, sSeq, sNever, sBrk, sCont, sIf, sRet, sRetO, sRetE, sSet, sSetO, sDrop, sPar, sPar3, kn, enOf, owD, sAsg, gNm, gsNil, gsCons, gTp, sApp, sIns, sExt, sClr, sRev, sPut, sFrz, owAt, fin, st, iRng, iRngB, iSeq, lstD, tupD, sFor, dLc, dDc, wipeE, tYesD, dIndex, dSort, dDictZip, dMeth, dFld, dMk, List.map_cons, List.map_nil, List.length_cons, List.length_nil, List.replicate_succ, List.replicate_zero, List.cons_append, List.nil_append, List.append_nil, List.getElem?_cons_zero, List.getElem?_cons_succ, List.set_cons_zero, List.set_cons_succ, Option.bind_some, Option.map_some, Nat.reduceSub, Nat.reduceAdd, kwP, List.getD_cons_zero, List.getD_cons_succ, lenD]
    refine ⟨_, rfl, by omega, by omega, fun r r0 r1 => ?_⟩
    obtain ⟨j, rfl⟩ : ∃ j : Nat, r = (j : Int) := ⟨r.toNat, by omega⟩
    show ob (bIx (.lst xs) (.int (j : Nat))) P
    rw [bIx_l (List.getElem?_eq_getElem (by omega))]
    exact q _ (List.getElem_mem _)
  · subst h
    simp only [d_of, dC, dV, dB, dO2, ob_some, dT, dAndT, dOrT, dNotT, dIf, dAndV, dOrV, dNotV, dChain, aNil, aCons, dTup, dLst, dCut, oNone, oSome, dRev, dNeg, dTru, dCa, dIs, dIsA, dCall, dCallK, sNil, sSeq, sNever, sBrk, sCont, sIf, sRet, sRetO, sRetE, sSet, sSetO, sDrop, sPar, sPar3, kn, enOf, owD, sAsg, gNm, gsNil, gsCons, gTp, sApp, sIns, sExt, sClr, sRev, sPut, sFrz, owAt, fin, st, iRng, iRngB, iSeq, lstD, tupD, sFor, dLc, dDc, wipeE, tYesD, dIndex, dSort, dDictZip, dMeth, dFld, dMk, List.map_cons, List.map_nil, List.length_cons, List.length_nil, List.replicate_succ, List.replicate_zero, List.cons_append, List.nil_append, List.append_nil, List.getElem?_cons_zero, List.getElem?_cons_succ, List.set_cons_zero, List.set_cons_succ, Option.bind_some, Option.map_some, Nat.reduceSub, Nat.reduceAdd, kwP, List.getD_cons_zero, List.getD_cons_succ, lenD]
    refine ⟨_, rfl, by omega, by omega, fun r r0 r1 => ?_⟩
    obtain ⟨j, rfl⟩ : ∃ j : Nat, r = (j : Int) := ⟨r.toNat, by omega⟩
    show ob (bIx (.tup xs) (.int (j : Nat))) P
    rw [bIx_tp (List.getElem?_eq_getElem (by omega))]
    exact q _ (List.getElem_mem _)
  · have hz : z.length ≤ sizeLine := Nat.le_of_lt (szM l2)
    simp only [d_of, dC, dV, dB, dO2, ob_some, dT, dAndT, dOrT, dNotT, dIf, dAndV, dOrV, dNotV, dChain, aNil, aCons, dTup, dLst, dCut, oNone, oSome, dRev, dNeg, dTru, dCa, dIs, dIsA, dCall, dCallK, sNil, sSeq, sNever, sBrk, sCont, sIf, sRet, sRetO, sRetE, sSet, sSetO, sDrop, sPar, sPar3, kn, enOf, owD, sAsg, gNm, gsNil, gsCons, gTp, sApp, sIns, sExt, sClr, sRev, sPut, sFrz, owAt, fin, st, iRng, iRngB, iSeq, lstD, tupD, sFor, dLc, dDc, wipeE, tYesD, dIndex, dSort, dDictZip, dMeth, dFld, dMk, List.map_cons, List.map_nil, List.length_cons, List.length_nil, List.replicate_succ, List.replicate_zero, List.cons_append, List.nil_append, List.append_nil, List.getElem?_cons_zero, List.getElem?_cons_succ, List.set_cons_zero, List.set_cons_succ, Option.bind_some, Option.map_some, Nat.reduceSub, Nat.reduceAdd, kwP, List.getD_cons_zero, List.getD_cons_succ, lenD, if_pos hz]
    refine ⟨_, rfl, by omega, by omega, fun r r0 r1 => ?_⟩
    obtain ⟨j, rfl⟩ : ∃ j : Nat, r = (j : Int) := ⟨r.toNat, by omega⟩
    have hj : j < z.cps.toList.length := by rw [← str_len]; omega
    show ob (bIx (.str z) (.int (j : Nat))) P
    rw [bIx_s hz (List.getElem?_eq_getElem hj)]
    exact q _ (List.getElem_mem _)
def sp_mixed : DSp := fun ds P => ∃ xs, (ds = [.bag, .lst xs] ∨ ds = [.bag, .tup xs]) ∧ xs.length ≤ 100000 ∧ ∀ ys : List D, ys.Perm xs → P (.lst ys)
def d_mixed : TDS := (sSeq (sSetO 2 (dLst aNil))
  (sSeq (sFor (iSeq (dV 1)) (gNm 3) (sIns 2 (dCall sp_pull (aCons (dV 0) (aCons (dO2 bAdd (dCa lenD (aCons (dB 2) aNil)) (dC (.int 1))) aNil))) (dV 3)))
  (sRetO 2)))
theorem rd_mixed {ds : List D} {P : D → Prop} (h : sp_mixed ds P) : d_mixed (fin true P) (st 4 ds) := by
  obtain ⟨xs, h, l2, q⟩ := h
  have loop : ∀ y : D, sLoop (gNm 3) (sIns 2 (dCall sp_pull (aCons (dV 0) (aCons (dO2 bAdd (dCa lenD (aCons (dB 2) aNil)) (dC (.int 1))) aNil))) (dV 3)) { fin true P with nx := sRetO 2 (fin true P) } xs [.fz .bag, .fz y, .ow [], .no] := fun y => by
    have := loop_all (g := gNm 3) (body := sIns 2 (dCall sp_pull (aCons (dV 0) (aCons (dO2 bAdd (dCa lenD (aCons (dB 2) aNil)) (dC (.int 1))) aNil))) (dV 3)) (P := { fin true P with nx := sRetO 2 (fin true P) }) (env := [.fz .bag, .fz y, .ow [], .no]) id xs (fun pre env => ∃ ys e, env = [.fz .bag, .fz y, .ow ys, e] ∧ ys.Perm pre) ⟨[], .no, rfl, .nil⟩ (fun pre a post env e h k hk => ?_) (fun env h => ?_)
    · rw [List.map_id] at this
      exact this
    · obtain ⟨ys, e2, rfl, hp⟩ := h
      have hl : ys.length < 100001 := by
        have h1 := hp.length_eq
        have h2 := congrArg List.length e
        simp at h2
        omega
      simp only [dC, dV, dB, dO2, ob_some, dT, dAndT, dOrT, dNotT, dIf, dAndV, dOrV, dNotV, dChain, aNil, aCons, dTup, dLst, dCut, oNone, oSome, dRev, dNeg, dTru, dCa, dIs, dIsA, dCall, dCallK, sNil, sSeq, sNever, sBrk, sCont, sIf, sRet, sRetO, sRetE, sSet, sSetO, sDrop, sPar, sPar3, kn, enOf, owD, sAsg, gNm, gsNil, gsCons, gTp, sApp, sIns, sExt, sClr, sRev, sPut, sFrz, owAt, fin, st, iRng, iRngB, iSeq, lstD, tupD, sFor, dLc, dDc, wipeE, tYesD, dIndex, dSort, dDictZip, dMeth, dFld, dMk, List.map_cons, List.map_nil, List.length_cons, List.length_nil, List.replicate_succ, List.replicate_zero, List.cons_append, List.nil_append, List.append_nil, List.getElem?_cons_zero, List.getElem?_cons_succ, List.set_cons_zero, List.set_cons_succ, Option.bind_some, Option.map_some, Nat.reduceSub, Nat.reduceAdd, kwP, List.getD_cons_zero, List.getD_cons_succ, lenD, bAdd, iI0, Option.some_or]
      refine ⟨_, rfl, by omega, by omega, fun r r0 r1 => ⟨szM (by omega), r0, by omega, hk _ ⟨_, _, rfl, ?_⟩⟩⟩
      have e3 : ys = ys.take r.toNat ++ ys.drop r.toNat := (List.take_append_drop _ _).symm
      rw [List.append_assoc]
      refine (List.perm_middle).trans ?_
      show (a :: (ys.take r.toNat ++ ys.drop r.toNat)).Perm (pre ++ [a])
      rw [← e3]
      exact (List.Perm.cons a hp).trans (List.perm_append_singleton a pre).symm
    · obtain ⟨ys, e2, rfl, hp⟩ := h
      simp only [dC, dV, dB, dO2, ob_some, dT, dAndT, dOrT, dNotT, dIf, dAndV, dOrV, dNotV, dChain, aNil, aCons, dTup, dLst, dCut, oNone, oSome, dRev, dNeg, dTru, dCa, dIs, dIsA, dCall, dCallK, sNil, sSeq, sNever, sBrk, sCont, sIf, sRet, sRetO, sRetE, sSet, sSetO, sDrop, sPar, sPar3, kn, enOf, owD, sAsg, gNm, gsNil, gsCons, gTp, sApp, sIns, sExt, sClr, sRev, sPut, sFrz, owAt, fin, st, iRng, iRngB, iSeq, lstD, tupD, sFor, dLc, dDc, wipeE, tYesD, dIndex, dSort, dDictZip, dMeth, dFld, dMk, List.map_cons, List.map_nil, List.length_cons, List.length_nil, List.replicate_succ, List.replicate_zero, List.cons_append, List.nil_append, List.append_nil, List.getElem?_cons_zero, List.getElem?_cons_succ, List.set_cons_zero, List.set_cons_succ, Option.bind_some, Option.map_some, Nat.reduceSub, Nat.reduceAdd, kwP, List.getD_cons_zero, List.getD_cons_succ]
      exact q ys hp
  rcases h with h | h
  · subst h
    simp only [d_mixed, dC, dV, dB, dO2, ob_some, dT, dAndT, dOrT, dNotT, dIf, dAndV, dOrV, dNotV, dChain, aNil, aCons, dTup, dLst, dCut, oNone, oSome, dRev, dNeg, dTru, dCa, dIs, dIsA, dCall, dCallK, sNil, sSeq, sNever, sBrk, sCont, sIf, sRet, sRetO, sRetE, sSet, sSetO, sDrop, sPar, sPar3, kn, enOf, owD, sAsg, gNm, gsNil, gsCons, gTp, sApp, sIns, sExt, sClr, sRev, sPut, sFrz, owAt, fin, st, iRng, iRngB, iSeq, lstD, tupD, sFor, dLc, dDc, wipeE, tYesD, dIndex, dSort, dDictZip, dMeth, dFld, dMk, List.map_cons, List.map_nil, List.length_cons, List.length_nil, List.replicate_succ, List.replicate_zero, List.cons_append, List.nil_append, List.append_nil, List.getElem?_cons_zero, List.getElem?_cons_succ, List.set_cons_zero, List.set_cons_succ, Option.bind_some, Option.map_some, Nat.reduceSub, Nat.reduceAdd, kwP, List.getD_cons_zero, List.getD_cons_succ]
    exact ⟨Nat.zero_le _, .inl (loop _)⟩
  · subst h
    simp only [d_mixed, dC, dV, dB, dO2, ob_some, dT, dAndT, dOrT, dNotT, dIf, dAndV, dOrV, dNotV, dChain, aNil, aCons, dTup, dLst, dCut, oNone, oSome, dRev, dNeg, dTru, dCa, dIs, dIsA, dCall, dCallK, sNil, sSeq, sNever, sBrk, sCont, sIf, sRet, sRetO, sRetE, sSet, sSetO, sDrop, sPar, sPar3, kn, enOf, owD, sAsg, gNm, gsNil, gsCons, gTp, sApp, sIns, sExt, sClr, sRev, sPut, sFrz, owAt, fin, st, iRng, iRngB, iSeq, lstD, tupD, sFor, dLc, dDc, wipeE, tYesD, dIndex, dSort, dDictZip, dMeth, dFld, dMk, List.map_cons, List.map_nil, List.length_cons, List.length_nil, List.replicate_succ, List.replicate_zero, List.cons_append, List.nil_append, List.append_nil, List.getElem?_cons_zero, List.getElem?_cons_succ, List.set_cons_zero, List.set_cons_succ, Option.bind_some, Option.map_some, Nat.reduceSub, Nat.reduceAdd, kwP, List.getD_cons_zero, List.getD_cons_succ]
    exact ⟨Nat.zero_le _, .inr (.inl (loop _))⟩
end DL
namespace DL
open PySem PySem.Spec PyProof.Rows L2 RK
def rectD (p : R) : D := .tup [.int p.l, .int p.t, .int p.r, .int p.b]
theorem abc_get {j : Nat} (h : j < 26) : abc.cps.toList[j]? = some (97 + j) := by
  rw [abc_codes, List.getElem?_range' h, Nat.one_mul]
def sp_names : DSp := fun ds P => ∃ n : Int, ds = [.bag, .int n] ∧ 0 ≤ n ∧ n ≤ 26 ∧ ∀ zs : List Str, zs.length = n.toNat → (∀ z ∈ zs, NameOk z) → zs.Nodup → P (.lst (zs.map D.str))
def d_names : TDS := (sSeq (sAsg (dTup (aCons (dC (.str "abcdefghijklmnopqrstuvwxyz")) (aCons (dC (.str "")) aNil))) (gTp 2 (gsCons (gNm 2) (gsCons (gNm 3) gsNil))))
  (sSeq (sFor (iRng (aCons (dCall sp_pull (aCons (dV 0) (aCons (dC (.int 6)) aNil))) aNil)) (gNm 4) (sSet 3 (dO2 bAdd (dV 3) (dCall sp_of (aCons (dV 0) (aCons (dV 2) aNil))))))
  (sSeq (sIf (dT (dO2 (bEqN false) (dCall sp_pull (aCons (dV 0) (aCons (dC (.int 4)) aNil))) (dC (.int 0)))) (sRet (dLc (iRng (aCons (dV 1) aNil)) (gNm 4) tYesD (dO2 bMul (dO2 bIx (dV 2) (dO2 bMod (dO2 bAdd (dCa lenD (aCons (dV 3) aNil)) (dO2 bMul (dC (.int 7)) (dV 4))) (dC (.int 26)))) (dO2 bAdd (dC (.int 1)) (dO2 bMod (dO2 bAdd (dCa lenD (aCons (dV 3) aNil)) (dO2 bMul (dC (.int 5)) (dV 4))) (dC (.int 4))))) [4])) sNil)
  (sSeq (sAsg (dTup (aCons (dCall sp_pull (aCons (dV 0) (aCons (dO2 bAdd (dCa lenD (aCons (dV 3) aNil)) (dC (.int 1))) aNil))) (aCons (dCall sp_pull (aCons (dV 0) (aCons (dC (.int 26)) aNil))) (aCons (dCall sp_of (aCons (dV 0) (aCons (dLst (aCons (dC (.int 1)) (aCons (dC (.int 3)) (aCons (dC (.int 5)) (aCons (dC (.int 7)) (aCons (dC (.int 9)) aNil)))))) aNil))) aNil)))) (gTp 3 (gsCons (gNm 5) (gsCons (gNm 6) (gsCons (gNm 7) gsNil)))))
  (sRet (dLc (iRng (aCons (dV 1) aNil)) (gNm 4) tYesD (dO2 bAdd (dO2 bAdd (dCut cutA (dV 3) oNone (oSome (dV 5))) (dO2 bIx (dV 2) (dO2 bMod (dO2 bAdd (dV 6) (dO2 bMul (dV 7) (dV 4))) (dC (.int 26))))) (dCut cutA (dV 3) (oSome (dV 5)) oNone)) [4]))))))
theorem nodup_map_range {β : Type} {n : Nat} {f : Nat → β} (h : ∀ i j, i < n → j < n → f i = f j → i = j) : ((List.range n).map f).Nodup := by
  rw [List.nodup_iff_pairwise_ne, List.pairwise_map]
  refine List.Pairwise.imp_of_mem (fun {a b} ha hb hab e => ?_) (List.nodup_iff_pairwise_ne.mp List.nodup_range)
  exact hab (h a b (List.mem_range.mp ha) (List.mem_range.mp hb) e)
theorem bMul_i {i j : Int} (h : -(2 ^ 64) < i) (h' : i < 2 ^ 64) : bMul (.int i) (.int j) = some (.int (i * j)) := by
  show (if decide _ = true then some (D.int (i * j)) else none).or _ = _
  rw [if_pos (decide_eq_true (.inl ⟨h, h'⟩))]
  rfl
theorem bMod_i {i j : Int} (h : 0 < j) : bMod (.int i) (.int j) = some (.int (i % j)) := by
  show (if decide _ = true then some (D.int (i % j)) else none) = _
  rw [if_pos (decide_eq_true h)]
theorem bAdd_i (i j : Int) : bAdd (.int i) (.int j) = some (.int (i + j)) := rfl
theorem bAdd_s {x y : Str} (h : x.length + y.length ≤ sizeLine) : bAdd (.str x) (.str y) = some (.str (x ++ y)) := by
  show (none : Option D).or ((if x.length + y.length ≤ sizeLine then some (D.str (x ++ y)) else none).or _) = _
  rw [if_pos h]
  rfl
theorem bEq_i (i j : Int) : bEqN false (.int i) (.int j) = some (.bl (decide (i = j))) := by
  show (some (D.bl (false ^^ decide (i = j)))).or _ = _
  rw [Bool.false_xor]
  rfl
theorem bIx_abc {j : Nat} (h : j < 26) : bIx (.str abc) (.int (j : Nat)) = some (.str ⟨#[97 + j]⟩) := bIx_s (by rw [abc_len]; exact Nat.le_of_lt (szM (by decide))) (abc_get h)
theorem rd_names {ds : List D} {P : D → Prop} (h : sp_names ds P) : d_names (fin true P) (st 8 ds) := by
  obtain ⟨n, rfl, n0, n1, q⟩ := h
  simp only [d_names, dC, dV, dB, dO2, ob_some, dT, dAndT, dOrT, dNotT, dIf, dAndV, dOrV, dNotV, dChain, aNil, aCons, dTup, dLst, dCut, oNone, oSome, dRev, dNeg, dTru, dCa, dIs, dIsA, dCall, dCallK, sNil, sSeq, sNever, sBrk, sCont, sIf, sRet, sRetO, sRetE, sSet, sSetO, sDrop, sPar, sPar3, kn, enOf, owD, sAsg, gNm, gsNil, gsCons, gTp, sApp, sIns, sExt, sClr, sRev, sPut, sFrz, owAt, fin, st, iRng, iRngB, iSeq, lstD, tupD, sFor, dLc, dDc, wipeE, tYesD, dIndex, dSort, dDictZip, dMeth, dFld, dMk, List.map_cons, List.map_nil, List.length_cons, List.length_nil, List.replicate_succ, List.replicate_zero, List.cons_append, List.nil_append, List.append_nil, List.getElem?_cons_zero, List.getElem?_cons_succ, List.set_cons_zero, List.set_cons_succ, Option.bind_some, Option.map_some, Nat.reduceSub, Nat.reduceAdd, kwP, List.getD_cons_zero, List.getD_cons_succ]
  refine ⟨by decide, trivial, trivial, ⟨_, rfl, by decide, by decide, fun r r0 r1 => ⟨by omega, by omega, ?_⟩⟩⟩
  refine loop_rng (fun i env => ∃ e4 bs, env = [.fz .bag, .fz (.int n), .fz (.str abc), .fz (.str bs), e4, .no, .no, .no] ∧ bs.length = i ∧ ∀ c ∈ bs.cps.toList, Low c) ⟨.no, "", rfl, by decide +kernel, by intro c hc; exact absurd hc (by decide +kernel +revert)⟩ (fun i env hi h k hk => ?_) (fun env h => ?_)
  · obtain ⟨e4, bs, rfl, hl, hc⟩ := h
    simp only [dC, dV, dB, dO2, ob_some, dT, dAndT, dOrT, dNotT, dIf, dAndV, dOrV, dNotV, dChain, aNil, aCons, dTup, dLst, dCut, oNone, oSome, dRev, dNeg, dTru, dCa, dIs, dIsA, dCall, dCallK, sNil, sSeq, sNever, sBrk, sCont, sIf, sRet, sRetO, sRetE, sSet, sSetO, sDrop, sPar, sPar3, kn, enOf, owD, sAsg, gNm, gsNil, gsCons, gTp, sApp, sIns, sExt, sClr, sRev, sPut, sFrz, owAt, fin, st, iRng, iRngB, iSeq, lstD, tupD, sFor, dLc, dDc, wipeE, tYesD, dIndex, dSort, dDictZip, dMeth, dFld, dMk, List.map_cons, List.map_nil, List.length_cons, List.length_nil, List.replicate_succ, List.replicate_zero, List.cons_append, List.nil_append, List.append_nil, List.getElem?_cons_zero, List.getElem?_cons_succ, List.set_cons_zero, List.set_cons_succ, Option.bind_some, Option.map_some, Nat.reduceSub, Nat.reduceAdd, kwP, List.getD_cons_zero, List.getD_cons_succ]
    refine .inr ⟨abc, rfl, by rw [abc_len]; decide, by rw [abc_len]; decide, fun c hm => ?_⟩
    dsimp only
    rw [bAdd_s (by rw [one_len, hl]; exact Nat.le_of_lt (szM (by omega)))]
    refine hk _ ⟨_, _, rfl, ?_, fun c' hc' => ?_⟩
    · rw [str_len, app_codes, List.length_append, ← str_len, hl]
      rfl
    · rw [app_codes] at hc'
      rcases List.mem_append.mp hc' with h | h
      · exact hc c' h
      · have h := List.mem_singleton.mp h
        subst h
        exact abc_mem.mp hm
  · obtain ⟨e4, bs, rfl, hl, hc⟩ := h
    have hb5 : bs.length ≤ 5 := by omega
    have hbs : bs.length ≤ sizeLine := Nat.le_of_lt (szM (by omega))
    simp only [dC, dV, dB, dO2, ob_some, dT, dAndT, dOrT, dNotT, dIf, dAndV, dOrV, dNotV, dChain, aNil, aCons, dTup, dLst, dCut, oNone, oSome, dRev, dNeg, dTru, dCa, dIs, dIsA, dCall, dCallK, sNil, sSeq, sNever, sBrk, sCont, sIf, sRet, sRetO, sRetE, sSet, sSetO, sDrop, sPar, sPar3, kn, enOf, owD, sAsg, gNm, gsNil, gsCons, gTp, sApp, sIns, sExt, sClr, sRev, sPut, sFrz, owAt, fin, st, iRng, iRngB, iSeq, lstD, tupD, sFor, dLc, dDc, wipeE, tYesD, dIndex, dSort, dDictZip, dMeth, dFld, dMk, List.map_cons, List.map_nil, List.length_cons, List.length_nil, List.replicate_succ, List.replicate_zero, List.cons_append, List.nil_append, List.append_nil, List.getElem?_cons_zero, List.getElem?_cons_succ, List.set_cons_zero, List.set_cons_succ, Option.bind_some, Option.map_some, Nat.reduceSub, Nat.reduceAdd, kwP, List.getD_cons_zero, List.getD_cons_succ, lenD, if_pos hbs, bEq_i, bAdd_i]
    refine ⟨_, rfl, by decide, by decide, fun r2 _ _ => ite2 (fun c4 => ?_) (fun c4 => ?_)⟩
    · -- one letter, again and again
      refine ⟨by omega, by omega, ?_⟩
      have hm : ∀ k : Nat, ((bs.length : Int) + 7 * (0 + (k : Nat))) % 26 = ((bs.length + 7 * k) % 26 : Nat) := fun k => by omega
      have hm2 : ∀ k : Nat, 1 + ((bs.length : Int) + 5 * (0 + (k : Nat))) % 4 = ((1 + (bs.length + 5 * k) % 4 : Nat) : Int) := fun k => by omega
      refine comp_map (fun k : Nat => D.int (0 + (k : Nat))) (fun k => D.str (PySem.Txt.mul ⟨#[97 + (bs.length + 7 * k) % 26]⟩ ((1 + (bs.length + 5 * k) % 4 : Nat) : Int))) (List.range n.toNat) [] (fun k hk Q Z hQ => ?_) (by simp; omega) ?_
      · simp only [dC, dV, dB, dO2, ob_some, dT, dAndT, dOrT, dNotT, dIf, dAndV, dOrV, dNotV, dChain, aNil, aCons, dTup, dLst, dCut, oNone, oSome, dRev, dNeg, dTru, dCa, dIs, dIsA, dCall, dCallK, sNil, sSeq, sNever, sBrk, sCont, sIf, sRet, sRetO, sRetE, sSet, sSetO, sDrop, sPar, sPar3, kn, enOf, owD, sAsg, gNm, gsNil, gsCons, gTp, sApp, sIns, sExt, sClr, sRev, sPut, sFrz, owAt, fin, st, iRng, iRngB, iSeq, lstD, tupD, sFor, dLc, dDc, wipeE, tYesD, dIndex, dSort, dDictZip, dMeth, dFld, dMk, List.map_cons, List.map_nil, List.length_cons, List.length_nil, List.replicate_succ, List.replicate_zero, List.cons_append, List.nil_append, List.append_nil, List.getElem?_cons_zero, List.getElem?_cons_succ, List.set_cons_zero, List.set_cons_succ, Option.bind_some, Option.map_some, Nat.reduceSub, Nat.reduceAdd, kwP, List.getD_cons_zero, List.getD_cons_succ, lenD, if_pos hbs, bAdd_i, bMod_i (show (0 : Int) < 26 by decide), bMod_i (show (0 : Int) < 4 by decide), bMul_i (show (-(2 ^ 64) : Int) < 7 by decide) (by decide), bMul_i (show (-(2 ^ 64) : Int) < 5 by decide) (by decide), hm, hm2, bIx_abc (Nat.mod_lt _ (by decide)), if_true]
        have e : bMul (.str ⟨#[97 + (bs.length + 7 * k) % 26]⟩) (.int ((1 + (bs.length + 5 * k) % 4 : Nat) : Int)) = some (.str (PySem.Txt.mul ⟨#[97 + (bs.length + 7 * k) % 26]⟩ ((1 + (bs.length + 5 * k) % 4 : Nat) : Int))) := by
          show (none : Option D).or ((none : Option D).or (if 1 ≤ ((1 + (bs.length + 5 * k) % 4 : Nat) : Int) ∧ ((1 + (bs.length + 5 * k) % 4 : Nat) : Int) ≤ 1000 then some _ else none)) = _
          rw [if_pos ⟨by omega, by omega⟩]
          rfl
        rw [e]
        exact hQ
      · rw [List.nil_append, show (fun k => D.str (PySem.Txt.mul ⟨#[97 + (bs.length + 7 * k) % 26]⟩ ((1 + (bs.length + 5 * k) % 4 : Nat) : Int))) = D.str ∘ fun k => PySem.Txt.mul ⟨#[97 + (bs.length + 7 * k) % 26]⟩ ((1 + (bs.length + 5 * k) % 4 : Nat) : Int) from rfl, ← List.map_map]
        refine q _ (by simp) (fun z hz => ?_) (nodup_map_range fun i j hi hj e => ?_)
        · obtain ⟨k, _, rfl⟩ := List.mem_map.mp hz
          obtain ⟨m, h1, h2⟩ := mul_codes (97 + (bs.length + 7 * k) % 26) (1 + (bs.length + 5 * k) % 4) (by omega)
          have hl2 : (PySem.Txt.mul ⟨#[97 + (bs.length + 7 * k) % 26]⟩ ((1 + (bs.length + 5 * k) % 4 : Nat) : Int)).length = m := by rw [str_len, h1, List.length_replicate]
          refine ⟨by omega, by omega, fun c hc => ?_⟩
          rw [h1] at hc
          have := (List.mem_replicate.mp hc).2
          unfold Low
          omega
        · obtain ⟨m, h1, h2⟩ := mul_codes (97 + (bs.length + 7 * i) % 26) (1 + (bs.length + 5 * i) % 4) (by omega)
          obtain ⟨m2, h3, h4⟩ := mul_codes (97 + (bs.length + 7 * j) % 26) (1 + (bs.length + 5 * j) % 4) (by omega)
          have e2 : List.replicate m (97 + (bs.length + 7 * i) % 26) = List.replicate m2 (97 + (bs.length + 7 * j) % 26) := by rw [← h1, ← h3, e]
          have e3 : (97 + (bs.length + 7 * i) % 26) ∈ List.replicate m2 (97 + (bs.length + 7 * j) % 26) := by rw [← e2]; exact List.mem_replicate.mpr ⟨by omega, rfl⟩
          have := (List.mem_replicate.mp e3).2
          omega
    · refine ⟨_, rfl, by omega, by omega, fun sp s0 s1 => ⟨_, rfl, by decide, by decide, fun fi f0 f1 => ⟨by decide, .inl ⟨_, .inl rfl, by decide, by decide, fun x hx => ?_⟩⟩⟩⟩
      obtain ⟨w, rfl, hw⟩ : ∃ w : Nat, x = .int (w : Int) ∧ (w = 1 ∨ w = 3 ∨ w = 5 ∨ w = 7 ∨ w = 9) := by
        simp only [List.mem_cons, List.not_mem_nil, or_false] at hx
        rcases hx with rfl | rfl | rfl | rfl | rfl
        · exact ⟨1, rfl, by omega⟩
        · exact ⟨3, rfl, by omega⟩
        · exact ⟨5, rfl, by omega⟩
        · exact ⟨7, rfl, by omega⟩
        · exact ⟨9, rfl, by omega⟩
      obtain ⟨sp, rfl⟩ : ∃ j : Nat, sp = (j : Int) := ⟨sp.toNat, by omega⟩
      obtain ⟨fi, rfl⟩ : ∃ j : Nat, fi = (j : Int) := ⟨fi.toNat, by omega⟩
      refine ⟨by decide, trivial, trivial, by omega, by omega, ?_⟩
      have hm : ∀ k : Nat, ((fi : Int) + (w : Int) * (0 + (k : Nat))) % 26 = ((fi + w * k) % 26 : Nat) := fun k => by
        rw [Int.zero_add]
        norm_cast
      have c1 : cutA (.str bs) none (some (sp : Int)) = some (.str (cutS bs none (some (sp : Int)))) := if_pos hbs
      have c2 : cutA (.str bs) (some (sp : Int)) none = some (.str (cutS bs (some (sp : Int)) none)) := if_pos hbs
      have k1 : (cutS bs none (some (sp : Int))).cps.toList = bs.cps.toList.take sp := by
        rw [cut_codes, HT.sIx_none, HT.sIx_nat, List.drop_zero, Nat.sub_zero]
        exact congrArg (fun m => List.take m bs.cps.toList) (by omega)
      have k2 : (cutS bs (some (sp : Int)) none).cps.toList = bs.cps.toList.drop sp := by
        rw [cut_codes, HT.sIx_none, HT.sIx_nat]
        have : min sp bs.length = sp := by omega
        rw [this]
        exact List.take_of_length_le (by rw [List.length_drop, ← str_len]; exact Nat.le_refl _)
      have l1 : (cutS bs none (some (sp : Int))).length = sp := by rw [str_len, k1, List.length_take, ← str_len]; omega
      have l2 : (cutS bs (some (sp : Int)) none).length = bs.length - sp := by rw [str_len, k2, List.length_drop, ← str_len]
      have codes : ∀ k : Nat, (cutS bs none (some (sp : Int)) ++ ⟨#[97 + (fi + w * k) % 26]⟩ ++ cutS bs (some (sp : Int)) none).cps.toList = bs.cps.toList.take sp ++ [97 + (fi + w * k) % 26] ++ bs.cps.toList.drop sp := fun k => by
        rw [app_codes, app_codes, k1, k2]
      refine comp_map (fun k : Nat => D.int (0 + (k : Nat))) (fun k => D.str (cutS bs none (some (sp : Int)) ++ ⟨#[97 + (fi + w * k) % 26]⟩ ++ cutS bs (some (sp : Int)) none)) (List.range n.toNat) [] (fun k hk Q Z hQ => ?_) (by simp; omega) ?_
      · simp only [dC, dV, dB, dO2, ob_some, dT, dAndT, dOrT, dNotT, dIf, dAndV, dOrV, dNotV, dChain, aNil, aCons, dTup, dLst, dCut, oNone, oSome, dRev, dNeg, dTru, dCa, dIs, dIsA, dCall, dCallK, sNil, sSeq, sNever, sBrk, sCont, sIf, sRet, sRetO, sRetE, sSet, sSetO, sDrop, sPar, sPar3, kn, enOf, owD, sAsg, gNm, gsNil, gsCons, gTp, sApp, sIns, sExt, sClr, sRev, sPut, sFrz, owAt, fin, st, iRng, iRngB, iSeq, lstD, tupD, sFor, dLc, dDc, wipeE, tYesD, dIndex, dSort, dDictZip, dMeth, dFld, dMk, List.map_cons, List.map_nil, List.length_cons, List.length_nil, List.replicate_succ, List.replicate_zero, List.cons_append, List.nil_append, List.append_nil, List.getElem?_cons_zero, List.getElem?_cons_succ, List.set_cons_zero, List.set_cons_succ, Option.bind_some, Option.map_some, Nat.reduceSub, Nat.reduceAdd, kwP, List.getD_cons_zero, List.getD_cons_succ, c1, c2, bMul_i (show (-(2 ^ 64) : Int) < (w : Int) by omega) (show (w : Int) < 2 ^ 64 by omega), bAdd_i, bMod_i (show (0 : Int) < 26 by decide), hm, bIx_abc (Nat.mod_lt _ (by decide)), if_true]
        rw [bAdd_s (by rw [one_len, l1]; exact Nat.le_of_lt (szM (by omega))), ob_some, bAdd_s (by rw [str_len, app_codes, List.length_append, ← str_len, l1, l2]; exact Nat.le_of_lt (szM (by show sp + 1 + (bs.length - sp) ≤ _; omega)))]
        exact hQ
      · rw [List.nil_append, show (fun k => D.str (cutS bs none (some (sp : Int)) ++ ⟨#[97 + (fi + w * k) % 26]⟩ ++ cutS bs (some (sp : Int)) none)) = D.str ∘ fun k => cutS bs none (some (sp : Int)) ++ ⟨#[97 + (fi + w * k) % 26]⟩ ++ cutS bs (some (sp : Int)) none from rfl, ← List.map_map]
        refine q _ (by simp) (fun z hz => ?_) (nodup_map_range fun i j hi hj e => ?_)
        · obtain ⟨k, _, rfl⟩ := List.mem_map.mp hz
          have hl2 : (cutS bs none (some (sp : Int)) ++ ⟨#[97 + (fi + w * k) % 26]⟩ ++ cutS bs (some (sp : Int)) none).length = bs.length + 1 := by
            rw [str_len, codes, List.length_append, List.length_append, List.length_take, List.length_drop, ← str_len]
            simp
            omega
          refine ⟨by omega, by omega, fun c hc' => ?_⟩
          rw [codes, List.append_assoc] at hc'
          rcases List.mem_append.mp hc' with h | h
          · exact hc c (List.mem_of_mem_take h)
          · rcases List.mem_append.mp h with h | h
            · have := List.mem_singleton.mp h
              unfold Low
              omega
            · exact hc c (List.mem_of_mem_drop h)
        · have e2 : bs.cps.toList.take sp ++ [97 + (fi + w * i) % 26] ++ bs.cps.toList.drop sp = bs.cps.toList.take sp ++ [97 + (fi + w * j) % 26] ++ bs.cps.toList.drop sp := by rw [← codes, ← codes, e]
          rw [List.append_assoc, List.append_assoc] at e2
          have e3 := (List.cons.inj (List.append_cancel_left e2)).1
          rcases hw with rfl | rfl | rfl | rfl | rfl <;> omega
end DL
namespace DL
open PySem PySem.Spec PyProof.Rows L2 RK
mutual
def toP : D → PyData
  | .non => .none
  | .bl b => .bool b
  | .int i => .int i
  | .str x => .str x
  | .lst xs => .list (toPA xs)
  | .tup xs => .tuple (toPA xs)
  | _ => .none
def toPA : List D → List PyData
  | [] => []
  | x :: xs => toP x :: toPA xs
end
def sh : Nat → D → Bool
  | _, .non => true
  | _, .int _ => true
  | _, .str x => PyData.strOk x
  | n + 1, .lst xs => xs.all (sh n)
  | n + 1, .tup xs => xs.all (sh n)
  | _, _ => false
theorem sh_py : ∀ (n : Nat) (x : D), sh n x = true → toPy x = some (toP x) ∧ (toP x).canLay0 = true ∧ (toP x).depth ≤ n := by
  have lists : ∀ (n : Nat), (∀ x : D, sh n x = true → toPy x = some (toP x) ∧ (toP x).canLay0 = true ∧ (toP x).depth ≤ n) → ∀ xs : List D, xs.all (sh n) = true → toPyA xs = some (toPA xs) ∧ PyData.canLayAll0 (toPA xs) = true ∧ PyData.depthAll (toPA xs) ≤ n := by
    intro n ih xs
    induction xs with
    | nil => intro _; exact ⟨rfl, rfl, Nat.zero_le _⟩
    | cons x xs ihx =>
      intro h
      rw [List.all_cons, Bool.and_eq_true] at h
      obtain ⟨h1, h2, h3⟩ := ih x h.1
      obtain ⟨g1, g2, g3⟩ := ihx h.2
      refine ⟨?_, ?_, ?_⟩
      · show (toPy x).bind _ = _
        rw [h1]
        show (toPyA xs).map _ = _
        rw [g1]
        rfl
      · show (PyData.canLay0 (toP x) && PyData.canLayAll0 (toPA xs)) = true
        rw [h2, g2]
        rfl
      · show max (PyData.depth (toP x)) (PyData.depthAll (toPA xs)) ≤ n
        omega
  intro n
  induction n with
  | zero =>
    intro x h
    cases x with
    | non => exact ⟨rfl, rfl, Nat.le_refl _⟩
    | int i => exact ⟨rfl, rfl, Nat.le_refl _⟩
    | str z => exact ⟨rfl, h, Nat.le_refl _⟩
    | _ => cases h
  | succ n ih =>
    intro x h
    cases x with
    | non => exact ⟨rfl, rfl, Nat.zero_le _⟩
    | int i => exact ⟨rfl, rfl, Nat.zero_le _⟩
    | str z => exact ⟨rfl, h, Nat.zero_le _⟩
    | lst xs =>
      obtain ⟨h1, h2, h3⟩ := lists n ih xs h
      refine ⟨?_, h2, ?_⟩
      · show (toPyA xs).map _ = _
        rw [h1]
        rfl
      · show PyData.depthAll (toPA xs) + 1 ≤ n + 1
        omega
    | tup xs =>
      obtain ⟨h1, h2, h3⟩ := lists n ih xs h
      refine ⟨?_, h2, ?_⟩
      · show (toPyA xs).map _ = _
        rw [h1]
        rfl
      · show PyData.depthAll (toPA xs) + 1 ≤ n + 1
        omega
    | _ => cases h
theorem eqv_iff : ∀ (n : Nat) (x y : D), sh n x = true → sh n y = true → (PyData.eqv (toP x) (toP y) = true ↔ x = y) := by
  have lists : ∀ (n : Nat), (∀ x y : D, sh n x = true → sh n y = true → (PyData.eqv (toP x) (toP y) = true ↔ x = y)) → ∀ xs ys : List D, xs.all (sh n) = true → ys.all (sh n) = true → (PyData.eqvAll (toPA xs) (toPA ys) = true ↔ xs = ys) := by
    intro n ih xs
    induction xs with
    | nil =>
      intro ys _ _
      cases ys with
      | nil => exact ⟨fun _ => rfl, fun _ => rfl⟩
      | cons y ys => exact ⟨fun h => (by cases h), fun h => (by cases h)⟩
    | cons x xs ihx =>
      intro ys hx hy
      cases ys with
      | nil => exact ⟨fun h => (by cases h), fun h => (by cases h)⟩
      | cons y ys =>
        rw [List.all_cons, Bool.and_eq_true] at hx hy
        have h1 := ih x y hx.1 hy.1
        have h2 := ihx ys hx.2 hy.2
        show (PyData.eqv (toP x) (toP y) && PyData.eqvAll (toPA xs) (toPA ys)) = true ↔ _
        rw [Bool.and_eq_true, h1, h2]
        exact ⟨fun ⟨a, b⟩ => by rw [a, b], fun h => ⟨(List.cons.inj h).1, (List.cons.inj h).2⟩⟩
  intro n
  induction n with
  | zero =>
    intro x y hx hy
    cases x <;> try cases hx
    all_goals cases y <;> try cases hy
    all_goals simp [toP, PyData.eqv]
  | succ n ih =>
    intro x y hx hy
    cases x <;> try cases hx
    all_goals cases y <;> try cases hy
    any_goals (simp [toP, PyData.eqv]; done)
    · rename_i xs ys
      have := lists n ih xs ys hx hy
      simp only [toP, PyData.eqv, D.lst.injEq]
      exact this
    · rename_i xs ys
      have := lists n ih xs ys hx hy
      simp only [toP, PyData.eqv, D.tup.injEq]
      exact this
theorem shaped_of {n : Nat} {x : D} (hn : n ≤ 64) (h : sh n x = true) : SeqAt.shaped (toP x) = true := by
  obtain ⟨_, h2, h3⟩ := sh_py n x h
  unfold SeqAt.shaped
  rw [h2, Bool.true_and]
  exact decide_eq_true (by omega)
theorem eqS_iff {neg : Bool} {x y z : D} (h : eqS neg x y = some z) : ∃ b, z = .bl (neg ^^ b) ∧ (b = true ↔ x = y) := by
  cases x <;> try cases h
  all_goals cases y <;> try cases h
  · exact ⟨_, rfl, by rw [decide_eq_true_eq]; exact ⟨fun h => by rw [h], fun h => by cases h; rfl⟩⟩
  · exact ⟨_, rfl, by rw [decide_eq_true_eq]; exact ⟨fun h => by rw [h], fun h => by cases h; rfl⟩⟩
  · exact ⟨_, rfl, by rw [decide_eq_true_eq]; exact ⟨fun h => by rw [h], fun h => by cases h; rfl⟩⟩
theorem beq_iff {neg : Bool} {n : Nat} {x y : D} (hn : n ≤ 64) (hx : sh n x = true) (hy : sh n y = true) : ∃ b, bEqN neg x y = some (.bl (neg ^^ b)) ∧ (b = true ↔ x = y) := by
  cases e : eqS neg x y with
  | some z =>
    obtain ⟨b, rfl, h⟩ := eqS_iff e
    exact ⟨b, by unfold bEqN; rw [e]; rfl, h⟩
  | none =>
    refine ⟨PyData.eqv (toP x) (toP y), ?_, eqv_iff n x y hx hy⟩
    unfold bEqN
    rw [e]
    show eqP neg x y = _
    unfold eqP
    rw [(sh_py n x hx).1, (sh_py n y hy).1]
    exact if_pos ⟨shaped_of hn hx, shaped_of hn hy⟩
theorem beq_ob {neg : Bool} {n : Nat} {x y : D} {P : D → Prop} (hn : n ≤ 64) (hx : sh n x = true) (hy : sh n y = true) (h1 : x = y → P (.bl (!neg))) (h2 : x ≠ y → P (.bl neg)) : ob (bEqN neg x y) P := by
  obtain ⟨b, e, h⟩ := beq_iff (neg := neg) hn hx hy
  rw [e]
  cases b with
  | true => have := h1 (h.mp rfl); cases neg <;> exact this
  | false => have := h2 (fun z => by have := h.mpr z; cases this); cases neg <;> exact this
theorem name_ok {z : Str} (h : NameOk z) : PyData.strOk z = true := by
  unfold PyData.strOk
  rw [← Array.all_toList, List.all_eq_true]
  intro c hc
  have := h.2.2 c hc
  unfold Low at this
  exact decide_eq_true (by omega)
theorem sh_names {n : Nat} {zs : List Str} (h : ∀ z ∈ zs, NameOk z) : sh (n + 1) (.lst (zs.map D.str)) = true := by
  show (zs.map D.str).all (sh n) = true
  rw [List.all_eq_true]
  intro d hd
  obtain ⟨z, hz, rfl⟩ := List.mem_map.mp hd
  have := name_ok (h z hz)
  cases n <;> exact this
theorem rng_map (n : Nat) : rngD 0 n = (List.range n).map fun k => D.int ((k : Nat) : Int) := by
  unfold rngD
  exact List.map_congr_left fun k _ => by rw [Int.zero_add]
end DL
namespace DL
open PySem PySem.Spec PyProof.Rows L2 RK
abbrev Win := Str × R
def wk (w : Win) : Key × D := (Sum.inr w.1, rectD w.2)
def winD (ws : List Win) : D := .dic (ws.map wk)
def nms (ws : List Win) : List Str := ws.map (·.1)
structure WOk (ws : List Win) : Prop where
  nd : (nms ws).Nodup
  nm : ∀ w ∈ ws, NameOk w.1
  gd : ∀ w ∈ ws, w.2.good
theorem WOk.perm {ws us : List Win} (h : WOk ws) (p : us.Perm ws) : WOk us := ⟨(p.map _).nodup_iff.mpr h.nd, fun w hw => h.nm w (p.mem_iff.mp hw), fun w hw => h.gd w (p.mem_iff.mp hw)⟩
theorem nodup_inj {α β : Type} {f : α → β} {l : List α} (inj : ∀ a b, f a = f b → a = b) (h : l.Nodup) : (l.map f).Nodup := by
  rw [List.nodup_iff_pairwise_ne, List.pairwise_map]
  exact (List.nodup_iff_pairwise_ne.mp h).imp fun hab e => hab (inj _ _ e)
theorem perm_str {ys : List D} {zs : List Str} (h : ys.Perm (zs.map D.str)) : ∃ us : List Str, ys = us.map D.str ∧ us.Perm zs := by
  have key : ∀ (ys : List D), (∀ y ∈ ys, ∃ z, y = D.str z) → ∃ us : List Str, ys = us.map D.str := by
    intro ys
    induction ys with
    | nil => intro _; exact ⟨[], rfl⟩
    | cons y ys ih =>
      intro h
      obtain ⟨z, rfl⟩ := h y List.mem_cons_self
      obtain ⟨us, rfl⟩ := ih fun w hw => h w (List.mem_cons_of_mem _ hw)
      exact ⟨z :: us, rfl⟩
  obtain ⟨us, rfl⟩ := key ys fun y hy => by
    obtain ⟨z, _, e⟩ := List.mem_map.mp (h.mem_iff.mp hy)
    exact ⟨z, e.symm⟩
  refine ⟨us, rfl, ?_⟩
  have h2 := h.map fun d => match d with | D.str z => z | _ => Str.empty
  rw [List.map_map, List.map_map] at h2
  have e : ((fun d => match d with | D.str z => z | _ => Str.empty) ∘ D.str) = id := rfl
  rw [e, List.map_id, List.map_id] at h2
  exact h2
end DL
namespace DL
open PySem PySem.Spec PyProof.Rows L2 RK
instance (p : R) : Decidable p.good := by unfold R.good; infer_instance
instance (p : R) (x y : Int) : Decidable (p.has x y) := by unfold R.has; infer_instance
instance (c : Nat) : Decidable (Low c) := by unfold Low; infer_instance
instance (z : Str) : Decidable (NameOk z) := by unfold NameOk; infer_instance
end DL
namespace DL
open PySem PySem.Spec PyProof.Rows L2 RK
def look (us : List Win) (z : Str) : Option R := (us.find? fun w => decide (w.1 = z)).map (·.2)
theorem any_str (zs : List Str) (n : Str) : ((zs.map D.str).any fun y => eqF y (.str n)) = decide (n ∈ zs) := by
  induction zs with
  | nil => rfl
  | cons z zs ih =>
    rw [List.map_cons, List.any_cons, ih]
    show ((z == n) || decide (n ∈ zs)) = _
    by_cases h : z = n
    · subst h
      simp
    · have : (z == n) = false := beq_eq_false_iff_ne.mpr h
      rw [this, Bool.false_or]
      exact decide_eq_decide.mpr ⟨fun h => List.mem_cons_of_mem _ h, fun h2 => (List.mem_cons.mp h2).elim (fun e => (h e.symm).elim) id⟩
theorem leaf_strs (zs : List Str) : (zs.map D.str).all D.leaf = true := by
  rw [List.all_eq_true]
  intro d hd
  obtain ⟨z, _, rfl⟩ := List.mem_map.mp hd
  rfl
def IsSeq (d : D) (zs : List Str) : Prop := d = .lst (zs.map D.str) ∨ d = .tup (zs.map D.str)
theorem bIn_strs {neg : Bool} {d : D} {zs : List Str} (h : IsSeq d zs) (n : Str) : bIn neg (.str n) d = some (.bl (neg ^^ decide (n ∈ zs))) := by
  rcases h with rfl | rfl
  · show ((if D.leaf (.str n) = true ∧ (zs.map D.str).all D.leaf = true then some (D.bl (neg ^^ (zs.map D.str).any fun y => eqF y (.str n))) else none)).or _ = _
    rw [if_pos ⟨rfl, leaf_strs zs⟩, any_str]
    rfl
  · show ((if D.leaf (.str n) = true ∧ (zs.map D.str).all D.leaf = true then some (D.bl (neg ^^ (zs.map D.str).any fun y => eqF y (.str n))) else none)).or _ = _
    rw [if_pos ⟨rfl, leaf_strs zs⟩, any_str]
    rfl
theorem seq_strs {d : D} {zs : List Str} (h : IsSeq d zs) {P : List D → Prop} (q : P (zs.map D.str)) : ob (lstD d) P ∨ ob (tupD d) P ∨ ob (sgnD d) P := by
  rcases h with rfl | rfl
  · exact .inl q
  · exact .inr (.inl q)
def SortW (us : List Win) : Prop := (nms us).Pairwise leS
end DL
namespace DL
open PySem PySem.Spec PyProof.Rows L2 RK
theorem ln_of {ds : List D} {P : D → Prop} (h : sp_of ds P) : ds.length = 2 := by
  rcases h with ⟨xs, h | h, _⟩ | ⟨z, h, _⟩ <;> (subst h; rfl)
theorem ln_mixed {ds : List D} {P : D → Prop} (h : sp_mixed ds P) : ds.length = 2 := by
  rcases h with ⟨xs, h | h, _⟩ <;> (subst h; rfl)
theorem ln_names {ds : List D} {P : D → Prop} (h : sp_names ds P) : ds.length = 2 := by obtain ⟨_, rfl, _⟩ := h; rfl
theorem dcomp_new {α : Type} {g : TDG} {tt : TDT} {tk tv : TDE} {P : D → Prop} {env : De} (enc : α → D) (f : α → Key × D) : ∀ (l : List α) (acc : List (Key × D)), (∀ a ∈ l, ∀ (Q : Key → D → Prop) (Z : Prop), Q (f a).1 (f a).2 → g (enc a) env fun env' => tt env' fun b => if b = true then tk env' fun k => tv env' fun y => ob (keyD k) fun k => Q k y else Z) →
    (acc ++ l.map f).length ≤ 1000000 → ((acc ++ l.map f).map (·.1)).Nodup → P (.dic (acc ++ l.map f)) → dDcomp g tt tk tv P env (l.map enc) acc
  | [], acc, _, _, _, q => by
    rw [List.map_nil, List.append_nil] at q
    exact q
  | a :: l, acc, h, hl, nd, q => by
    refine h a List.mem_cons_self (fun k y => acc.length < sizeLine ∧ dDcomp g tt tk tv P env (l.map enc) (putD acc k y)) _ ⟨szM (by simp at hl; omega), ?_⟩
    have hk : (acc.any fun kd => decide (kd.1 = (f a).1)) = false := by
      rw [Bool.eq_false_iff]
      intro hz
      obtain ⟨q', hq, e⟩ := List.any_eq_true.mp hz
      have e := of_decide_eq_true e
      rw [List.map_append, List.nodup_append] at nd
      exact nd.2.2 q'.1 (List.mem_map.mpr ⟨q', hq, rfl⟩) (f a).1 (by simp) e
    have e2 : putD acc (f a).1 (f a).2 = acc ++ [f a] := by
      unfold putD
      rw [hk]
      rfl
    rw [e2]
    refine dcomp_new enc f l (acc ++ [f a]) (fun b hb => h b (List.mem_cons_of_mem _ hb)) ?_ ?_ ?_
    · rw [List.append_assoc]; exact hl
    · rw [List.append_assoc]; exact nd
    · rw [List.append_assoc]; exact q
end DL
namespace DL
open PySem PySem.Spec PyProof.Rows L2 RK
def mx (i j : Int) : Int := if j > i then j else i
def mn (i j : Int) : Int := if j < i then j else i
def meetB (p q : R) : Bool := decide (mx p.l q.l < mn p.r q.r) && decide (mx p.t q.t < mn p.b q.b)
def ovl (us : List Win) (a b : Str) : Bool := match look us a, look us b with | some p, some q => meetB p q | _, _ => false
def prs (ov : Str → Str → Bool) : List Str → List SP
  | [] => []
  | n :: r => (r.filter (ov n)).map (fun m => (n, m)) ++ prs ov r
def ltS (a b : Str) : Bool := decide (a.cps.toList < b.cps.toList)
def ixS : List Str → Str → Nat
  | [], _ => 0
  | y :: r, z => if y = z then 0 else ixS r z + 1
def plcF (p : Str × Nat) : Key × D := (Sum.inr p.1, .int ((p.2 : Nat) : Int))
def plcD (zs : List Str) : D := .dic ((zs.zipIdx).map plcF)
theorem enu_zip : ∀ (zs : List Str) (k : Nat), enuD k (zs.map D.str) = (zs.zipIdx k).map fun p => .tup [.int ((p.2 : Nat) : Int), .str p.1]
  | [], _ => rfl
  | z :: zs, k => by rw [List.map_cons, enuD, enu_zip zs (k + 1), List.zipIdx_cons, List.map_cons]
theorem val_plc : ∀ (zs : List Str) (k : Nat) (z : Str), z ∈ zs → valD ((zs.zipIdx k).map plcF) (Sum.inr z : Key) = some (.int ((k + ixS zs z : Nat) : Int))
  | [], _, _, h => by cases h
  | y :: r, k, z, h => by
    unfold valD
    rw [List.zipIdx_cons, List.map_cons, List.find?_cons]
    have e : decide ((plcF (y, k)).1 = (Sum.inr z : Key)) = decide (y = z) := decide_eq_decide.mpr inr_inj
    rw [e, ixS]
    by_cases hz : y = z
    · rw [decide_eq_true hz, if_pos hz]
      rfl
    · rw [decide_eq_false hz, if_neg hz]
      have := val_plc r (k + 1) z ((List.mem_cons.mp h).resolve_left fun e => hz e.symm)
      unfold valD at this
      rw [this]
      have : k + 1 + ixS r z = k + (ixS r z + 1) := by omega
      rw [this]
theorem bIx_plc {zs : List Str} {z : Str} (h : z ∈ zs) : bIx (plcD zs) (.str z) = some (.int ((ixS zs z : Nat) : Int)) := by
  show (none : Option D).or ((none : Option D).or ((some (valD ((zs.zipIdx).map plcF) (Sum.inr z : Key))).bind fun r => r)) = _
  rw [val_plc zs 0 z h, Nat.zero_add]
  rfl
theorem index_ixS : ∀ (zs : List Str) (z : Str), z ∈ zs → indexOf (zs.map D.str) (.str z) = some (ixS zs z)
  | [], _, h => by cases h
  | y :: r, z, h => by
    unfold indexOf
    rw [List.map_cons, List.findIdx?_cons]
    have e : eqF (.str y) (.str z) = (y == z) := rfl
    rw [e, ixS]
    by_cases hz : y = z
    · rw [if_pos hz, if_pos (beq_iff_eq.mpr hz)]
    · have hz2 : ¬ ((y == z) = true) := fun q => hz (beq_iff_eq.mp q)
      rw [if_neg hz, if_neg hz2]
      have := index_ixS r z ((List.mem_cons.mp h).resolve_left fun e => hz e.symm)
      unfold indexOf at this
      rw [this]
      rfl
def sp_places : DSp := fun ds P => ∃ d zs, ds = [d] ∧ IsSeq d zs ∧ zs.length ≤ 100000 ∧ zs.Nodup ∧ P (plcD zs)
def d_places : TDS := (sRet (dDc (iEnu (dV 0)) (gTp 2 (gsCons (gNm 1) (gsCons (gNm 2) gsNil))) tYesD (dV 2) (dV 1) [1, 2]))
theorem rd_places {ds : List D} {P : D → Prop} (h : sp_places ds P) : d_places (fin true P) (st 3 ds) := by
  obtain ⟨d, zs, rfl, hd, hl, nd, q⟩ := h
  have key : ∀ e1 : En, dDcomp (gTp 2 (gsCons (gNm 1) (gsCons (gNm 2) gsNil))) tYesD (dV 2) (dV 1) P [e1, .no, .no] (enuD 0 (zs.map D.str)) [] := fun e1 => by
    rw [enu_zip]
    refine dcomp_new (fun p : Str × Nat => D.tup [.int ((p.2 : Nat) : Int), .str p.1]) plcF zs.zipIdx [] (fun p hp Q Z hQ => ?_) (by simp; omega) ?_ q
    · simp only [dC, dV, dB, dO2, ob_some, dT, dAndT, dOrT, dNotT, dIf, dAndV, dOrV, dNotV, dChain, aNil, aCons, dTup, dLst, dCut, oNone, oSome, dRev, dNeg, dTru, dCa, dIs, dIsA, dCall, dCallK, sNil, sSeq, sNever, sBrk, sCont, sIf, sRet, sRetO, sRetE, sSet, sSetO, sDrop, sPar, sPar3, kn, enOf, owD, sAsg, gNm, gsNil, gsCons, gTp, sApp, sIns, sExt, sClr, sRev, sPut, sFrz, owAt, fin, st, iRng, iRngB, iSeq, lstD, tupD, sFor, dLc, dDc, wipeE, tYesD, dIndex, dSort, dDictZip, dMeth, dFld, dMk, List.map_cons, List.map_nil, List.length_cons, List.length_nil, List.replicate_succ, List.replicate_zero, List.cons_append, List.nil_append, List.append_nil, List.getElem?_cons_zero, List.getElem?_cons_succ, List.set_cons_zero, List.set_cons_succ, Option.bind_some, Option.map_some, Nat.reduceSub, Nat.reduceAdd, kwP, List.getD_cons_zero, List.getD_cons_succ, keyD, if_true]
      exact ⟨trivial, trivial, hQ⟩
    · rw [List.nil_append, List.map_map]
      have : ((fun kd : Key × D => kd.1) ∘ plcF) = Sum.inr ∘ (Prod.fst : Str × Nat → Str) := rfl
      rw [this, ← List.map_map]
      refine nodup_inj (fun a b h => Sum.inr.inj h) ?_
      rw [List.zipIdx_map_fst]
      exact nd
  rcases hd with rfl | rfl
  · simp only [d_places, dC, dV, dB, dO2, ob_some, dT, dAndT, dOrT, dNotT, dIf, dAndV, dOrV, dNotV, dChain, aNil, aCons, dTup, dLst, dCut, oNone, oSome, dRev, dNeg, dTru, dCa, dIs, dIsA, dCall, dCallK, sNil, sSeq, sNever, sBrk, sCont, sIf, sRet, sRetO, sRetE, sSet, sSetO, sDrop, sPar, sPar3, kn, enOf, owD, sAsg, gNm, gsNil, gsCons, gTp, sApp, sIns, sExt, sClr, sRev, sPut, sFrz, owAt, fin, st, iRng, iRngB, iSeq, lstD, tupD, sFor, dLc, dDc, wipeE, tYesD, dIndex, dSort, dDictZip, dMeth, dFld, dMk, List.map_cons, List.map_nil, List.length_cons, List.length_nil, List.replicate_succ, List.replicate_zero, List.cons_append, List.nil_append, List.append_nil, List.getElem?_cons_zero, List.getElem?_cons_succ, List.set_cons_zero, List.set_cons_succ, Option.bind_some, Option.map_some, Nat.reduceSub, Nat.reduceAdd, kwP, List.getD_cons_zero, List.getD_cons_succ, iEnu]
    exact .inl (key _)
  · simp only [d_places, dC, dV, dB, dO2, ob_some, dT, dAndT, dOrT, dNotT, dIf, dAndV, dOrV, dNotV, dChain, aNil, aCons, dTup, dLst, dCut, oNone, oSome, dRev, dNeg, dTru, dCa, dIs, dIsA, dCall, dCallK, sNil, sSeq, sNever, sBrk, sCont, sIf, sRet, sRetO, sRetE, sSet, sSetO, sDrop, sPar, sPar3, kn, enOf, owD, sAsg, gNm, gsNil, gsCons, gTp, sApp, sIns, sExt, sClr, sRev, sPut, sFrz, owAt, fin, st, iRng, iRngB, iSeq, lstD, tupD, sFor, dLc, dDc, wipeE, tYesD, dIndex, dSort, dDictZip, dMeth, dFld, dMk, List.map_cons, List.map_nil, List.length_cons, List.length_nil, List.replicate_succ, List.replicate_zero, List.cons_append, List.nil_append, List.append_nil, List.getElem?_cons_zero, List.getElem?_cons_succ, List.set_cons_zero, List.set_cons_succ, Option.bind_some, Option.map_some, Nat.reduceSub, Nat.reduceAdd, kwP, List.getD_cons_zero, List.getD_cons_succ, iEnu]
    exact .inr (key _)
theorem ln_places {ds : List D} {P : D → Prop} (h : sp_places ds P) : ds.length = 1 := by obtain ⟨_, _, rfl, _⟩ := h; rfl
end DL
namespace DL
open PySem PySem.Spec PyProof.Rows L2 RK
def keysOf (kds : List (Key × D)) : List Key := kds.map (·.1)
theorem has_key (kds : List (Key × D)) (z : Key) : (valD kds z).isSome = true ↔ z ∈ keysOf kds := by
  unfold valD keysOf
  rw [Option.isSome_map, List.find?_isSome]
  constructor
  · rintro ⟨q, hq, e⟩
    rw [← of_decide_eq_true e]
    exact List.mem_map.mpr ⟨q, hq, rfl⟩
  · intro h
    obtain ⟨q, hq, e⟩ := List.mem_map.mp h
    exact ⟨q, hq, decide_eq_true e⟩
theorem keys_put (kds : List (Key × D)) (k : Key) (y : D) (z : Key) : z ∈ keysOf (putD kds k y) ↔ z ∈ keysOf kds ∨ z = k := by
  unfold putD
  by_cases h : (kds.any fun kd => decide (kd.1 = k)) = true
  · rw [if_pos h]
    have e : keysOf (kds.map fun kv => if kv.1 = k then (kv.1, y) else kv) = keysOf kds := by
      unfold keysOf
      rw [List.map_map]
      refine List.map_congr_left fun q _ => ?_
      show (if q.1 = k then (q.1, y) else q).1 = q.1
      by_cases g : q.1 = k
      · rw [if_pos g]
      · rw [if_neg g]
    rw [e]
    refine ⟨.inl, fun g => g.elim id fun g => ?_⟩
    obtain ⟨q, hq, e2⟩ := List.any_eq_true.mp h
    rw [g, ← of_decide_eq_true e2]
    exact List.mem_map.mpr ⟨q, hq, rfl⟩
  · rw [if_neg h]
    unfold keysOf
    rw [List.map_append, List.mem_append]
    simp
theorem put_len (kds : List (Key × D)) (k : Key) (y : D) : (putD kds k y).length ≤ kds.length + 1 := by
  unfold putD
  by_cases h : (kds.any fun kd => decide (kd.1 = k)) = true
  · rw [if_pos h, List.length_map]; omega
  · rw [if_neg h]; simp
theorem dcomp_keys {α : Type} {g : TDG} {tt : TDT} {tk tv : TDE} {P : D → Prop} {env : De} (enc : α → D) (key : α → Key) (v : D) : ∀ (l : List α) (acc : List (Key × D)), (∀ a ∈ l, ∀ (Q : Key → D → Prop) (Z : Prop), Q (key a) v → g (enc a) env fun env' => tt env' fun b => if b = true then tk env' fun k => tv env' fun y => ob (keyD k) fun k => Q k y else Z) →
    acc.length + l.length ≤ 1000000 → (∀ kds : List (Key × D), (∀ z, z ∈ keysOf kds ↔ z ∈ keysOf acc ∨ z ∈ l.map key) → P (.dic kds)) → dDcomp g tt tk tv P env (l.map enc) acc
  | [], acc, _, _, q => q acc fun z => by simp
  | a :: l, acc, h, hl, q => by
    refine h a List.mem_cons_self (fun k y => acc.length < sizeLine ∧ dDcomp g tt tk tv P env (l.map enc) (putD acc k y)) _ ⟨szM (by simp at hl; omega), ?_⟩
    refine dcomp_keys enc key v l _ (fun b hb => h b (List.mem_cons_of_mem _ hb)) (by have := put_len acc (key a) v; simp at hl; omega) fun kds hk => q kds fun z => ?_
    rw [hk, keys_put, List.map_cons, List.mem_cons]
    constructor
    · rintro ((h | h) | h)
      · exact .inl h
      · exact .inr (.inl h)
      · exact .inr (.inr h)
    · rintro (h | h | h)
      · exact .inl (.inl h)
      · exact .inl (.inr h)
      · exact .inr h
def Knows (kds : List (Key × D)) (p : Str → Prop) : Prop := ∀ z : Str, (Sum.inr z : Key) ∈ keysOf kds ↔ p z
theorem bIn_kn {neg : Bool} {kds : List (Key × D)} {p : Str → Prop} [DecidablePred p] (h : Knows kds p) (z : Str) : bIn neg (.str z) (.dic kds) = some (.bl (neg ^^ decide (p z))) := by
  show (none : Option D).or ((some (D.bl (neg ^^ (valD kds (Sum.inr z : Key)).isSome))).or _) = _
  have e : (valD kds (Sum.inr z : Key)).isSome = decide (p z) := by
    rw [Bool.eq_iff_iff, has_key, h z, decide_eq_true_iff]
  rw [e]
  rfl
theorem enu_zipG {α : Type} (enc : α → D) : ∀ (l : List α) (k : Nat), enuD k (l.map enc) = (l.zipIdx k).map fun p => .tup [.int ((p.2 : Nat) : Int), enc p.1]
  | [], _ => rfl
  | z :: zs, k => by rw [List.map_cons, enuD, enu_zipG enc zs (k + 1), List.zipIdx_cons, List.map_cons]
def IsPrs (d : D) (ps : List SP) : Prop := d = .lst (ps.map pairD) ∨ d = .tup (ps.map pairD)
def sp_is_pair : DSp := fun ds P => ∃ (kds : List (Key × D)) (zs : List Str) (p : SP), ds = [.dic kds, pairD p] ∧ Knows kds (· ∈ zs) ∧ p.1 ∈ zs ∧ p.2 ∈ zs ∧ p.1 ≠ p.2 ∧ NameOk p.1 ∧ NameOk p.2 ∧ P (.bl true)
def d_is_pair : TDS := (sSeq (sIf (dOrT (dNotT (dT (dIs "tuple" (dV 1)))) (dT (dO2 (bEqN true) (dCa lenD (aCons (dV 1) aNil)) (dC (.int 2))))) (sRet (dC (.bl false))) sNil)
  (sRet (dAndV (dCa allD (aCons (dLc (iSeq (dV 1)) (gNm 2) tYesD (dAndV (dIs "str" (dV 2)) (dO2 (bIn false) (dV 2) (dV 0))) [2]) aNil)) (dO2 (bEqN true) (dO2 bIx (dV 1) (dC (.int 0))) (dO2 bIx (dV 1) (dC (.int 1)))))))
theorem rd_is_pair {ds : List D} {P : D → Prop} (h : sp_is_pair ds P) : d_is_pair (fin false P) (st 3 ds) := by
  obtain ⟨kds, zs, p, rfl, hk, h1, h2, ne, n1, n2, q⟩ := h
  have i1 := bIn_kn (neg := false) hk p.1
  have i2 := bIn_kn (neg := false) hk p.2
  rw [decide_eq_true h1] at i1
  rw [decide_eq_true h2] at i2
  have en : bEqN true (.str p.1) (.str p.2) = some (.bl true) := by
    obtain ⟨b, e, hb⟩ := beq_iff (neg := true) (n := 0) (x := .str p.1) (y := .str p.2) (by decide) (name_ok n1) (name_ok n2)
    rw [e]
    cases b with
    | true => exact absurd (D.str.inj (hb.mp rfl)) ne
    | false => rfl
  have t1 : isD "tuple" (.tup [.str p.1, .str p.2]) = some true := rfl
  have t2 : ∀ x : Str, isD "str" (.str x) = some true := fun _ => rfl
  have l2 : lenD [.tup [.str p.1, .str p.2]] = some (.int 2) := rfl
  have e2 : bEqN true (.int 2) (.int 2) = some (.bl false) := rfl
  have x0 : bIx (.tup [.str p.1, .str p.2]) (.int 0) = some (.str p.1) := rfl
  have x1 : bIx (.tup [.str p.1, .str p.2]) (.int 1) = some (.str p.2) := rfl
  simp only [d_is_pair, dC, dV, dB, dO2, ob_some, dT, dAndT, dOrT, dNotT, dIf, dAndV, dOrV, dNotV, dChain, aNil, aCons, dTup, dLst, dCut, oNone, oSome, dRev, dNeg, dTru, dCa, dIs, dIsA, dCall, dCallK, sNil, sSeq, sNever, sBrk, sCont, sIf, sRet, sRetO, sRetE, sSet, sSetO, sDrop, sPar, sPar3, kn, enOf, owD, sAsg, gNm, gsNil, gsCons, gTp, sApp, sIns, sExt, sClr, sRev, sPut, sFrz, owAt, fin, st, iRng, iRngB, iSeq, lstD, tupD, sFor, dLc, dDc, wipeE, tYesD, dIndex, dSort, dDictZip, dMeth, dFld, dMk, List.map_cons, List.map_nil, List.length_cons, List.length_nil, List.replicate_succ, List.replicate_zero, List.cons_append, List.nil_append, List.append_nil, List.getElem?_cons_zero, List.getElem?_cons_succ, List.set_cons_zero, List.set_cons_succ, Option.bind_some, Option.map_some, Nat.reduceSub, Nat.reduceAdd, kwP, List.getD_cons_zero, List.getD_cons_succ, pairD, t1, l2, e2, Bool.not_true, Bool.false_eq_true, if_false]
  refine .inr (.inl ?_)
  refine comp_map D.str (fun _ => D.bl true) [p.1, p.2] [] (fun z hz Q Z hQ => ?_) (by simp) ?_
  · have iz : bIn false (.str z) (.dic kds) = some (.bl true) := by
      simp only [List.mem_cons, List.not_mem_nil, or_false] at hz
      rcases hz with rfl | rfl
      · exact i1
      · exact i2
    simp only [dC, dV, dB, dO2, ob_some, dT, dAndT, dOrT, dNotT, dIf, dAndV, dOrV, dNotV, dChain, aNil, aCons, dTup, dLst, dCut, oNone, oSome, dRev, dNeg, dTru, dCa, dIs, dIsA, dCall, dCallK, sNil, sSeq, sNever, sBrk, sCont, sIf, sRet, sRetO, sRetE, sSet, sSetO, sDrop, sPar, sPar3, kn, enOf, owD, sAsg, gNm, gsNil, gsCons, gTp, sApp, sIns, sExt, sClr, sRev, sPut, sFrz, owAt, fin, st, iRng, iRngB, iSeq, lstD, tupD, sFor, dLc, dDc, wipeE, tYesD, dIndex, dSort, dDictZip, dMeth, dFld, dMk, List.map_cons, List.map_nil, List.length_cons, List.length_nil, List.replicate_succ, List.replicate_zero, List.cons_append, List.nil_append, List.append_nil, List.getElem?_cons_zero, List.getElem?_cons_succ, List.set_cons_zero, List.set_cons_succ, Option.bind_some, Option.map_some, Nat.reduceSub, Nat.reduceAdd, kwP, List.getD_cons_zero, List.getD_cons_succ, t2, iz, if_true]
    exact hQ
  · have ea : allD [.lst ([] ++ [p.1, p.2].map fun _ => D.bl true)] = some (.bl true) := rfl
    simp only [ea, ob_some, if_true, x0, x1, en]
    exact q
def sp_check_wish : DSp := fun ds P => ∃ d zs e ps, ds = [d, e] ∧ IsSeq d zs ∧ IsPrs e ps ∧ zs.length ≤ 100000 ∧ ps.length ≤ 100000 ∧ (∀ p ∈ ps, p.1 ∈ zs ∧ p.2 ∈ zs ∧ p.1 ≠ p.2) ∧ (∀ z ∈ zs, NameOk z) ∧ P .non
def d_check_wish : TDS := (sSeq (sSet 2 (dDc (iSeq (dV 0)) (gNm 5) tYesD (dV 5) (dC (.bl true)) [5]))
  (sFor (iEnu (dV 1)) (gTp 2 (gsCons (gNm 3) (gsCons (gNm 4) gsNil))) (sIf (dNotT (dT (dCall sp_is_pair (aCons (dV 2) (aCons (dV 4) aNil))))) sNever sNil)))
theorem rd_check_wish {ds : List D} {P : D → Prop} (h : sp_check_wish ds P) : d_check_wish (fin false P) (st 6 ds) := by
  obtain ⟨d, zs, e, ps, rfl, hd, he, lz, lp, hp, nm, q⟩ := h
  simp only [d_check_wish, dC, dV, dB, dO2, ob_some, dT, dAndT, dOrT, dNotT, dIf, dAndV, dOrV, dNotV, dChain, aNil, aCons, dTup, dLst, dCut, oNone, oSome, dRev, dNeg, dTru, dCa, dIs, dIsA, dCall, dCallK, sNil, sSeq, sNever, sBrk, sCont, sIf, sRet, sRetO, sRetE, sSet, sSetO, sDrop, sPar, sPar3, kn, enOf, owD, sAsg, gNm, gsNil, gsCons, gTp, sApp, sIns, sExt, sClr, sRev, sPut, sFrz, owAt, fin, st, iRng, iRngB, iSeq, lstD, tupD, sFor, dLc, dDc, wipeE, tYesD, dIndex, dSort, dDictZip, dMeth, dFld, dMk, List.map_cons, List.map_nil, List.length_cons, List.length_nil, List.replicate_succ, List.replicate_zero, List.cons_append, List.nil_append, List.append_nil, List.getElem?_cons_zero, List.getElem?_cons_succ, List.set_cons_zero, List.set_cons_succ, Option.bind_some, Option.map_some, Nat.reduceSub, Nat.reduceAdd, kwP, List.getD_cons_zero, List.getD_cons_succ, iEnu]
  refine seq_strs hd ?_
  refine dcomp_keys D.str Sum.inr (.bl true) zs [] (fun z hz Q Z hQ => ?_) (by simp; omega) (fun kds hk => ?_)
  · simp only [dC, dV, dB, dO2, ob_some, dT, dAndT, dOrT, dNotT, dIf, dAndV, dOrV, dNotV, dChain, aNil, aCons, dTup, dLst, dCut, oNone, oSome, dRev, dNeg, dTru, dCa, dIs, dIsA, dCall, dCallK, sNil, sSeq, sNever, sBrk, sCont, sIf, sRet, sRetO, sRetE, sSet, sSetO, sDrop, sPar, sPar3, kn, enOf, owD, sAsg, gNm, gsNil, gsCons, gTp, sApp, sIns, sExt, sClr, sRev, sPut, sFrz, owAt, fin, st, iRng, iRngB, iSeq, lstD, tupD, sFor, dLc, dDc, wipeE, tYesD, dIndex, dSort, dDictZip, dMeth, dFld, dMk, List.map_cons, List.map_nil, List.length_cons, List.length_nil, List.replicate_succ, List.replicate_zero, List.cons_append, List.nil_append, List.append_nil, List.getElem?_cons_zero, List.getElem?_cons_succ, List.set_cons_zero, List.set_cons_succ, Option.bind_some, Option.map_some, Nat.reduceSub, Nat.reduceAdd, kwP, List.getD_cons_zero, List.getD_cons_succ, keyD, if_true]
    exact hQ
  · have kn : Knows kds (· ∈ zs) := fun z => by
      rw [hk]
      constructor
      · rintro (h | h)
        · cases h
        · obtain ⟨y, hy, e⟩ := List.mem_map.mp h
          rw [← Sum.inr.inj e]
          exact hy
      · exact fun h => .inr (List.mem_map.mpr ⟨z, h, rfl⟩)
    have loop : ∀ x5 : En, sLoop (gTp 2 (gsCons (gNm 3) (gsCons (gNm 4) gsNil))) (sIf (dNotT (dT (dCall sp_is_pair (aCons (dV 2) (aCons (dV 4) aNil))))) sNever sNil) { nx := fun _ => True ∧ P .non, rt := P } (enuD 0 (ps.map pairD)) [.fz d, .fz e, .fz (.dic kds), .no, .no, x5] := fun x5 => by
      rw [enu_zipG]
      refine loop_all (fun r : SP × Nat => D.tup [.int ((r.2 : Nat) : Int), pairD r.1]) ps.zipIdx (fun _ env => ∃ e3 e4 e5, env = [.fz d, .fz e, .fz (.dic kds), e3, e4, e5]) ⟨_, _, _, rfl⟩ (fun pre r post env ee h k hkk => ?_) (fun env h => ⟨trivial, q⟩)
      obtain ⟨e3, e4, e5, rfl⟩ := h
      have hm : r.1 ∈ ps := by
        have : r ∈ ps.zipIdx := by rw [ee]; simp
        have h2 : r.1 ∈ (ps.zipIdx).map Prod.fst := List.mem_map.mpr ⟨r, this, rfl⟩
        rw [List.zipIdx_map_fst] at h2
        exact h2
      obtain ⟨a1, a2, a3⟩ := hp r.1 hm
      simp only [dC, dV, dB, dO2, ob_some, dT, dAndT, dOrT, dNotT, dIf, dAndV, dOrV, dNotV, dChain, aNil, aCons, dTup, dLst, dCut, oNone, oSome, dRev, dNeg, dTru, dCa, dIs, dIsA, dCall, dCallK, sNil, sSeq, sNever, sBrk, sCont, sIf, sRet, sRetO, sRetE, sSet, sSetO, sDrop, sPar, sPar3, kn, enOf, owD, sAsg, gNm, gsNil, gsCons, gTp, sApp, sIns, sExt, sClr, sRev, sPut, sFrz, owAt, fin, st, iRng, iRngB, iSeq, lstD, tupD, sFor, dLc, dDc, wipeE, tYesD, dIndex, dSort, dDictZip, dMeth, dFld, dMk, List.map_cons, List.map_nil, List.length_cons, List.length_nil, List.replicate_succ, List.replicate_zero, List.cons_append, List.nil_append, List.append_nil, List.getElem?_cons_zero, List.getElem?_cons_succ, List.set_cons_zero, List.set_cons_succ, Option.bind_some, Option.map_some, Nat.reduceSub, Nat.reduceAdd, kwP, List.getD_cons_zero, List.getD_cons_succ]
      refine ⟨trivial, trivial, kds, zs, r.1, rfl, kn, a1, a2, a3, nm _ a1, nm _ a2, ?_⟩
      simp only [Bool.not_true, Bool.false_eq_true, if_false]
      exact hkk _ ⟨_, _, _, rfl⟩
    rcases he with rfl | rfl
    · exact .inl (loop .no)
    · exact .inr (loop .no)
def frees (ws : List Str) (ps : List SP) : List Str := ws.filter fun z => !(decide (z ∈ ps.map (·.2)))
def settle : Nat → List Str → List SP → List Str
  | 0, _, _ => []
  | n + 1, ws, ps => match frees ws ps with
    | [] => []
    | f :: _ => f :: settle n (ws.erase f) (ps.filter fun p => !(decide (p.1 = f)))
theorem strs_map : ∀ zs : List Str, strsD (zs.map D.str) = some zs
  | [] => rfl
  | z :: zs => by
    show (strsD (zs.map D.str)).map _ = _
    rw [strs_map zs]
    rfl
theorem ln_is_pair {ds : List D} {P : D → Prop} (h : sp_is_pair ds P) : ds.length = 2 := by obtain ⟨_, _, _, rfl, _⟩ := h; rfl
theorem ln_check_wish {ds : List D} {P : D → Prop} (h : sp_check_wish ds P) : ds.length = 2 := by obtain ⟨_, _, _, _, rfl, _⟩ := h; rfl
end DL
namespace DL
open PySem PySem.Spec PyProof.Rows L2 RK
theorem ixS_inj : ∀ {l : List Str} {a b : Str}, a ∈ l → b ∈ l → ixS l a = ixS l b → a = b
  | [], _, _, h, _, _ => by cases h
  | y :: r, a, b, ha, hb, e => by
    rw [ixS, ixS] at e
    by_cases h1 : y = a
    · by_cases h2 : y = b
      · rw [← h1, ← h2]
      · rw [if_pos h1, if_neg h2] at e
        omega
    · by_cases h2 : y = b
      · rw [if_neg h1, if_pos h2] at e
        omega
      · rw [if_neg h1, if_neg h2] at e
        exact ixS_inj ((List.mem_cons.mp ha).resolve_left fun z => h1 z.symm) ((List.mem_cons.mp hb).resolve_left fun z => h2 z.symm) (by omega)
def Keeps (cs : List SP) (p : List Str) : Prop := ∀ c ∈ cs, ixS p c.1 < ixS p c.2
theorem ixS_left : ∀ {b t : List Str} {a : Str}, a ∈ b → ixS (b ++ t) a = ixS b a ∧ ixS b a < b.length
  | [], _, _, h => by cases h
  | y :: r, t, a, h => by
    show ixS (y :: (r ++ t)) a = _ ∧ _
    rw [ixS, ixS]
    by_cases e : y = a
    · rw [if_pos e, if_pos e]
      exact ⟨rfl, by simp⟩
    · rw [if_neg e, if_neg e]
      obtain ⟨h1, h2⟩ := ixS_left (t := t) ((List.mem_cons.mp h).resolve_left fun z => e z.symm)
      exact ⟨by rw [h1], by simp; omega⟩
theorem ixS_right : ∀ {b t : List Str} {a : Str}, a ∉ b → ixS (b ++ t) a = b.length + ixS t a
  | [], t, a, _ => by simp
  | y :: r, t, a, h => by
    show ixS (y :: (r ++ t)) a = _
    have e : y ≠ a := fun z => h (by rw [z]; exact List.mem_cons_self)
    rw [ixS, if_neg e, ixS_right fun z => h (List.mem_cons_of_mem _ z), List.length_cons]
    omega
def ext (ns : List Str) : Nat → List Str → List (List Str)
  | 0, b => [b]
  | k + 1, b => (ns.filter fun n => !(decide (n ∈ b))).flatMap fun n => ext ns k (b ++ [n])
instance (cs : List SP) (p : List Str) : Decidable (Keeps cs p) := inferInstanceAs (Decidable (∀ c ∈ cs, _))
def left (cs : List SP) (b : List Str) : List SP := cs.filter fun c => !(decide (c.1 ∈ b))
def rest (ns b : List Str) : List Str := ns.filter fun n => !(decide (n ∈ b))
theorem rest_mem {ns b : List Str} {z : Str} : z ∈ rest ns b ↔ z ∈ ns ∧ z ∉ b := by
  unfold rest
  rw [List.mem_filter]
  simp
theorem left_mem {cs : List SP} {b : List Str} {c : SP} : c ∈ left cs b ↔ c ∈ cs ∧ c.1 ∉ b := by
  unfold left
  rw [List.mem_filter]
  simp
theorem left_step (cs : List SP) (b : List Str) (f : Str) : (left cs b).filter (fun p => !(decide (p.1 = f))) = left cs (b ++ [f]) := by
  unfold left
  rw [List.filter_filter]
  refine List.filter_congr fun c _ => ?_
  by_cases h1 : c.1 = f <;> by_cases h2 : c.1 ∈ b <;> simp [h1, h2]
theorem rest_step {ns : List Str} (nd : ns.Nodup) (b : List Str) (f : Str) : (rest ns b).erase f = rest ns (b ++ [f]) := by
  have nd2 : (rest ns b).Nodup := nd.filter _
  rw [nd2.erase_eq_filter]
  unfold rest
  rw [List.filter_filter]
  refine List.filter_congr fun c _ => ?_
  by_cases h1 : c = f <;> by_cases h2 : c ∈ b <;> simp [h1, h2]
theorem free_iff {cs : List SP} {ns b : List Str} {z : Str} : z ∈ frees (rest ns b) (left cs b) ↔ z ∈ rest ns b ∧ ∀ c ∈ cs, c.2 = z → c.1 ∈ b := by
  unfold frees
  rw [List.mem_filter]
  refine and_congr_right fun _ => ?_
  rw [Bool.not_eq_true', decide_eq_false_iff_not]
  constructor
  · intro h c hc e
    rcases Classical.em (c.1 ∈ b) with q | q
    · exact q
    · exact (h (List.mem_map.mpr ⟨c, left_mem.mpr ⟨hc, q⟩, e⟩)).elim
  · intro h hm
    obtain ⟨c, hc, e⟩ := List.mem_map.mp hm
    obtain ⟨h1, h2⟩ := left_mem.mp hc
    exact h2 (h c h1 e)
end DL
namespace DL
open PySem PySem.Spec PyProof.Rows L2 RK
inductive Sc where
  | mv (up : Bool) (ns : List Str)
  | pl (n : Str) (r : R)
  | rp (c : Int) (ss : List Sc)
def Sc.word : Sc → Str
  | .mv true _ => "raise"
  | .mv false _ => "lower"
  | .pl _ _ => "place"
  | .rp _ _ => "repeat"
mutual
def Sc.d : Sc → D
  | .mv true ns => .tup [.str "raise", .lst (ns.map D.str)]
  | .mv false ns => .tup [.str "lower", .lst (ns.map D.str)]
  | .pl n r => .tup [.str "place", .str n, rectD r]
  | .rp c ss => .tup [.str "repeat", .int c, .lst (Sc.ds ss)]
def Sc.ds : List Sc → List D
  | [] => []
  | s :: ss => s.d :: Sc.ds ss
end
theorem Sc.items (s : Sc) : ∃ xs, s.d = .tup (.str s.word :: xs) := by
  cases s with
  | mv up ns => cases up <;> exact ⟨_, by rw [Sc.d]; rfl⟩
  | pl n r => exact ⟨_, by rw [Sc.d]; rfl⟩
  | rp c ss => exact ⟨_, by rw [Sc.d]; rfl⟩
def Sc.isRp : Sc → Bool
  | .rp _ _ => true
  | _ => false
end DL
namespace DL
open PySem PySem.Spec PyProof.Rows L2 RK
inductive Dp : Nat → Sc → Prop
  | mv {n : Nat} {up : Bool} {ns : List Str} : Dp n (.mv up ns)
  | pl {n : Nat} {x : Str} {r : R} : Dp n (.pl x r)
  | rp {n : Nat} {c : Int} {ss : List Sc} : (∀ s ∈ ss, Dp n s) → Dp (n + 1) (.rp c ss)
theorem Dp.up {n : Nat} {s : Sc} (h : Dp n s) : Dp (n + 1) s := by
  induction h with
  | mv => exact .mv
  | pl => exact .pl
  | rp _ ih => exact .rp ih
mutual
def Sc.sz : Sc → Nat
  | .mv _ _ => 1
  | .pl _ _ => 1
  | .rp _ ss => 1 + Sc.szs ss
def Sc.szs : List Sc → Nat
  | [] => 0
  | s :: ss => s.sz + Sc.szs ss
end
end DL
namespace DL
open PySem PySem.Spec PyProof.Rows L2 RK
def RtM (nm ns : List Str) : Prop := ns ≠ [] ∧ ns.Nodup ∧ (∀ n ∈ ns, n ∈ nm) ∧ ns.length ≤ 1000
theorem keys_strs : ∀ zs : List Str, keysD (zs.map D.str) = some (zs.map Sum.inr)
  | [] => rfl
  | z :: zs => by
    show (some (Sum.inr z : Key)).bind _ = _
    rw [Option.bind_some, keys_strs zs]
    rfl
theorem nd_inr {zs : List Str} (h : zs.Nodup) : (zs.map (Sum.inr : Str → Key)).Nodup := by
  rw [List.nodup_iff_pairwise_ne, List.pairwise_map]
  exact (List.nodup_iff_pairwise_ne.mp h).imp fun h e => h (Sum.inr.inj e)
inductive Rt (nm : List Str) : Sc → Prop
  | mv {up : Bool} {ns : List Str} : RtM nm ns → Rt nm (.mv up ns)
  | pl {n : Str} {r : R} : n ∈ nm → r.good → Rt nm (.pl n r)
  | rp {c : Int} {ss : List Sc} : 0 ≤ c → c ≤ 1000000000000000000 → ss.length ≤ 100000 → (∀ s ∈ ss, Rt nm s) → Rt nm (.rp c ss)
end DL
namespace DL
open PySem PySem.Spec PyProof.Rows L2 RK
mutual
def Sc.fl : Sc → List Sc
  | .mv up ns => [.mv up ns]
  | .pl n r => [.pl n r]
  | .rp c ss => if c = 0 then [] else Sc.fls ss
def Sc.fls : List Sc → List Sc
  | [] => []
  | s :: ss => s.fl ++ Sc.fls ss
end
mutual
theorem fl_len : ∀ s : Sc, s.fl.length ≤ s.sz
  | .mv up ns => by rw [Sc.fl, Sc.sz]; exact Nat.le_refl _
  | .pl n r => by rw [Sc.fl, Sc.sz]; exact Nat.le_refl _
  | .rp c ss => by
    rw [Sc.fl, Sc.sz]
    have := fls_len ss
    split
    · simp
    · omega
theorem fls_len : ∀ ss : List Sc, (Sc.fls ss).length ≤ Sc.szs ss
  | [] => by rw [Sc.fls, Sc.szs]; exact Nat.le_refl _
  | s :: ss => by
    rw [Sc.fls, Sc.szs, List.length_append]
    have := fl_len s
    have := fls_len ss
    omega
end
end DL
namespace DL
open PySem PySem.Spec PyProof.Rows L2 RK
def plW (us : List Win) (n : Str) (r : R) : List Win := us.map fun w => if w.1 = n then (n, r) else w
theorem nms_pl (us : List Win) (n : Str) (r : R) : nms (plW us n r) = nms us := by
  unfold nms plW
  rw [List.map_map]
  refine List.map_congr_left fun w _ => ?_
  show (if w.1 = n then (n, r) else w).1 = w.1
  by_cases h : w.1 = n
  · rw [if_pos h]; exact h.symm
  · rw [if_neg h]
theorem pl_ok {us : List Win} (W : WOk us) {n : Str} {r : R} (g : r.good) (hn : n ∈ nms us) : WOk (plW us n r) := by
  refine ⟨by rw [nms_pl]; exact W.nd, fun w hw => ?_, fun w hw => ?_⟩
  · obtain ⟨v, hv, rfl⟩ := List.mem_map.mp hw
    by_cases h : v.1 = n
    · rw [if_pos h]; rw [← h]; exact W.nm v hv
    · rw [if_neg h]; exact W.nm v hv
  · obtain ⟨v, hv, rfl⟩ := List.mem_map.mp hw
    by_cases h : v.1 = n
    · rw [if_pos h]; exact g
    · rw [if_neg h]; exact W.gd v hv
structure DkOk (us : List Win) : Prop where
  w : WOk us
  s : SortW us
  l1 : 1 ≤ us.length
  l2 : us.length ≤ 24
theorem DkOk.pl {us : List Win} (h : DkOk us) {n : Str} {r : R} (g : r.good) (hn : n ∈ nms us) : DkOk (plW us n r) :=
  ⟨pl_ok h.w g hn, by unfold SortW; rw [nms_pl]; exact h.s, by unfold plW; rw [List.length_map]; exact h.l1, by unfold plW; rw [List.length_map]; exact h.l2⟩
def movS (zs : List Str) (up : Bool) (ns : List Str) : List Str := if up = true then zs.filter (fun z => !(decide (z ∈ ns))) ++ zs.filter (fun z => decide (z ∈ ns)) else zs.filter (fun z => decide (z ∈ ns)) ++ zs.filter (fun z => !(decide (z ∈ ns)))
theorem mov_perm (zs : List Str) (up : Bool) (ns : List Str) : (movS zs up ns).Perm zs := by
  unfold movS
  have h := List.filter_append_perm (fun z => decide (z ∈ ns)) zs
  split
  · exact List.perm_append_comm.trans h
  · exact h
theorem bEq_s (a b : Str) : bEqN false (.str a) (.str b) = some (.bl (decide (a = b))) := by
  show (some (D.bl (false ^^ decide (a = b)))).or _ = _
  rw [Bool.false_xor]
  rfl
theorem bNe_s (a b : Str) : bEqN true (.str a) (.str b) = some (.bl (!decide (a = b))) := by
  show (some (D.bl (true ^^ decide (a = b)))).or _ = _
  rw [Bool.true_xor]
  rfl
theorem mv_d (up : Bool) (ns : List Str) : (Sc.mv up ns).d = .tup [.str (Sc.mv up ns).word, .lst (ns.map D.str)] := by cases up <;> rfl
def stW (us : List Win) : Sc → List Win
  | .pl n r => plW us n r
  | _ => us
def stO (zs : List Str) : Sc → List Str
  | .mv up ns => movS zs up ns
  | _ => zs
def aftW (us : List Win) (ps : List Sc) : List Win := ps.foldl stW us
def aftO (zs : List Str) (ps : List Sc) : List Str := ps.foldl stO zs
theorem o_perm (zs : List Str) (s : Sc) : (stO zs s).Perm zs := by
  cases s with
  | mv up ns => exact mov_perm _ _ _
  | _ => exact .refl _
theorem aftO_perm : ∀ (ps : List Sc) (zs : List Str), (aftO zs ps).Perm zs
  | [], _ => .refl _
  | p :: ps, zs => (aftO_perm ps (stO zs p)).trans (o_perm zs p)
def Plain (nm : List Str) (ps : List Sc) : Prop := ∀ s ∈ ps, s.isRp = false ∧ Rt nm s
theorem DkOk.st {us : List Win} (h : DkOk us) {s : Sc} (hp : s.isRp = false ∧ Rt (nms us) s) : DkOk (stW us s) := by
  obtain ⟨h1, h2⟩ := hp
  cases h2 with
  | mv _ => exact h
  | pl hn g => exact h.pl g hn
  | rp _ _ _ _ => cases h1
end DL
namespace DL
open PySem PySem.Spec PyProof.Rows L2 RK
def prt (s : Sc) (a b : Str) : Bool := match s with
  | .mv _ ns => decide (a ∈ ns) != decide (b ∈ ns)
  | _ => false
def pov (s : Sc) (a : Str) : Bool := match s with
  | .mv up ns => up == decide (a ∈ ns)
  | _ => false
def lastP (ps : List Sc) (a b : Str) : Option Sc := (ps.filter fun s => prt s a b).getLast?
def wordP (ps : List Sc) (a b : Str) : Str := match lastP ps a b with
  | none => "left"
  | some s => if pov s a = true then "over" else "under"
theorem plain_fl {nm : List Str} : ∀ {n : Nat} {s : Sc}, Dp n s → Rt nm s → Plain nm s.fl := by
  intro n s h
  induction h with
  | mv => intro rt t ht; rw [Sc.fl, List.mem_singleton] at ht; rw [ht]; exact ⟨rfl, rt⟩
  | pl => intro rt t ht; rw [Sc.fl, List.mem_singleton] at ht; rw [ht]; exact ⟨rfl, rt⟩
  | rp _ ih =>
    rename_i c ss _
    intro rt t ht
    rw [Sc.fl] at ht
    split at ht
    · cases ht
    · cases rt with
      | rp _ _ _ h4 =>
        have key : ∀ ts : List Sc, (∀ s ∈ ts, s ∈ ss) → t ∈ Sc.fls ts → t.isRp = false ∧ Rt nm t := by
          intro ts
          induction ts with
          | nil => intro _ h; rw [Sc.fls] at h; cases h
          | cons s ts ih2 =>
            intro hs h
            rw [Sc.fls] at h
            rcases List.mem_append.mp h with h | h
            · exact ih s (hs s List.mem_cons_self) (h4 s (hs s List.mem_cons_self)) t h
            · exact ih2 (fun x hx => hs x (List.mem_cons_of_mem _ hx)) h
        exact key ss (fun _ h => h) ht
theorem plain_fls {nm : List Str} {n : Nat} : ∀ {ss : List Sc}, (∀ s ∈ ss, Rt nm s ∧ Dp n s) → Plain nm (Sc.fls ss)
  | [], _ => fun t ht => by rw [Sc.fls] at ht; cases ht
  | s :: ss, h => fun t ht => by
    rw [Sc.fls] at ht
    rcases List.mem_append.mp ht with ht | ht
    · exact plain_fl (h s List.mem_cons_self).2 (h s List.mem_cons_self).1 t ht
    · exact plain_fls (fun x hx => h x (List.mem_cons_of_mem _ hx)) t ht
def RtS (nm : List Str) (ss : List Sc) : Prop := (∀ s ∈ ss, Rt nm s ∧ Dp 5 s) ∧ Sc.szs ss ≤ 400
theorem RtS.plain {nm : List Str} {ss : List Sc} (h : RtS nm ss) : Plain nm (Sc.fls ss) := plain_fls h.1
def effP (us : List Win) (ps : List Sc) : List SP := prs (ovl (aftW us ps)) (nms us)
end DL
namespace DL
open PySem PySem.Spec PyProof.Rows L2 RK
theorem ixS_filter {p : Str → Bool} : ∀ {l : List Str} {a b : Str}, a ∈ l → b ∈ l → p a = true → p b = true → (ixS (l.filter p) a < ixS (l.filter p) b ↔ ixS l a < ixS l b)
  | [], _, _, h, _, _, _ => by cases h
  | y :: r, a, b, ha, hb, pa, pb => by
    by_cases hy : p y = true
    · rw [List.filter_cons_of_pos hy, ixS, ixS, ixS, ixS]
      by_cases h1 : y = a
      · by_cases h2 : y = b
        · rw [if_pos h1, if_pos h2, if_pos h1, if_pos h2]
        · rw [if_pos h1, if_neg h2, if_pos h1, if_neg h2]
          omega
      · by_cases h2 : y = b
        · rw [if_neg h1, if_pos h2, if_neg h1, if_pos h2]
          omega
        · rw [if_neg h1, if_neg h2, if_neg h1, if_neg h2]
          have := ixS_filter (p := p) ((List.mem_cons.mp ha).resolve_left fun z => h1 z.symm) ((List.mem_cons.mp hb).resolve_left fun z => h2 z.symm) pa pb
          omega
    · have h1 : y ≠ a := fun z => hy (by rw [z]; exact pa)
      have h2 : y ≠ b := fun z => hy (by rw [z]; exact pb)
      rw [List.filter_cons_of_neg hy, ixS, ixS, if_neg h1, if_neg h2]
      have := ixS_filter (p := p) ((List.mem_cons.mp ha).resolve_left fun z => h1 z.symm) ((List.mem_cons.mp hb).resolve_left fun z => h2 z.symm) pa pb
      omega
theorem ixS_parts {p : Str → Bool} {l : List Str} {a b : Str} (ha : a ∈ l) (hb : b ∈ l) :
    (ixS (l.filter p ++ l.filter fun z => !p z) a < ixS (l.filter p ++ l.filter fun z => !p z) b) ↔ (if p a = p b then ixS l a < ixS l b else p a = true) := by
  have inX : ∀ {z : Str}, z ∈ l → p z = true → z ∈ l.filter p := fun h q => List.mem_filter.mpr ⟨h, q⟩
  have inY : ∀ {z : Str}, z ∈ l → p z = false → z ∈ l.filter (fun z => !p z) ∧ z ∉ l.filter p := fun h q => ⟨List.mem_filter.mpr ⟨h, by rw [q]; rfl⟩, fun w => by have := (List.mem_filter.mp w).2; rw [q] at this; cases this⟩
  cases pa : p a with
  | true =>
    cases pb : p b with
    | true =>
      rw [if_pos rfl, (ixS_left (inX ha pa)).1, (ixS_left (inX hb pb)).1]
      exact ixS_filter ha hb pa pb
    | false =>
      rw [if_neg (by simp), (ixS_left (inX ha pa)).1, ixS_right (inY hb pb).2]
      have := (ixS_left (t := []) (inX ha pa)).2
      simp
      omega
  | false =>
    cases pb : p b with
    | true =>
      rw [if_neg (by simp), (ixS_left (inX hb pb)).1, ixS_right (inY ha pa).2]
      have := (ixS_left (t := []) (inX hb pb)).2
      simp
      omega
    | false =>
      rw [if_pos rfl, ixS_right (inY ha pa).2, ixS_right (inY hb pb).2]
      have := ixS_filter (p := fun z => !p z) ha hb (by rw [pa]; rfl) (by rw [pb]; rfl)
      omega
theorem mov_bef {zs ns : List Str} {up : Bool} {a b : Str} (ha : a ∈ zs) (hb : b ∈ zs) :
    (ixS (movS zs up ns) a < ixS (movS zs up ns) b) ↔ (if prt (.mv up ns) a b = true then pov (.mv up ns) b = true else ixS zs a < ixS zs b) := by
  unfold movS prt pov
  cases up with
  | true =>
    have e : (zs.filter fun z => decide (z ∈ ns)) = zs.filter fun z => !(!decide (z ∈ ns)) := List.filter_congr fun z _ => by rw [Bool.not_not]
    rw [if_pos rfl, e, ixS_parts (p := fun z => !decide (z ∈ ns)) ha hb]
    show (if (!decide (a ∈ ns)) = (!decide (b ∈ ns)) then ixS zs a < ixS zs b else (!decide (a ∈ ns)) = true) ↔ (if (decide (a ∈ ns) != decide (b ∈ ns)) = true then (true == decide (b ∈ ns)) = true else ixS zs a < ixS zs b)
    cases decide (a ∈ ns) <;> cases decide (b ∈ ns) <;> first | exact Iff.rfl | simp
  | false =>
    rw [if_neg Bool.false_ne_true, ixS_parts (p := fun z => decide (z ∈ ns)) ha hb]
    show (if decide (a ∈ ns) = decide (b ∈ ns) then ixS zs a < ixS zs b else decide (a ∈ ns) = true) ↔ (if (decide (a ∈ ns) != decide (b ∈ ns)) = true then (false == decide (b ∈ ns)) = true else ixS zs a < ixS zs b)
    cases decide (a ∈ ns) <;> cases decide (b ∈ ns) <;> first | exact Iff.rfl | simp
def befP (ps : List Sc) (zs : List Str) (a b : Str) : Prop := match lastP ps a b with
  | some s => pov s b = true
  | none => ixS zs a < ixS zs b
theorem lastP_snoc (ps : List Sc) (s : Sc) (a b : Str) : lastP (ps ++ [s]) a b = if prt s a b = true then some s else lastP ps a b := by
  unfold lastP
  rw [List.filter_append]
  by_cases h : prt s a b = true
  · rw [if_pos h, List.filter_cons_of_pos (p := fun s => prt s a b) h, List.filter_nil, List.getLast?_append]
    rfl
  · rw [if_neg h, List.filter_cons_of_neg (p := fun s => prt s a b) h, List.filter_nil, List.append_nil]
theorem aft_bef {zs : List Str} {a b : Str} (ha : a ∈ zs) (hb : b ∈ zs) : ∀ (n : Nat) (ps : List Sc), ps.length = n → ((ixS (aftO zs ps) a < ixS (aftO zs ps) b) ↔ befP ps zs a b) := by
  intro n
  induction n with
  | zero =>
    intro ps h
    rw [List.eq_nil_of_length_eq_zero h]
    exact Iff.rfl
  | succ n ih0 =>
    intro qs h
    obtain ⟨ps, s, rfl⟩ : ∃ ps s, qs = ps ++ [s] := by
      rcases List.eq_nil_or_concat qs with e | ⟨l, p, e⟩
      · rw [e] at h; cases h
      · exact ⟨l, p, by rw [e, List.concat_eq_append]⟩
    have ih := ih0 ps (by rw [List.length_append] at h; simpa using h)
    have ao : aftO zs (ps ++ [s]) = stO (aftO zs ps) s := by unfold aftO; rw [List.foldl_append]; rfl
    have m : ∀ {z : Str}, z ∈ zs → z ∈ aftO zs ps := fun h => (aftO_perm ps zs).mem_iff.mpr h
    unfold befP
    rw [ao, lastP_snoc]
    cases s with
    | mv up ns =>
      show (ixS (movS (aftO zs ps) up ns) a < ixS (movS (aftO zs ps) up ns) b) ↔ _
      rw [mov_bef (m ha) (m hb)]
      by_cases h : prt (.mv up ns) a b = true
      · rw [if_pos h, if_pos h]
      · rw [if_neg h, if_neg h]
        exact ih
    | _ => exact ih
end DL
namespace DL
open PySem PySem.Spec PyProof.Rows L2 RK
abbrev LkH := Str × Str × Nat
structure Pot (ns : List Str) (ls : List LkH) (Φ : Str → Nat) : Prop where
  mem : ∀ l ∈ ls, l.1 ∈ ns ∧ l.2.1 ∈ ns
  le : ∀ l ∈ ls, Φ l.1 + l.2.2 ≤ Φ l.2.1
def putS (b : List SP) (k v : Str) : List SP := if (b.any fun p => decide (p.1 = k)) = true then b.map (fun p => if p.1 = k then (p.1, v) else p) else b ++ [(k, v)]
def bfr (b : List SP) (z : Str) : Option Str := (b.find? fun p => decide (p.1 = z)).map (·.2)
theorem bfr_put (b : List SP) (k v z : Str) : bfr (putS b k v) z = if k = z then some v else bfr b z := by
  unfold putS
  split
  · rename_i h
    induction b with
    | nil => simp at h
    | cons p b ih =>
      unfold bfr at ih ⊢
      rw [List.map_cons, List.find?_cons, List.find?_cons]
      by_cases e : p.1 = k
      · rw [if_pos e]
        by_cases e2 : k = z
        · have e3 : p.1 = z := e.trans e2
          simp [e2, e3]
        · have e3 : ¬ p.1 = z := fun q => e2 (e.symm.trans q)
          simp only [e3, e2, decide_false, if_false]
          by_cases hb : (b.any fun p => decide (p.1 = k)) = true
          · have := ih hb
            rw [if_neg e2] at this
            exact this
          · have : b.map (fun p => if p.1 = k then (p.1, v) else p) = b := by
              conv => rhs; rw [← List.map_id b]
              refine List.map_congr_left fun q hq => ?_
              rw [if_neg fun e => hb (List.any_eq_true.mpr ⟨q, hq, decide_eq_true e⟩)]
              rfl
            rw [this]
      · rw [if_neg e]
        have hb : (b.any fun p => decide (p.1 = k)) = true := by
          rw [List.any_cons, decide_eq_false e, Bool.false_or] at h
          exact h
        by_cases e2 : p.1 = z
        · have e3 : ¬ k = z := fun q => e (e2.trans q.symm)
          simp [e2, e3]
        · simp only [e2, decide_false]
          exact ih hb
  · rename_i h
    unfold bfr
    rw [List.find?_append]
    by_cases e : k = z
    · subst e
      have : (b.find? fun p => decide (p.1 = k)) = none := by
        rw [List.find?_eq_none]
        intro q hq hz
        exact h (List.any_eq_true.mpr ⟨q, hq, hz⟩)
      rw [this, if_pos rfl]
      simp
    · rw [if_neg e]
      have : ([(k, v)] : List SP).find? (fun p => decide (p.1 = z)) = none := by simp [e]
      rw [this, Option.or_none]
def upS (h : Str → Nat) (k : Str) (v : Nat) : Str → Nat := fun x => if x = k then v else h x
theorem upS_same {h : Str → Nat} {k : Str} {v : Nat} : upS h k v k = v := if_pos rfl
theorem upS_ne {h : Str → Nat} {k x : Str} {v : Nat} (e : x ≠ k) : upS h k v x = h x := if_neg e
structure HInv (ns : List Str) (ls : List LkH) (Φ h : Str → Nat) (b : List SP) (t : Str → Nat) (c : Nat) : Prop where
  le : ∀ x ∈ ns, h x ≤ Φ x
  bf : ∀ x y, bfr b x = some y → x ∈ ns ∧ y ∈ ns ∧ ∃ w, (y, x, w) ∈ ls ∧ h x ≤ h y + w ∧ (t y < t x ∨ h x < h y + w)
  z0 : ∀ x ∈ ns, bfr b x = none → h x = 0
  tc : ∀ x, t x ≤ c
theorem HInv.step {ns : List Str} {ls : List LkH} {Φ h t : Str → Nat} {b : List SP} {c w : Nat} {lo hi : Str} (P : Pot ns ls Φ) (I : HInv ns ls Φ h b t c) (hl : (lo, hi, w) ∈ ls) (hg : h hi < h lo + w) : HInv ns ls Φ (upS h hi (h lo + w)) (putS b hi lo) (upS t hi (c + 1)) (c + 1) := by
  obtain ⟨m1, m2⟩ := P.mem _ hl
  have pl := P.le _ hl
  have m1 : lo ∈ ns := m1
  have m2 : hi ∈ ns := m2
  have pl : Φ lo + w ≤ Φ hi := pl
  have ne : lo ≠ hi := fun e => by
    subst e
    omega
  have b0 := I.le lo m1
  refine ⟨fun x hx => ?_, fun x y h1 => ?_, fun x hx h1 => ?_, fun x => ?_⟩
  · by_cases e : x = hi
    · subst e; rw [upS_same]; omega
    · rw [upS_ne e]; exact I.le x hx
  · rw [bfr_put] at h1
    by_cases e : hi = x
    · subst e
      rw [if_pos rfl] at h1
      cases h1
      refine ⟨m2, m1, w, hl, ?_, .inl ?_⟩
      · rw [upS_same, upS_ne ne]; exact Nat.le_refl _
      · rw [upS_same, upS_ne ne]; have := I.tc lo; omega
    · rw [if_neg e] at h1
      obtain ⟨g1, g2, w2, g3, g4, g5⟩ := I.bf x y h1
      have e' : x ≠ hi := fun z => e z.symm
      by_cases e2 : y = hi
      · subst e2
        refine ⟨g1, g2, w2, g3, ?_, .inr ?_⟩ <;> rw [upS_same, upS_ne e'] <;> omega
      · refine ⟨g1, g2, w2, g3, ?_, ?_⟩
        · rw [upS_ne e', upS_ne e2]; exact g4
        · rw [upS_ne e', upS_ne e2, upS_ne e', upS_ne e2]; exact g5
  · rw [bfr_put] at h1
    by_cases e : hi = x
    · subst e; rw [if_pos rfl] at h1; cases h1
    · rw [if_neg e] at h1
      rw [upS_ne fun z => e z.symm]
      exact I.z0 x hx h1
  · by_cases e : x = hi
    · subst e; rw [upS_same]; exact Nat.le_refl _
    · rw [upS_ne e]; have := I.tc x; omega
def msH (ns : List Str) (Φ h : Str → Nat) : Nat := (ns.map fun x => Φ x - h x).sum
theorem ms_le {Φ h h' : Str → Nat} : ∀ {ns : List Str}, (∀ x ∈ ns, h x ≤ h' x) → msH ns Φ h' ≤ msH ns Φ h
  | [], _ => Nat.le_refl _
  | x :: ns, hh => by
    have := ms_le (Φ := Φ) (ns := ns) fun y hy => hh y (List.mem_cons_of_mem _ hy)
    unfold msH at this ⊢
    have := hh x List.mem_cons_self
    rw [List.map_cons, List.sum_cons, List.map_cons, List.sum_cons]
    omega
theorem ms_lt {Φ h h' : Str → Nat} : ∀ {ns : List Str}, (∀ x ∈ ns, h x ≤ h' x) → (∃ x ∈ ns, h x < h' x ∧ h' x ≤ Φ x) → msH ns Φ h' < msH ns Φ h
  | [], _, ⟨x, hx, _⟩ => by cases hx
  | x :: ns, hh, ⟨y, hy, h1, h2⟩ => by
    have h3 := hh x List.mem_cons_self
    have h4 := ms_le (Φ := Φ) (ns := ns) fun y hy => hh y (List.mem_cons_of_mem _ hy)
    rcases List.mem_cons.mp hy with rfl | hy
    · unfold msH at h4 ⊢
      rw [List.map_cons, List.sum_cons, List.map_cons, List.sum_cons]
      omega
    · have h5 := ms_lt (Φ := Φ) (ns := ns) (fun y hy => hh y (List.mem_cons_of_mem _ hy)) ⟨y, hy, h1, h2⟩
      unfold msH at h5 ⊢
      rw [List.map_cons, List.sum_cons, List.map_cons, List.sum_cons]
      omega
structure Hts (ns : List Str) (ls : List LkH) (h : Str → Nat) (b : List SP) : Prop where
  ok : ∀ l ∈ ls, h l.1 + l.2.2 ≤ h l.2.1
  bf : ∀ x y, bfr b x = some y → x ∈ ns ∧ y ∈ ns ∧ ∃ w, (y, x, w) ∈ ls ∧ h x = h y + w
  z0 : ∀ x ∈ ns, bfr b x = none → h x = 0
  t : ∃ t : Str → Nat, ∀ x y, bfr b x = some y → t y < t x
theorem HInv.hts {ns : List Str} {ls : List LkH} {Φ h t : Str → Nat} {b : List SP} {c : Nat} (I : HInv ns ls Φ h b t c) (ok : ∀ l ∈ ls, h l.1 + l.2.2 ≤ h l.2.1) : Hts ns ls h b := by
  have key : ∀ x y, bfr b x = some y → x ∈ ns ∧ y ∈ ns ∧ (∃ w, (y, x, w) ∈ ls ∧ h x = h y + w) ∧ t y < t x := fun x y e => by
    obtain ⟨g1, g2, w, g3, g4, g5⟩ := I.bf x y e
    have := ok _ g3
    have h1 : h y + w ≤ h x := this
    refine ⟨g1, g2, ⟨w, g3, by omega⟩, ?_⟩
    rcases g5 with g5 | g5
    · exact g5
    · omega
  exact ⟨ok, fun x y e => ⟨(key x y e).1, (key x y e).2.1, (key x y e).2.2.1⟩, I.z0, t, fun x y e => (key x y e).2.2.2⟩
inductive Way (b : List SP) : List Str → Str → Prop
  | one {z : Str} : bfr b z = none → Way b [z] z
  | cons {z y : Str} {c : List Str} : bfr b z = some y → Way b c y → Way b (c ++ [z]) z
end DL
namespace DL
open PySem PySem.Spec PyProof.Rows L2 RK
instance decR : DecidableEq R := fun a b => decidable_of_iff (a.l = b.l ∧ a.t = b.t ∧ a.r = b.r ∧ a.b = b.b) ⟨fun ⟨h1, h2, h3, h4⟩ => by cases a; cases b; cases h1; cases h2; cases h3; cases h4; rfl, fun h => by rw [h]; exact ⟨rfl, rfl, rfl, rfl⟩⟩
end DL
namespace DL
open PySem PySem.Spec PyProof.Rows L2 RK
def Alk (us : List Win) (a b : List Sc) : Prop := aftW us a = aftW us b ∧ ∀ p ∈ effP us a, wordP a p.1 p.2 = wordP b p.1 p.2
theorem Alk.refl (us : List Win) (a : List Sc) : Alk us a a := ⟨rfl, fun _ _ => rfl⟩
theorem Alk.trans {us : List Win} {a b c : List Sc} (h : Alk us a b) (g : Alk us b c) : Alk us a c := ⟨h.1.trans g.1, fun p hp => (h.2 p hp).trans (g.2 p (by unfold effP at hp ⊢; rw [← h.1]; exact hp))⟩
end DL
namespace DL
open PySem PySem.Spec PyProof.Rows L2 RK
end DL
namespace DL
open PySem PySem.Spec PyProof.Rows L2 RK
end DL
namespace DL
open PySem PySem.Spec PyProof.Rows L2 RK
end DL
namespace DL
open PySem PySem.Spec PyProof.Rows L2 RK
def Lk : List Str → List SP
  | a :: b :: r => (a, b) :: Lk (b :: r)
  | _ => []
theorem seq_prs {d : D} {ps : List SP} (h : IsPrs d ps) {P : List D → Prop} (q : P (ps.map pairD)) : ob (lstD d) P ∨ ob (tupD d) P ∨ ob (sgnD d) P := by
  rcases h with rfl | rfl
  · exact .inl q
  · exact .inr (.inl q)
def cntW (os zs : List Str) : Nat := ((Lk zs).filter fun p => decide (ixS os p.2 < ixS os p.1)).length
def tlD (os : List Str) (ps : List SP) (zs : List Str) : D := if 2 ≤ zs.length ∧ ((Lk zs).all fun p => decide (p ∈ ps)) = true then .int ((cntW os zs : Nat) : Int) else .non
end DL
namespace DL
open PySem PySem.Spec PyProof.Rows L2 RK
def Pok (p : SP) : Prop := PyData.strOk p.1 = true ∧ PyData.strOk p.2 = true
theorem sh_pok {n : Nat} {p : SP} (h : Pok p) : sh (n + 1) (pairD p) = true := by
  show (sh n (.str p.1) && (sh n (.str p.2) && true)) = true
  have e1 : sh n (.str p.1) = true := by cases n <;> exact h.1
  have e2 : sh n (.str p.2) = true := by cases n <;> exact h.2
  rw [e1, e2]
  rfl
theorem sh_poks {n : Nat} {ps : List SP} (h : ∀ p ∈ ps, Pok p) : sh (n + 2) (.lst (ps.map pairD)) = true := by
  show (ps.map pairD).all (sh (n + 1)) = true
  rw [List.all_eq_true]
  intro d hd
  obtain ⟨p, hp, rfl⟩ := List.mem_map.mp hd
  exact sh_pok (h p hp)
theorem lt_nn (i j : Nat) : bLt (.int ((i : Nat) : Int)) (.int ((j : Nat) : Int)) = some (.bl (decide (i < j))) := by
  show some (D.bl (decide (((i : Nat) : Int) < ((j : Nat) : Int)))) = _
  have e : decide (((i : Nat) : Int) < ((j : Nat) : Int)) = decide (i < j) := decide_eq_decide.mpr (by omega)
  rw [e]
theorem beq_s (neg : Bool) (a b : Str) : bEqN neg (.str a) (.str b) = some (.bl (neg ^^ decide (a = b))) := by simp [bEqN, eqS]
theorem bIx_lst (xs : List D) (v : D) : bIx (.lst (xs ++ [v])) (.int (-1)) = some v := by
  have : atI (xs ++ [v]) (-1) = some v := by
    have e : ixN (xs ++ [v]).length (-1) = some xs.length := by
      rw [List.length_append]
      unfold ixN
      rw [if_neg (by decide)]
      simp
      omega
    unfold atI
    rw [e, Option.bind_some]
    simp
  unfold bIx
  show (atI (xs ++ [v]) (-1)).or _ = _
  rw [this]
  rfl
def WsOk (ns : List Str) (ps : List SP) : Prop := ∀ p ∈ ps, p.1 ∈ ns ∧ p.2 ∈ ns ∧ p.1 ≠ p.2
def sp_wish : DSp := fun ds P => ∃ (ns : List Str) (n : Int), ds = [.bag, .lst (ns.map D.str), .int n] ∧ ns ≠ [] ∧ ns.length ≤ 1000 ∧ 0 ≤ n ∧ n ≤ 100 ∧ ∀ ps : List SP, ps.length ≤ 100 → WsOk ns ps → P (.lst (ps.map pairD))
def d_wish : TDS := (sSeq (sPar 3 4 false true (dCall sp_mixed (aCons (dV 0) (aCons (dV 1) aNil))) (dLst aNil))
  (sSeq (sFor (iRng (aCons (dCall sp_pull (aCons (dV 0) (aCons (dO2 bAdd (dV 2) (dC (.int 1))) aNil))) aNil)) (gNm 5) (sSeq (sPar 6 7 false false (dCall sp_of (aCons (dV 0) (aCons (dV 1) aNil))) (dCall sp_of (aCons (dV 0) (aCons (dV 1) aNil))))
  (sIf (dT (dO2 (bEqN true) (dV 6) (dV 7))) (sSeq (sSet 8 (dOrV (dO2 bLt (dIndex (dV 3) (dV 6)) (dIndex (dV 3) (dV 7))) (dO2 (bEqN false) (dCall sp_pull (aCons (dV 0) (aCons (dC (.int 12)) aNil))) (dC (.int 0)))))
  (sApp 4 (dIf (dTru (dV 8)) (dTup (aCons (dV 6) (aCons (dV 7) aNil))) (dTup (aCons (dV 7) (aCons (dV 6) aNil)))))) sNil)))
  (sRetO 4)))
theorem ln_wish {ds : List D} {P : D → Prop} (h : sp_wish ds P) : ds.length = 3 := by obtain ⟨_, _, rfl, _⟩ := h; rfl
theorem rd_wish {ds : List D} {P : D → Prop} (h : sp_wish ds P) : d_wish (fin true P) (st 9 ds) := by
  obtain ⟨ns, n, rfl, ne, ln, n0, n1, q⟩ := h
  have a1 : bAdd (.int n) (.int 1) = some (.int (n + 1)) := rfl
  simp only [d_wish, dC, dV, dB, dO2, ob_some, dT, dAndT, dOrT, dNotT, dIf, dAndV, dOrV, dNotV, dChain, aNil, aCons, dTup, dLst, dCut, oNone, oSome, dRev, dNeg, dTru, dCa, dIs, dIsA, dCall, dCallK, sNil, sSeq, sNever, sBrk, sCont, sIf, sRet, sRetO, sRetE, sSet, sSetO, sDrop, sPar, sPar3, kn, enOf, owD, sAsg, gNm, gsNil, gsCons, gTp, sApp, sIns, sExt, sClr, sRev, sPut, sFrz, owAt, fin, st, iRng, iRngB, iSeq, lstD, tupD, sFor, dLc, dDc, wipeE, tYesD, dIndex, dSort, dDictZip, dMeth, dFld, dMk, List.map_cons, List.map_nil, List.length_cons, List.length_nil, List.replicate_succ, List.replicate_zero, List.cons_append, List.nil_append, List.append_nil, List.getElem?_cons_zero, List.getElem?_cons_succ, List.set_cons_zero, List.set_cons_succ, Option.bind_some, Option.map_some, Nat.reduceSub, Nat.reduceAdd, kwP, List.getD_cons_zero, List.getD_cons_succ, a1]
  refine ⟨_, .inl rfl, by rw [List.length_map]; omega, fun bs0 hb0 => ?_⟩
  obtain ⟨bs, rfl, hb⟩ := perm_str hb0
  refine ⟨by decide, n + 1, rfl, by omega, by omega, fun r r0 r1 => ⟨by omega, by omega, ?_⟩⟩
  refine loop_rng (fun i env => ∃ (ps : List SP) (e5 e6 e7 e8 : En), env = [.fz .bag, .fz (.lst (ns.map D.str)), .fz (.int n), .fz (.lst (bs.map D.str)), .ow (ps.map pairD), e5, e6, e7, e8] ∧ ps.length ≤ i ∧ WsOk ns ps) ⟨[], _, _, _, _, rfl, Nat.le_refl _, fun p hp => nomatch hp⟩ (fun i env hi h k hk => ?_) (fun env h => ?_)
  · obtain ⟨ps, e5, e6, e7, e8, rfl, hl, ok⟩ := h
    have dr : ∀ Q : D → Prop, (∀ a ∈ ns, Q (.str a)) → sp_of [.bag, .lst (ns.map D.str)] Q := fun Q h => by
      refine .inl ⟨_, .inl rfl, ?_, by rw [List.length_map]; omega, fun x hx => ?_⟩
      · rw [List.length_map]
        exact List.length_pos_iff.mpr ne
      · obtain ⟨a, ha, rfl⟩ := List.mem_map.mp hx
        exact h a ha
    simp only [dC, dV, dB, dO2, ob_some, dT, dAndT, dOrT, dNotT, dIf, dAndV, dOrV, dNotV, dChain, aNil, aCons, dTup, dLst, dCut, oNone, oSome, dRev, dNeg, dTru, dCa, dIs, dIsA, dCall, dCallK, sNil, sSeq, sNever, sBrk, sCont, sIf, sRet, sRetO, sRetE, sSet, sSetO, sDrop, sPar, sPar3, kn, enOf, owD, sAsg, gNm, gsNil, gsCons, gTp, sApp, sIns, sExt, sClr, sRev, sPut, sFrz, owAt, fin, st, iRng, iRngB, iSeq, lstD, tupD, sFor, dLc, dDc, wipeE, tYesD, dIndex, dSort, dDictZip, dMeth, dFld, dMk, List.map_cons, List.map_nil, List.length_cons, List.length_nil, List.replicate_succ, List.replicate_zero, List.cons_append, List.nil_append, List.append_nil, List.getElem?_cons_zero, List.getElem?_cons_succ, List.set_cons_zero, List.set_cons_succ, Option.bind_some, Option.map_some, Nat.reduceSub, Nat.reduceAdd, kwP, List.getD_cons_zero, List.getD_cons_succ]
    refine dr _ fun a ha => dr _ fun b hb' => ?_
    simp only [dC, dV, dB, dO2, ob_some, dT, dAndT, dOrT, dNotT, dIf, dAndV, dOrV, dNotV, dChain, aNil, aCons, dTup, dLst, dCut, oNone, oSome, dRev, dNeg, dTru, dCa, dIs, dIsA, dCall, dCallK, sNil, sSeq, sNever, sBrk, sCont, sIf, sRet, sRetO, sRetE, sSet, sSetO, sDrop, sPar, sPar3, kn, enOf, owD, sAsg, gNm, gsNil, gsCons, gTp, sApp, sIns, sExt, sClr, sRev, sPut, sFrz, owAt, fin, st, iRng, iRngB, iSeq, lstD, tupD, sFor, dLc, dDc, wipeE, tYesD, dIndex, dSort, dDictZip, dMeth, dFld, dMk, List.map_cons, List.map_nil, List.length_cons, List.length_nil, List.replicate_succ, List.replicate_zero, List.cons_append, List.nil_append, List.append_nil, List.getElem?_cons_zero, List.getElem?_cons_succ, List.set_cons_zero, List.set_cons_succ, Option.bind_some, Option.map_some, Nat.reduceSub, Nat.reduceAdd, kwP, List.getD_cons_zero, List.getD_cons_succ, beq_s]
    by_cases g : a = b
    · rw [decide_eq_true g]
      have tt : (true ^^ true) = false := rfl
      simp only [tt, Bool.false_eq_true, if_false]
      exact hk _ ⟨ps, _, _, _, _, rfl, by omega, ok⟩
    · rw [decide_eq_false g]
      have tt : (true ^^ false) = true := rfl
      have ia := index_ixS bs a (hb.mem_iff.mpr ha)
      have ib := index_ixS bs b (hb.mem_iff.mpr hb')
      simp only [tt, if_true, leaf_strs, D.leaf, ia, ib, ob_some, lt_nn]
      have put : ∀ (p : SP) (e8' : En), p = (a, b) ∨ p = (b, a) → 2 ≤ sizeLine ∧ (ps.map pairD).length < sizeLine ∧ k [.fz .bag, .fz (.lst (ns.map D.str)), .fz (.int n), .fz (.lst (bs.map D.str)), .ow (ps.map pairD ++ [pairD p]), .fz (.int (0 + (i : Nat))), .fz (.str a), .fz (.str b), e8'] := fun p e8' hp => by
        have e2 : ps.map pairD ++ [pairD p] = (ps ++ [p]).map pairD := by simp
        rw [e2]
        refine ⟨by decide, szM (by simp; omega), hk _ ⟨ps ++ [p], _, _, _, _, rfl, by simp; omega, fun y hy => ?_⟩⟩
        rcases List.mem_append.mp hy with h | h
        · exact ok y h
        · have : y = p := by simpa using h
          rw [this]
          rcases hp with rfl | rfl
          · exact ⟨ha, hb', g⟩
          · exact ⟨hb', ha, fun z => g z.symm⟩
      have tb : ∀ c : Bool, truD (.bl c) = some c := fun _ => rfl
      refine ⟨trivial, trivial, trivial, trivial, ?_⟩
      by_cases g2 : ixS bs a < ixS bs b
      · rw [decide_eq_true g2, if_pos rfl]
        simp only [tb, ob_some, if_true]
        exact put (a, b) _ (.inl rfl)
      · rw [decide_eq_false g2, if_neg Bool.false_ne_true]
        refine ⟨12, rfl, by decide, by decide, fun r2 _ _ => ?_⟩
        simp only [bEq_i, ob_some, tb]
        cases decide (r2 = 0) with
        | true =>
          simp only [if_true]
          exact put (a, b) _ (.inl rfl)
        | false =>
          simp only [Bool.false_eq_true, if_false]
          exact put (b, a) _ (.inr rfl)
  · obtain ⟨ps, e5, e6, e7, e8, rfl, hl, ok⟩ := h
    simp only [dC, dV, dB, dO2, ob_some, dT, dAndT, dOrT, dNotT, dIf, dAndV, dOrV, dNotV, dChain, aNil, aCons, dTup, dLst, dCut, oNone, oSome, dRev, dNeg, dTru, dCa, dIs, dIsA, dCall, dCallK, sNil, sSeq, sNever, sBrk, sCont, sIf, sRet, sRetO, sRetE, sSet, sSetO, sDrop, sPar, sPar3, kn, enOf, owD, sAsg, gNm, gsNil, gsCons, gTp, sApp, sIns, sExt, sClr, sRev, sPut, sFrz, owAt, fin, st, iRng, iRngB, iSeq, lstD, tupD, sFor, dLc, dDc, wipeE, tYesD, dIndex, dSort, dDictZip, dMeth, dFld, dMk, List.map_cons, List.map_nil, List.length_cons, List.length_nil, List.replicate_succ, List.replicate_zero, List.cons_append, List.nil_append, List.append_nil, List.getElem?_cons_zero, List.getElem?_cons_succ, List.set_cons_zero, List.set_cons_succ, Option.bind_some, Option.map_some, Nat.reduceSub, Nat.reduceAdd, kwP, List.getD_cons_zero, List.getD_cons_succ]
    exact q _ (by omega) ok
end DL
namespace DL
open PySem PySem.Spec PyProof.Rows L2 RK
theorem sub_restS : ∀ {xs ys : List Str}, xs.Nodup → (∀ z ∈ xs, z ∈ ys) → ∃ r, (xs ++ r).Perm ys
  | [], ys, _, _ => ⟨ys, .refl _⟩
  | x :: xs, ys, n, h => by
    have nx := (List.nodup_cons.mp n).1
    obtain ⟨r, hr⟩ := sub_restS (ys := ys.erase x) (List.nodup_cons.mp n).2 fun z hz => (List.mem_erase_of_ne (fun e : z = x => nx (by rw [← e]; exact hz))).mpr (h z (List.mem_cons_of_mem _ hz))
    exact ⟨r, (List.Perm.cons x hr).trans (List.perm_cons_erase (h x List.mem_cons_self)).symm⟩
theorem sub_lenS {xs ys : List Str} (n : xs.Nodup) (h : ∀ z ∈ xs, z ∈ ys) : xs.length ≤ ys.length := by
  obtain ⟨r, hr⟩ := sub_restS n h
  have := hr.length_eq
  rw [List.length_append] at this
  omega
theorem sub_permS {xs ys : List Str} (n : xs.Nodup) (h : ∀ z ∈ xs, z ∈ ys) (l : ys.length ≤ xs.length) : xs.Perm ys := by
  obtain ⟨r, hr⟩ := sub_restS n h
  have := hr.length_eq
  rw [List.length_append] at this
  have e : r = [] := List.eq_nil_of_length_eq_zero (by omega)
  rw [e, List.append_nil] at hr
  exact hr
structure Stl (ns : List Str) (cs : List SP) (F : List Str) : Prop where
  nd : F.Nodup
  sub : ∀ z ∈ F, z ∈ ns
  kp : ∀ c ∈ cs, c.2 ∈ F → c.1 ∈ F ∧ ixS F c.1 < ixS F c.2
  lo : ∀ z ∈ ns, z ∉ F → ∃ c ∈ cs, c.2 = z ∧ c.1 ∉ F
theorem settle_spec {ns : List Str} (nd : ns.Nodup) {cs : List SP} : ∀ (n : Nat) (b : List Str), (rest ns b).length < n → b.Nodup → (∀ z ∈ b, z ∈ ns) → (∀ c ∈ cs, c.2 ∈ b → c.1 ∈ b ∧ ixS b c.1 < ixS b c.2) → Stl ns cs (b ++ settle n (rest ns b) (left cs b))
  | 0, b, h, _, _, _ => absurd h (Nat.not_lt_zero _)
  | n + 1, b, hn, bn, bs, bk => by
    cases hf : frees (rest ns b) (left cs b) with
    | nil =>
      have es : settle (n + 1) (rest ns b) (left cs b) = [] := by rw [settle, hf]
      rw [es, List.append_nil]
      refine ⟨bn, bs, bk, fun z hz hb => ?_⟩
      refine Classical.byContradiction fun no => ?_
      have : z ∈ frees (rest ns b) (left cs b) := free_iff.mpr ⟨rest_mem.mpr ⟨hz, hb⟩, fun c hc e => Classical.byContradiction fun q => no ⟨c, hc, e, q⟩⟩
      rw [hf] at this
      cases this
    | cons f fr =>
      have ff := free_iff.mp (show f ∈ frees (rest ns b) (left cs b) by rw [hf]; exact List.mem_cons_self)
      obtain ⟨fn, fb⟩ := rest_mem.mp ff.1
      have es : settle (n + 1) (rest ns b) (left cs b) = f :: settle n (rest ns (b ++ [f])) (left cs (b ++ [f])) := by
        rw [settle, hf]
        show f :: settle n ((rest ns b).erase f) _ = _
        rw [rest_step nd, left_step]
      rw [es, show b ++ f :: settle n (rest ns (b ++ [f])) (left cs (b ++ [f])) = (b ++ [f]) ++ settle n (rest ns (b ++ [f])) (left cs (b ++ [f])) by rw [List.append_assoc]; rfl]
      have ln : (rest ns (b ++ [f])).length < n := by
        rw [← rest_step nd, List.length_erase_of_mem ff.1]
        have := List.length_pos_of_mem ff.1
        omega
      refine settle_spec nd n (b ++ [f]) ln ?_ ?_ fun c hc h2 => ?_
      · rw [List.nodup_append]
        refine ⟨bn, by simp, fun a ha d hd => ?_⟩
        rw [List.mem_singleton.mp hd]
        exact fun e => fb (e ▸ ha)
      · intro z hz
        rcases List.mem_append.mp hz with h | h
        · exact bs z h
        · rw [List.mem_singleton.mp h]; exact fn
      · rcases List.mem_append.mp h2 with h | h
        · obtain ⟨h3, h4⟩ := bk c hc h
          refine ⟨List.mem_append_left _ h3, ?_⟩
          rw [(ixS_left h3).1, (ixS_left h).1]
          exact h4
        · have e2 := List.mem_singleton.mp h
          have h3 := ff.2 c hc e2
          refine ⟨List.mem_append_left _ h3, ?_⟩
          rw [(ixS_left h3).1, e2, ixS_right fb]
          have := (ixS_left (t := []) h3).2
          omega
theorem settle_stl {ns : List Str} (nd : ns.Nodup) (cs : List SP) : Stl ns cs (settle (ns.length + 1) ns cs) := by
  have e0 : rest ns [] = ns := by unfold rest; simp
  have h := settle_spec nd (cs := cs) (ns.length + 1) [] (by rw [e0]; omega) (by simp) (fun z h => by cases h) (fun c _ h => by cases h)
  have e1 : rest ns [] = ns := by unfold rest; simp
  have e2 : left cs [] = cs := by unfold left; simp
  rw [e1, e2] at h
  exact h
theorem Stl.all {ns : List Str} {cs : List SP} {F : List Str} (h : Stl ns cs F) (nd : ns.Nodup) (hl : F.length = ns.length) : F.Perm ns := by
  exact sub_permS h.nd h.sub (by omega)
theorem Stl.full {ns : List Str} {cs : List SP} {F : List Str} (h : Stl ns cs F) (nd : ns.Nodup) (ha : ∀ z ∈ ns, z ∈ F) : F.length = ns.length :=
  Nat.le_antisymm (sub_lenS h.nd h.sub) (sub_lenS nd ha)
theorem Stl.keeps {ns : List Str} {cs : List SP} {F : List Str} (h : Stl ns cs F) (hc : ∀ c ∈ cs, c.2 ∈ F) : Keeps cs F := fun c hm => (h.kp c hm (hc c hm)).2
structure IsRing (cs : List SP) (r : List Str) : Prop where
  two : 2 ≤ r.length
  nd : r.Nodup
  lk : ∀ p ∈ Lk (r ++ r.take 1), p ∈ cs
theorem keeps_lk {cs : List SP} {o : List Str} (k : Keeps cs o) : ∀ (zs : List Str) (a : Str), (∀ p ∈ Lk (a :: zs), p ∈ cs) → zs ≠ [] → ∀ y, zs.getLast? = some y → ixS o a < ixS o y
  | [], _, _, h, _, _ => absurd rfl h
  | [b], a, h, _, y, e => by
    cases e
    exact k _ (h _ List.mem_cons_self)
  | b :: c :: zs, a, h, _, y, e => by
    have h1 : ixS o a < ixS o b := k _ (h (a, b) List.mem_cons_self)
    have h2 := keeps_lk k (c :: zs) b (fun p hp => h p (List.mem_cons_of_mem _ hp)) (by simp) y (by rw [← e]; simp [List.getLast?_cons_cons])
    omega
theorem IsRing.no {cs : List SP} {r o : List Str} (h : IsRing cs r) : ¬ Keeps cs o := fun k => by
  match r, h with
  | [], h => exact absurd h.two (by simp)
  | a :: zs, h =>
    have := keeps_lk k (zs ++ [a]) a (fun p hp => h.lk p (by simpa using hp)) (by simp) a (by simp)
    omega
def Down (lw : Str → Option Str) : List Str → Prop
  | [] => True
  | [_] => True
  | a :: b :: r => lw a = some b ∧ Down lw (b :: r)
theorem down_snoc {lw : Str → Option Str} {b : Str} : ∀ {w : List Str} {a : Str}, Down lw w → w.getLast? = some a → lw a = some b → Down lw (w ++ [b])
  | [], _, _, e, _ => by cases e
  | [x], a, _, e, h => by cases e; exact ⟨h, trivial⟩
  | x :: y :: r, a, d, e, h => ⟨d.1, down_snoc (w := y :: r) d.2 (by rw [← e]; simp [List.getLast?_cons_cons]) h⟩
theorem down_drop {lw : Str → Option Str} : ∀ {w : List Str} (i : Nat), Down lw w → Down lw (w.drop i)
  | w, 0, d => d
  | [], i + 1, d => trivial
  | [x], i + 1, d => by simp [Down]
  | x :: y :: r, i + 1, d => down_drop (w := y :: r) i d.2
theorem lk_app : ∀ (xs : List Str) (a b : Str), Lk (xs ++ [a, b]) = Lk (xs ++ [a]) ++ [(a, b)]
  | [], a, b => rfl
  | [x], a, b => rfl
  | x :: y :: r, a, b => by
    show (x, y) :: Lk (y :: (r ++ [a, b])) = (x, y) :: Lk (y :: (r ++ [a])) ++ [(a, b)]
    have := lk_app (y :: r) a b
    rw [show y :: (r ++ [a, b]) = (y :: r) ++ [a, b] from rfl, this]
    rfl
theorem down_lk {lw : Str → Option Str} {cs : List SP} (hlw : ∀ a b, lw a = some b → (b, a) ∈ cs) : ∀ {w : List Str}, Down lw w → ∀ p ∈ Lk w.reverse, p ∈ cs
  | [], _, p, h => by cases h
  | [x], _, p, h => by cases h
  | x :: y :: r, d, p, h => by
    rw [List.reverse_cons, List.reverse_cons, List.append_assoc] at h
    rw [show ([y] ++ [x] : List Str) = [y, x] from rfl, lk_app] at h
    rcases List.mem_append.mp h with h | h
    · refine down_lk hlw (w := y :: r) d.2 p ?_
      rw [List.reverse_cons]
      exact h
    · rw [List.mem_singleton.mp h]
      exact hlw _ _ d.1
theorem ring_of {lw : Str → Option Str} {cs : List SP} (hlw : ∀ a b, lw a = some b → (b, a) ∈ cs) (ne : ∀ c ∈ cs, c.1 ≠ c.2) {w : List Str} {a b : Str} {i : Nat} (nd : w.Nodup) (d : Down lw w) (hl : w.getLast? = some a) (hb : lw a = some b) (hi : w[i]? = some b) : IsRing cs (w.drop i).reverse := by
  have hlt : i < w.length := (List.getElem?_eq_some_iff.mp hi).1
  have e0 : w.drop i = b :: w.drop (i + 1) := by
    rw [List.drop_eq_getElem_cons hlt]
    rw [(List.getElem?_eq_some_iff.mp hi).2]
  have hlast : (w.drop i).getLast? = some a := by rw [List.getLast?_drop, if_neg (by omega)]; exact hl
  have hab : b ≠ a := ne _ (hlw a b hb)
  have h2 : 2 ≤ (w.drop i).length := by
    rw [e0] at hlast ⊢
    cases q : w.drop (i + 1) with
    | nil => rw [q] at hlast; cases hlast; exact absurd rfl hab
    | cons x r => simp
  obtain ⟨r, hr⟩ : ∃ r, w.drop i = r ++ [a] := by
    obtain ⟨ys, h⟩ := List.getLast?_eq_some_iff.mp hlast
    exact ⟨ys, h⟩
  refine ⟨by rw [List.length_reverse]; exact h2, (List.reverse_perm _).nodup_iff.mpr (nd.sublist (List.drop_sublist _ _)), ?_⟩
  have et : ((w.drop i).reverse).take 1 = [a] := by rw [hr, List.reverse_append]; rfl
  have er : (w.drop i).reverse ++ [a] = (a :: w.drop i).reverse := by rw [List.reverse_cons]
  rw [et, er]
  refine down_lk hlw (w := a :: w.drop i) ?_
  rw [e0]
  exact ⟨hb, by rw [← e0]; exact down_drop i d⟩
end DL
namespace DL
open PySem PySem.Spec PyProof.Rows L2 RK
def kpB (os : List Str) (ps : List SP) : Bool := ps.all fun p => decide (ixS os p.1 < ixS os p.2)
theorem kpB_iff {os : List Str} {ps : List SP} : kpB os ps = true ↔ Keeps ps os := by
  unfold kpB Keeps
  rw [List.all_eq_true]
  exact forall_congr' fun p => imp_congr_right fun _ => decide_eq_true_iff
theorem val_put {kds : List (Key × D)} {k k' : Key} {v : D} : valD (putD kds k v) k' = if k = k' then some v else valD kds k' := by
  unfold putD
  by_cases h : (kds.any fun kv => decide (kv.1 = k)) = true
  · rw [if_pos h]
    induction kds with
    | nil => cases h
    | cons p r ih =>
      obtain ⟨a, d⟩ := p
      unfold valD at ih ⊢
      rw [List.map_cons, List.find?_cons, List.find?_cons]
      by_cases e : a = k
      · subst e
        simp only [if_true]
        by_cases e2 : a = k'
        · simp [e2]
        · simp only [decide_eq_false e2, if_neg e2]
          by_cases h2 : (r.any fun kv => decide (kv.1 = a)) = true
          · have := ih h2
            rw [if_neg e2] at this
            exact this
          · have er : (r.map fun kv => if kv.1 = a then (kv.1, v) else kv) = r := by
              refine (List.map_congr_left fun q hq => ?_).trans (List.map_id r)
              have : q.1 ≠ a := fun z => h2 (List.any_eq_true.mpr ⟨q, hq, decide_eq_true z⟩)
              rw [if_neg this]
              rfl
            rw [er]
      · simp only [if_neg e]
        have h2 : (r.any fun kv => decide (kv.1 = k)) = true := by
          rw [List.any_cons, decide_eq_false e, Bool.false_or] at h
          exact h
        have := ih h2
        by_cases e2 : a = k'
        · subst e2
          rw [if_neg fun z => e z.symm]
          simp
        · simp only [decide_eq_false e2]
          exact this
  · rw [if_neg h]
    unfold valD
    rw [List.find?_append]
    by_cases e : k = k'
    · subst e
      have : kds.find? (fun kv => decide (kv.1 = k)) = none := by
        rw [List.find?_eq_none]
        intro q hq z
        exact h (List.any_eq_true.mpr ⟨q, hq, z⟩)
      rw [this, if_pos rfl]
      simp
    · rw [if_neg e]
      have : ([(k, v)] : List (Key × D)).find? (fun kv => decide (kv.1 = k')) = none := by simp [e]
      rw [this, Option.or_none]
theorem dcomp_put {α : Type} {g : TDG} {tt : TDT} {tk tv : TDE} {P : D → Prop} {env : De} (enc : α → D) (p : α → Bool) (key : α → Key) (val : α → D) : ∀ (l : List α) (acc : List (Key × D)), (∀ a ∈ l, ∀ (Q : Key → D → Prop) (Z : Prop), (p a = true → Q (key a) (val a)) → (p a = false → Z) → g (enc a) env fun env' => tt env' fun b => if b = true then tk env' fun k => tv env' fun y => ob (keyD k) fun k => Q k y else Z) →
    acc.length + l.length ≤ 1000000 → P (.dic (l.foldl (fun acc a => if p a = true then putD acc (key a) (val a) else acc) acc)) → dDcomp g tt tk tv P env (l.map enc) acc
  | [], acc, _, _, q => q
  | a :: l, acc, h, hl, q => by
    rw [List.foldl_cons] at q
    refine h a List.mem_cons_self (fun k y => acc.length < sizeLine ∧ dDcomp g tt tk tv P env (l.map enc) (putD acc k y)) _ (fun e => ⟨szM (by simp at hl; omega), ?_⟩) (fun e => ?_)
    · rw [if_pos e] at q
      exact dcomp_put enc p key val l _ (fun b hb => h b (List.mem_cons_of_mem _ hb)) (by have := put_len acc (key a) (val a); simp at hl; omega) q
    · rw [e, if_neg Bool.false_ne_true] at q
      exact dcomp_put enc p key val l _ (fun b hb => h b (List.mem_cons_of_mem _ hb)) (by simp at hl; omega) q
theorem fold_val {α : Type} (p : α → Bool) (key : α → Key) (val : α → D) (k : Key) : ∀ (l : List α) (acc : List (Key × D)), let F := l.foldl (fun acc a => if p a = true then putD acc (key a) (val a) else acc) acc
    (∀ v, valD F k = some v → valD acc k = some v ∨ ∃ a ∈ l, p a = true ∧ key a = k ∧ v = val a) ∧ ((∃ a ∈ l, p a = true ∧ key a = k) ∨ (valD acc k).isSome = true → (valD F k).isSome = true)
  | [], acc => ⟨fun v h => .inl h, fun h => h.elim (fun ⟨a, ha, _⟩ => by cases ha) id⟩
  | a :: l, acc => by
    obtain ⟨i1, i2⟩ := fold_val p key val k l (if p a = true then putD acc (key a) (val a) else acc)
    refine ⟨fun v h => ?_, fun h => ?_⟩
    · rcases i1 v h with h | ⟨b, hb, h⟩
      · by_cases e : p a = true
        · rw [if_pos e, val_put] at h
          by_cases e2 : key a = k
          · rw [if_pos e2] at h
            exact .inr ⟨a, List.mem_cons_self, e, e2, (Option.some.inj h).symm⟩
          · rw [if_neg e2] at h
            exact .inl h
        · rw [if_neg e] at h
          exact .inl h
      · exact .inr ⟨b, List.mem_cons_of_mem _ hb, h⟩
    · refine i2 ?_
      rcases h with ⟨b, hb, e, e2⟩ | h
      · rcases List.mem_cons.mp hb with rfl | hb
        · right
          rw [if_pos e, val_put, if_pos e2]
          rfl
        · exact .inl ⟨b, hb, e, e2⟩
      · right
        by_cases e : p a = true
        · rw [if_pos e, val_put]
          by_cases e2 : key a = k
          · rw [if_pos e2]; rfl
          · rw [if_neg e2]; exact h
        · rw [if_neg e]; exact h
theorem ixS_at : ∀ {l : List Str} {z : Str}, z ∈ l → l[ixS l z]? = some z
  | [], _, h => by cases h
  | y :: r, z, h => by
    rw [ixS]
    by_cases e : y = z
    · rw [if_pos e, e]; rfl
    · rw [if_neg e, List.getElem?_cons_succ]
      exact ixS_at ((List.mem_cons.mp h).resolve_left fun q => e q.symm)
theorem cut_fromN (xs : List D) (k : Nat) : cutD xs (some (k : Int)) none = xs.drop k := by
  unfold cutD
  rw [HT.sIx_nat, HT.sIx_none]
  rcases Nat.le_total k xs.length with h | h
  · rw [Nat.min_eq_left h, List.take_of_length_le (by rw [List.length_drop]; omega)]
  · rw [Nat.min_eq_right h, List.drop_eq_nil_of_le (Nat.le_refl _), List.drop_eq_nil_of_le h, List.take_nil]
theorem plc_knows (zs : List Str) : Knows ((zs.zipIdx).map plcF) (· ∈ zs) := fun z => by
  unfold keysOf
  rw [List.map_map]
  have : ((fun kd : Key × D => kd.1) ∘ plcF) = Sum.inr ∘ (Prod.fst : Str × Nat → Str) := rfl
  show Sum.inr z ∈ List.map ((fun kd : Key × D => kd.1) ∘ plcF) zs.zipIdx ↔ _
  rw [this, ← List.map_map, List.zipIdx_map_fst]
  exact ⟨fun h => (let ⟨y, hy, e⟩ := List.mem_map.mp h; by rw [← Sum.inr.inj e]; exact hy), fun h => List.mem_map.mpr ⟨z, h, rfl⟩⟩
theorem cntK_le {val : Nat → Key} : ∀ n : Nat, cntK val n ≤ n
  | 0 => Nat.le_refl _
  | n + 1 => by
    have := cntK_le (val := val) n
    unfold cntK
    split <;> omega
theorem cntL_le (ks : List Key) : cntL ks ≤ ks.length := cntK_le _
theorem items_seq {d : D} {zs : List Str} (h : IsSeq d zs) : itemsD d = some (zs.map D.str) := by rcases h with rfl | rfl <;> rfl
end DL
namespace DL
open PySem PySem.Spec PyProof.Rows L2 RK
def hL (ns : List Str) (h : Str → Nat) : List (Key × D) := ns.map fun x => ((Sum.inr x : Key), D.int ((h x : Nat) : Int))
def hD (ns : List Str) (h : Str → Nat) : D := .dic (hL ns h)
def bL (b : List SP) : List (Key × D) := b.map fun p => ((Sum.inr p.1 : Key), D.str p.2)
def bD (b : List SP) : D := .dic (bL b)
def lkD (l : LkH) : D := .tup [.str l.1, .str l.2.1, .int ((l.2.2 : Nat) : Int)]
theorem val_hL {h : Str → Nat} {x : Str} : ∀ {ns : List Str}, x ∈ ns → valD (hL ns h) (Sum.inr x : Key) = some (.int ((h x : Nat) : Int))
  | [], hx => by cases hx
  | y :: ns, hx => by
    unfold valD hL
    rw [List.map_cons, List.find?_cons]
    have e : decide (((Sum.inr y : Key), D.int ((h y : Nat) : Int)).1 = (Sum.inr x : Key)) = decide (y = x) := decide_eq_decide.mpr inr_inj
    rw [e]
    by_cases hz : y = x
    · subst hz; simp
    · rw [decide_eq_false hz]
      exact val_hL ((List.mem_cons.mp hx).resolve_left fun e => hz e.symm)
theorem bIx_hL {ns : List Str} {h : Str → Nat} {x : Str} (hx : x ∈ ns) : bIx (.dic (hL ns h)) (.str x) = some (.int ((h x : Nat) : Int)) := by
  show (none : Option D).or ((none : Option D).or ((some (valD (hL ns h) (Sum.inr x : Key))).bind fun r => r)) = _
  rw [val_hL hx]
  rfl
theorem val_bL {x : Str} : ∀ {b : List SP}, valD (bL b) (Sum.inr x : Key) = (bfr b x).map D.str
  | [] => rfl
  | p :: b => by
    unfold valD bL bfr
    rw [List.map_cons, List.find?_cons, List.find?_cons]
    have e : decide (((Sum.inr p.1 : Key), D.str p.2).1 = (Sum.inr x : Key)) = decide (p.1 = x) := decide_eq_decide.mpr inr_inj
    rw [e]
    by_cases hz : p.1 = x
    · rw [decide_eq_true hz]; rfl
    · rw [decide_eq_false hz]
      exact val_bL (b := b)
theorem bIx_bL {b : List SP} {x y : Str} (hx : bfr b x = some y) : bIx (.dic (bL b)) (.str x) = some (.str y) := by
  show (none : Option D).or ((none : Option D).or ((some (valD (bL b) (Sum.inr x : Key))).bind fun r => r)) = _
  rw [val_bL, hx]
  rfl
theorem bIn_bL (b : List SP) (x : Str) : bIn false (.str x) (.dic (bL b)) = some (.bl (bfr b x).isSome) := by
  show (none : Option D).or ((some (D.bl (false ^^ (valD (bL b) (Sum.inr x : Key)).isSome))).or _) = _
  rw [val_bL, Option.isSome_map, Bool.false_xor]
  rfl
theorem put_hL {ns : List Str} {h : Str → Nat} {x : Str} {v : Nat} (hx : x ∈ ns) : putD (hL ns h) (Sum.inr x : Key) (.int ((v : Nat) : Int)) = hL ns (upS h x v) := by
  unfold putD
  have e : ((hL ns h).any fun kv => decide (kv.1 = (Sum.inr x : Key))) = true := List.any_eq_true.mpr ⟨_, List.mem_map.mpr ⟨x, hx, rfl⟩, decide_eq_true rfl⟩
  rw [if_pos e]
  unfold hL
  rw [List.map_map]
  refine List.map_congr_left fun y _ => ?_
  show (if ((Sum.inr y : Key)) = Sum.inr x then _ else _) = _
  by_cases hz : y = x
  · subst hz; rw [if_pos rfl, upS_same]
  · rw [if_neg fun q => hz (Sum.inr.inj q), upS_ne hz]
theorem put_bL (b : List SP) (x y : Str) : putD (bL b) (Sum.inr x : Key) (.str y) = bL (putS b x y) := by
  unfold putD putS
  have e : ((bL b).any fun kv => decide (kv.1 = (Sum.inr x : Key))) = (b.any fun p => decide (p.1 = x)) := by
    unfold bL
    rw [List.any_map]
    congr 1
    funext p
    exact decide_eq_decide.mpr inr_inj
  rw [e]
  split
  · unfold bL
    rw [List.map_map, List.map_map]
    refine List.map_congr_left fun p _ => ?_
    show (if ((Sum.inr p.1 : Key)) = Sum.inr x then _ else _) = ((Sum.inr (if p.1 = x then (p.1, y) else p).1 : Key), D.str (if p.1 = x then (p.1, y) else p).2)
    by_cases hz : p.1 = x
    · rw [if_pos (by rw [hz]), if_pos hz]
    · rw [if_neg fun q => hz (Sum.inr.inj q), if_neg hz]
  · unfold bL
    rw [List.map_append]
    rfl
theorem key_put {b : List SP} {x y : Str} (nd : (b.map (·.1)).Nodup) : ((putS b x y).map (·.1)).Nodup ∧ ∀ z, z ∈ (putS b x y).map (·.1) → z ∈ b.map (·.1) ∨ z = x := by
  unfold putS
  split
  · have e : (b.map (fun p => if p.1 = x then (p.1, y) else p)).map (·.1) = b.map (·.1) := by
      rw [List.map_map]
      refine List.map_congr_left fun p _ => ?_
      show (if p.1 = x then (p.1, y) else p).1 = p.1
      split <;> rfl
    rw [e]
    exact ⟨nd, fun z h => .inl h⟩
  · rename_i h
    rw [List.map_append]
    refine ⟨List.nodup_append.mpr ⟨nd, by simp, fun a ha c hc e => ?_⟩, fun z hz => ?_⟩
    · obtain ⟨p, hp, rfl⟩ := List.mem_map.mp ha
      have hc : c = x := by simpa using hc
      exact h (List.any_eq_true.mpr ⟨p, hp, decide_eq_true (e.trans hc)⟩)
    · rcases List.mem_append.mp hz with hz | hz
      · exact .inl hz
      · exact .inr (by simpa using hz)
def sp_steps_for : DSp := fun ds P => ∃ n : Nat, ds = [.int (n : Int)] ∧ P (.int (Builtin.Int.intBits (n : Int) : Nat))
def d_steps_for : TDS := (sRet (dBits (dV 0)))
theorem ln_steps_for {ds : List D} {P : D → Prop} (h : sp_steps_for ds P) : ds.length = 1 := by obtain ⟨_, rfl, _⟩ := h; rfl
theorem rd_steps_for {ds : List D} {P : D → Prop} (h : sp_steps_for ds P) : d_steps_for (fin false P) (st 1 ds) := by
  obtain ⟨n, rfl, q⟩ := h
  simp only [d_steps_for, dC, dV, dB, dO2, ob_some, dT, dAndT, dOrT, dNotT, dIf, dAndV, dOrV, dNotV, dChain, aNil, aCons, dTup, dLst, dCut, oNone, oSome, dRev, dNeg, dTru, dCa, dIs, dIsA, dCall, dCallK, sNil, sSeq, sNever, sBrk, sCont, sIf, sRet, sRetO, sRetE, sSet, sSetO, sDrop, sPar, sPar3, kn, enOf, owD, sAsg, gNm, gsNil, gsCons, gTp, sApp, sIns, sExt, sClr, sRev, sPut, sFrz, owAt, fin, st, iRng, iRngB, iSeq, lstD, tupD, sFor, dLc, dDc, wipeE, tYesD, dIndex, dSort, dDictZip, dMeth, dFld, dMk, List.map_cons, List.map_nil, List.length_cons, List.length_nil, List.replicate_succ, List.replicate_zero, List.cons_append, List.nil_append, List.append_nil, List.getElem?_cons_zero, List.getElem?_cons_succ, List.set_cons_zero, List.set_cons_succ, Option.bind_some, Option.map_some, Nat.reduceSub, Nat.reduceAdd, kwP, List.getD_cons_zero, List.getD_cons_succ, dBits]
  exact q
structure MaxH (ns : List Str) (h : Str → Nat) (m : Nat) : Prop where
  ex : ∃ x ∈ ns, h x = m
  le : ∀ x ∈ ns, h x ≤ m
def sp_greatest : DSp := fun ds P => ∃ ns h, ds = [hD ns h] ∧ ns ≠ [] ∧ ns.length ≤ 1000 ∧ ∀ m : Nat, MaxH ns h m → P (.int ((m : Nat) : Int))
def d_greatest : TDS := (sRet (dMaxD (dLcK 0 (gNm 1) tYesD (dO2 bIx (dV 0) (dV 1)) [1]) (aCons (dC (.int 0)) aNil)))
theorem ln_greatest {ds : List D} {P : D → Prop} (h : sp_greatest ds P) : ds.length = 1 := by obtain ⟨_, _, rfl, _⟩ := h; rfl
theorem keys_hL (ns : List Str) (h : Str → Nat) : ((hL ns h).map fun kd => kdD kd.1) = ns.map D.str := by
  unfold hL
  rw [List.map_map]
  rfl
theorem rd_greatest {ds : List D} {P : D → Prop} (h : sp_greatest ds P) : d_greatest (fin false P) (st 2 ds) := by
  obtain ⟨ns, h, rfl, ne, hl, q⟩ := h
  simp only [d_greatest, dC, dV, dB, dO2, ob_some, dT, dAndT, dOrT, dNotT, dIf, dAndV, dOrV, dNotV, dChain, aNil, aCons, dTup, dLst, dCut, oNone, oSome, dRev, dNeg, dTru, dCa, dIs, dIsA, dCall, dCallK, sNil, sSeq, sNever, sBrk, sCont, sIf, sRet, sRetO, sRetE, sSet, sSetO, sDrop, sPar, sPar3, kn, enOf, owD, sAsg, gNm, gsNil, gsCons, gTp, sApp, sIns, sExt, sClr, sRev, sPut, sFrz, owAt, fin, st, iRng, iRngB, iSeq, lstD, tupD, sFor, dLc, dDc, wipeE, tYesD, dIndex, dSort, dDictZip, dMeth, dFld, dMk, List.map_cons, List.map_nil, List.length_cons, List.length_nil, List.replicate_succ, List.replicate_zero, List.cons_append, List.nil_append, List.append_nil, List.getElem?_cons_zero, List.getElem?_cons_succ, List.set_cons_zero, List.set_cons_succ, Option.bind_some, Option.map_some, Nat.reduceSub, Nat.reduceAdd, kwP, List.getD_cons_zero, List.getD_cons_succ, dMaxD, dLcK, hidK, En.hk, hD]
  refine ⟨_, rfl, ?_⟩
  rw [keys_hL]
  refine comp_map D.str (fun x => D.int ((h x : Nat) : Int)) ns [] (fun x hx Q Z hQ => ?_) (by simp; omega) ?_
  · simp only [dC, dV, dB, dO2, ob_some, dT, dAndT, dOrT, dNotT, dIf, dAndV, dOrV, dNotV, dChain, aNil, aCons, dTup, dLst, dCut, oNone, oSome, dRev, dNeg, dTru, dCa, dIs, dIsA, dCall, dCallK, sNil, sSeq, sNever, sBrk, sCont, sIf, sRet, sRetO, sRetE, sSet, sSetO, sDrop, sPar, sPar3, kn, enOf, owD, sAsg, gNm, gsNil, gsCons, gTp, sApp, sIns, sExt, sClr, sRev, sPut, sFrz, owAt, fin, st, iRng, iRngB, iSeq, lstD, tupD, sFor, dLc, dDc, wipeE, tYesD, dIndex, dSort, dDictZip, dMeth, dFld, dMk, List.map_cons, List.map_nil, List.length_cons, List.length_nil, List.replicate_succ, List.replicate_zero, List.cons_append, List.nil_append, List.append_nil, List.getElem?_cons_zero, List.getElem?_cons_succ, List.set_cons_zero, List.set_cons_succ, Option.bind_some, Option.map_some, Nat.reduceSub, Nat.reduceAdd, kwP, List.getD_cons_zero, List.getD_cons_succ, bIx_hL hx, if_true]
    exact hQ
  · rw [List.nil_append]
    have e : (ns.map fun x => D.int ((h x : Nat) : Int)) = (ns.map fun x => ((h x : Nat) : Int)).map D.int := by rw [List.map_map]; rfl
    refine ⟨trivial, ns.map fun x => ((h x : Nat) : Int), by rw [e, intsD_map], by rw [List.length_map]; exact List.length_pos_iff.mpr ne, fun m hm hle => ?_⟩
    obtain ⟨x, hx, rfl⟩ := List.mem_map.mp hm
    refine q _ ⟨⟨x, hx, rfl⟩, fun y hy => ?_⟩
    have := hle _ (List.mem_map.mpr ⟨y, hy, rfl⟩)
    omega
def d_pass : TDS := (sFor (iSeq (dV 1)) (gTp 3 (gsCons (gNm 5) (gsCons (gNm 6) (gsCons (gNm 7) gsNil)))) (sIf (dT (dO2 bGt (dO2 bAdd (dO2 bIx (dB 2) (dV 5)) (dV 7)) (dO2 bIx (dB 2) (dV 6)))) (sSeq (sDput 2 (dO2 bAdd (dO2 bIx (dB 2) (dV 5)) (dV 7)) (dV 6))
  (sSeq (sDput 3 (dV 5) (dV 6))
  (sSet 4 (dC (.bl false))))) sNil))
def d_heights : TDS := (sSeq (sSetO 2 (dDc (iSeq (dV 0)) (gNm 8) tYesD (dV 8) (dC (.int 0)) [8]))
  (sSeq (sSetO 3 dEmp)
  (sSeq (sSet 4 (dC (.bl false)))
  (sSeq (sWhile (dNotT (dTru (dV 4))) (sSeq (sSet 4 (dC (.bl true)))
  d_pass))
  (sFrz 2 (sFrz 3 (sRet (dTup (aCons (dV 2) (aCons (dV 3) aNil))))))))))
theorem gt_nat (a w b : Nat) : bGt (.int (((a : Nat) : Int) + ((w : Nat) : Int))) (.int ((b : Nat) : Int)) = some (.bl (decide (b < a + w))) := by
  show some (D.bl (decide (((b : Nat) : Int) < ((a : Nat) : Int) + ((w : Nat) : Int)))) = _
  congr 2
  exact decide_eq_decide.mpr (by omega)
structure HSt (ns : List Str) (ls : List LkH) (Φ h : Str → Nat) (b : List SP) : Prop where
  i : ∃ t c, HInv ns ls Φ h b t c
  nd : (b.map (·.1)).Nodup
  sub : ∀ z, z ∈ b.map (·.1) → z ∈ ns
end DL
namespace DL
open PySem PySem.Spec PyProof.Rows L2 RK
def bitB (n d : Nat) : Bool := decide (n / 2 ^ d % 2 = 1)
def srt (ns : List Str) (h : Str → Nat) (m : Nat) : List Sc := (List.range (Builtin.Int.intBits (m : Int))).map fun d => Sc.mv true (ns.filter fun x => bitB (h x) d)
theorem beqI (a b : Int) : bEqN false (.int a) (.int b) = some (.bl (decide (a = b))) := by
  obtain ⟨c, hc, hi⟩ := beq_iff (neg := false) (n := 0) (x := .int a) (y := .int b) (by decide) rfl rfl
  rw [hc, Bool.false_xor]
  congr 2
  rw [Bool.eq_iff_iff, hi, decide_eq_true_iff]
  exact ⟨fun e => D.int.inj e, fun e => by rw [e]⟩
theorem bit_d (n d : Nat) : ob (bShr (.int (n : Int)) (.int (d : Int))) (fun x => ob (bAnd x (.int 1)) fun y => ob (bEqN false y (.int 1)) fun z => z = .bl (bitB n d)) := by
  have e1 : bShr (.int (n : Int)) (.int (d : Int)) = some (.int ((n / 2 ^ d : Nat) : Int)) := by
    show (if decide ((0 : Int) ≤ (d : Int)) = true then some (D.int ((n : Int) / 2 ^ (d : Int).toNat)) else none) = _
    rw [if_pos (decide_eq_true (by omega)), Int.toNat_natCast]
    have z : (n : Int) / 2 ^ d = ((n / 2 ^ d : Nat) : Int) := by push_cast; rfl
    rw [z]
  have e2 : bAnd (.int ((n / 2 ^ d : Nat) : Int)) (.int 1) = some (.int ((n / 2 ^ d % 2 : Nat) : Int)) := by
    show some (D.int (Builtin.bitAnd ((n / 2 ^ d : Nat) : Int) 1)) = _
    rw [bitAnd_m1]
    have z : ((n / 2 ^ d : Nat) : Int) % 2 = ((n / 2 ^ d % 2 : Nat) : Int) := by omega
    rw [z]
  rw [e1, ob_some, e2, ob_some, beqI, ob_some]
  unfold bitB
  congr 1
  exact decide_eq_decide.mpr (by omega)
theorem bit_dE (n d : Nat) : ∃ x y, bShr (.int (n : Int)) (.int (d : Int)) = some x ∧ bAnd x (.int 1) = some y ∧ bEqN false y (.int 1) = some (.bl (bitB n d)) := by
  have h := bit_d n d
  obtain ⟨x, e1, h⟩ := ob_elim h
  obtain ⟨y, e2, h⟩ := ob_elim h
  obtain ⟨z, e3, rfl⟩ := ob_elim h
  exact ⟨x, y, e1, e2, e3⟩
def sp_sorting_raises : DSp := fun ds P => ∃ ns h, ds = [hD ns h] ∧ ns ≠ [] ∧ ns.length ≤ 1000 ∧ (∀ x ∈ ns, h x ≤ 1000) ∧ ∀ m, MaxH ns h m → P (.lst ((srt ns h m).map Sc.d))
theorem ln_sorting_raises {ds : List D} {P : D → Prop} (h : sp_sorting_raises ds P) : ds.length = 1 := by obtain ⟨_, _, rfl, _⟩ := h; rfl
theorem bits_le {m : Nat} (h : m ≤ 1000) : Builtin.Int.intBits (m : Int) ≤ 10 := by
  unfold Builtin.Int.intBits
  by_cases hn : m = 0
  · subst hn; decide
  · have hb : ¬ (((m : Int)) == 0) = true := by simpa using hn
    rw [if_neg hb, Int.natAbs_natCast]
    have : m.log2 < 10 := (Nat.log2_lt hn).mpr (by omega)
    omega
inductive Pw (b : List SP) (z : Str) : List Str → Str → Prop
  | one : Pw b z [z] z
  | snoc {c : List Str} {y x : Str} : Pw b z c y → bfr b y = some x → Pw b z (c ++ [x]) x
theorem Pw.last {b : List SP} {z y : Str} {c : List Str} (h : Pw b z c y) : ∃ pre, c = pre ++ [y] := by
  cases h with
  | one => exact ⟨[], rfl⟩
  | snoc _ _ => exact ⟨_, rfl⟩
def d_highest_way : TDS := (sSeq (sSet 2 (dCall sp_greatest (aCons (dV 0) aNil)))
  (sSeq (sIf (dT (dO2 (bEqN false) (dV 2) (dC (.int 0)))) (sRet (dLst aNil)) sNil)
  (sSeq (sSetO 3 (dCut cutL (dLcK 0 (gNm 4) (dT (dO2 (bEqN false) (dO2 bIx (dV 0) (dV 4)) (dV 2))) (dV 4) [4]) oNone (oSome (dC (.int 1)))))
  (sSeq (sWhile (dT (dO2 (bIn false) (dO2 bIx (dB 3) (dNeg (dC (.int 1)))) (dV 1))) (sApp 3 (dO2 bIx (dV 1) (dO2 bIx (dB 3) (dNeg (dC (.int 1)))))))
  (sRet (dRev (dB 3)))))))
end DL
namespace DL
open PySem PySem.Spec PyProof.Rows L2 RK
def lsOf (os : List Str) (ps : List SP) : List LkH := ps.map fun p => (p.1, p.2, if ixS os p.2 < ixS os p.1 then 1 else 0)
def Cln (os : List Str) (h : Str → Nat) (b : List SP) (m : Nat) (c : List Str) : Prop := (m = 0 → c = []) ∧ (m ≠ 0 → ∃ z y c0, z ∈ os ∧ h z = m ∧ Pw b z c0 y ∧ c0.Nodup ∧ (∀ u ∈ c0, u ∈ os) ∧ bfr b y = none ∧ c = c0.reverse)
theorem ixS_lt : ∀ {zs : List Str} {z : Str}, z ∈ zs → ixS zs z < zs.length
  | [], _, h => by cases h
  | y :: r, z, h => by
    rw [ixS, List.length_cons]
    by_cases e : y = z
    · rw [if_pos e]; omega
    · rw [if_neg e]
      have := ixS_lt ((List.mem_cons.mp h).resolve_left fun q => e q.symm)
      omega
end DL
namespace DL
open PySem PySem.Spec PyProof.Rows L2 RK
def RsOk (ns : List Str) (ps : List Sc) : Prop := ∀ s ∈ ps, ∃ ys, s = Sc.mv true ys ∧ ys ≠ [] ∧ ys.Nodup ∧ ys.length ≤ 1000 ∧ ∀ z ∈ ys, z ∈ ns
def sp_steps_are : DSp := fun ds P => ∃ ps ns, ds = [.lst (ps.map Sc.d), .lst [.str "raise", .str "lower"], .lst (ns.map D.str)] ∧ ps.length ≤ 1000 ∧ RsOk ns ps ∧ P (.bl true)
def d_steps_are : TDS := (sSeq (sIf (dOrT (dNotT (dT (dIs "list" (dV 0)))) (dNotT (dT (dCa allD (aCons (dLc (iSeq (dV 0)) (gNm 4) tYesD (dAndV (dIs "tuple" (dV 4)) (dAndV (dO2 (bEqN false) (dCa lenD (aCons (dV 4) aNil)) (dC (.int 2))) (dO2 (bIn false) (dO2 bIx (dV 4) (dC (.int 0))) (dV 1)))) [4]) aNil))))) (sRet (dC (.bl false))) sNil)
  (sSeq (sSet 3 (dLc (iSeq (dV 0)) (gNm 4) tYesD (dAndV (dIs "list" (dO2 bIx (dV 4) (dC (.int 1)))) (dChain (iI0 fun i j => .bl (decide (i < j))) (bEqN false) (dC (.int 0)) (dCa lenD (aCons (dO2 bIx (dV 4) (dC (.int 1))) aNil)) (dLenSet (dO2 bIx (dV 4) (dC (.int 1)))))) [4]))
  (sRet (dAndV (dCa allD (aCons (dV 3) aNil)) (dCa allD (aCons (dLc (iSeq (dV 0)) (gNm 4) tYesD (dCa allD (aCons (dLc (iSeq (dO2 bIx (dV 4) (dC (.int 1)))) (gNm 5) tYesD (dO2 (bIn false) (dV 5) (dV 2)) [5]) aNil)) [4]) aNil))))))
theorem ln_steps_are {ds : List D} {P : D → Prop} (h : sp_steps_are ds P) : ds.length = 3 := by obtain ⟨_, _, rfl, _⟩ := h; rfl
theorem all_true {α : Type} (l : List α) : allD [.lst (l.map fun _ => D.bl true)] = some (.bl true) := by
  have := allD_f l fun _ => true
  rw [this]
  simp
theorem mvT_d (ys : List Str) : (Sc.mv true ys).d = .tup [.str "raise", .lst (ys.map D.str)] := by rw [Sc.d]
theorem rd_steps_are {ds : List D} {P : D → Prop} (h : sp_steps_are ds P) : d_steps_are (fin false P) (st 6 ds) := by
  obtain ⟨ps, ns, rfl, lp, ok, q⟩ := h
  have lD : ∀ xs : List D, lenD [.lst xs] = some (.int ((xs.length : Nat) : Int)) := fun _ => rfl
  have tD : ∀ xs : List D, lenD [.tup xs] = some (.int ((xs.length : Nat) : Int)) := fun _ => rfl
  have il : ∀ xs : List D, isD "list" (.lst xs) = some true := fun _ => rfl
  have it : ∀ xs : List D, isD "tuple" (.tup xs) = some true := fun _ => rfl
  have x0 : ∀ x y : D, bIx (.tup [x, y]) (.int 0) = some x := fun x y => bIx_tp (j := 0) rfl
  have x1 : ∀ x y : D, bIx (.tup [x, y]) (.int 1) = some y := fun x y => bIx_tp (j := 1) rfl
  have c2 : bEqN false (.int ((([D.str "raise", D.str "lower"] : List D).length : Nat) : Int)) (.int 2) = some (.bl true) := rfl
  have wi : bIn false (.str "raise") (.lst [.str "raise", .str "lower"]) = some (.bl true) := by
    have := bIn_strs (neg := false) (d := .lst (([("raise" : Str), "lower"] : List Str).map D.str)) (zs := ([("raise" : Str), "lower"] : List Str)) (.inl rfl) "raise"
    rw [decide_eq_true (by simp)] at this
    exact this
  have cc : ∀ (x y : D), bEqN false (.int (([x, y].length : Nat) : Int)) (.int 2) = some (.bl true) := fun _ _ => rfl
  simp only [d_steps_are, dC, dV, dB, dO2, ob_some, dT, dAndT, dOrT, dNotT, dIf, dAndV, dOrV, dNotV, dChain, aNil, aCons, dTup, dLst, dCut, oNone, oSome, dRev, dNeg, dTru, dCa, dIs, dIsA, dCall, dCallK, sNil, sSeq, sNever, sBrk, sCont, sIf, sRet, sRetO, sRetE, sSet, sSetO, sDrop, sPar, sPar3, kn, enOf, owD, sAsg, gNm, gsNil, gsCons, gTp, sApp, sIns, sExt, sClr, sRev, sPut, sFrz, owAt, fin, st, iRng, iRngB, iSeq, lstD, tupD, sFor, dLc, dDc, wipeE, tYesD, dIndex, dSort, dDictZip, dMeth, dFld, dMk, List.map_cons, List.map_nil, List.length_cons, List.length_nil, List.replicate_succ, List.replicate_zero, List.cons_append, List.nil_append, List.append_nil, List.getElem?_cons_zero, List.getElem?_cons_succ, List.set_cons_zero, List.set_cons_succ, Option.bind_some, Option.map_some, Nat.reduceSub, Nat.reduceAdd, kwP, List.getD_cons_zero, List.getD_cons_succ, il]
  refine .inl (comp_map (fun s : Sc => s.d) (fun _ => D.bl true) ps [] (fun s hs Q Z hQ => ?_) (by simp; omega) ?_)
  · obtain ⟨ys, rfl, _⟩ := ok s hs
    simp only [mvT_d, dC, dV, dB, dO2, ob_some, dT, dAndT, dOrT, dNotT, dIf, dAndV, dOrV, dNotV, dChain, aNil, aCons, dTup, dLst, dCut, oNone, oSome, dRev, dNeg, dTru, dCa, dIs, dIsA, dCall, dCallK, sNil, sSeq, sNever, sBrk, sCont, sIf, sRet, sRetO, sRetE, sSet, sSetO, sDrop, sPar, sPar3, kn, enOf, owD, sAsg, gNm, gsNil, gsCons, gTp, sApp, sIns, sExt, sClr, sRev, sPut, sFrz, owAt, fin, st, iRng, iRngB, iSeq, lstD, tupD, sFor, dLc, dDc, wipeE, tYesD, dIndex, dSort, dDictZip, dMeth, dFld, dMk, List.map_cons, List.map_nil, List.length_cons, List.length_nil, List.replicate_succ, List.replicate_zero, List.cons_append, List.nil_append, List.append_nil, List.getElem?_cons_zero, List.getElem?_cons_succ, List.set_cons_zero, List.set_cons_succ, Option.bind_some, Option.map_some, Nat.reduceSub, Nat.reduceAdd, kwP, List.getD_cons_zero, List.getD_cons_succ, it, tD, x0, x1, wi, if_true]
    exact hQ
  · rw [List.nil_append, all_true]
    simp only [ob_some, Bool.not_true, Bool.false_eq_true, if_false, dC, dV, dB, dO2, ob_some, dT, dAndT, dOrT, dNotT, dIf, dAndV, dOrV, dNotV, dChain, aNil, aCons, dTup, dLst, dCut, oNone, oSome, dRev, dNeg, dTru, dCa, dIs, dIsA, dCall, dCallK, sNil, sSeq, sNever, sBrk, sCont, sIf, sRet, sRetO, sRetE, sSet, sSetO, sDrop, sPar, sPar3, kn, enOf, owD, sAsg, gNm, gsNil, gsCons, gTp, sApp, sIns, sExt, sClr, sRev, sPut, sFrz, owAt, fin, st, iRng, iRngB, iSeq, lstD, tupD, sFor, dLc, dDc, wipeE, tYesD, dIndex, dSort, dDictZip, dMeth, dFld, dMk, List.map_cons, List.map_nil, List.length_cons, List.length_nil, List.replicate_succ, List.replicate_zero, List.cons_append, List.nil_append, List.append_nil, List.getElem?_cons_zero, List.getElem?_cons_succ, List.set_cons_zero, List.set_cons_succ, Option.bind_some, Option.map_some, Nat.reduceSub, Nat.reduceAdd, kwP, List.getD_cons_zero, List.getD_cons_succ]
    refine .inl (comp_map (fun s : Sc => s.d) (fun _ => D.bl true) ps [] (fun s hs Q Z hQ => ?_) (by simp; omega) ?_)
    · obtain ⟨ys, rfl, ne, nd, ly, _⟩ := ok s hs
      have g0 : iI0 (fun i j => .bl (decide (i < j))) (.int 0) (.int (((ys.map D.str).length : Nat) : Int)) = some (.bl true) := by
        show some (D.bl (decide ((0 : Int) < (((ys.map D.str).length : Nat) : Int)))) = _
        rw [decide_eq_true]
        rw [List.length_map]
        have := List.length_pos_iff.mpr ne
        omega
      have cn : cntL (ys.map (Sum.inr : Str → Key)) = ys.length := by rw [cntL_iff.mpr (nd_inr nd), List.length_map]
      have e5 : bEqN false (.int (((ys.map D.str).length : Nat) : Int)) (.int ((ys.length : Nat) : Int)) = some (.bl true) := by rw [bEq_i, List.length_map, decide_eq_true rfl]
      simp only [mvT_d, dC, dV, dB, dO2, ob_some, dT, dAndT, dOrT, dNotT, dIf, dAndV, dOrV, dNotV, dChain, aNil, aCons, dTup, dLst, dCut, oNone, oSome, dRev, dNeg, dTru, dCa, dIs, dIsA, dCall, dCallK, sNil, sSeq, sNever, sBrk, sCont, sIf, sRet, sRetO, sRetE, sSet, sSetO, sDrop, sPar, sPar3, kn, enOf, owD, sAsg, gNm, gsNil, gsCons, gTp, sApp, sIns, sExt, sClr, sRev, sPut, sFrz, owAt, fin, st, iRng, iRngB, iSeq, lstD, tupD, sFor, dLc, dDc, wipeE, tYesD, dIndex, dSort, dDictZip, dMeth, dFld, dMk, List.map_cons, List.map_nil, List.length_cons, List.length_nil, List.replicate_succ, List.replicate_zero, List.cons_append, List.nil_append, List.append_nil, List.getElem?_cons_zero, List.getElem?_cons_succ, List.set_cons_zero, List.set_cons_succ, Option.bind_some, Option.map_some, Nat.reduceSub, Nat.reduceAdd, kwP, List.getD_cons_zero, List.getD_cons_succ, x1, il, lD, g0, dLenSet, items_seq (.inl rfl : IsSeq (.lst (ys.map D.str)) ys), keys_strs, cn, e5, if_true]
      exact ⟨by rw [List.length_map]; omega, hQ⟩
    · rw [List.nil_append]
      simp only [all_true, dC, dV, dB, dO2, ob_some, dT, dAndT, dOrT, dNotT, dIf, dAndV, dOrV, dNotV, dChain, aNil, aCons, dTup, dLst, dCut, oNone, oSome, dRev, dNeg, dTru, dCa, dIs, dIsA, dCall, dCallK, sNil, sSeq, sNever, sBrk, sCont, sIf, sRet, sRetO, sRetE, sSet, sSetO, sDrop, sPar, sPar3, kn, enOf, owD, sAsg, gNm, gsNil, gsCons, gTp, sApp, sIns, sExt, sClr, sRev, sPut, sFrz, owAt, fin, st, iRng, iRngB, iSeq, lstD, tupD, sFor, dLc, dDc, wipeE, tYesD, dIndex, dSort, dDictZip, dMeth, dFld, dMk, List.map_cons, List.map_nil, List.length_cons, List.length_nil, List.replicate_succ, List.replicate_zero, List.cons_append, List.nil_append, List.append_nil, List.getElem?_cons_zero, List.getElem?_cons_succ, List.set_cons_zero, List.set_cons_succ, Option.bind_some, Option.map_some, Nat.reduceSub, Nat.reduceAdd, kwP, List.getD_cons_zero, List.getD_cons_succ, if_true]
      refine .inl (comp_map (fun s : Sc => s.d) (fun _ => D.bl true) ps [] (fun s hs Q Z hQ => ?_) (by simp; omega) ?_)
      · obtain ⟨ys, rfl, ne, nd, ly, sub⟩ := ok s hs
        simp only [mvT_d, dC, dV, dB, dO2, ob_some, dT, dAndT, dOrT, dNotT, dIf, dAndV, dOrV, dNotV, dChain, aNil, aCons, dTup, dLst, dCut, oNone, oSome, dRev, dNeg, dTru, dCa, dIs, dIsA, dCall, dCallK, sNil, sSeq, sNever, sBrk, sCont, sIf, sRet, sRetO, sRetE, sSet, sSetO, sDrop, sPar, sPar3, kn, enOf, owD, sAsg, gNm, gsNil, gsCons, gTp, sApp, sIns, sExt, sClr, sRev, sPut, sFrz, owAt, fin, st, iRng, iRngB, iSeq, lstD, tupD, sFor, dLc, dDc, wipeE, tYesD, dIndex, dSort, dDictZip, dMeth, dFld, dMk, List.map_cons, List.map_nil, List.length_cons, List.length_nil, List.replicate_succ, List.replicate_zero, List.cons_append, List.nil_append, List.append_nil, List.getElem?_cons_zero, List.getElem?_cons_succ, List.set_cons_zero, List.set_cons_succ, Option.bind_some, Option.map_some, Nat.reduceSub, Nat.reduceAdd, kwP, List.getD_cons_zero, List.getD_cons_succ, x1, if_true]
        refine .inl (comp_map D.str (fun _ => D.bl true) ys [] (fun z hz Q2 Z2 hQ2 => ?_) (by simp; omega) ?_)
        · have ib : bIn false (.str z) (.lst (ns.map D.str)) = some (.bl true) := by rw [bIn_strs (.inl rfl) z, decide_eq_true (sub z hz)]; rfl
          simp only [dC, dV, dB, dO2, ob_some, dT, dAndT, dOrT, dNotT, dIf, dAndV, dOrV, dNotV, dChain, aNil, aCons, dTup, dLst, dCut, oNone, oSome, dRev, dNeg, dTru, dCa, dIs, dIsA, dCall, dCallK, sNil, sSeq, sNever, sBrk, sCont, sIf, sRet, sRetO, sRetE, sSet, sSetO, sDrop, sPar, sPar3, kn, enOf, owD, sAsg, gNm, gsNil, gsCons, gTp, sApp, sIns, sExt, sClr, sRev, sPut, sFrz, owAt, fin, st, iRng, iRngB, iSeq, lstD, tupD, sFor, dLc, dDc, wipeE, tYesD, dIndex, dSort, dDictZip, dMeth, dFld, dMk, List.map_cons, List.map_nil, List.length_cons, List.length_nil, List.replicate_succ, List.replicate_zero, List.cons_append, List.nil_append, List.append_nil, List.getElem?_cons_zero, List.getElem?_cons_succ, List.set_cons_zero, List.set_cons_succ, Option.bind_some, Option.map_some, Nat.reduceSub, Nat.reduceAdd, kwP, List.getD_cons_zero, List.getD_cons_succ, ib, if_true]
          exact hQ2
        · rw [List.nil_append, all_true]
          exact hQ
      · rw [List.nil_append, all_true]
        exact q
end DL
namespace DL
open PySem PySem.Spec PyProof.Rows L2 RK
theorem lsOf_mem {os : List Str} {ps : List SP} {x y : Str} {w : Nat} (h : (y, x, w) ∈ lsOf os ps) : (y, x) ∈ ps ∧ w = if ixS os x < ixS os y then 1 else 0 := by
  obtain ⟨p, hp, e⟩ := List.mem_map.mp h
  cases e
  exact ⟨hp, rfl⟩
theorem pw_val {os : List Str} {ps : List SP} {h : Str → Nat} {b : List SP} {z y : Str} {c : List Str} (T : Hts os (lsOf os ps) h b) (pw : Pw b z c y) (hz : z ∈ os) : ∀ v, h y ≤ v → v ≤ h z → ∃ u ∈ os, h u = v := by
  induction pw with
  | one => intro v h1 h2; exact ⟨z, hz, by omega⟩
  | snoc pw e ih =>
    rename_i c y x
    intro v h1 h2
    obtain ⟨_, mx, w, hw, eh⟩ := T.bf y x e
    obtain ⟨_, ew⟩ := lsOf_mem hw
    by_cases g : h y ≤ v
    · exact ih v g h2
    · have : w ≤ 1 := by rw [ew]; split <;> omega
      exact ⟨x, mx, by omega⟩
structure ClnOk (os : List Str) (ps : List SP) (m : Nat) (c : List Str) : Prop where
  mem : ∀ u ∈ c, u ∈ os
  len : c.length ≤ os.length
  tl : m ≠ 0 → c ≠ [] ∧ tlD os ps c = .int ((m : Nat) : Int)
  z : m = 0 → c = []
end DL
namespace DL
open PySem PySem.Spec PyProof.Rows L2 RK
theorem bits_hi (m : Nat) : m < 2 ^ Builtin.Int.intBits (m : Int) := by
  unfold Builtin.Int.intBits
  by_cases hn : m = 0
  · subst hn; decide
  · have hb : ¬ (((m : Int)) == 0) = true := by simpa using hn
    rw [if_neg hb, Int.natAbs_natCast]
    exact (Nat.log2_lt hn).mp (Nat.lt_succ_self _)
theorem bits_lo {m d : Nat} (h : d < Builtin.Int.intBits (m : Int)) : 2 ^ d ≤ m := by
  unfold Builtin.Int.intBits at h
  by_cases hn : m = 0
  · subst hn
    simp at h
  · have hb : ¬ (((m : Int)) == 0) = true := by simpa using hn
    rw [if_neg hb, Int.natAbs_natCast] at h
    exact Nat.le_trans (Nat.pow_le_pow_right (by decide) (by omega)) (Nat.log2_self_le hn)
def srN (os : List Str) (h : Str → Nat) (n : Nat) : List Sc := (List.range n).map fun d => Sc.mv true (os.filter fun x => bitB (h x) d)
theorem srt_eq (os : List Str) (h : Str → Nat) (m : Nat) : srt os h m = srN os h (Builtin.Int.intBits (m : Int)) := rfl
theorem mod_step (x n : Nat) : x % 2 ^ (n + 1) = x % 2 ^ n + 2 ^ n * (x / 2 ^ n % 2) := by
  rw [Nat.pow_succ, Nat.mod_mul]
theorem sr_bef {os : List Str} {h : Str → Nat} {a b : Str} (ha : a ∈ os) (hb : b ∈ os) : ∀ n, befP (srN os h n) os a b ↔ (if h a % 2 ^ n = h b % 2 ^ n then ixS os a < ixS os b else h a % 2 ^ n < h b % 2 ^ n)
  | 0 => by
    have e : srN os h 0 = [] := rfl
    rw [e]
    have : h a % 2 ^ 0 = h b % 2 ^ 0 := by rw [Nat.pow_zero, Nat.mod_one, Nat.mod_one]
    rw [if_pos this]
    exact Iff.rfl
  | n + 1 => by
    have ih := sr_bef (h := h) ha hb n
    have e : srN os h (n + 1) = srN os h n ++ [Sc.mv true (os.filter fun x => bitB (h x) n)] := by unfold srN; rw [List.range_succ, List.map_append]; rfl
    have fm : ∀ {z : Str}, z ∈ os → decide (z ∈ os.filter fun x => bitB (h x) n) = bitB (h z) n := fun {z} hz => by
      rw [Bool.eq_iff_iff, decide_eq_true_iff, List.mem_filter]
      exact ⟨fun g => g.2, fun g => ⟨hz, g⟩⟩
    have pr : prt (Sc.mv true (os.filter fun x => bitB (h x) n)) a b = (bitB (h a) n != bitB (h b) n) := by
      show (decide (a ∈ _) != decide (b ∈ _)) = _
      rw [fm ha, fm hb]
    have pv : pov (Sc.mv true (os.filter fun x => bitB (h x) n)) b = (true == bitB (h b) n) := by
      show (true == decide (b ∈ _)) = _
      rw [fm hb]
    have sa := mod_step (h a) n
    have sb := mod_step (h b) n
    have la : h a % 2 ^ n < 2 ^ n := Nat.mod_lt _ (Nat.two_pow_pos n)
    have lb : h b % 2 ^ n < 2 ^ n := Nat.mod_lt _ (Nat.two_pow_pos n)
    have b2 : ∀ x : Nat, x / 2 ^ n % 2 = 0 ∨ x / 2 ^ n % 2 = 1 := fun x => by omega
    have bt : ∀ x : Nat, x / 2 ^ n % 2 = 1 → bitB x n = true := fun x e => decide_eq_true e
    have bf : ∀ x : Nat, x / 2 ^ n % 2 = 0 → bitB x n = false := fun x e => decide_eq_false (by omega)
    unfold befP at ih ⊢
    rw [e, lastP_snoc, pr]
    rcases b2 (h a) with ea | ea <;> rcases b2 (h b) with eb | eb <;> rw [ea] at sa <;> rw [eb] at sb
    · rw [bf _ ea, bf _ eb, if_neg (by decide), sa, sb]
      simpa using ih
    · rw [bf _ ea, bt _ eb, if_pos (by decide)]
      show pov _ b = true ↔ _
      rw [pv, bt _ eb, if_neg (by omega)]
      constructor
      · intro _; omega
      · intro _; rfl
    · rw [bt _ ea, bf _ eb, if_pos (by decide)]
      show pov _ b = true ↔ _
      rw [pv, bf _ eb, if_neg (by omega)]
      constructor
      · intro z; cases z
      · intro z; omega
    · rw [bt _ ea, bt _ eb, if_neg (by decide), sa, sb]
      have e1 : (h a % 2 ^ n + 2 ^ n * 1 = h b % 2 ^ n + 2 ^ n * 1) = (h a % 2 ^ n = h b % 2 ^ n) := propext ⟨fun z => by omega, fun z => by omega⟩
      have e2 : (h a % 2 ^ n + 2 ^ n * 1 < h b % 2 ^ n + 2 ^ n * 1) = (h a % 2 ^ n < h b % 2 ^ n) := propext ⟨fun z => by omega, fun z => by omega⟩
      simp only [e1, e2]
      exact ih
theorem srt_keeps {os : List Str} {ps : List SP} {h : Str → Nat} {b : List SP} {m : Nat} (T : Hts os (lsOf os ps) h b) (M : MaxH os h m) (hp : ∀ p ∈ ps, p.1 ∈ os ∧ p.2 ∈ os ∧ p.1 ≠ p.2) : Keeps ps (aftO os (srt os h m)) := fun p hm => by
  obtain ⟨m1, m2, ne⟩ := hp p hm
  rw [aft_bef m1 m2 _ _ rfl, srt_eq, sr_bef m1 m2]
  have hb := bits_hi m
  have l1 := M.le _ m1
  have l2 := M.le _ m2
  rw [Nat.mod_eq_of_lt (by omega), Nat.mod_eq_of_lt (by omega)]
  have ok := T.ok _ (List.mem_map.mpr ⟨p, hm, rfl⟩)
  have ok : h p.1 + (if ixS os p.2 < ixS os p.1 then 1 else 0) ≤ h p.2 := ok
  by_cases e : h p.1 = h p.2
  · rw [if_pos e]
    have n : ¬ ixS os p.2 < ixS os p.1 := fun g => by rw [if_pos g] at ok; omega
    have n2 : ixS os p.1 ≠ ixS os p.2 := fun g => ne (ixS_inj m1 m2 g)
    omega
  · rw [if_neg e]
    omega
theorem srt_rs {os : List Str} {ps : List SP} {h : Str → Nat} {b : List SP} {m : Nat} {c : List Str} (T : Hts os (lsOf os ps) h b) (C : Cln os h b m c) (nd : os.Nodup) (lo : os.length ≤ 1000) : RsOk os (srt os h m) := fun s hs => by
  obtain ⟨d, hd, rfl⟩ := List.mem_map.mp hs
  have hd := List.mem_range.mp hd
  have le := bits_lo hd
  have hm : m ≠ 0 := by have := Nat.two_pow_pos d; omega
  obtain ⟨z, y, c0, mz, ez, pw, _, sub, hy, _⟩ := C.2 hm
  have my : y ∈ os := by
    obtain ⟨pre, rfl⟩ := pw.last
    exact sub y (by simp)
  have y0 := T.z0 y my hy
  obtain ⟨u, mu, eu⟩ := pw_val T pw mz (2 ^ d) (by rw [y0]; exact Nat.zero_le _) (by rw [ez]; exact le)
  refine ⟨_, rfl, fun e => ?_, nd.filter _, Nat.le_trans (List.length_filter_le _ _) lo, fun z hz => (List.mem_filter.mp hz).1⟩
  have : u ∈ os.filter fun x => bitB (h x) d := List.mem_filter.mpr ⟨mu, by rw [eu]; unfold bitB; rw [Nat.div_self (Nat.two_pow_pos d)]; rfl⟩
  rw [e] at this
  cases this
theorem srt_len (os : List Str) (h : Str → Nat) (m : Nat) : (srt os h m).length = Builtin.Int.intBits (m : Int) := by unfold srt; rw [List.length_map, List.length_range]
end DL
namespace DL
open PySem PySem.Spec PyProof.Rows L2 RK
theorem hts_pot {ns : List Str} {ls : List LkH} {h Φ : Str → Nat} {b : List SP} (T : Hts ns ls h b) (P : Pot ns ls Φ) : ∀ x ∈ ns, h x ≤ Φ x := by
  obtain ⟨t, ht⟩ := T.t
  have key : ∀ n x, t x < n → x ∈ ns → h x ≤ Φ x := by
    intro n
    induction n with
    | zero => intro x hx _; omega
    | succ n ih =>
      intro x hx mx
      cases e : bfr b x with
      | none => rw [T.z0 x mx e]; exact Nat.zero_le _
      | some y =>
        obtain ⟨_, my, w, hl, eh⟩ := T.bf x y e
        have h1 := ih y (by have := ht x y e; omega) my
        have h2 : Φ y + w ≤ Φ x := P.le _ hl
        omega
  exact fun x mx => key (t x + 1) x (Nat.lt_succ_self _) mx
abbrev rs (S : List Str) : Sc := .mv true S
theorem step_bef {o S : List Str} {a b : Str} (ha : a ∈ o) (hb : b ∈ o) : ixS (stO o (rs S)) a < ixS (stO o (rs S)) b ↔ if (a ∈ S) = (b ∈ S) then ixS o a < ixS o b else b ∈ S := by
  have e : stO o (rs S) = aftO o [rs S] := rfl
  rw [e, aft_bef ha hb _ _ rfl]
  have l0 := lastP_snoc [] (rs S) a b
  rw [List.nil_append] at l0
  unfold befP
  rw [l0]
  have pr : prt (rs S) a b = (decide (a ∈ S) != decide (b ∈ S)) := rfl
  have pv : pov (rs S) b = (true == decide (b ∈ S)) := rfl
  rw [pr]
  by_cases h1 : a ∈ S <;> by_cases h2 : b ∈ S
  · rw [decide_eq_true h1, decide_eq_true h2, if_neg (by decide), if_pos (by simp [h1, h2])]
    exact Iff.rfl
  · rw [decide_eq_true h1, decide_eq_false h2, if_pos (by decide), if_neg (by simp [h1, h2])]
    show pov (rs S) b = true ↔ _
    rw [pv, decide_eq_false h2]
    simp [h2]
  · rw [decide_eq_false h1, decide_eq_true h2, if_pos (by decide), if_neg (by simp [h1, h2])]
    show pov (rs S) b = true ↔ _
    rw [pv, decide_eq_true h2]
    simp [h2]
  · rw [decide_eq_false h1, decide_eq_false h2, if_neg (by decide), if_pos (by simp [h1, h2])]
    exact Iff.rfl
def dbl (S : List Str) (Φ : Str → Nat) (x : Str) : Nat := 2 * Φ x + if x ∈ S then 1 else 0
theorem pot_step {ns o S : List Str} {ps : List SP} {Φ : Str → Nat} (hp : ∀ p ∈ ps, p.1 ∈ o ∧ p.2 ∈ o ∧ p.1 ≠ p.2) (P : Pot ns (lsOf (stO o (rs S)) ps) Φ) : Pot ns (lsOf o ps) (dbl S Φ) := by
  refine ⟨fun l hl => ?_, fun l hl => ?_⟩
  · obtain ⟨p, hm, rfl⟩ := List.mem_map.mp hl
    exact P.mem (p.1, p.2, if ixS (stO o (rs S)) p.2 < ixS (stO o (rs S)) p.1 then 1 else 0) (List.mem_map.mpr ⟨p, hm, rfl⟩)
  · obtain ⟨p, hm, rfl⟩ := List.mem_map.mp hl
    obtain ⟨m1, m2, ne⟩ := hp p hm
    have h := P.le _ (List.mem_map.mpr ⟨p, hm, rfl⟩)
    have h : Φ p.1 + (if ixS (stO o (rs S)) p.2 < ixS (stO o (rs S)) p.1 then 1 else 0) ≤ Φ p.2 := h
    show dbl S Φ p.1 + (if ixS o p.2 < ixS o p.1 then 1 else 0) ≤ dbl S Φ p.2
    have sb := step_bef (S := S) m2 m1
    unfold dbl
    by_cases h1 : p.1 ∈ S <;> by_cases h2 : p.2 ∈ S
    · rw [if_pos (by simp [h1, h2])] at sb
      rw [if_pos h1, if_pos h2]
      by_cases g : ixS o p.2 < ixS o p.1
      · rw [if_pos g]; rw [if_pos (sb.mpr g)] at h; omega
      · rw [if_neg g]; omega
    · rw [if_neg (by simp [h1, h2])] at sb
      rw [if_pos h1, if_neg h2]
      rw [if_pos (sb.mpr h1)] at h
      split <;> omega
    · rw [if_neg h1, if_pos h2]
      have : Φ p.1 ≤ Φ p.2 := by omega
      split <;> omega
    · rw [if_pos (by simp [h1, h2])] at sb
      rw [if_neg h1, if_neg h2]
      by_cases g : ixS o p.2 < ixS o p.1
      · rw [if_pos g]; rw [if_pos (sb.mpr g)] at h; omega
      · rw [if_neg g]; omega
inductive Rc (Gs : List (List Str)) (o : List Str) : Nat → List Str → Prop
  | zero : Rc Gs o 0 o
  | snoc {n : Nat} {k S : List Str} : Rc Gs o n k → S ∈ Gs → Rc Gs o (n + 1) (stO k (rs S))
theorem Rc.perm {Gs : List (List Str)} {o k : List Str} {n : Nat} (h : Rc Gs o n k) : k.Perm o := by
  induction h with
  | zero => exact .refl _
  | snoc _ _ ih => exact (o_perm _ _).trans ih
theorem rc_pot {Gs : List (List Str)} {ns o k : List Str} {ps : List SP} {n : Nat} (hp : ∀ p ∈ ps, p.1 ∈ o ∧ p.2 ∈ o ∧ p.1 ≠ p.2) (h : Rc Gs o n k) : ∀ (Φ : Str → Nat) (i : Nat), Pot ns (lsOf k ps) Φ → (∀ x, Φ x < 2 ^ i) → ∃ Ψ, Pot ns (lsOf o ps) Ψ ∧ ∀ x, Ψ x < 2 ^ (i + n) := by
  induction h with
  | zero => exact fun Φ i P b => ⟨Φ, P, b⟩
  | snoc r _ ih =>
    rename_i n k S _
    intro Φ i P b
    obtain ⟨Ψ, P', b'⟩ := ih (dbl S Φ) (i + 1) (pot_step (fun p hm => ⟨r.perm.mem_iff.mpr (hp p hm).1, r.perm.mem_iff.mpr (hp p hm).2.1, (hp p hm).2.2⟩) P) fun x => by
      have := b x
      unfold dbl
      rw [Nat.pow_succ]
      split <;> omega
    exact ⟨Ψ, P', fun x => by rw [show i + (n + 1) = i + 1 + n by omega]; exact b' x⟩
theorem pot_zero {ns o : List Str} {ps : List SP} (hp : ∀ p ∈ ps, p.1 ∈ ns ∧ p.2 ∈ ns) (K : Keeps ps o) : Pot ns (lsOf o ps) fun _ => 0 := by
  refine ⟨fun l hl => ?_, fun l hl => ?_⟩
  · obtain ⟨p, hm, rfl⟩ := List.mem_map.mp hl
    exact hp p hm
  · obtain ⟨p, hm, rfl⟩ := List.mem_map.mp hl
    have := K p hm
    show 0 + (if ixS o p.2 < ixS o p.1 then 1 else 0) ≤ 0
    rw [if_neg (by omega)]
    exact Nat.le_refl _
theorem rc_bits {Gs : List (List Str)} {o k : List Str} {ps : List SP} {n m : Nat} {h : Str → Nat} {b : List SP} (hp : ∀ p ∈ ps, p.1 ∈ o ∧ p.2 ∈ o ∧ p.1 ≠ p.2) (r : Rc Gs o n k) (K : Keeps ps k) (T : Hts o (lsOf o ps) h b) (M : MaxH o h m) : Builtin.Int.intBits (m : Int) ≤ n := by
  obtain ⟨Ψ, P, bd⟩ := rc_pot (ns := o) hp r (fun _ => 0) 0 (pot_zero (fun p hm => ⟨(hp p hm).1, (hp p hm).2.1⟩) K) fun _ => by decide
  obtain ⟨x, mx, ex⟩ := M.ex
  have h1 := hts_pot T P x mx
  have h2 := bd x
  rw [Nat.zero_add] at h2
  rcases Nat.lt_or_ge n (Builtin.Int.intBits (m : Int)) with g | g
  · have := bits_lo g
    omega
  · exact g
def subs (ns : List Str) : List (List Str) := ns.foldl (fun f z => f ++ f.map fun s => s ++ [z]) [[]]
theorem subs_snoc (ns : List Str) (z : Str) : subs (ns ++ [z]) = subs ns ++ (subs ns).map fun s => s ++ [z] := by unfold subs; rw [List.foldl_append]; rfl
theorem snoc_ind {α : Type} {Q : List α → Prop} (h0 : Q []) (hs : ∀ l x, Q l → Q (l ++ [x])) : ∀ l, Q l := fun l => by
  have key : ∀ r : List α, Q r.reverse := fun r => by
    induction r with
    | nil => exact h0
    | cons x r ih => rw [List.reverse_cons]; exact hs _ _ ih
  have := key l.reverse
  rwa [List.reverse_reverse] at this
theorem subs_filter (p : Str → Bool) (ns : List Str) : ns.filter p ∈ subs ns := by
  refine snoc_ind (Q := fun ns => ns.filter p ∈ subs ns) (by simp [subs]) (fun l x ih => ?_) ns
  rw [subs_snoc, List.filter_append, List.mem_append]
  by_cases h : p x = true
  · refine .inr (List.mem_map.mpr ⟨_, ih, ?_⟩)
    rw [List.filter_cons_of_pos h]
    rfl
  · rw [List.filter_cons_of_neg h, List.filter_nil, List.append_nil]
    exact .inl ih
theorem subs_sub (ns : List Str) : ∀ s ∈ subs ns, ∀ z ∈ s, z ∈ ns := by
  refine snoc_ind (Q := fun ns => ∀ s ∈ subs ns, ∀ z ∈ s, z ∈ ns) (by simp [subs]) (fun l x ih => ?_) ns
  intro s hs z hz
  rw [subs_snoc] at hs
  rw [List.mem_append]
  rcases List.mem_append.mp hs with h | h
  · exact .inl (ih s h z hz)
  · obtain ⟨u, hu, rfl⟩ := List.mem_map.mp h
    exact (List.mem_append.mp hz).imp (ih u hu z) id
theorem subs_len (ns : List Str) : (subs ns).length = 2 ^ ns.length := by
  refine snoc_ind (Q := fun ns => (subs ns).length = 2 ^ ns.length) (by simp [subs]) (fun l x ih => ?_) ns
  rw [subs_snoc, List.length_append, List.length_map, ih, List.length_append, List.length_cons, List.length_nil, Nat.pow_succ]
  omega
theorem subs_sl (ns : List Str) : ∀ s ∈ subs ns, s.length ≤ ns.length := by
  refine snoc_ind (Q := fun ns => ∀ s ∈ subs ns, s.length ≤ ns.length) (by simp [subs]) (fun l x ih => ?_) ns
  intro s hs
  rw [subs_snoc] at hs
  rw [List.length_append]
  rcases List.mem_append.mp hs with h | h
  · have := ih s h; omega
  · obtain ⟨u, hu, rfl⟩ := List.mem_map.mp h
    have := ih u hu
    rw [List.length_append]
    simpa using this
def grps (ns : List Str) : List (List Str) := (subs ns).filter fun s => !decide (s = [])
theorem stO_congr {o S S' : List Str} (h : ∀ z ∈ o, (z ∈ S ↔ z ∈ S')) : stO o (rs S) = stO o (rs S') := by
  show o.filter (fun z => !decide (z ∈ S)) ++ o.filter (fun z => decide (z ∈ S)) = o.filter (fun z => !decide (z ∈ S')) ++ o.filter (fun z => decide (z ∈ S'))
  have e : ∀ z ∈ o, decide (z ∈ S) = decide (z ∈ S') := fun z hz => decide_eq_decide.mpr (h z hz)
  rw [List.filter_congr fun z hz => by rw [e z hz], List.filter_congr e]
theorem grp_of {ns : List Str} {ys : List Str} (sub : ∀ z ∈ ys, z ∈ ns) (ne : ys ≠ []) : ∃ S ∈ grps ns, ∀ z, z ∈ ys ↔ z ∈ S := by
  refine ⟨ns.filter fun z => decide (z ∈ ys), List.mem_filter.mpr ⟨subs_filter _ _, ?_⟩, fun z => ?_⟩
  · obtain ⟨z, hz⟩ := List.exists_mem_of_ne_nil ys ne
    have : ns.filter (fun z => decide (z ∈ ys)) ≠ [] := List.ne_nil_of_mem (List.mem_filter.mpr ⟨sub z hz, decide_eq_true hz⟩)
    simpa using this
  · rw [List.mem_filter, decide_eq_true_iff]
    exact ⟨fun h => ⟨sub z h, h⟩, fun h => h.2⟩
theorem rc_steps {ns o : List Str} (ss : List Sc) (h : RsOk ns ss) : Rc (grps ns) o ss.length (aftO o ss) := by
  refine snoc_ind (Q := fun ss => RsOk ns ss → Rc (grps ns) o ss.length (aftO o ss)) (fun _ => .zero) (fun l s ih h => ?_) ss h
  have r := ih fun x hx => h x (List.mem_append_left _ hx)
  obtain ⟨ys, rfl, ne, _, _, sub⟩ := h s (by simp)
  obtain ⟨S, hS, e⟩ := grp_of sub ne
  have e1 : aftO o (l ++ [Sc.mv true ys]) = stO (aftO o l) (rs S) := by
    show (l ++ [rs ys]).foldl stO o = _
    rw [List.foldl_append]
    exact stO_congr fun z _ => e z
  rw [e1, List.length_append]
  exact .snoc r hS
def ones (b : List Str) : List Sc := b.map fun z => rs [z]
theorem ones_last {l1 l2 : List Str} {a b : Str} (ne : a ≠ b) (h2 : ∀ z ∈ l2, z ≠ a ∧ z ≠ b) : lastP (ones (l1 ++ b :: l2)) a b = some (rs [b]) := by
  have pr : ∀ z, prt (rs [z]) a b = (decide (a = z) != decide (b = z)) := fun z => by
    show (decide (a ∈ [z]) != decide (b ∈ [z])) = _
    congr 1 <;> exact decide_eq_decide.mpr List.mem_singleton
  have e0 : (ones l2).filter (fun s => prt s a b) = [] := by
    rw [List.filter_eq_nil_iff]
    intro s hs
    obtain ⟨z, hz, rfl⟩ := List.mem_map.mp hs
    obtain ⟨n1, n2⟩ := h2 z hz
    rw [pr, decide_eq_false fun e => n1 e.symm, decide_eq_false fun e => n2 e.symm]
    decide
  have e1 : prt (rs [b]) a b = true := by rw [pr, decide_eq_false ne, decide_eq_true rfl]; rfl
  have e2 : ones (l1 ++ b :: l2) = ones l1 ++ rs [b] :: ones l2 := by unfold ones; rw [List.map_append]; rfl
  unfold lastP
  rw [e2, List.filter_append, List.filter_cons_of_pos (p := fun s => prt s a b) e1, e0, List.getLast?_append]
  rfl
theorem ones_keeps {o b : List Str} {ps : List SP} (nd : b.Nodup) (hp : ∀ p ∈ ps, p.1 ∈ o ∧ p.2 ∈ o ∧ p.1 ≠ p.2) (hb : ∀ z ∈ o, z ∈ b) (K : Keeps ps b) : Keeps ps (aftO o (ones b)) := fun p hm => by
  obtain ⟨m1, m2, ne⟩ := hp p hm
  have k := K p hm
  rw [aft_bef m1 m2 _ _ rfl]
  obtain ⟨l1, l2, e⟩ := List.append_of_mem (hb _ m2)
  have m1' := hb _ m1
  rw [e] at nd k m1'
  obtain ⟨n1, n2, n3⟩ := List.nodup_append.mp nd
  have nb := (List.nodup_cons.mp n2).1
  have b1 : p.2 ∉ l1 := fun z => n3 _ z _ List.mem_cons_self rfl
  have a2 : p.1 ∉ l2 := fun z => by
    have a1 : p.1 ∉ l1 := fun y => n3 _ y _ (List.mem_cons_of_mem _ z) rfl
    rw [ixS_right a1, ixS_right b1] at k
    have : ixS (p.2 :: l2) p.2 = 0 := by rw [ixS, if_pos rfl]
    omega
  unfold befP
  rw [e, ones_last ne fun z hz => ⟨fun y => a2 (y ▸ hz), fun y => nb (y ▸ hz)⟩]
  show (true == decide (p.2 ∈ [p.2])) = true
  simp
theorem ones_ok {ns b : List Str} (sub : ∀ z ∈ b, z ∈ ns) : RsOk ns (ones b) := fun s hs => by
  obtain ⟨z, hz, rfl⟩ := List.mem_map.mp hs
  exact ⟨[z], rfl, by simp, by simp, by simp, fun y hy => by rw [List.mem_singleton.mp hy]; exact sub z hz⟩
def insA (x : Str) (l : List Str) : List (List Str) := (List.range (l.length + 1)).map fun i => l.take i ++ x :: l.drop i
def pms : List Str → List (List Str)
  | [] => [[]]
  | x :: xs => (pms xs).flatMap (insA x)
theorem pms_mem : ∀ {xs p : List Str}, p.Perm xs → p ∈ pms xs
  | [], p, h => by rw [h.eq_nil]; simp [pms]
  | x :: xs, p, h => by
    obtain ⟨a, b, rfl⟩ := List.append_of_mem (h.mem_iff.mpr List.mem_cons_self)
    have h2 : (a ++ b).Perm xs := (List.perm_middle.symm.trans h).cons_inv
    refine List.mem_flatMap.mpr ⟨a ++ b, pms_mem h2, List.mem_map.mpr ⟨a.length, ?_, ?_⟩⟩
    · rw [List.mem_range, List.length_append]; omega
    · rw [List.take_left, List.drop_left]
theorem pms_len : ∀ {xs : List Str}, ∀ p ∈ pms xs, p.length = xs.length
  | [], p, h => by rw [List.mem_singleton.mp h]
  | x :: xs, p, h => by
    obtain ⟨q, hq, hp⟩ := List.mem_flatMap.mp h
    obtain ⟨i, hi, rfl⟩ := List.mem_map.mp hp
    have := pms_len q hq
    have := List.mem_range.mp hi
    simp
    omega
theorem flat_bdm {α β : Type} {f : α → List β} {m : Nat} : ∀ {l : List α}, (∀ x ∈ l, (f x).length ≤ m) → (l.flatMap f).length ≤ l.length * m
  | [], _ => by simp
  | x :: l, h => by
    rw [List.flatMap_cons, List.length_append, List.length_cons, Nat.add_mul, Nat.one_mul]
    have := flat_bdm (l := l) fun y hy => h y (List.mem_cons_of_mem _ hy)
    have := h x List.mem_cons_self
    omega
theorem pms_cnt (x : Str) (xs : List Str) : (pms (x :: xs)).length ≤ (pms xs).length * (xs.length + 1) := flat_bdm fun q hq => by
  unfold insA
  rw [List.length_map, List.length_range, pms_len q hq]
  exact Nat.le_refl _
theorem pms_four {xs : List Str} (h : xs.length ≤ 4) : (pms xs).length ≤ 24 := by
  match xs, h with
  | [], _ => decide
  | [a], _ =>
    have := pms_cnt a []
    have e : (pms []).length = 1 := rfl
    rw [e] at this
    simp at this
    omega
  | [a, b], _ =>
    have h1 := pms_cnt a [b]
    have h2 := pms_cnt b []
    have e : (pms []).length = 1 := rfl
    rw [e] at h2
    simp at h1 h2
    omega
  | [a, b, c], _ =>
    have h1 := pms_cnt a [b, c]
    have h2 := pms_cnt b [c]
    have h3 := pms_cnt c []
    have e : (pms []).length = 1 := rfl
    rw [e] at h3
    simp at h1 h2 h3
    omega
  | [a, b, c, d], _ =>
    have h0 := pms_cnt a [b, c, d]
    have h1 := pms_cnt b [c, d]
    have h2 := pms_cnt c [d]
    have h3 := pms_cnt d []
    have e : (pms []).length = 1 := rfl
    rw [e] at h3
    simp at h0 h1 h2 h3
    omega
structure Kn (Gs : List (List Str)) (o : List Str) (r : Nat) (KL : List (List Str)) : Prop where
  nd : KL.Nodup
  mem : ∀ k, k ∈ KL ↔ ∃ j, j ≤ r ∧ Rc Gs o j k
theorem kn_zero (Gs : List (List Str)) (o : List Str) : Kn Gs o 0 [o] := by
  refine ⟨by simp, fun k => ?_⟩
  rw [List.mem_singleton]
  constructor
  · rintro rfl; exact ⟨0, Nat.le_refl _, .zero⟩
  · rintro ⟨j, hj, h⟩
    obtain rfl : j = 0 := by omega
    cases h
    rfl
theorem kn_step {Gs : List (List Str)} {o : List Str} {r : Nat} {KL KL' : List (List Str)} (h : Kn Gs o r KL) (nd : KL'.Nodup) (hm : ∀ k, k ∈ KL' ↔ k ∈ KL ++ KL.flatMap fun k => Gs.map fun S => stO k (rs S)) : Kn Gs o (r + 1) KL' := by
  refine ⟨nd, fun k => ?_⟩
  rw [hm, List.mem_append, h.mem]
  constructor
  · rintro (⟨j, hj, q⟩ | q)
    · exact ⟨j, by omega, q⟩
    · obtain ⟨k', hk, q⟩ := List.mem_flatMap.mp q
      obtain ⟨S, hS, rfl⟩ := List.mem_map.mp q
      obtain ⟨j, hj, q⟩ := (h.mem k').mp hk
      exact ⟨j + 1, by omega, .snoc q hS⟩
  · rintro ⟨j, hj, q⟩
    cases q with
    | zero => exact .inl ⟨0, Nat.zero_le _, .zero⟩
    | snoc q hS => exact .inr (List.mem_flatMap.mpr ⟨_, (h.mem _).mpr ⟨_, by omega, q⟩, List.mem_map.mpr ⟨_, hS, rfl⟩⟩)
theorem kn_len {Gs : List (List Str)} {o : List Str} {r : Nat} {KL : List (List Str)} (h : Kn Gs o r KL) (l4 : o.length ≤ 4) : KL.length ≤ 24 := by
  have := RK.len_sub h.nd fun k hk => by
    obtain ⟨j, _, q⟩ := (h.mem k).mp hk
    exact pms_mem q.perm
  exact Nat.le_trans this (pms_four l4)
end DL
namespace DL
open PySem PySem.Spec PyProof.Rows L2 RK
end DL
namespace DL
open PySem PySem.Spec PyProof.Rows L2 RK
instance (nm zs : List Str) : Decidable (∀ z ∈ zs, z ∈ nm) := List.decidableBAll (fun z => z ∈ nm) zs
def ClnG (os : List Str) (h : Str → Nat) (b : List SP) (m : Nat) (c : List Str) : Prop := (m = 0 → c = []) ∧ (m ≠ 0 → ∃ z y c0, z ∈ os ∧ h z = m ∧ Pw b z c0 y ∧ c0.Nodup ∧ (∀ u ∈ c0, u ∈ os) ∧ bfr b y = none ∧ c = c0.reverse)
theorem ClnG.sub {os : List Str} {h : Str → Nat} {b : List SP} {m : Nat} {c : List Str} (C : ClnG os h b m c) : (∀ u ∈ c, u ∈ os) ∧ c.length ≤ os.length := by
  by_cases hm : m = 0
  · rw [C.1 hm]
    exact ⟨fun u h => (by cases h), Nat.zero_le _⟩
  · obtain ⟨z, y, c0, _, _, _, nd, sub, _, rfl⟩ := C.2 hm
    exact ⟨fun u h => sub u (List.mem_reverse.mp h), by rw [List.length_reverse]; exact sub_lenS nd sub⟩
end DL
namespace DL
open PySem PySem.Spec PyProof.Rows L2 RK
def rlxF (s : (Str → Nat) × List SP) (l : LkH) : (Str → Nat) × List SP := if s.1 l.2.1 < s.1 l.1 + l.2.2 then (upS s.1 l.2.1 (s.1 l.1 + l.2.2), putS s.2 l.2.1 l.1) else s
def pasF (ls : List LkH) (s : (Str → Nat) × List SP) : (Str → Nat) × List SP := ls.foldl rlxF s
def itF (ls : List LkH) : Nat → (Str → Nat) × List SP
  | 0 => (fun _ => 0, [])
  | k + 1 => pasF ls (itF ls k)
def HB (ls : List LkH) (h : Str → Nat) (b : List SP) : Prop := (∃ k, (h, b) = itF ls k) ∧ ∀ l ∈ ls, h l.1 + l.2.2 ≤ h l.2.1
theorem pas_ok {h : Str → Nat} {b : List SP} : ∀ ls : List LkH, (∀ l ∈ ls, h l.1 + l.2.2 ≤ h l.2.1) → pasF ls (h, b) = (h, b)
  | [], _ => rfl
  | l :: ls, k => by
    have h1 := k l List.mem_cons_self
    show pasF ls (rlxF (h, b) l) = _
    have e : rlxF (h, b) l = (h, b) := if_neg (by show ¬ h l.2.1 < h l.1 + l.2.2; omega)
    rw [e]
    exact pas_ok ls fun x hx => k x (List.mem_cons_of_mem _ hx)
theorem HB.one {ls : List LkH} {h h' : Str → Nat} {b b' : List SP} (x : HB ls h b) (y : HB ls h' b') : h = h' ∧ b = b' := by
  have st : ∀ {h b} (z : HB ls h b) (k : Nat), (h, b) = itF ls k → ∀ j, (h, b) = itF ls (k + j) := fun {h b} z k e j => by
    induction j with
    | zero => exact e
    | succ j ih =>
      show (h, b) = pasF ls (itF ls (k + j))
      rw [← ih, pas_ok ls z.2]
  obtain ⟨k, e⟩ := x.1
  obtain ⟨k', e'⟩ := y.1
  have e1 := st x k e k'
  have e2 := st y k' e' k
  rw [Nat.add_comm] at e2
  have e3 := e1.trans e2.symm
  exact ⟨congrArg (·.1) e3, congrArg (·.2) e3⟩
def sp_heightsR (_ : Addr) : DSp := fun ds P => ∃ d ns ls Φ, ds = [d, .lst (ls.map lkD)] ∧ IsSeq d ns ∧ ns.length ≤ 1000 ∧ ls.length ≤ 100000 ∧ ns.Nodup ∧ Pot ns ls Φ ∧ ∀ h b, Hts ns ls h b → (∀ x ∈ ns, h x ≤ Φ x) → HB ls h b → P (.tup [hD ns h, bD b])
def d_heightsR (_ : Addr) : TDS := (sSeq (sSetO 2 (dDc (iSeq (dV 0)) (gNm 8) tYesD (dV 8) (dC (.int 0)) [8]))
  (sSeq (sSetO 3 dEmp)
  (sSeq (sSet 4 (dC (.bl false)))
  (sSeq (sWhile (dNotT (dTru (dV 4))) (sSeq (sSet 4 (dC (.bl true)))
  d_pass))
  (sFrz 2 (sFrz 3 (sRet (dTup (aCons (dV 2) (aCons (dV 3) aNil))))))))))
theorem ln_heightsR {C : Addr} {ds : List D} {P : D → Prop} (h : sp_heightsR C ds P) : ds.length = 2 := by obtain ⟨_, _, _, _, rfl, _⟩ := h; rfl
theorem rd_passR {PP : DEnds} {ns : List Str} {ls : List LkH} {Φ h : Str → Nat} {b : List SP} {e0 e5 e6 e7 e8 : En} (hl : ns.length ≤ 1000) (PT : Pot ns ls Φ) (S : HSt ns ls Φ h b)
    (hk : ∀ (s : Bool) h' b' e5 e6 e7, (h', b') = pasF ls (h, b) → HSt ns ls Φ h' b' → (s = true → ∀ l ∈ ls, h' l.1 + l.2.2 ≤ h' l.2.1) → (s = false → msH ns Φ h' < msH ns Φ h) → PP.nx [e0, .fz (.lst (ls.map lkD)), .od (hL ns h'), .od (bL b'), .fz (.bl s), e5, e6, e7, e8]) :
    d_pass PP [e0, .fz (.lst (ls.map lkD)), .od (hL ns h), .od (bL b), .fz (.bl true), e5, e6, e7, e8] := by
  simp only [d_pass, dC, dV, dB, dO2, ob_some, dT, dAndT, dOrT, dNotT, dIf, dAndV, dOrV, dNotV, dChain, aNil, aCons, dTup, dLst, dCut, oNone, oSome, dRev, dNeg, dTru, dCa, dIs, dIsA, dCall, dCallK, sNil, sSeq, sNever, sBrk, sCont, sIf, sRet, sRetO, sRetE, sSet, sSetO, sDrop, sPar, sPar3, kn, enOf, owD, sAsg, gNm, gsNil, gsCons, gTp, sApp, sIns, sExt, sClr, sRev, sPut, sFrz, owAt, fin, st, iRng, iRngB, iSeq, lstD, tupD, sFor, dLc, dDc, wipeE, tYesD, dIndex, dSort, dDictZip, dMeth, dFld, dMk, List.map_cons, List.map_nil, List.length_cons, List.length_nil, List.replicate_succ, List.replicate_zero, List.cons_append, List.nil_append, List.append_nil, List.getElem?_cons_zero, List.getElem?_cons_succ, List.set_cons_zero, List.set_cons_succ, Option.bind_some, Option.map_some, Nat.reduceSub, Nat.reduceAdd, kwP, List.getD_cons_zero, List.getD_cons_succ]
  refine .inl (loop_all lkD ls (fun pre env => ∃ (s : Bool) (h' : Str → Nat) (b' : List SP) (e5 e6 e7 : En), env = [e0, .fz (.lst (ls.map lkD)), .od (hL ns h'), .od (bL b'), .fz (.bl s), e5, e6, e7, e8] ∧ (h', b') = pre.foldl rlxF (h, b) ∧ HSt ns ls Φ h' b' ∧ (∀ x ∈ ns, h x ≤ h' x) ∧ (s = true → h' = h ∧ ∀ l ∈ pre, h l.1 + l.2.2 ≤ h l.2.1) ∧ (s = false → msH ns Φ h' < msH ns Φ h)) ⟨true, h, b, _, _, _, rfl, rfl, S, fun x _ => Nat.le_refl _, fun _ => ⟨rfl, fun l hl => (by cases hl)⟩, fun z => (by cases z)⟩ (fun pre l post env e hI k hkk => ?_) (fun env hI => ?_))
  · obtain ⟨s, h', b', f5, f6, f7, rfl, fo, S', mo, st1, st0⟩ := hI
    obtain ⟨lo, hi, w⟩ := l
    have hin : (lo, hi, w) ∈ ls := by rw [e]; simp
    obtain ⟨m1, m2⟩ := PT.mem _ hin
    have m1 : lo ∈ ns := m1
    have m2 : hi ∈ ns := m2
    obtain ⟨t, c, I⟩ := S'.i
    simp only [lkD, dC, dV, dB, dO2, ob_some, dT, dAndT, dOrT, dNotT, dIf, dAndV, dOrV, dNotV, dChain, aNil, aCons, dTup, dLst, dCut, oNone, oSome, dRev, dNeg, dTru, dCa, dIs, dIsA, dCall, dCallK, sNil, sSeq, sNever, sBrk, sCont, sIf, sRet, sRetO, sRetE, sSet, sSetO, sDrop, sPar, sPar3, kn, enOf, owD, sAsg, gNm, gsNil, gsCons, gTp, sApp, sIns, sExt, sClr, sRev, sPut, sFrz, owAt, fin, st, iRng, iRngB, iSeq, lstD, tupD, sFor, dLc, dDc, wipeE, tYesD, dIndex, dSort, dDictZip, dMeth, dFld, dMk, List.map_cons, List.map_nil, List.length_cons, List.length_nil, List.replicate_succ, List.replicate_zero, List.cons_append, List.nil_append, List.append_nil, List.getElem?_cons_zero, List.getElem?_cons_succ, List.set_cons_zero, List.set_cons_succ, Option.bind_some, Option.map_some, Nat.reduceSub, Nat.reduceAdd, kwP, List.getD_cons_zero, List.getD_cons_succ, bIx_hL m1, bIx_hL m2, bAdd_i, gt_nat]
    by_cases g : h' hi < h' lo + w
    · have cs : (((h' lo : Nat) : Int) + ((w : Nat) : Int)) = ((h' lo + w : Nat) : Int) := by omega
      have p1 : odPut (.od (hL ns h')) (.str hi) (.int (((h' lo : Nat) : Int) + ((w : Nat) : Int))) = some (.od (hL ns (upS h' hi (h' lo + w)))) := by
        show (if (hL ns h').length < sizeLine then some (En.od (putD (hL ns h') (Sum.inr hi : Key) _)) else none) = _
        rw [if_pos (by unfold hL; rw [List.length_map]; exact szM (by omega)), cs, put_hL m2]
      have lb : b'.length ≤ ns.length := by
        have := sub_lenS S'.nd S'.sub
        rwa [List.length_map] at this
      have p2 : odPut (.od (bL b')) (.str hi) (.str lo) = some (.od (bL (putS b' hi lo))) := by
        show (if (bL b').length < sizeLine then some (En.od (putD (bL b') (Sum.inr hi : Key) (.str lo))) else none) = _
        rw [if_pos (by unfold bL; rw [List.length_map]; exact szM (by omega)), put_bL]
      simp only [decide_eq_true g, if_true, sDput, odAt, dC, dV, dB, dO2, ob_some, dT, dAndT, dOrT, dNotT, dIf, dAndV, dOrV, dNotV, dChain, aNil, aCons, dTup, dLst, dCut, oNone, oSome, dRev, dNeg, dTru, dCa, dIs, dIsA, dCall, dCallK, sNil, sSeq, sNever, sBrk, sCont, sIf, sRet, sRetO, sRetE, sSet, sSetO, sDrop, sPar, sPar3, kn, enOf, owD, sAsg, gNm, gsNil, gsCons, gTp, sApp, sIns, sExt, sClr, sRev, sPut, sFrz, owAt, fin, st, iRng, iRngB, iSeq, lstD, tupD, sFor, dLc, dDc, wipeE, tYesD, dIndex, dSort, dDictZip, dMeth, dFld, dMk, List.map_cons, List.map_nil, List.length_cons, List.length_nil, List.replicate_succ, List.replicate_zero, List.cons_append, List.nil_append, List.append_nil, List.getElem?_cons_zero, List.getElem?_cons_succ, List.set_cons_zero, List.set_cons_succ, Option.bind_some, Option.map_some, Nat.reduceSub, Nat.reduceAdd, kwP, List.getD_cons_zero, List.getD_cons_succ, p1, p2, bIx_hL m1, bAdd_i]
      have K := key_put (x := hi) (y := lo) S'.nd
      have I2 := I.step PT hin g
      refine ⟨trivial, trivial, hkk _ ⟨false, upS h' hi (h' lo + w), putS b' hi lo, _, _, _, rfl, by rw [List.foldl_append, ← fo]; exact (if_pos g).symm, ⟨⟨_, _, I2⟩, K.1, fun z hz => (K.2 z hz).elim (S'.sub z) fun e => e ▸ m2⟩, fun x hx => ?_, fun z => (by cases z), fun _ => ?_⟩⟩
      · by_cases ex : x = hi
        · subst ex; rw [upS_same]; have := mo x hx; omega
        · rw [upS_ne ex]; exact mo x hx
      · refine ms_lt (fun x hx => ?_) ⟨hi, m2, ?_, I2.le hi m2⟩
        · by_cases ex : x = hi
          · subst ex; rw [upS_same]; have := mo x hx; omega
          · rw [upS_ne ex]; exact mo x hx
        · rw [upS_same]; have := mo hi m2; omega
    · simp only [decide_eq_false g, Bool.false_eq_true, if_false]
      refine ⟨trivial, trivial, hkk _ ⟨s, h', b', _, _, _, rfl, by rw [List.foldl_append, ← fo]; exact (if_neg g).symm, S', mo, fun z => ⟨(st1 z).1, fun l hl => ?_⟩, st0⟩⟩
      rcases List.mem_append.mp hl with hl | hl
      · exact (st1 z).2 l hl
      · rw [List.mem_singleton.mp hl]
        rw [(st1 z).1] at g
        show h lo + w ≤ h hi
        omega
  · obtain ⟨s, h', b', f5, f6, f7, rfl, fo, S', mo, st1, st0⟩ := hI
    exact hk s h' b' f5 f6 f7 fo S' (fun z => by rw [(st1 z).1]; exact (st1 z).2) st0
theorem rd_heightsR {C : Addr} {ds : List D} {P : D → Prop} (h : sp_heightsR C ds P) : d_heightsR C (fin false P) (st 9 ds) := by
  obtain ⟨d, ns, ls, Φ, rfl, hd, hl, hls, nd, PT, q⟩ := h
  have hP := fun (PP : DEnds) (h : Str → Nat) (b : List SP) (e0 e5 e6 e7 e8 : En) a1 a2 a3 hk => rd_passR (PP := PP) (ns := ns) (ls := ls) (Φ := Φ) (h := h) (b := b) (e0 := e0) (e5 := e5) (e6 := e6) (e7 := e7) (e8 := e8) a1 a2 a3 hk
  simp only [d_heightsR, d_heights]
  generalize d_pass = PS at hP ⊢
  have S0 : HSt ns ls Φ (fun _ => 0) [] := ⟨⟨fun _ => 0, 0, fun x _ => Nat.zero_le _, fun x y e => (by cases e), fun x _ _ => rfl, fun x => Nat.zero_le _⟩, List.nodup_nil, fun z h => (by cases h)⟩
  have loop : ∀ e0 : En, (∃ I : Nat → De → Prop, (∃ m, I m [e0, .fz (.lst (ls.map lkD)), .od (hL ns fun _ => 0), .od [], .fz (.bl false), .no, .no, .no, .no]) ∧ ∀ m env, I m env → (dNotT (dTru (dV 4))) env fun b => if b = true then (sSeq (sSet 4 (dC (.bl true))) PS) { nx := fun e => ∃ m', m' < m ∧ I m' e, rt := P, bk := sFrz 2 (sFrz 3 (sRet (dTup (aCons (dV 2) (aCons (dV 3) aNil))))) (fin false P), ct := fun e => ∃ m', m' < m ∧ I m' e } env else sFrz 2 (sFrz 3 (sRet (dTup (aCons (dV 2) (aCons (dV 3) aNil))))) (fin false P) env) := fun e0 => by
    refine ⟨fun m env => ∃ (s : Bool) (h : Str → Nat) (b : List SP) (e5 e6 e7 : En), env = [e0, .fz (.lst (ls.map lkD)), .od (hL ns h), .od (bL b), .fz (.bl s), e5, e6, e7, .no] ∧ (∃ k, (h, b) = itF ls k) ∧ HSt ns ls Φ h b ∧ (s = true → ∀ l ∈ ls, h l.1 + l.2.2 ≤ h l.2.1) ∧ m = (if s = true then 0 else msH ns Φ h + 1), ⟨_, false, _, [], _, _, _, rfl, ⟨0, rfl⟩, S0, fun z => (by cases z), rfl⟩, ?_⟩
    rintro m env ⟨s, h, b, e5, e6, e7, rfl, ⟨k, hk0⟩, S, so, rfl⟩
    cases s with
    | false =>
      have tb : truD (.bl false) = some false := rfl
      simp only [dC, dV, dB, dO2, ob_some, dT, dAndT, dOrT, dNotT, dIf, dAndV, dOrV, dNotV, dChain, aNil, aCons, dTup, dLst, dCut, oNone, oSome, dRev, dNeg, dTru, dCa, dIs, dIsA, dCall, dCallK, sNil, sSeq, sNever, sBrk, sCont, sIf, sRet, sRetO, sRetE, sSet, sSetO, sDrop, sPar, sPar3, kn, enOf, owD, sAsg, gNm, gsNil, gsCons, gTp, sApp, sIns, sExt, sClr, sRev, sPut, sFrz, owAt, fin, st, iRng, iRngB, iSeq, lstD, tupD, sFor, dLc, dDc, wipeE, tYesD, dIndex, dSort, dDictZip, dMeth, dFld, dMk, List.map_cons, List.map_nil, List.length_cons, List.length_nil, List.replicate_succ, List.replicate_zero, List.cons_append, List.nil_append, List.append_nil, List.getElem?_cons_zero, List.getElem?_cons_succ, List.set_cons_zero, List.set_cons_succ, Option.bind_some, Option.map_some, Nat.reduceSub, Nat.reduceAdd, kwP, List.getD_cons_zero, List.getD_cons_succ, tb, Bool.not_false, Bool.false_eq_true, if_true, if_false]
      refine hP _ h b _ _ _ _ _ hl PT S fun s h' b' f5 f6 f7 fo S' o1 o0 => ?_
      refine ⟨_, ?_, s, h', b', _, _, _, rfl, ⟨k + 1, by rw [fo, hk0]; rfl⟩, S', o1, rfl⟩
      cases s with
      | true => rw [if_pos rfl]; omega
      | false => rw [if_neg Bool.false_ne_true]; have := o0 rfl; omega
    | true =>
      have tb : truD (.bl true) = some true := rfl
      simp only [dC, dV, dB, dO2, ob_some, dT, dAndT, dOrT, dNotT, dIf, dAndV, dOrV, dNotV, dChain, aNil, aCons, dTup, dLst, dCut, oNone, oSome, dRev, dNeg, dTru, dCa, dIs, dIsA, dCall, dCallK, sNil, sSeq, sNever, sBrk, sCont, sIf, sRet, sRetO, sRetE, sSet, sSetO, sDrop, sPar, sPar3, kn, enOf, owD, sAsg, gNm, gsNil, gsCons, gTp, sApp, sIns, sExt, sClr, sRev, sPut, sFrz, owAt, fin, st, iRng, iRngB, iSeq, lstD, tupD, sFor, dLc, dDc, wipeE, tYesD, dIndex, dSort, dDictZip, dMeth, dFld, dMk, List.map_cons, List.map_nil, List.length_cons, List.length_nil, List.replicate_succ, List.replicate_zero, List.cons_append, List.nil_append, List.append_nil, List.getElem?_cons_zero, List.getElem?_cons_succ, List.set_cons_zero, List.set_cons_succ, Option.bind_some, Option.map_some, Nat.reduceSub, Nat.reduceAdd, kwP, List.getD_cons_zero, List.getD_cons_succ, tb, Bool.not_true, Bool.false_eq_true, if_false, frz]
      obtain ⟨t, c, I⟩ := S.i
      exact ⟨by decide, q h b (I.hts (so rfl)) I.le ⟨⟨k, hk0⟩, so rfl⟩⟩
  have start : ∀ (e0 : En) (Pk : D → Prop), Pk (.dic (hL ns fun _ => 0)) → dDcomp (gNm 8) tYesD (dV 8) (dC (.int 0)) Pk [e0, .fz (.lst (ls.map lkD)), .no, .no, .no, .no, .no, .no, .no] (ns.map D.str) [] := fun e0 Pk hk => by
    refine dcomp_new D.str (fun x => ((Sum.inr x : Key), D.int ((0 : Nat) : Int))) ns [] (fun x hx Q Z hQ => ?_) (by simp; omega) ?_ ?_
    · simp only [dC, dV, dB, dO2, ob_some, dT, dAndT, dOrT, dNotT, dIf, dAndV, dOrV, dNotV, dChain, aNil, aCons, dTup, dLst, dCut, oNone, oSome, dRev, dNeg, dTru, dCa, dIs, dIsA, dCall, dCallK, sNil, sSeq, sNever, sBrk, sCont, sIf, sRet, sRetO, sRetE, sSet, sSetO, sDrop, sPar, sPar3, kn, enOf, owD, sAsg, gNm, gsNil, gsCons, gTp, sApp, sIns, sExt, sClr, sRev, sPut, sFrz, owAt, fin, st, iRng, iRngB, iSeq, lstD, tupD, sFor, dLc, dDc, wipeE, tYesD, dIndex, dSort, dDictZip, dMeth, dFld, dMk, List.map_cons, List.map_nil, List.length_cons, List.length_nil, List.replicate_succ, List.replicate_zero, List.cons_append, List.nil_append, List.append_nil, List.getElem?_cons_zero, List.getElem?_cons_succ, List.set_cons_zero, List.set_cons_succ, Option.bind_some, Option.map_some, Nat.reduceSub, Nat.reduceAdd, kwP, List.getD_cons_zero, List.getD_cons_succ, keyD, if_true]
      exact hQ
    · rw [List.nil_append, List.map_map]
      exact nodup_inj (fun a b h => Sum.inr.inj h) nd
    · rw [List.nil_append]
      exact hk
  rcases hd with rfl | rfl
  · have L := loop (.fz (.lst (ns.map D.str)))
    simp only [dC, dV, dB, dO2, ob_some, dT, dAndT, dOrT, dNotT, dIf, dAndV, dOrV, dNotV, dChain, aNil, aCons, dTup, dLst, dCut, oNone, oSome, dRev, dNeg, dTru, dCa, dIs, dIsA, dCall, dCallK, sNil, sSeq, sNever, sBrk, sCont, sIf, sRet, sRetO, sRetE, sSet, sSetO, sDrop, sPar, sPar3, kn, enOf, owD, sAsg, gNm, gsNil, gsCons, gTp, sApp, sIns, sExt, sClr, sRev, sPut, sFrz, owAt, fin, st, iRng, iRngB, iSeq, lstD, tupD, sFor, dLc, dDc, wipeE, tYesD, dIndex, dSort, dDictZip, dMeth, dFld, dMk, List.map_cons, List.map_nil, List.length_cons, List.length_nil, List.replicate_succ, List.replicate_zero, List.cons_append, List.nil_append, List.append_nil, List.getElem?_cons_zero, List.getElem?_cons_succ, List.set_cons_zero, List.set_cons_succ, Option.bind_some, Option.map_some, Nat.reduceSub, Nat.reduceAdd, kwP, List.getD_cons_zero, List.getD_cons_succ, dEmp, sWhile] at L ⊢
    exact .inl (start _ _ L)
  · have L := loop (.fz (.tup (ns.map D.str)))
    simp only [dC, dV, dB, dO2, ob_some, dT, dAndT, dOrT, dNotT, dIf, dAndV, dOrV, dNotV, dChain, aNil, aCons, dTup, dLst, dCut, oNone, oSome, dRev, dNeg, dTru, dCa, dIs, dIsA, dCall, dCallK, sNil, sSeq, sNever, sBrk, sCont, sIf, sRet, sRetO, sRetE, sSet, sSetO, sDrop, sPar, sPar3, kn, enOf, owD, sAsg, gNm, gsNil, gsCons, gTp, sApp, sIns, sExt, sClr, sRev, sPut, sFrz, owAt, fin, st, iRng, iRngB, iSeq, lstD, tupD, sFor, dLc, dDc, wipeE, tYesD, dIndex, dSort, dDictZip, dMeth, dFld, dMk, List.map_cons, List.map_nil, List.length_cons, List.length_nil, List.replicate_succ, List.replicate_zero, List.cons_append, List.nil_append, List.append_nil, List.getElem?_cons_zero, List.getElem?_cons_succ, List.set_cons_zero, List.set_cons_succ, Option.bind_some, Option.map_some, Nat.reduceSub, Nat.reduceAdd, kwP, List.getD_cons_zero, List.getD_cons_succ, dEmp, sWhile] at L ⊢
    exact .inr (.inl (start _ _ L))
def sp_highest_wayR (_ : Addr) : DSp := fun ds P => ∃ ns h b, ds = [hD ns h, bD b] ∧ ns ≠ [] ∧ ns.length ≤ 1000 ∧ (∀ x y, bfr b x = some y → y ∈ ns) ∧ (∃ t : Str → Nat, ∀ x y, bfr b x = some y → t y < t x) ∧
  ∀ m, MaxH ns h m → (m = 0 → P (.lst [])) ∧ (m ≠ 0 → ∀ z c y, (ns.filter fun x => decide (h x = m)).head? = some z → z ∈ ns → h z = m → Pw b z c y → c.Nodup → (∀ u ∈ c, u ∈ ns) → bfr b y = none → P (.lst (c.reverse.map D.str)))
def d_highest_wayR (_ : Addr) : TDS := (sSeq (sSet 2 (dCall sp_greatest (aCons (dV 0) aNil)))
  (sSeq (sIf (dT (dO2 (bEqN false) (dV 2) (dC (.int 0)))) (sRet (dLst aNil)) sNil)
  (sSeq (sSetO 3 (dCut cutL (dLcK 0 (gNm 4) (dT (dO2 (bEqN false) (dO2 bIx (dV 0) (dV 4)) (dV 2))) (dV 4) [4]) oNone (oSome (dC (.int 1)))))
  (sSeq (sWhile (dT (dO2 (bIn false) (dO2 bIx (dB 3) (dNeg (dC (.int 1)))) (dV 1))) (sApp 3 (dO2 bIx (dV 1) (dO2 bIx (dB 3) (dNeg (dC (.int 1)))))))
  (sRet (dRev (dB 3)))))))
theorem ln_highest_wayR {C : Addr} {ds : List D} {P : D → Prop} (h : sp_highest_wayR C ds P) : ds.length = 2 := by obtain ⟨_, _, _, rfl, _⟩ := h; rfl
theorem rd_highest_wayR {C : Addr} {ds : List D} {P : D → Prop} (h : sp_highest_wayR C ds P) : d_highest_wayR C (fin false P) (st 5 ds) := by
  obtain ⟨ns, h, b, rfl, ne, hl, bm, ⟨t, ht⟩, q⟩ := h
  simp only [d_highest_wayR, d_highest_way, dC, dV, dB, dO2, ob_some, dT, dAndT, dOrT, dNotT, dIf, dAndV, dOrV, dNotV, dChain, aNil, aCons, dTup, dLst, dCut, oNone, oSome, dRev, dNeg, dTru, dCa, dIs, dIsA, dCall, dCallK, sNil, sSeq, sNever, sBrk, sCont, sIf, sRet, sRetO, sRetE, sSet, sSetO, sDrop, sPar, sPar3, kn, enOf, owD, sAsg, gNm, gsNil, gsCons, gTp, sApp, sIns, sExt, sClr, sRev, sPut, sFrz, owAt, fin, st, iRng, iRngB, iSeq, lstD, tupD, sFor, dLc, dDc, wipeE, tYesD, dIndex, dSort, dDictZip, dMeth, dFld, dMk, List.map_cons, List.map_nil, List.length_cons, List.length_nil, List.replicate_succ, List.replicate_zero, List.cons_append, List.nil_append, List.append_nil, List.getElem?_cons_zero, List.getElem?_cons_succ, List.set_cons_zero, List.set_cons_succ, Option.bind_some, Option.map_some, Nat.reduceSub, Nat.reduceAdd, kwP, List.getD_cons_zero, List.getD_cons_succ]
  refine ⟨ns, h, rfl, ne, hl, fun m M => ?_⟩
  obtain ⟨q0, q1⟩ := q m M
  simp only [bEq_i, ob_some]
  by_cases hm : m = 0
  · subst hm
    have z0 : (((0 : Nat) : Int) = 0) := rfl
    simp only [decide_eq_true z0, if_true, dC, dV, dB, dO2, ob_some, dT, dAndT, dOrT, dNotT, dIf, dAndV, dOrV, dNotV, dChain, aNil, aCons, dTup, dLst, dCut, oNone, oSome, dRev, dNeg, dTru, dCa, dIs, dIsA, dCall, dCallK, sNil, sSeq, sNever, sBrk, sCont, sIf, sRet, sRetO, sRetE, sSet, sSetO, sDrop, sPar, sPar3, kn, enOf, owD, sAsg, gNm, gsNil, gsCons, gTp, sApp, sIns, sExt, sClr, sRev, sPut, sFrz, owAt, fin, st, iRng, iRngB, iSeq, lstD, tupD, sFor, dLc, dDc, wipeE, tYesD, dIndex, dSort, dDictZip, dMeth, dFld, dMk, List.map_cons, List.map_nil, List.length_cons, List.length_nil, List.replicate_succ, List.replicate_zero, List.cons_append, List.nil_append, List.append_nil, List.getElem?_cons_zero, List.getElem?_cons_succ, List.set_cons_zero, List.set_cons_succ, Option.bind_some, Option.map_some, Nat.reduceSub, Nat.reduceAdd, kwP, List.getD_cons_zero, List.getD_cons_succ]
    exact ⟨Nat.zero_le _, q0 rfl⟩
  · have hm' : ¬ ((m : Nat) : Int) = 0 := by omega
    simp only [decide_eq_false hm', Bool.false_eq_true, if_false, dC, dV, dB, dO2, ob_some, dT, dAndT, dOrT, dNotT, dIf, dAndV, dOrV, dNotV, dChain, aNil, aCons, dTup, dLst, dCut, oNone, oSome, dRev, dNeg, dTru, dCa, dIs, dIsA, dCall, dCallK, sNil, sSeq, sNever, sBrk, sCont, sIf, sRet, sRetO, sRetE, sSet, sSetO, sDrop, sPar, sPar3, kn, enOf, owD, sAsg, gNm, gsNil, gsCons, gTp, sApp, sIns, sExt, sClr, sRev, sPut, sFrz, owAt, fin, st, iRng, iRngB, iSeq, lstD, tupD, sFor, dLc, dDc, wipeE, tYesD, dIndex, dSort, dDictZip, dMeth, dFld, dMk, List.map_cons, List.map_nil, List.length_cons, List.length_nil, List.replicate_succ, List.replicate_zero, List.cons_append, List.nil_append, List.append_nil, List.getElem?_cons_zero, List.getElem?_cons_succ, List.set_cons_zero, List.set_cons_succ, Option.bind_some, Option.map_some, Nat.reduceSub, Nat.reduceAdd, kwP, List.getD_cons_zero, List.getD_cons_succ, dLcK, hidK, En.hk, hD, bD]
    refine ⟨_, rfl, ?_⟩
    rw [keys_hL]
    refine comp_filter D.str D.str (fun x => decide (h x = m)) ns [] (fun x hx Q2 Z2 h1 h2 => ?_) (by simp; omega) ?_
    · have e : decide (((h x : Nat) : Int) = ((m : Nat) : Int)) = decide (h x = m) := decide_eq_decide.mpr (by omega)
      simp only [dC, dV, dB, dO2, ob_some, dT, dAndT, dOrT, dNotT, dIf, dAndV, dOrV, dNotV, dChain, aNil, aCons, dTup, dLst, dCut, oNone, oSome, dRev, dNeg, dTru, dCa, dIs, dIsA, dCall, dCallK, sNil, sSeq, sNever, sBrk, sCont, sIf, sRet, sRetO, sRetE, sSet, sSetO, sDrop, sPar, sPar3, kn, enOf, owD, sAsg, gNm, gsNil, gsCons, gTp, sApp, sIns, sExt, sClr, sRev, sPut, sFrz, owAt, fin, st, iRng, iRngB, iSeq, lstD, tupD, sFor, dLc, dDc, wipeE, tYesD, dIndex, dSort, dDictZip, dMeth, dFld, dMk, List.map_cons, List.map_nil, List.length_cons, List.length_nil, List.replicate_succ, List.replicate_zero, List.cons_append, List.nil_append, List.append_nil, List.getElem?_cons_zero, List.getElem?_cons_succ, List.set_cons_zero, List.set_cons_succ, Option.bind_some, Option.map_some, Nat.reduceSub, Nat.reduceAdd, kwP, List.getD_cons_zero, List.getD_cons_succ, bIx_hL hx, bEq_i, e]
      cases hbb : decide (h x = m) with
      | true => rw [hbb] at h1; exact h1 rfl
      | false => rw [hbb] at h2; exact h2 rfl
    · rw [List.nil_append]
      obtain ⟨z, r, ez⟩ : ∃ z r, ns.filter (fun x => decide (h x = m)) = z :: r := by
        obtain ⟨x, hx, hxm⟩ := M.ex
        cases e : ns.filter (fun x => decide (h x = m)) with
        | nil =>
          have : x ∈ ns.filter (fun x => decide (h x = m)) := List.mem_filter.mpr ⟨hx, decide_eq_true hxm⟩
          rw [e] at this
          cases this
        | cons z r => exact ⟨z, r, rfl⟩
      have hez : (ns.filter fun x => decide (h x = m)).head? = some z := by rw [ez]; rfl
      have zm : z ∈ ns ∧ h z = m := by
        have : z ∈ ns.filter (fun x => decide (h x = m)) := by rw [ez]; exact List.mem_cons_self
        exact ⟨(List.mem_filter.mp this).1, of_decide_eq_true (List.mem_filter.mp this).2⟩
      rw [ez]
      have cu : cutL (.lst ((z :: r).map D.str)) none (some 1) = some (.lst [.str z]) := by
        show some (D.lst (cutD _ _ _)) = _
        have : cutD ((z :: r).map D.str) none (some (((1 : Nat) : Int))) = [.str z] := by
          unfold cutD
          rw [HT.sIx_nat, HT.sIx_none, List.map_cons, List.length_cons]
          simp
        exact congrArg (fun w => some (D.lst w)) this
      simp only [cu, ob_some, dC, dV, dB, dO2, ob_some, dT, dAndT, dOrT, dNotT, dIf, dAndV, dOrV, dNotV, dChain, aNil, aCons, dTup, dLst, dCut, oNone, oSome, dRev, dNeg, dTru, dCa, dIs, dIsA, dCall, dCallK, sNil, sSeq, sNever, sBrk, sCont, sIf, sRet, sRetO, sRetE, sSet, sSetO, sDrop, sPar, sPar3, kn, enOf, owD, sAsg, gNm, gsNil, gsCons, gTp, sApp, sIns, sExt, sClr, sRev, sPut, sFrz, owAt, fin, st, iRng, iRngB, iSeq, lstD, tupD, sFor, dLc, dDc, wipeE, tYesD, dIndex, dSort, dDictZip, dMeth, dFld, dMk, List.map_cons, List.map_nil, List.length_cons, List.length_nil, List.replicate_succ, List.replicate_zero, List.cons_append, List.nil_append, List.append_nil, List.getElem?_cons_zero, List.getElem?_cons_succ, List.set_cons_zero, List.set_cons_succ, Option.bind_some, Option.map_some, Nat.reduceSub, Nat.reduceAdd, kwP, List.getD_cons_zero, List.getD_cons_succ, sWhile]
      refine ⟨fun k env => ∃ (pre : List Str) (y : Str) (e4 : En), env = [.fz (.dic (hL ns h)), .fz (.dic (bL b)), .fz (.int ((m : Nat) : Int)), .ow ((pre ++ [y]).map D.str), e4] ∧ Pw b z (pre ++ [y]) y ∧ (pre ++ [y]).Nodup ∧ (∀ u ∈ pre ++ [y], u ∈ ns ∧ t y ≤ t u) ∧ k = t y, ⟨_, [], z, _, rfl, .one, by simp, fun u hu => by rw [List.mem_singleton.mp hu]; exact ⟨zm.1, Nat.le_refl _⟩, rfl⟩, ?_⟩
      rintro k env ⟨pre, y, e4, rfl, pw, nd, hu, rfl⟩
      have xl : bIx (.lst ((pre ++ [y]).map D.str)) (.int (-1)) = some (.str y) := by rw [List.map_append]; exact bIx_lst _ _
      simp only [dC, dV, dB, dO2, ob_some, dT, dAndT, dOrT, dNotT, dIf, dAndV, dOrV, dNotV, dChain, aNil, aCons, dTup, dLst, dCut, oNone, oSome, dRev, dNeg, dTru, dCa, dIs, dIsA, dCall, dCallK, sNil, sSeq, sNever, sBrk, sCont, sIf, sRet, sRetO, sRetE, sSet, sSetO, sDrop, sPar, sPar3, kn, enOf, owD, sAsg, gNm, gsNil, gsCons, gTp, sApp, sIns, sExt, sClr, sRev, sPut, sFrz, owAt, fin, st, iRng, iRngB, iSeq, lstD, tupD, sFor, dLc, dDc, wipeE, tYesD, dIndex, dSort, dDictZip, dMeth, dFld, dMk, List.map_cons, List.map_nil, List.length_cons, List.length_nil, List.replicate_succ, List.replicate_zero, List.cons_append, List.nil_append, List.append_nil, List.getElem?_cons_zero, List.getElem?_cons_succ, List.set_cons_zero, List.set_cons_succ, Option.bind_some, Option.map_some, Nat.reduceSub, Nat.reduceAdd, kwP, List.getD_cons_zero, List.getD_cons_succ, xl, bIn_bL]
      cases hb : bfr b y with
      | none =>
        simp only [Option.isSome_none, Bool.false_eq_true, if_false, List.map_reverse.symm]
        exact q1 hm z _ y hez zm.1 zm.2 pw nd (fun u h => (hu u h).1) hb
      | some x =>
        simp only [Option.isSome_some, if_true, bIx_bL hb, xl, ob_some]
        have tx := ht y x hb
        have nx : x ∉ pre ++ [y] := fun z => by have := (hu x z).2; omega
        have ll := sub_lenS nd fun u h => (hu u h).1
        refine ⟨by rw [List.length_map]; exact szM (by omega), t x, tx, pre ++ [y], x, e4, by rw [List.map_append (l₂ := [x])]; rfl, .snoc pw hb, ?_, fun u h => ?_, rfl⟩
        · exact List.nodup_append.mpr ⟨nd, by simp, fun a ha c hc e => nx (by rw [← (by simpa using hc : c = x), ← e]; exact ha)⟩
        · rcases List.mem_append.mp h with h | h
          · have := (hu u h); exact ⟨this.1, by omega⟩
          · rw [List.mem_singleton.mp h]; exact ⟨bm y x hb, Nat.le_refl _⟩
theorem pw_det {b : List SP} {z : Str} : ∀ {c1 y1}, Pw b z c1 y1 → ∀ {c2 y2}, Pw b z c2 y2 → c1.length = c2.length → c1 = c2 ∧ y1 = y2 := by
  intro c1 y1 h1
  induction h1 with
  | one =>
    intro c2 y2 h2 hl
    cases h2 with
    | one => exact ⟨rfl, rfl⟩
    | snoc h e =>
      obtain ⟨pre, rfl⟩ := h.last
      simp at hl
  | snoc h e ih =>
    intro c2 y2 h2 hl
    cases h2 with
    | one =>
      obtain ⟨pre, rfl⟩ := h.last
      simp at hl
    | snoc h' e' =>
      rw [List.length_append, List.length_append] at hl
      obtain ⟨rfl, rfl⟩ := ih h' (by simpa using hl)
      rw [e] at e'
      cases e'
      exact ⟨rfl, rfl⟩
theorem pw_pre {b : List SP} {z : Str} : ∀ {c y}, Pw b z c y → ∀ n, 1 ≤ n → n < c.length → ∃ c' y', Pw b z c' y' ∧ c'.length = n ∧ (bfr b y').isSome = true := by
  intro c y h
  induction h with
  | one => intro n h1 h2; simp at h2; omega
  | @snoc c y x h e ih =>
    intro n h1 h2
    rw [List.length_append] at h2
    have h2 : n < c.length + 1 := h2
    by_cases k : n = c.length
    · exact ⟨c, y, h, k.symm, by rw [e]; rfl⟩
    · exact ih n h1 (by omega)
theorem pw_one {b : List SP} {z y1 y2 : Str} {c1 c2 : List Str} (h1 : Pw b z c1 y1) (h2 : Pw b z c2 y2) (e1 : bfr b y1 = none) (e2 : bfr b y2 = none) : c1 = c2 := by
  have p1 : 1 ≤ c1.length := by obtain ⟨pre, rfl⟩ := h1.last; simp
  have p2 : 1 ≤ c2.length := by obtain ⟨pre, rfl⟩ := h2.last; simp
  rcases Nat.lt_trichotomy c1.length c2.length with k | k | k
  · obtain ⟨c', y', h', hl, s⟩ := pw_pre h2 _ p1 k
    obtain ⟨_, rfl⟩ := pw_det h1 h' hl.symm
    rw [e1] at s; cases s
  · exact (pw_det h1 h2 k).1
  · obtain ⟨c', y', h', hl, s⟩ := pw_pre h1 _ p2 k
    obtain ⟨_, rfl⟩ := pw_det h2 h' hl.symm
    rw [e2] at s; cases s
def ClnR (os : List Str) (h : Str → Nat) (b : List SP) (m : Nat) (c : List Str) : Prop := (m = 0 → c = []) ∧ (m ≠ 0 → ∃ z y c0, (os.filter fun x => decide (h x = m)).head? = some z ∧ z ∈ os ∧ h z = m ∧ Pw b z c0 y ∧ c0.Nodup ∧ (∀ u ∈ c0, u ∈ os) ∧ bfr b y = none ∧ c = c0.reverse)
theorem ClnR.one {os : List Str} {h : Str → Nat} {b : List SP} {m : Nat} {c c' : List Str} (x : ClnR os h b m c) (y : ClnR os h b m c') : c = c' := by
  by_cases hm : m = 0
  · rw [x.1 hm, y.1 hm]
  · obtain ⟨z, y1, c0, a1, _, _, a2, _, _, a3, rfl⟩ := x.2 hm
    obtain ⟨z', y2, c1, b1, _, _, b2, _, _, b3, rfl⟩ := y.2 hm
    rw [a1] at b1
    cases b1
    rw [pw_one a2 b2 a3 b3]
theorem ClnR.g {os : List Str} {h : Str → Nat} {b : List SP} {m : Nat} {c : List Str} (x : ClnR os h b m c) : ClnG os h b m c := ⟨x.1, fun hm => by
  obtain ⟨z, y1, c0, _, r⟩ := x.2 hm
  exact ⟨z, y1, c0, r⟩⟩
end DL
namespace DL
open PySem PySem.Spec PyProof.Rows L2 RK
def sp_settledB : DSp := fun ds P => ∃ d0 zs e ps, ds = [d0, e] ∧ IsSeq d0 zs ∧ IsPrs e ps ∧ zs.length < 64 ∧ ps.length ≤ 100000 ∧ (∀ z ∈ zs, NameOk z) ∧ (∀ p ∈ ps, NameOk p.1) ∧ ∀ ys, SortS zs ys → P (.lst ((settle (zs.length + 1) ys ps).map D.str))
def d_settledB : TDS := (sSeq (sSetO 2 (dSortB (dV 0)))
  (sSeq (sSet 3 (dCa listD (aCons (dV 1) aNil)))
  (sSeq (sSetO 4 (dLst aNil))
  (sWhile (dT (dC (.bl true))) (sSeq (sSet 5 (dDc (iSeq (dV 3)) (gTp 2 (gsCons (gNm 7) (gsCons (gNm 8) gsNil))) tYesD (dV 8) (dC (.bl true)) [7, 8]))
  (sSeq (sSet 6 (dLc (iSeq (dB 2)) (gNm 9) (dT (dO2 (bIn true) (dV 9) (dV 5))) (dV 9) [9]))
  (sSeq (sIf (dNotT (dTru (dV 6))) (sRetO 4) sNil)
  (sSeq (sApp 4 (dO2 bIx (dV 6) (dC (.int 0))))
  (sSeq (sRem 2 (dO2 bIx (dV 6) (dC (.int 0))))
  (sSet 3 (dLc (iSeq (dV 3)) (gTp 2 (gsCons (gNm 7) (gsCons (gNm 8) gsNil))) (dT (dO2 (bEqN true) (dV 7) (dO2 bIx (dV 6) (dC (.int 0))))) (dTup (aCons (dV 7) (aCons (dV 8) aNil))) [7, 8])))))))))))
theorem ln_settledB {ds : List D} {P : D → Prop} (h : sp_settledB ds P) : ds.length = 2 := by obtain ⟨_, _, _, _, rfl, _⟩ := h; rfl
theorem rd_settledB {ds : List D} {P : D → Prop} (h : sp_settledB ds P) : d_settledB (fin true P) (st 10 ds) := by
  obtain ⟨d0, zs, e, ps, rfl, h0, he, lz, lp, nm, np, q⟩ := h
  have el : listD [e] = some (.lst (ps.map pairD)) := by rcases he with rfl | rfl <;> rfl
  simp only [d_settledB, dC, dV, dB, dO2, ob_some, dT, dAndT, dOrT, dNotT, dIf, dAndV, dOrV, dNotV, dChain, aNil, aCons, dTup, dLst, dCut, oNone, oSome, dRev, dNeg, dTru, dCa, dIs, dIsA, dCall, dCallK, sNil, sSeq, sNever, sBrk, sCont, sIf, sRet, sRetO, sRetE, sSet, sSetO, sDrop, sPar, sPar3, kn, enOf, owD, sAsg, gNm, gsNil, gsCons, gTp, sApp, sIns, sExt, sClr, sRev, sPut, sFrz, owAt, fin, st, iRng, iRngB, iSeq, lstD, tupD, sFor, dLc, dDc, wipeE, tYesD, dIndex, dSort, dDictZip, dMeth, dFld, dMk, List.map_cons, List.map_nil, List.length_cons, List.length_nil, List.replicate_succ, List.replicate_zero, List.cons_append, List.nil_append, List.append_nil, List.getElem?_cons_zero, List.getElem?_cons_succ, List.set_cons_zero, List.set_cons_succ, Option.bind_some, Option.map_some, Nat.reduceSub, Nat.reduceAdd, kwP, List.getD_cons_zero, List.getD_cons_succ]
  have key : ∀ (Q : D → Prop), (∀ ys, SortS zs ys → Q (.lst (ys.map D.str))) → dSortB (dV 0) (st 10 [d0, e]) Q := fun Q h => by
    rcases h0 with rfl | rfl
    · exact .inl (.inl ⟨zs, strs_map zs, lz, h⟩)
    · exact .inr ⟨zs, strs_map zs, lz, h⟩
  refine key _ fun ys hs => ?_
  clear key
  simp only [el, ob_some, dC, dV, dB, dO2, ob_some, dT, dAndT, dOrT, dNotT, dIf, dAndV, dOrV, dNotV, dChain, aNil, aCons, dTup, dLst, dCut, oNone, oSome, dRev, dNeg, dTru, dCa, dIs, dIsA, dCall, dCallK, sNil, sSeq, sNever, sBrk, sCont, sIf, sRet, sRetO, sRetE, sSet, sSetO, sDrop, sPar, sPar3, kn, enOf, owD, sAsg, gNm, gsNil, gsCons, gTp, sApp, sIns, sExt, sClr, sRev, sPut, sFrz, owAt, fin, st, iRng, iRngB, iSeq, lstD, tupD, sFor, dLc, dDc, wipeE, tYesD, dIndex, dSort, dDictZip, dMeth, dFld, dMk, List.map_cons, List.map_nil, List.length_cons, List.length_nil, List.replicate_succ, List.replicate_zero, List.cons_append, List.nil_append, List.append_nil, List.getElem?_cons_zero, List.getElem?_cons_succ, List.set_cons_zero, List.set_cons_succ, Option.bind_some, Option.map_some, Nat.reduceSub, Nat.reduceAdd, kwP, List.getD_cons_zero, List.getD_cons_succ]
  refine ⟨by decide, ?_⟩
  refine ⟨fun m env => ∃ (n : Nat) (ws : List Str) (qs : List SP) (acc : List Str) (e5 e6 e7 e8 e9 : En), env = [.fz d0, .fz e, .ow (ws.map D.str), .fz (.lst (qs.map pairD)), .ow (acc.map D.str), e5, e6, e7, e8, e9] ∧ acc ++ settle n ws qs = settle (zs.length + 1) ys ps ∧ ws.length < n ∧ m = ws.length ∧ acc.length + ws.length ≤ 64 ∧ qs.length ≤ 100000 ∧ (∀ z ∈ ws, NameOk z) ∧ (∀ p ∈ qs, NameOk p.1), ⟨ys.length, zs.length + 1, ys, ps, [], _, _, _, _, _, rfl, rfl, by rw [hs.1.length_eq]; omega, rfl, by rw [hs.1.length_eq]; simp; omega, lp, fun z hz => nm z (hs.1.mem_iff.mp hz), np⟩, ?_⟩
  rintro m env ⟨n, ws, qs, acc, e5, e6, e7, e8, e9, rfl, hse, hwn, rfl, hal, hql, nw, nq⟩
  simp only [dC, dV, dB, dO2, ob_some, dT, dAndT, dOrT, dNotT, dIf, dAndV, dOrV, dNotV, dChain, aNil, aCons, dTup, dLst, dCut, oNone, oSome, dRev, dNeg, dTru, dCa, dIs, dIsA, dCall, dCallK, sNil, sSeq, sNever, sBrk, sCont, sIf, sRet, sRetO, sRetE, sSet, sSetO, sDrop, sPar, sPar3, kn, enOf, owD, sAsg, gNm, gsNil, gsCons, gTp, sApp, sIns, sExt, sClr, sRev, sPut, sFrz, owAt, fin, st, iRng, iRngB, iSeq, lstD, tupD, sFor, dLc, dDc, wipeE, tYesD, dIndex, dSort, dDictZip, dMeth, dFld, dMk, List.map_cons, List.map_nil, List.length_cons, List.length_nil, List.replicate_succ, List.replicate_zero, List.cons_append, List.nil_append, List.append_nil, List.getElem?_cons_zero, List.getElem?_cons_succ, List.set_cons_zero, List.set_cons_succ, Option.bind_some, Option.map_some, Nat.reduceSub, Nat.reduceAdd, kwP, List.getD_cons_zero, List.getD_cons_succ, if_true]
  obtain ⟨k, rfl⟩ : ∃ k, n = k + 1 := ⟨n - 1, by omega⟩
  refine .inl (dcomp_keys pairD (fun p : SP => (Sum.inr p.2 : Key)) (.bl true) qs [] (fun p hp Q Z hQ => ?_) (by simp; omega) (fun kds hk => ?_))
  · simp only [pairD, dC, dV, dB, dO2, ob_some, dT, dAndT, dOrT, dNotT, dIf, dAndV, dOrV, dNotV, dChain, aNil, aCons, dTup, dLst, dCut, oNone, oSome, dRev, dNeg, dTru, dCa, dIs, dIsA, dCall, dCallK, sNil, sSeq, sNever, sBrk, sCont, sIf, sRet, sRetO, sRetE, sSet, sSetO, sDrop, sPar, sPar3, kn, enOf, owD, sAsg, gNm, gsNil, gsCons, gTp, sApp, sIns, sExt, sClr, sRev, sPut, sFrz, owAt, fin, st, iRng, iRngB, iSeq, lstD, tupD, sFor, dLc, dDc, wipeE, tYesD, dIndex, dSort, dDictZip, dMeth, dFld, dMk, List.map_cons, List.map_nil, List.length_cons, List.length_nil, List.replicate_succ, List.replicate_zero, List.cons_append, List.nil_append, List.append_nil, List.getElem?_cons_zero, List.getElem?_cons_succ, List.set_cons_zero, List.set_cons_succ, Option.bind_some, Option.map_some, Nat.reduceSub, Nat.reduceAdd, kwP, List.getD_cons_zero, List.getD_cons_succ, keyD, if_true]
    exact ⟨trivial, trivial, hQ⟩
  · have kn : Knows kds (· ∈ qs.map (·.2)) := fun z => by
      rw [hk]
      constructor
      · rintro (h | h)
        · cases h
        · obtain ⟨y, hy, e⟩ := List.mem_map.mp h
          exact List.mem_map.mpr ⟨y, hy, Sum.inr.inj e⟩
      · intro h
        obtain ⟨y, hy, e⟩ := List.mem_map.mp h
        exact .inr (List.mem_map.mpr ⟨y, hy, by rw [← e]⟩)
    refine .inl (comp_filter D.str D.str (fun z => !(decide (z ∈ qs.map (·.2)))) ws [] (fun z hz Q Z h1 h2 => ?_) (by simp; omega) ?_)
    · simp only [dC, dV, dB, dO2, ob_some, dT, dAndT, dOrT, dNotT, dIf, dAndV, dOrV, dNotV, dChain, aNil, aCons, dTup, dLst, dCut, oNone, oSome, dRev, dNeg, dTru, dCa, dIs, dIsA, dCall, dCallK, sNil, sSeq, sNever, sBrk, sCont, sIf, sRet, sRetO, sRetE, sSet, sSetO, sDrop, sPar, sPar3, kn, enOf, owD, sAsg, gNm, gsNil, gsCons, gTp, sApp, sIns, sExt, sClr, sRev, sPut, sFrz, owAt, fin, st, iRng, iRngB, iSeq, lstD, tupD, sFor, dLc, dDc, wipeE, tYesD, dIndex, dSort, dDictZip, dMeth, dFld, dMk, List.map_cons, List.map_nil, List.length_cons, List.length_nil, List.replicate_succ, List.replicate_zero, List.cons_append, List.nil_append, List.append_nil, List.getElem?_cons_zero, List.getElem?_cons_succ, List.set_cons_zero, List.set_cons_succ, Option.bind_some, Option.map_some, Nat.reduceSub, Nat.reduceAdd, kwP, List.getD_cons_zero, List.getD_cons_succ, bIn_kn kn, Bool.true_xor]
      cases hc : decide (z ∈ qs.map (·.2)) with
      | true =>
        rw [hc] at h2
        simpa using h2 rfl
      | false =>
        rw [hc] at h1
        simpa using h1 rfl
    · rw [List.nil_append]
      have ef : ws.filter (fun z => !(decide (z ∈ qs.map (·.2)))) = frees ws qs := rfl
      rw [ef]
      cases hf : frees ws qs with
      | nil =>
        rw [settle, hf] at hse
        simp only [List.append_nil] at hse
        rw [hse]
        exact q ys hs
      | cons f r =>
        rw [settle, hf] at hse
        have hm : f ∈ ws := (List.mem_filter.mp (show f ∈ frees ws qs by rw [hf]; exact List.mem_cons_self)).1
        have t1 : truD (.lst ((f :: r).map D.str)) = some true := rfl
        have x0 : bIx (.lst ((f :: r).map D.str)) (.int 0) = some (.str f) := bIx_l (j := 0) rfl
        have x1 : bIx (.lst (D.str f :: r.map D.str)) (.int 0) = some (.str f) := bIx_l (j := 0) rfl
        have le : (ws.erase f).length = ws.length - 1 := List.length_erase_of_mem hm
        have lw : 0 < ws.length := List.length_pos_of_mem hm
        simp only [t1, x0, ob_some, Bool.not_true, Bool.false_eq_true, if_false]
        refine ⟨by rw [List.length_map]; exact szM (by omega), ?_⟩
        simp only [sRem, dC, dV, dB, dO2, ob_some, dT, dAndT, dOrT, dNotT, dIf, dAndV, dOrV, dNotV, dChain, aNil, aCons, dTup, dLst, dCut, oNone, oSome, dRev, dNeg, dTru, dCa, dIs, dIsA, dCall, dCallK, sNil, sSeq, sNever, sBrk, sCont, sIf, sRet, sRetO, sRetE, sSet, sSetO, sDrop, sPar, sPar3, kn, enOf, owD, sAsg, gNm, gsNil, gsCons, gTp, sApp, sIns, sExt, sClr, sRev, sPut, sFrz, owAt, fin, st, iRng, iRngB, iSeq, lstD, tupD, sFor, dLc, dDc, wipeE, tYesD, dIndex, dSort, dDictZip, dMeth, dFld, dMk, List.map_cons, List.map_nil, List.length_cons, List.length_nil, List.replicate_succ, List.replicate_zero, List.cons_append, List.nil_append, List.append_nil, List.getElem?_cons_zero, List.getElem?_cons_succ, List.set_cons_zero, List.set_cons_succ, Option.bind_some, Option.map_some, Nat.reduceSub, Nat.reduceAdd, kwP, List.getD_cons_zero, List.getD_cons_succ, x1]
        refine ⟨ws, strs_map ws, hm, .inl (comp_filter pairD pairD (fun p : SP => !(decide (p.1 = f))) qs [] (fun p hp Q Z h1 h2 => ?_) (by simp; omega) ?_)⟩
        · simp only [pairD, dC, dV, dB, dO2, ob_some, dT, dAndT, dOrT, dNotT, dIf, dAndV, dOrV, dNotV, dChain, aNil, aCons, dTup, dLst, dCut, oNone, oSome, dRev, dNeg, dTru, dCa, dIs, dIsA, dCall, dCallK, sNil, sSeq, sNever, sBrk, sCont, sIf, sRet, sRetO, sRetE, sSet, sSetO, sDrop, sPar, sPar3, kn, enOf, owD, sAsg, gNm, gsNil, gsCons, gTp, sApp, sIns, sExt, sClr, sRev, sPut, sFrz, owAt, fin, st, iRng, iRngB, iSeq, lstD, tupD, sFor, dLc, dDc, wipeE, tYesD, dIndex, dSort, dDictZip, dMeth, dFld, dMk, List.map_cons, List.map_nil, List.length_cons, List.length_nil, List.replicate_succ, List.replicate_zero, List.cons_append, List.nil_append, List.append_nil, List.getElem?_cons_zero, List.getElem?_cons_succ, List.set_cons_zero, List.set_cons_succ, Option.bind_some, Option.map_some, Nat.reduceSub, Nat.reduceAdd, kwP, List.getD_cons_zero, List.getD_cons_succ, x1]
          refine ⟨trivial, trivial, beq_ob (n := 0) (by decide) (name_ok (nq p hp)) (name_ok (nw f hm)) (fun h => ?_) (fun h => ?_)⟩
          · have : p.1 = f := D.str.inj h
            rw [decide_eq_true this] at h2
            exact h2 rfl
          · have : p.1 ≠ f := fun z => h (by rw [z])
            rw [decide_eq_false this] at h1
            exact ⟨by decide, h1 rfl⟩
        · rw [List.nil_append]
          refine ⟨ws.length - 1, by omega, k, ws.erase f, qs.filter (fun p => !(decide (p.1 = f))), acc ++ [f], _, _, _, _, _, by rw [List.map_append]; rfl, ?_, by omega, le.symm, by rw [List.length_append]; simp; omega, Nat.le_trans (List.length_filter_le _ _) hql, fun z hz => nw z (List.mem_of_mem_erase hz), fun p hp => nq p (List.mem_filter.mp hp).1⟩
          rw [List.append_assoc]
          exact hse
def lowsK (F : List Str) (ps : List SP) : List (Key × D) := ps.foldl (fun acc a => if (!(decide (a.1 ∈ F))) = true then putD acc (Sum.inr a.2) (D.str a.1) else acc) ([] : List (Key × D))
def lwF (F : List Str) (ps : List SP) (z : Str) : Option Str := match valD (lowsK F ps) (Sum.inr z) with
  | some (.str x) => if (x, z) ∈ ps then some x else none
  | _ => none
def goW (lw : Str → Option Str) : Nat → List Str → List Str
  | 0, _ => []
  | n + 1, w => match w.getLast?.bind lw with
    | none => []
    | some b => if b ∈ w then (w.drop (ixS w b)).reverse else goW lw n (w ++ [b])
def ringL (zs F : List Str) (ps : List SP) : List Str := match zs.filter (fun z => !(decide (z ∈ F))) with
  | [] => []
  | w :: _ => goW (lwF F ps) zs.length [w]
def sp_ringB : DSp := fun ds P => ∃ d0 zs e ps, ds = [d0, e] ∧ IsSeq d0 zs ∧ IsPrs e ps ∧ zs.length < 64 ∧ zs.Nodup ∧ ps.length ≤ 1000 ∧ (∀ z ∈ zs, NameOk z) ∧ (∀ p ∈ ps, p.1 ∈ zs ∧ p.2 ∈ zs ∧ p.1 ≠ p.2) ∧
  ∀ ys, SortS zs ys → ((settle (zs.length + 1) ys ps).length = zs.length → P .non) ∧ ((settle (zs.length + 1) ys ps).length < zs.length → IsRing ps (ringL zs (settle (zs.length + 1) ys ps) ps) → (∀ z ∈ ringL zs (settle (zs.length + 1) ys ps) ps, z ∈ zs) → P (.lst ((ringL zs (settle (zs.length + 1) ys ps) ps).map D.str)))
def d_ringB : TDS := (sSeq (sDrop (dCall sp_check_wish (aCons (dV 0) (aCons (dV 1) aNil))))
  (sSeq (sSet 2 (dCall sp_places (aCons (dCall sp_settledB (aCons (dV 0) (aCons (dV 1) aNil))) aNil)))
  (sSeq (sSet 3 (dDc (iSeq (dV 1)) (gTp 2 (gsCons (gNm 6) (gsCons (gNm 7) gsNil))) (dT (dO2 (bIn true) (dV 6) (dV 2))) (dV 7) (dV 6) [6, 7]))
  (sSeq (sSet 4 (dLc (iSeq (dV 0)) (gNm 8) (dT (dO2 (bIn true) (dV 8) (dV 2))) (dV 8) [8]))
  (sSeq (sIf (dNotT (dTru (dV 4))) (sRet (dC .non)) sNil)
  (sSeq (sSetO 5 (dLst (aCons (dO2 bIx (dV 4) (dC (.int 0))) aNil)))
  (sSeq (sWhile (dT (dO2 (bIn true) (dO2 bIx (dV 3) (dO2 bIx (dB 5) (dNeg (dC (.int 1))))) (dB 5))) (sApp 5 (dO2 bIx (dV 3) (dO2 bIx (dB 5) (dNeg (dC (.int 1)))))))
  (sRet (dRev (dCut cutA (dB 5) (oSome (dIndex (dB 5) (dO2 bIx (dV 3) (dO2 bIx (dB 5) (dNeg (dC (.int 1))))))) oNone))))))))))
theorem ln_ringB {ds : List D} {P : D → Prop} (h : sp_ringB ds P) : ds.length = 2 := by obtain ⟨_, _, _, _, rfl, _⟩ := h; rfl
theorem rd_ringB {ds : List D} {P : D → Prop} (h : sp_ringB ds P) : d_ringB (fin false P) (st 9 ds) := by
  obtain ⟨d0, zs, e, ps, rfl, h0, he, lz, nz, lp, nm, hp, q⟩ := h
  simp only [d_ringB, dC, dV, dB, dO2, ob_some, dT, dAndT, dOrT, dNotT, dIf, dAndV, dOrV, dNotV, dChain, aNil, aCons, dTup, dLst, dCut, oNone, oSome, dRev, dNeg, dTru, dCa, dIs, dIsA, dCall, dCallK, sNil, sSeq, sNever, sBrk, sCont, sIf, sRet, sRetO, sRetE, sSet, sSetO, sDrop, sPar, sPar3, kn, enOf, owD, sAsg, gNm, gsNil, gsCons, gTp, sApp, sIns, sExt, sClr, sRev, sPut, sFrz, owAt, fin, st, iRng, iRngB, iSeq, lstD, tupD, sFor, dLc, dDc, wipeE, tYesD, dIndex, dSort, dDictZip, dMeth, dFld, dMk, List.map_cons, List.map_nil, List.length_cons, List.length_nil, List.replicate_succ, List.replicate_zero, List.cons_append, List.nil_append, List.append_nil, List.getElem?_cons_zero, List.getElem?_cons_succ, List.set_cons_zero, List.set_cons_succ, Option.bind_some, Option.map_some, Nat.reduceSub, Nat.reduceAdd, kwP, List.getD_cons_zero, List.getD_cons_succ]
  refine ⟨_, zs, e, ps, rfl, h0, he, by omega, by omega, hp, nm, _, zs, e, ps, rfl, h0, he, lz, by omega, nm, fun p h => nm _ (hp p h).1, fun ys hs => ?_⟩
  obtain ⟨q1, q2⟩ := q ys hs
  have ly : ys.length = zs.length := hs.1.length_eq
  have ny : ys.Nodup := hs.1.nodup_iff.mpr nz
  have S : Stl ys ps (settle (zs.length + 1) ys ps) := by rw [← ly]; exact settle_stl ny ps
  generalize hF : settle (zs.length + 1) ys ps = F at S q1 q2 ⊢
  have my : ∀ z, z ∈ ys ↔ z ∈ zs := fun z => hs.1.mem_iff
  have lF : F.length ≤ zs.length := by rw [← ly]; exact sub_lenS S.nd S.sub
  refine ⟨_, F, rfl, .inl rfl, by omega, S.nd, ?_⟩
  refine seq_prs he ?_
  have kF := plc_knows F
  have iF : ∀ z : Str, bIn true (.str z) (plcD F) = some (.bl (true ^^ decide (z ∈ F))) := fun z => bIn_kn kF z
  refine dcomp_put pairD (fun p => !(decide (p.1 ∈ F))) (fun p => Sum.inr p.2) (fun p => .str p.1) ps [] (fun p hm Q Z h1 h0 => ?_) (by simp; omega) ?_
  · simp only [dC, dV, dB, dO2, ob_some, dT, dAndT, dOrT, dNotT, dIf, dAndV, dOrV, dNotV, dChain, aNil, aCons, dTup, dLst, dCut, oNone, oSome, dRev, dNeg, dTru, dCa, dIs, dIsA, dCall, dCallK, sNil, sSeq, sNever, sBrk, sCont, sIf, sRet, sRetO, sRetE, sSet, sSetO, sDrop, sPar, sPar3, kn, enOf, owD, sAsg, gNm, gsNil, gsCons, gTp, sApp, sIns, sExt, sClr, sRev, sPut, sFrz, owAt, fin, st, iRng, iRngB, iSeq, lstD, tupD, sFor, dLc, dDc, wipeE, tYesD, dIndex, dSort, dDictZip, dMeth, dFld, dMk, List.map_cons, List.map_nil, List.length_cons, List.length_nil, List.replicate_succ, List.replicate_zero, List.cons_append, List.nil_append, List.append_nil, List.getElem?_cons_zero, List.getElem?_cons_succ, List.set_cons_zero, List.set_cons_succ, Option.bind_some, Option.map_some, Nat.reduceSub, Nat.reduceAdd, kwP, List.getD_cons_zero, List.getD_cons_succ, pairD, iF, Bool.true_xor, keyD]
    refine ⟨trivial, trivial, ?_⟩
    by_cases g : p.1 ∈ F
    · rw [decide_eq_true g] at h0 ⊢
      simpa using h0 rfl
    · rw [decide_eq_false g] at h1 ⊢
      simpa using h1 rfl
  · obtain ⟨kds, hk⟩ : ∃ kds, kds = lowsK F ps := ⟨_, rfl⟩
    have hk' : ps.foldl (fun acc a => if (!(decide (a.1 ∈ F))) = true then putD acc (Sum.inr a.2) (D.str a.1) else acc) ([] : List (Key × D)) = kds := hk.symm
    rw [hk']
    have val : ∀ z ∈ zs, z ∉ F → ∃ x, valD kds (Sum.inr z) = some (.str x) ∧ (x, z) ∈ ps ∧ x ∉ F ∧ x ∈ zs := fun z hz hf => by
      obtain ⟨f1, f2⟩ := fold_val (fun p : SP => !(decide (p.1 ∈ F))) (fun p => Sum.inr p.2) (fun p => D.str p.1) (Sum.inr z) ps []
      obtain ⟨c, hc, e2, e1⟩ := S.lo z ((my z).mpr hz) hf
      have h3 := f2 (.inl ⟨c, hc, by simp [e1], by rw [e2]⟩)
      rw [hk'] at h3 f1
      obtain ⟨v, hv⟩ := Option.isSome_iff_exists.mp h3
      rcases f1 v hv with h | ⟨a, ha, pa, ka, va⟩
      · cases h
      · have e3 : a.2 = z := Sum.inr.inj ka
        refine ⟨a.1, by rw [hv, va], by rw [← e3]; exact ha, by simpa using pa, (hp a ha).1⟩
    have key : ∀ z ∈ zs, z ∉ F → ∀ x, valD kds (Sum.inr z) = some (.str x) → bIx (.dic kds) (.str z) = some (.str x) := fun z _ _ x hx => by
      show (none : Option D).or ((none : Option D).or ((some (valD kds (Sum.inr z : Key))).bind fun r => r)) = _
      rw [hx]
      rfl
    refine seq_strs h0 (comp_filter D.str D.str (fun z => !(decide (z ∈ F))) zs [] (fun z hz Q Z h1 h0 => ?_) (by simp; omega) ?_)
    · simp only [dC, dV, dB, dO2, ob_some, dT, dAndT, dOrT, dNotT, dIf, dAndV, dOrV, dNotV, dChain, aNil, aCons, dTup, dLst, dCut, oNone, oSome, dRev, dNeg, dTru, dCa, dIs, dIsA, dCall, dCallK, sNil, sSeq, sNever, sBrk, sCont, sIf, sRet, sRetO, sRetE, sSet, sSetO, sDrop, sPar, sPar3, kn, enOf, owD, sAsg, gNm, gsNil, gsCons, gTp, sApp, sIns, sExt, sClr, sRev, sPut, sFrz, owAt, fin, st, iRng, iRngB, iSeq, lstD, tupD, sFor, dLc, dDc, wipeE, tYesD, dIndex, dSort, dDictZip, dMeth, dFld, dMk, List.map_cons, List.map_nil, List.length_cons, List.length_nil, List.replicate_succ, List.replicate_zero, List.cons_append, List.nil_append, List.append_nil, List.getElem?_cons_zero, List.getElem?_cons_succ, List.set_cons_zero, List.set_cons_succ, Option.bind_some, Option.map_some, Nat.reduceSub, Nat.reduceAdd, kwP, List.getD_cons_zero, List.getD_cons_succ, iF, Bool.true_xor]
      by_cases g : z ∈ F
      · rw [decide_eq_true g] at h0 ⊢
        simpa using h0 rfl
      · rw [decide_eq_false g] at h1 ⊢
        simpa using h1 rfl
    · rw [List.nil_append]
      cases hh : zs.filter fun z => !(decide (z ∈ F)) with
      | nil =>
        have ha : ∀ z ∈ ys, z ∈ F := fun z hz => Classical.byContradiction fun g => by
          have : z ∈ zs.filter fun z => !(decide (z ∈ F)) := List.mem_filter.mpr ⟨(my z).mp hz, by simp [g]⟩
          rw [hh] at this
          cases this
        have t1 : truD (.lst (([] : List Str).map D.str)) = some false := rfl
        simp only [t1, ob_some, Bool.not_false, if_true]
        exact q1 (by rw [← ly]; exact S.full ny ha)
      | cons w0 wr =>
        have w0m : w0 ∈ zs ∧ w0 ∉ F := by
          have : w0 ∈ zs.filter fun z => !(decide (z ∈ F)) := by rw [hh]; exact List.mem_cons_self
          obtain ⟨a, b⟩ := List.mem_filter.mp this
          exact ⟨a, by simpa using b⟩
        have hlt : F.length < zs.length := by
          rcases Nat.lt_or_ge F.length zs.length with h | h
          · exact h
          · exact absurd ((S.all ny (by omega)).mem_iff.mpr ((my w0).mpr w0m.1)) w0m.2
        have t1 : truD (.lst ((w0 :: wr).map D.str)) = some true := rfl
        have x0 : bIx (.lst ((w0 :: wr).map D.str)) (.int 0) = some (.str w0) := bIx_l (j := 0) rfl
        simp only [t1, x0, ob_some, Bool.not_true, Bool.false_eq_true, if_false]
        refine ⟨by decide, ?_⟩
        obtain ⟨lw, lwE⟩ : ∃ lw, lw = lwF F ps := ⟨_, rfl⟩
        have hlw : ∀ a b, lw a = some b → (b, a) ∈ ps := fun a b h => by
          simp only [lwE, lwF, ← hk] at h
          split at h
          · split at h
            · cases h; assumption
            · cases h
          · cases h
        refine ⟨fun m env => ∃ (way : List Str) (a : Str) (e6 e7 e8 : En), env = [.fz d0, .fz e, .fz (plcD F), .fz (.dic kds), .fz (.lst ((w0 :: wr).map D.str)), .ow ((way ++ [a]).map D.str), e6, e7, e8] ∧ (way ++ [a]).Nodup ∧ (∀ z ∈ way ++ [a], z ∈ zs ∧ z ∉ F) ∧ Down lw (way ++ [a]) ∧ m = zs.length - (way ++ [a]).length ∧ goW lw (m + 1) (way ++ [a]) = ringL zs F ps, ⟨_, [], w0, _, _, _, rfl, by simp, fun z hz => by rw [List.mem_singleton.mp hz]; exact w0m, trivial, rfl, by rw [ringL, hh, lwE]; have := List.length_pos_of_mem w0m.1; show goW _ (zs.length - 1 + 1) [w0] = goW _ zs.length [w0]; rw [Nat.sub_add_cancel this]⟩, ?_⟩
        rintro m env ⟨way, a, e6, e7, e8, rfl, nw, hw, dw, rfl, hgo⟩
        obtain ⟨am, af⟩ := hw a (List.mem_append_right _ List.mem_cons_self)
        obtain ⟨x, vx, px, xf, xm⟩ := val a am af
        have la : lw a = some x := by simp only [lwE, lwF, ← hk, vx, if_pos px]
        have gl : (way ++ [a]).getLast? = some a := by simp
        rw [goW, gl] at hgo
        simp only [Option.bind_some, la] at hgo
        have el : (way ++ [a]).map D.str = way.map D.str ++ [.str a] := by rw [List.map_append]; rfl
        have xl : bIx (.lst ((way ++ [a]).map D.str)) (.int (-1)) = some (.str a) := by rw [el]; exact bIx_lst _ _
        have lw1 : (way ++ [a]).length ≤ zs.length := sub_lenS nw fun z hz => (hw z hz).1
        have ib : bIn true (.str x) (.lst ((way ++ [a]).map D.str)) = some (.bl (true ^^ decide (x ∈ way ++ [a]))) := bIn_strs (.inl rfl) x
        simp only [dC, dV, dB, dO2, ob_some, dT, dAndT, dOrT, dNotT, dIf, dAndV, dOrV, dNotV, dChain, aNil, aCons, dTup, dLst, dCut, oNone, oSome, dRev, dNeg, dTru, dCa, dIs, dIsA, dCall, dCallK, sNil, sSeq, sNever, sBrk, sCont, sIf, sRet, sRetO, sRetE, sSet, sSetO, sDrop, sPar, sPar3, kn, enOf, owD, sAsg, gNm, gsNil, gsCons, gTp, sApp, sIns, sExt, sClr, sRev, sPut, sFrz, owAt, fin, st, iRng, iRngB, iSeq, lstD, tupD, sFor, dLc, dDc, wipeE, tYesD, dIndex, dSort, dDictZip, dMeth, dFld, dMk, List.map_cons, List.map_nil, List.length_cons, List.length_nil, List.replicate_succ, List.replicate_zero, List.cons_append, List.nil_append, List.append_nil, List.getElem?_cons_zero, List.getElem?_cons_succ, List.set_cons_zero, List.set_cons_succ, Option.bind_some, Option.map_some, Nat.reduceSub, Nat.reduceAdd, kwP, List.getD_cons_zero, List.getD_cons_succ, xl, key a am af x vx, ib, Bool.true_xor]
        by_cases g : x ∈ way ++ [a]
        · rw [decide_eq_true g]
          simp only [Bool.not_true, Bool.false_eq_true, if_false]
          have ix : indexOf ((way ++ [a]).map D.str) (.str x) = some (ixS (way ++ [a]) x) := index_ixS _ _ g
          have gi : (way ++ [a])[ixS (way ++ [a]) x]? = some x := ixS_at g
          have al : ((way ++ [a]).map D.str).all D.leaf = true := by
            rw [List.all_eq_true]
            intro d hd
            obtain ⟨z, _, rfl⟩ := List.mem_map.mp hd
            rfl
          have cu : cutA (.lst ((way ++ [a]).map D.str)) (some ((ixS (way ++ [a]) x : Nat) : Int)) none = some (.lst (((way ++ [a]).drop (ixS (way ++ [a]) x)).map D.str)) := by
            show some (D.lst (cutD _ _ _)) = _
            rw [cut_fromN, List.map_drop]
          simp only [al, ix, cu, ob_some, ← List.map_reverse]
          rw [if_pos g] at hgo
          rw [← hgo] at q2
          refine ⟨trivial, rfl, q2 hlt (ring_of (lw := lw) hlw (fun c hc => (hp c hc).2.2) nw dw (by simp) la gi) fun z hz => ?_⟩
          exact (hw z (List.mem_of_mem_drop (List.mem_reverse.mp hz))).1
        · rw [decide_eq_false g]
          simp only [Bool.not_false, if_true]
          refine ⟨by rw [List.length_map]; exact szM (by omega), ?_⟩
          have n2 : ((way ++ [a]) ++ [x]).Nodup := by
            rw [List.nodup_append]
            exact ⟨nw, by simp, fun y hy z hz => by rw [List.mem_singleton.mp hz]; exact fun e => g (e ▸ hy)⟩
          have h2 : ∀ z ∈ (way ++ [a]) ++ [x], z ∈ zs ∧ z ∉ F := fun z hz => by
            rcases List.mem_append.mp hz with h | h
            · exact hw z h
            · rw [List.mem_singleton.mp h]; exact ⟨xm, xf⟩
          have l2 := sub_lenS n2 fun z hz => (h2 z hz).1
          refine ⟨zs.length - ((way ++ [a]) ++ [x]).length, by rw [List.length_append (bs := [x])] at l2 ⊢; simp at l2 ⊢; omega, way ++ [a], x, _, _, _, by rw [List.map_append (l₂ := [x])]; rfl, n2, h2, down_snoc dw (by simp) la, rfl, ?_⟩
          rw [if_neg g] at hgo
          rw [show zs.length - ((way ++ [a]) ++ [x]).length + 1 = zs.length - (way ++ [a]).length by rw [List.length_append (bs := [x])] at l2 ⊢; simp at l2 ⊢; omega]
          exact hgo
end DL
namespace DL
open PySem PySem.Spec PyProof.Rows L2 RK
def sp_heightsN : DSp := sp_heightsR 0
def d_heightsN : TDS := (sSeq (sSetO 2 (dDc (iSeq (dV 0)) (gNm 8) tYesD (dV 8) (dC (.int 0)) [8]))
  (sSeq (sSetO 3 dEmp)
  (sSeq (sSet 4 (dC (.bl false)))
  (sSeq (sWhile (dNotT (dTru (dV 4))) (sSeq (sSet 4 (dC (.bl true)))
  d_pass))
  (sFrz 2 (sFrz 3 (sRet (dTup (aCons (dV 2) (aCons (dV 3) aNil))))))))))
theorem ln_heightsN {ds : List D} {P : D → Prop} (h : sp_heightsN ds P) : ds.length = 2 := ln_heightsR h
theorem rd_heightsN {ds : List D} {P : D → Prop} (h : sp_heightsN ds P) : d_heightsN (fin false P) (st 9 ds) := rd_heightsR (C := 0) h
def sp_highest_wayN : DSp := sp_highest_wayR 0
def d_highest_wayN : TDS := (sSeq (sSet 2 (dCall sp_greatest (aCons (dV 0) aNil)))
  (sSeq (sIf (dT (dO2 (bEqN false) (dV 2) (dC (.int 0)))) (sRet (dLst aNil)) sNil)
  (sSeq (sSetO 3 (dCut cutL (dLcK 0 (gNm 4) (dT (dO2 (bEqN false) (dO2 bIx (dV 0) (dV 4)) (dV 2))) (dV 4) [4]) oNone (oSome (dC (.int 1)))))
  (sSeq (sWhile (dT (dO2 (bIn false) (dO2 bIx (dB 3) (dNeg (dC (.int 1)))) (dV 1))) (sApp 3 (dO2 bIx (dV 1) (dO2 bIx (dB 3) (dNeg (dC (.int 1)))))))
  (sRet (dRev (dB 3)))))))
theorem ln_highest_wayN {ds : List D} {P : D → Prop} (h : sp_highest_wayN ds P) : ds.length = 2 := ln_highest_wayR h
theorem rd_highest_wayN {ds : List D} {P : D → Prop} (h : sp_highest_wayN ds P) : d_highest_wayN (fin false P) (st 5 ds) := rd_highest_wayR (C := 0) h
def sp_sorting_raisesN : DSp := sp_sorting_raises
def d_sorting_raisesN : TDS := (sSeq (sSet 1 (dCall sp_steps_for (aCons (dCall sp_greatest (aCons (dV 0) aNil)) aNil)))
  (sRet (dLc (iRng (aCons (dV 1) aNil)) (gNm 2) tYesD (dTup (aCons (dC (.str "raise")) (aCons (dLcK 0 (gNm 3) (dT (dO2 (bEqN false) (dO2 bAnd (dO2 bShr (dO2 bIx (dV 0) (dV 3)) (dV 2)) (dC (.int 1))) (dC (.int 1)))) (dV 3) [3]) aNil))) [2])))
theorem ln_sorting_raisesN {ds : List D} {P : D → Prop} (h : sp_sorting_raisesN ds P) : ds.length = 1 := ln_sorting_raises h
theorem rd_sorting_raisesN {ds : List D} {P : D → Prop} (h : sp_sorting_raisesN ds P) : d_sorting_raisesN (fin true P) (st 4 ds) := by
  obtain ⟨ns, h, rfl, ne, hl, hb, q⟩ := h
  simp only [d_sorting_raisesN, dC, dV, dB, dO2, ob_some, dT, dAndT, dOrT, dNotT, dIf, dAndV, dOrV, dNotV, dChain, aNil, aCons, dTup, dLst, dCut, oNone, oSome, dRev, dNeg, dTru, dCa, dIs, dIsA, dCall, dCallK, sNil, sSeq, sNever, sBrk, sCont, sIf, sRet, sRetO, sRetE, sSet, sSetO, sDrop, sPar, sPar3, kn, enOf, owD, sAsg, gNm, gsNil, gsCons, gTp, sApp, sIns, sExt, sClr, sRev, sPut, sFrz, owAt, fin, st, iRng, iRngB, iSeq, lstD, tupD, sFor, dLc, dDc, wipeE, tYesD, dIndex, dSort, dDictZip, dMeth, dFld, dMk, List.map_cons, List.map_nil, List.length_cons, List.length_nil, List.replicate_succ, List.replicate_zero, List.cons_append, List.nil_append, List.append_nil, List.getElem?_cons_zero, List.getElem?_cons_succ, List.set_cons_zero, List.set_cons_succ, Option.bind_some, Option.map_some, Nat.reduceSub, Nat.reduceAdd, kwP, List.getD_cons_zero, List.getD_cons_succ]
  refine ⟨ns, h, rfl, ne, hl, fun m M => ⟨m, rfl, ?_⟩⟩
  have mb : m ≤ 1000 := by
    obtain ⟨x, hx, rfl⟩ := M.ex
    exact hb x hx
  have nb := bits_le mb
  simp only [dC, dV, dB, dO2, ob_some, dT, dAndT, dOrT, dNotT, dIf, dAndV, dOrV, dNotV, dChain, aNil, aCons, dTup, dLst, dCut, oNone, oSome, dRev, dNeg, dTru, dCa, dIs, dIsA, dCall, dCallK, sNil, sSeq, sNever, sBrk, sCont, sIf, sRet, sRetO, sRetE, sSet, sSetO, sDrop, sPar, sPar3, kn, enOf, owD, sAsg, gNm, gsNil, gsCons, gTp, sApp, sIns, sExt, sClr, sRev, sPut, sFrz, owAt, fin, st, iRng, iRngB, iSeq, lstD, tupD, sFor, dLc, dDc, wipeE, tYesD, dIndex, dSort, dDictZip, dMeth, dFld, dMk, List.map_cons, List.map_nil, List.length_cons, List.length_nil, List.replicate_succ, List.replicate_zero, List.cons_append, List.nil_append, List.append_nil, List.getElem?_cons_zero, List.getElem?_cons_succ, List.set_cons_zero, List.set_cons_succ, Option.bind_some, Option.map_some, Nat.reduceSub, Nat.reduceAdd, kwP, List.getD_cons_zero, List.getD_cons_succ]
  refine ⟨by omega, by omega, ?_⟩
  rw [Int.toNat_natCast, rng_map]
  refine comp_map (fun k : Nat => D.int ((k : Nat) : Int)) (fun d => (Sc.mv true (ns.filter fun x => bitB (h x) d)).d) (List.range (Builtin.Int.intBits (m : Int))) [] (fun d hd Q Z hQ => ?_) (by simp; omega) ?_
  · simp only [dC, dV, dB, dO2, ob_some, dT, dAndT, dOrT, dNotT, dIf, dAndV, dOrV, dNotV, dChain, aNil, aCons, dTup, dLst, dCut, oNone, oSome, dRev, dNeg, dTru, dCa, dIs, dIsA, dCall, dCallK, sNil, sSeq, sNever, sBrk, sCont, sIf, sRet, sRetO, sRetE, sSet, sSetO, sDrop, sPar, sPar3, kn, enOf, owD, sAsg, gNm, gsNil, gsCons, gTp, sApp, sIns, sExt, sClr, sRev, sPut, sFrz, owAt, fin, st, iRng, iRngB, iSeq, lstD, tupD, sFor, dLc, dDc, wipeE, tYesD, dIndex, dSort, dDictZip, dMeth, dFld, dMk, List.map_cons, List.map_nil, List.length_cons, List.length_nil, List.replicate_succ, List.replicate_zero, List.cons_append, List.nil_append, List.append_nil, List.getElem?_cons_zero, List.getElem?_cons_succ, List.set_cons_zero, List.set_cons_succ, Option.bind_some, Option.map_some, Nat.reduceSub, Nat.reduceAdd, kwP, List.getD_cons_zero, List.getD_cons_succ, dLcK, hidK, En.hk, hD, if_true]
    refine ⟨_, rfl, ?_⟩
    rw [keys_hL]
    refine comp_filter D.str D.str (fun x => bitB (h x) d) ns [] (fun x hx Q2 Z2 h1 h2 => ?_) (by simp; omega) ?_
    · obtain ⟨y, z, e1, e2, e3⟩ := bit_dE (h x) d
      simp only [dC, dV, dB, dO2, ob_some, dT, dAndT, dOrT, dNotT, dIf, dAndV, dOrV, dNotV, dChain, aNil, aCons, dTup, dLst, dCut, oNone, oSome, dRev, dNeg, dTru, dCa, dIs, dIsA, dCall, dCallK, sNil, sSeq, sNever, sBrk, sCont, sIf, sRet, sRetO, sRetE, sSet, sSetO, sDrop, sPar, sPar3, kn, enOf, owD, sAsg, gNm, gsNil, gsCons, gTp, sApp, sIns, sExt, sClr, sRev, sPut, sFrz, owAt, fin, st, iRng, iRngB, iSeq, lstD, tupD, sFor, dLc, dDc, wipeE, tYesD, dIndex, dSort, dDictZip, dMeth, dFld, dMk, List.map_cons, List.map_nil, List.length_cons, List.length_nil, List.replicate_succ, List.replicate_zero, List.cons_append, List.nil_append, List.append_nil, List.getElem?_cons_zero, List.getElem?_cons_succ, List.set_cons_zero, List.set_cons_succ, Option.bind_some, Option.map_some, Nat.reduceSub, Nat.reduceAdd, kwP, List.getD_cons_zero, List.getD_cons_succ, bIx_hL hx, e1, e2, e3]
      cases hbb : bitB (h x) d with
      | true => rw [hbb] at h1; exact h1 rfl
      | false => rw [hbb] at h2; exact h2 rfl
    · rw [List.nil_append]
      exact ⟨by decide, hQ⟩
  · rw [List.nil_append]
    have e : (List.range (Builtin.Int.intBits (m : Int))).map (fun d => (Sc.mv true (ns.filter fun x => bitB (h x) d)).d) = (srt ns h m).map Sc.d := by unfold srt; rw [List.map_map]; rfl
    rw [e]
    exact q m M
def sp_group_planN : DSp := fun ds P => ∃ o e os ps bs, ds = [o, e] ∧ IsSeq o os ∧ IsPrs e ps ∧ os ≠ [] ∧ os.length < 64 ∧ os.Nodup ∧ ps.length ≤ 1000 ∧ (∀ z ∈ os, NameOk z) ∧ (∀ p ∈ ps, p.1 ∈ os ∧ p.2 ∈ os ∧ p.1 ≠ p.2) ∧ bs.Perm os ∧ Keeps ps bs ∧
  (∀ h b m c, HB (lsOf os ps) h b → Hts os (lsOf os ps) h b → (∀ x ∈ os, h x ≤ 1000) → MaxH os h m → ClnR os h b m c → P (.tup [.str "steps", .lst ((srt os h m).map Sc.d), .lst (c.map D.str)]))
def d_group_planN : TDS := (sSeq (sSet 2 (dCall sp_ringB (aCons (dV 0) (aCons (dV 1) aNil))))
  (sSeq (sIf (dT (dO2 (bIsN true) (dV 2) (dC .non))) sNever sNil)
  (sSeq (sSet 3 (dCall sp_places (aCons (dV 0) aNil)))
  (sSeq (sSet 4 (dLc (iSeq (dV 1)) (gTp 2 (gsCons (gNm 7) (gsCons (gNm 8) gsNil))) tYesD (dTup (aCons (dV 7) (aCons (dV 8) (aCons (dIf (dT (dO2 bGt (dO2 bIx (dV 3) (dV 7)) (dO2 bIx (dV 3) (dV 8)))) (dC (.int 1)) (dC (.int 0))) aNil)))) [7, 8]))
  (sSeq (sAsg (dCall sp_heightsN (aCons (dV 0) (aCons (dV 4) aNil))) (gTp 2 (gsCons (gNm 5) (gsCons (gNm 6) gsNil))))
  (sRet (dTup (aCons (dC (.str "steps")) (aCons (dCall sp_sorting_raisesN (aCons (dV 5) aNil)) (aCons (dCall sp_highest_wayN (aCons (dV 5) (aCons (dV 6) aNil))) aNil))))))))))
theorem ln_group_planN {ds : List D} {P : D → Prop} (h : sp_group_planN ds P) : ds.length = 2 := by obtain ⟨_, _, _, _, _, rfl, _⟩ := h; rfl
theorem rd_group_planN {ds : List D} {P : D → Prop} (h : sp_group_planN ds P) : d_group_planN (fin (.ch 1) P) (st 9 ds) := by
  obtain ⟨o, e, os, ps, bs, rfl, ho, he, ne, lo, nd, lp, nm, wp, pb, K, q2⟩ := h
  have i0 : bIsN true D.non D.non = some (.bl false) := rfl
  have i1 : ∀ xs, bIsN true (.lst xs) D.non = some (.bl true) := fun _ => rfl
  simp only [d_group_planN, dC, dV, dB, dO2, ob_some, dT, dAndT, dOrT, dNotT, dIf, dAndV, dOrV, dNotV, dChain, aNil, aCons, dTup, dLst, dCut, oNone, oSome, dRev, dNeg, dTru, dCa, dIs, dIsA, dCall, dCallK, sNil, sSeq, sNever, sBrk, sCont, sIf, sRet, sRetO, sRetE, sSet, sSetO, sDrop, sPar, sPar3, kn, enOf, owD, sAsg, gNm, gsNil, gsCons, gTp, sApp, sIns, sExt, sClr, sRev, sPut, sFrz, owAt, fin, st, iRng, iRngB, iSeq, lstD, tupD, sFor, dLc, dDc, wipeE, tYesD, dIndex, dSort, dDictZip, dMeth, dFld, dMk, List.map_cons, List.map_nil, List.length_cons, List.length_nil, List.replicate_succ, List.replicate_zero, List.cons_append, List.nil_append, List.append_nil, List.getElem?_cons_zero, List.getElem?_cons_succ, List.set_cons_zero, List.set_cons_succ, Option.bind_some, Option.map_some, Nat.reduceSub, Nat.reduceAdd, kwP, List.getD_cons_zero, List.getD_cons_succ]
  refine ⟨o, os, e, ps, rfl, ho, he, lo, nd, lp, nm, wp, fun ys hs => ⟨fun hl => ?_, fun hl hr hm => (hr.no K).elim⟩⟩
  simp only [i0, ob_some, Bool.false_eq_true, if_false]
  refine ⟨_, os, rfl, ho, by omega, nd, ?_⟩
  have ly : ys.length = os.length := hs.1.length_eq
  have ndy : ys.Nodup := hs.1.nodup_iff.mpr nd
  have S := settle_stl ndy ps
  rw [ly] at S
  have full : ∀ z ∈ os, z ∈ settle (os.length + 1) ys ps := fun z hz => by
    exact (sub_permS S.nd S.sub (by rw [hl, ly]; exact Nat.le_refl _)).mem_iff.mpr (hs.1.mem_iff.mpr hz)
  generalize settle (os.length + 1) ys ps = G at S hl full
  have PT : Pot os (lsOf os ps) (ixS G) := ⟨fun l hl => by
    obtain ⟨p, hp, rfl⟩ := List.mem_map.mp hl
    exact ⟨(wp p hp).1, (wp p hp).2.1⟩, fun l hl => by
    obtain ⟨p, hp, rfl⟩ := List.mem_map.mp hl
    have := (S.kp p hp (full _ (wp p hp).2.1)).2
    show ixS G p.1 + (if ixS os p.2 < ixS os p.1 then 1 else 0) ≤ ixS G p.2
    split <;> omega⟩
  have bd : ∀ x ∈ os, ixS G x ≤ 1000 := fun x hx => by have := ixS_lt (full x hx); omega
  have cm : ∀ (Pk : D → Prop) (e0 e1 e2 e4 e5 e6 : En), Pk (.lst ((lsOf os ps).map lkD)) → dComp (gTp 2 (gsCons (gNm 7) (gsCons (gNm 8) gsNil))) tYesD (dTup (aCons (dV 7) (aCons (dV 8) (aCons (dIf (dT (dO2 bGt (dO2 bIx (dV 3) (dV 7)) (dO2 bIx (dV 3) (dV 8)))) (dC (.int 1)) (dC (.int 0))) aNil)))) Pk [e0, e1, e2, .fz (plcD os), e4, e5, e6, .no, .no] (ps.map pairD) [] := fun Pk e0 e1 e2 e4 e5 e6 hk => by
    refine comp_map pairD (fun p => lkD (p.1, p.2, if ixS os p.2 < ixS os p.1 then 1 else 0)) ps [] (fun p hp Q Z hQ => ?_) (by simp; omega) ?_
    · obtain ⟨m1, m2, _⟩ := wp p hp
      have g : bGt (.int ((ixS os p.1 : Nat) : Int)) (.int ((ixS os p.2 : Nat) : Int)) = some (.bl (decide (ixS os p.2 < ixS os p.1))) := by
        show some (D.bl (decide (((ixS os p.2 : Nat) : Int) < ((ixS os p.1 : Nat) : Int)))) = _
        congr 2
        exact decide_eq_decide.mpr (by omega)
      simp only [pairD, dC, dV, dB, dO2, ob_some, dT, dAndT, dOrT, dNotT, dIf, dAndV, dOrV, dNotV, dChain, aNil, aCons, dTup, dLst, dCut, oNone, oSome, dRev, dNeg, dTru, dCa, dIs, dIsA, dCall, dCallK, sNil, sSeq, sNever, sBrk, sCont, sIf, sRet, sRetO, sRetE, sSet, sSetO, sDrop, sPar, sPar3, kn, enOf, owD, sAsg, gNm, gsNil, gsCons, gTp, sApp, sIns, sExt, sClr, sRev, sPut, sFrz, owAt, fin, st, iRng, iRngB, iSeq, lstD, tupD, sFor, dLc, dDc, wipeE, tYesD, dIndex, dSort, dDictZip, dMeth, dFld, dMk, List.map_cons, List.map_nil, List.length_cons, List.length_nil, List.replicate_succ, List.replicate_zero, List.cons_append, List.nil_append, List.append_nil, List.getElem?_cons_zero, List.getElem?_cons_succ, List.set_cons_zero, List.set_cons_succ, Option.bind_some, Option.map_some, Nat.reduceSub, Nat.reduceAdd, kwP, List.getD_cons_zero, List.getD_cons_succ, bIx_plc m1, bIx_plc m2, g, if_true]
      refine ⟨trivial, trivial, ?_⟩
      by_cases c : ixS os p.2 < ixS os p.1
      · rw [decide_eq_true c]
        simp only [if_true]
        rw [if_pos c] at hQ
        exact ⟨by decide, hQ⟩
      · rw [decide_eq_false c]
        simp only [Bool.false_eq_true, if_false]
        rw [if_neg c] at hQ
        exact ⟨by decide, hQ⟩
    · rw [List.nil_append]
      have e : ps.map (fun p => lkD (p.1, p.2, if ixS os p.2 < ixS os p.1 then 1 else 0)) = (lsOf os ps).map lkD := by unfold lsOf; rw [List.map_map]; rfl
      rw [e]
      exact hk
  have fin2 : ∀ e1 : En, sp_heightsN [o, .lst ((lsOf os ps).map lkD)] fun v => (gTp 2 (gsCons (gNm 5) (gsCons (gNm 6) gsNil))) v [.fz o, e1, .fz D.non, .fz (plcD os), .fz (.lst ((lsOf os ps).map lkD)), .no, .no, .no, .no] fun env => (sRet (dTup (aCons (dC (.str "steps")) (aCons (dCall sp_sorting_raisesN (aCons (dV 5) aNil)) (aCons (dCall sp_highest_wayN (aCons (dV 5) (aCons (dV 6) aNil))) aNil))))) (fin (.ch 1) P) env := fun e1 =>
    ⟨o, os, lsOf os ps, ixS G, rfl, ho, by omega, by unfold lsOf; rw [List.length_map]; omega, nd, PT, fun h b T bh hb => by
      simp only [dC, dV, dB, dO2, ob_some, dT, dAndT, dOrT, dNotT, dIf, dAndV, dOrV, dNotV, dChain, aNil, aCons, dTup, dLst, dCut, oNone, oSome, dRev, dNeg, dTru, dCa, dIs, dIsA, dCall, dCallK, sNil, sSeq, sNever, sBrk, sCont, sIf, sRet, sRetO, sRetE, sSet, sSetO, sDrop, sPar, sPar3, kn, enOf, owD, sAsg, gNm, gsNil, gsCons, gTp, sApp, sIns, sExt, sClr, sRev, sPut, sFrz, owAt, fin, st, iRng, iRngB, iSeq, lstD, tupD, sFor, dLc, dDc, wipeE, tYesD, dIndex, dSort, dDictZip, dMeth, dFld, dMk, List.map_cons, List.map_nil, List.length_cons, List.length_nil, List.replicate_succ, List.replicate_zero, List.cons_append, List.nil_append, List.append_nil, List.getElem?_cons_zero, List.getElem?_cons_succ, List.set_cons_zero, List.set_cons_succ, Option.bind_some, Option.map_some, Nat.reduceSub, Nat.reduceAdd, kwP, List.getD_cons_zero, List.getD_cons_succ]
      refine ⟨trivial, trivial, os, h, rfl, ne, by omega, fun x hx => Nat.le_trans (bh x hx) (bd x hx), fun m M => ?_⟩
      have hb1 : ∀ x ∈ os, h x ≤ 1000 := fun x hx => Nat.le_trans (bh x hx) (bd x hx)
      refine ⟨os, h, b, rfl, ne, by omega, fun x y e => (T.bf x y e).2.1, T.t, fun m' M' => ?_⟩
      have em : m' = m := by
        obtain ⟨x, hx, e1⟩ := M.ex
        obtain ⟨y, hy, e2⟩ := M'.ex
        have := M.le y hy
        have := M'.le x hx
        omega
      subst em
      exact ⟨fun z => ⟨by decide, q2 h b _ [] hb T hb1 M ⟨fun _ => rfl, fun n => absurd z n⟩⟩, fun n z c y h0 h1 h2 h3 h4 h5 h6 => ⟨by decide, q2 h b _ c.reverse hb T hb1 M ⟨fun z => absurd z n, fun _ => ⟨z, y, c, h0, h1, h2, h3, h4, h5, h6, rfl⟩⟩⟩⟩⟩
  rcases he with rfl | rfl
  · have L := fin2 (.fz (.lst (ps.map pairD)))
    simp only [dC, dV, dB, dO2, ob_some, dT, dAndT, dOrT, dNotT, dIf, dAndV, dOrV, dNotV, dChain, aNil, aCons, dTup, dLst, dCut, oNone, oSome, dRev, dNeg, dTru, dCa, dIs, dIsA, dCall, dCallK, sNil, sSeq, sNever, sBrk, sCont, sIf, sRet, sRetO, sRetE, sSet, sSetO, sDrop, sPar, sPar3, kn, enOf, owD, sAsg, gNm, gsNil, gsCons, gTp, sApp, sIns, sExt, sClr, sRev, sPut, sFrz, owAt, fin, st, iRng, iRngB, iSeq, lstD, tupD, sFor, dLc, dDc, wipeE, tYesD, dIndex, dSort, dDictZip, dMeth, dFld, dMk, List.map_cons, List.map_nil, List.length_cons, List.length_nil, List.replicate_succ, List.replicate_zero, List.cons_append, List.nil_append, List.append_nil, List.getElem?_cons_zero, List.getElem?_cons_succ, List.set_cons_zero, List.set_cons_succ, Option.bind_some, Option.map_some, Nat.reduceSub, Nat.reduceAdd, kwP, List.getD_cons_zero, List.getD_cons_succ] at L ⊢
    exact .inl (cm _ _ _ _ _ _ _ L)
  · have L := fin2 (.fz (.tup (ps.map pairD)))
    simp only [dC, dV, dB, dO2, ob_some, dT, dAndT, dOrT, dNotT, dIf, dAndV, dOrV, dNotV, dChain, aNil, aCons, dTup, dLst, dCut, oNone, oSome, dRev, dNeg, dTru, dCa, dIs, dIsA, dCall, dCallK, sNil, sSeq, sNever, sBrk, sCont, sIf, sRet, sRetO, sRetE, sSet, sSetO, sDrop, sPar, sPar3, kn, enOf, owD, sAsg, gNm, gsNil, gsCons, gTp, sApp, sIns, sExt, sClr, sRev, sPut, sFrz, owAt, fin, st, iRng, iRngB, iSeq, lstD, tupD, sFor, dLc, dDc, wipeE, tYesD, dIndex, dSort, dDictZip, dMeth, dFld, dMk, List.map_cons, List.map_nil, List.length_cons, List.length_nil, List.replicate_succ, List.replicate_zero, List.cons_append, List.nil_append, List.append_nil, List.getElem?_cons_zero, List.getElem?_cons_succ, List.set_cons_zero, List.set_cons_succ, Option.bind_some, Option.map_some, Nat.reduceSub, Nat.reduceAdd, kwP, List.getD_cons_zero, List.getD_cons_succ] at L ⊢
    exact .inr (.inl (cm _ _ _ _ _ _ _ L))
def sp_keepsM : DSp := fun ds P => ∃ (zs : List Str) (ps : List SP), ds = [.lst (zs.map D.str), .lst (ps.map pairD)] ∧ ps.length ≤ 100000 ∧ (∀ p ∈ ps, p.1 ∈ zs ∧ p.2 ∈ zs) ∧ P (.bl (kpB zs ps))
def d_keepsM : TDS := (sRet (dCa allD (aCons (dLc (iSeq (dV 1)) (gTp 2 (gsCons (gNm 2) (gsCons (gNm 3) gsNil))) tYesD (dO2 bLt (dIndex (dV 0) (dV 2)) (dIndex (dV 0) (dV 3))) [2, 3]) aNil)))
theorem ln_keepsM {ds : List D} {P : D → Prop} (h : sp_keepsM ds P) : ds.length = 2 := by obtain ⟨_, _, rfl, _⟩ := h; rfl
theorem rd_keepsM {ds : List D} {P : D → Prop} (h : sp_keepsM ds P) : d_keepsM (fin false P) (st 4 ds) := by
  obtain ⟨zs, ps, rfl, hl, hm, q⟩ := h
  simp only [d_keepsM, dC, dV, dB, dO2, ob_some, dT, dAndT, dOrT, dNotT, dIf, dAndV, dOrV, dNotV, dChain, aNil, aCons, dTup, dLst, dCut, oNone, oSome, dRev, dNeg, dTru, dCa, dIs, dIsA, dCall, dCallK, sNil, sSeq, sNever, sBrk, sCont, sIf, sRet, sRetO, sRetE, sSet, sSetO, sDrop, sPar, sPar3, kn, enOf, owD, sAsg, gNm, gsNil, gsCons, gTp, sApp, sIns, sExt, sClr, sRev, sPut, sFrz, owAt, fin, st, iRng, iRngB, iSeq, lstD, tupD, sFor, dLc, dDc, wipeE, tYesD, dIndex, dSort, dDictZip, dMeth, dFld, dMk, List.map_cons, List.map_nil, List.length_cons, List.length_nil, List.replicate_succ, List.replicate_zero, List.cons_append, List.nil_append, List.append_nil, List.getElem?_cons_zero, List.getElem?_cons_succ, List.set_cons_zero, List.set_cons_succ, Option.bind_some, Option.map_some, Nat.reduceSub, Nat.reduceAdd, kwP, List.getD_cons_zero, List.getD_cons_succ]
  refine .inl (comp_map pairD (fun p : SP => D.bl (decide (ixS zs p.1 < ixS zs p.2))) ps [] (fun p hp Q Z hQ => ?_) (by simp; omega) ?_)
  · have i1 := index_ixS zs p.1 (hm p hp).1
    have i2 := index_ixS zs p.2 (hm p hp).2
    simp only [pairD, dC, dV, dB, dO2, ob_some, dT, dAndT, dOrT, dNotT, dIf, dAndV, dOrV, dNotV, dChain, aNil, aCons, dTup, dLst, dCut, oNone, oSome, dRev, dNeg, dTru, dCa, dIs, dIsA, dCall, dCallK, sNil, sSeq, sNever, sBrk, sCont, sIf, sRet, sRetO, sRetE, sSet, sSetO, sDrop, sPar, sPar3, kn, enOf, owD, sAsg, gNm, gsNil, gsCons, gTp, sApp, sIns, sExt, sClr, sRev, sPut, sFrz, owAt, fin, st, iRng, iRngB, iSeq, lstD, tupD, sFor, dLc, dDc, wipeE, tYesD, dIndex, dSort, dDictZip, dMeth, dFld, dMk, List.map_cons, List.map_nil, List.length_cons, List.length_nil, List.replicate_succ, List.replicate_zero, List.cons_append, List.nil_append, List.append_nil, List.getElem?_cons_zero, List.getElem?_cons_succ, List.set_cons_zero, List.set_cons_succ, Option.bind_some, Option.map_some, Nat.reduceSub, Nat.reduceAdd, kwP, List.getD_cons_zero, List.getD_cons_succ, leaf_strs, D.leaf, i1, i2, lt_nn, if_true]
    exact ⟨trivial, trivial, trivial, trivial, trivial, trivial, hQ⟩
  · rw [List.nil_append, allD_f]
    exact q
def Mvs (ps : List Sc) : Prop := ∀ s ∈ ps, ∃ S, s = rs S
def sp_afterM : DSp := fun ds P => ∃ (d : D) (zs : List Str) (ps : List Sc), ds = [.dic [], d, .lst (ps.map Sc.d)] ∧ IsSeq d zs ∧ zs.length ≤ 1000 ∧ Mvs ps ∧ P (.tup [.dic [], .lst ((aftO zs ps).map D.str)])
def d_afterM : TDS := (sSeq (sPar 0 1 true false (dCa dictD (aCons (dB 0) aNil)) (dCa listD (aCons (dV 1) aNil)))
  (sSeq (sFor (iSeq (dV 2)) (gNm 3) (sIf (dT (dO2 (bEqN false) (dO2 bIx (dV 3) (dC (.int 0))) (dC (.str "place")))) (sDput 0 (dO2 bIx (dV 3) (dC (.int 2))) (dO2 bIx (dV 3) (dC (.int 1)))) (sSeq (sPar 4 5 false false (dLc (iSeq (dV 1)) (gNm 6) (dT (dO2 (bIn false) (dV 6) (dO2 bIx (dV 3) (dC (.int 1))))) (dV 6) [6]) (dLc (iSeq (dV 1)) (gNm 6) (dT (dO2 (bIn true) (dV 6) (dO2 bIx (dV 3) (dC (.int 1))))) (dV 6) [6]))
  (sSet 1 (dIf (dT (dO2 (bEqN false) (dO2 bIx (dV 3) (dC (.int 0))) (dC (.str "raise")))) (dO2 bAdd (dV 5) (dV 4)) (dO2 bAdd (dV 4) (dV 5)))))))
  (sFrz 0 (sRet (dTup (aCons (dV 0) (aCons (dV 1) aNil)))))))
theorem ln_afterM {ds : List D} {P : D → Prop} (h : sp_afterM ds P) : ds.length = 3 := by obtain ⟨_, _, _, rfl, _⟩ := h; rfl
theorem bAdd_l2 {xs ys : List D} (h : xs.length + ys.length ≤ 1000000) : bAdd (.lst xs) (.lst ys) = some (.lst (xs ++ ys)) := if_pos (Nat.le_of_lt (szM h))
theorem rd_afterM {ds : List D} {P : D → Prop} (h : sp_afterM ds P) : d_afterM (fin false P) (st 7 ds) := by
  obtain ⟨d, zs, ps, rfl, hd, hl, pp, q⟩ := h
  have l1 : listD [d] = some (.lst (zs.map D.str)) := by rcases hd with rfl | rfl <;> rfl
  have l2 : dictD [.dic []] = some (.dic []) := rfl
  have k2 : kn true (.dic []) = some (.od []) := rfl
  simp only [d_afterM, dC, dV, dB, dO2, ob_some, dT, dAndT, dOrT, dNotT, dIf, dAndV, dOrV, dNotV, dChain, aNil, aCons, dTup, dLst, dCut, oNone, oSome, dRev, dNeg, dTru, dCa, dIs, dIsA, dCall, dCallK, sNil, sSeq, sNever, sBrk, sCont, sIf, sRet, sRetO, sRetE, sSet, sSetO, sDrop, sPar, sPar3, kn, enOf, owD, sAsg, gNm, gsNil, gsCons, gTp, sApp, sIns, sExt, sClr, sRev, sPut, sFrz, owAt, fin, st, iRng, iRngB, iSeq, lstD, tupD, sFor, dLc, dDc, wipeE, tYesD, dIndex, dSort, dDictZip, dMeth, dFld, dMk, List.map_cons, List.map_nil, List.length_cons, List.length_nil, List.replicate_succ, List.replicate_zero, List.cons_append, List.nil_append, List.append_nil, List.getElem?_cons_zero, List.getElem?_cons_succ, List.set_cons_zero, List.set_cons_succ, Option.bind_some, Option.map_some, Nat.reduceSub, Nat.reduceAdd, kwP, List.getD_cons_zero, List.getD_cons_succ, l1, l2]
  refine .inl (loop_all Sc.d ps (fun pre env => ∃ e3 e4 e5 e6, env = [.od [], .fz (.lst ((aftO zs pre).map D.str)), .fz (.lst (ps.map Sc.d)), e3, e4, e5, e6]) ⟨_, _, _, _, rfl⟩ (fun pre s post env ee h k hk => ?_) (fun env h => ?_))
  · obtain ⟨e3, e4, e5, e6, rfl⟩ := h
    obtain ⟨ns, rfl⟩ := pp s (by rw [ee]; simp)
    have ao : aftO zs (pre ++ [rs ns]) = stO (aftO zs pre) (rs ns) := by unfold aftO; rw [List.foldl_append]; rfl
    have lo : (aftO zs pre).length ≤ 1000 := by rw [(aftO_perm pre zs).length_eq]; exact hl
    have x0 : bIx (rs ns).d (.int 0) = some (.str "raise") := by rw [mvT_d]; exact bIx_tp (j := 0) rfl
    have x1 : bIx (rs ns).d (.int 1) = some (.lst (ns.map D.str)) := by rw [mvT_d]; exact bIx_tp (j := 1) rfl
    have w1 : decide (("raise" : Str) = "place") = false := by decide +kernel
    have w2 : decide (("raise" : Str) = "raise") = true := by decide +kernel
    simp only [dC, dV, dB, dO2, ob_some, dT, dAndT, dOrT, dNotT, dIf, dAndV, dOrV, dNotV, dChain, aNil, aCons, dTup, dLst, dCut, oNone, oSome, dRev, dNeg, dTru, dCa, dIs, dIsA, dCall, dCallK, sNil, sSeq, sNever, sBrk, sCont, sIf, sRet, sRetO, sRetE, sSet, sSetO, sDrop, sPar, sPar3, kn, enOf, owD, sAsg, gNm, gsNil, gsCons, gTp, sApp, sIns, sExt, sClr, sRev, sPut, sFrz, owAt, fin, st, iRng, iRngB, iSeq, lstD, tupD, sFor, dLc, dDc, wipeE, tYesD, dIndex, dSort, dDictZip, dMeth, dFld, dMk, List.map_cons, List.map_nil, List.length_cons, List.length_nil, List.replicate_succ, List.replicate_zero, List.cons_append, List.nil_append, List.append_nil, List.getElem?_cons_zero, List.getElem?_cons_succ, List.set_cons_zero, List.set_cons_succ, Option.bind_some, Option.map_some, Nat.reduceSub, Nat.reduceAdd, kwP, List.getD_cons_zero, List.getD_cons_succ, x0, bEq_s, w1, w2, Bool.false_eq_true, if_false]
    refine .inl (comp_filter D.str D.str (fun z => decide (z ∈ ns)) (aftO zs pre) [] (fun z hz Q Z h1 h2 => ?_) (by simp only [List.length_nil]; omega) (.inl (comp_filter D.str D.str (fun z => !decide (z ∈ ns)) (aftO zs pre) [] (fun z hz Q Z h1 h2 => ?_) (by simp only [List.length_nil]; omega) ?_)))
    · simp only [dC, dV, dB, dO2, ob_some, dT, dAndT, dOrT, dNotT, dIf, dAndV, dOrV, dNotV, dChain, aNil, aCons, dTup, dLst, dCut, oNone, oSome, dRev, dNeg, dTru, dCa, dIs, dIsA, dCall, dCallK, sNil, sSeq, sNever, sBrk, sCont, sIf, sRet, sRetO, sRetE, sSet, sSetO, sDrop, sPar, sPar3, kn, enOf, owD, sAsg, gNm, gsNil, gsCons, gTp, sApp, sIns, sExt, sClr, sRev, sPut, sFrz, owAt, fin, st, iRng, iRngB, iSeq, lstD, tupD, sFor, dLc, dDc, wipeE, tYesD, dIndex, dSort, dDictZip, dMeth, dFld, dMk, List.map_cons, List.map_nil, List.length_cons, List.length_nil, List.replicate_succ, List.replicate_zero, List.cons_append, List.nil_append, List.append_nil, List.getElem?_cons_zero, List.getElem?_cons_succ, List.set_cons_zero, List.set_cons_succ, Option.bind_some, Option.map_some, Nat.reduceSub, Nat.reduceAdd, kwP, List.getD_cons_zero, List.getD_cons_succ, x1, bIn_strs (.inl rfl : IsSeq (.lst (ns.map D.str)) ns), Bool.false_xor]
      cases hc : decide (z ∈ ns) with
      | true => exact h1 hc
      | false => exact h2 hc
    · simp only [dC, dV, dB, dO2, ob_some, dT, dAndT, dOrT, dNotT, dIf, dAndV, dOrV, dNotV, dChain, aNil, aCons, dTup, dLst, dCut, oNone, oSome, dRev, dNeg, dTru, dCa, dIs, dIsA, dCall, dCallK, sNil, sSeq, sNever, sBrk, sCont, sIf, sRet, sRetO, sRetE, sSet, sSetO, sDrop, sPar, sPar3, kn, enOf, owD, sAsg, gNm, gsNil, gsCons, gTp, sApp, sIns, sExt, sClr, sRev, sPut, sFrz, owAt, fin, st, iRng, iRngB, iSeq, lstD, tupD, sFor, dLc, dDc, wipeE, tYesD, dIndex, dSort, dDictZip, dMeth, dFld, dMk, List.map_cons, List.map_nil, List.length_cons, List.length_nil, List.replicate_succ, List.replicate_zero, List.cons_append, List.nil_append, List.append_nil, List.getElem?_cons_zero, List.getElem?_cons_succ, List.set_cons_zero, List.set_cons_succ, Option.bind_some, Option.map_some, Nat.reduceSub, Nat.reduceAdd, kwP, List.getD_cons_zero, List.getD_cons_succ, x1, bIn_strs (.inl rfl : IsSeq (.lst (ns.map D.str)) ns), Bool.true_xor]
      cases hc : decide (z ∈ ns) with
      | true => rw [hc] at h2; exact h2 rfl
      | false => rw [hc] at h1; exact h1 rfl
    · rw [List.nil_append, List.nil_append]
      have f1 := List.length_filter_le (fun z => decide (z ∈ ns)) (aftO zs pre)
      have f2 := List.length_filter_le (fun z => !decide (z ∈ ns)) (aftO zs pre)
      rw [bAdd_l2 (by rw [List.length_map, List.length_map]; omega), ob_some, ← List.map_append]
      have e1 : stO (aftO zs pre) (rs ns) = (aftO zs pre).filter (fun z => !decide (z ∈ ns)) ++ (aftO zs pre).filter (fun z => decide (z ∈ ns)) := rfl
      rw [ao, e1] at hk
      exact hk _ ⟨_, _, _, _, rfl⟩
  · obtain ⟨e3, e4, e5, e6, rfl⟩ := h
    simp only [dC, dV, dB, dO2, ob_some, dT, dAndT, dOrT, dNotT, dIf, dAndV, dOrV, dNotV, dChain, aNil, aCons, dTup, dLst, dCut, oNone, oSome, dRev, dNeg, dTru, dCa, dIs, dIsA, dCall, dCallK, sNil, sSeq, sNever, sBrk, sCont, sIf, sRet, sRetO, sRetE, sSet, sSetO, sDrop, sPar, sPar3, kn, enOf, owD, sAsg, gNm, gsNil, gsCons, gTp, sApp, sIns, sExt, sClr, sRev, sPut, sFrz, owAt, fin, st, iRng, iRngB, iSeq, lstD, tupD, sFor, dLc, dDc, wipeE, tYesD, dIndex, dSort, dDictZip, dMeth, dFld, dMk, List.map_cons, List.map_nil, List.length_cons, List.length_nil, List.replicate_succ, List.replicate_zero, List.cons_append, List.nil_append, List.append_nil, List.getElem?_cons_zero, List.getElem?_cons_succ, List.set_cons_zero, List.set_cons_succ, Option.bind_some, Option.map_some, Nat.reduceSub, Nat.reduceAdd, kwP, List.getD_cons_zero, List.getD_cons_succ, Option.bind_some]
    exact ⟨by decide, q⟩
def sp_kept_wishN : DSp := fun ds P => ∃ (ns : List Str) (n : Int), ds = [.bag, .lst (ns.map D.str), .int n] ∧ ns ≠ [] ∧ ns.length ≤ 1000 ∧ 0 ≤ n ∧ n ≤ 100 ∧ ∀ (bs : List Str) (ps : List SP), bs.Perm ns → Keeps ps bs → ps.length ≤ 100 → WsOk ns ps → P (.lst (ps.map pairD))
def d_kept_wishN : TDS := (sSeq (sSet 3 (dCall sp_mixed (aCons (dV 0) (aCons (dV 1) aNil))))
  (sRet (dLc (iSeq (dCall sp_wish (aCons (dV 0) (aCons (dV 1) (aCons (dV 2) aNil))))) (gTp 2 (gsCons (gNm 4) (gsCons (gNm 5) gsNil))) (dT (dO2 bLt (dIndex (dV 3) (dV 4)) (dIndex (dV 3) (dV 5)))) (dTup (aCons (dV 4) (aCons (dV 5) aNil))) [4, 5])))
theorem ln_kept_wishN {ds : List D} {P : D → Prop} (h : sp_kept_wishN ds P) : ds.length = 3 := by obtain ⟨_, _, rfl, _⟩ := h; rfl
theorem rd_kept_wishN {ds : List D} {P : D → Prop} (h : sp_kept_wishN ds P) : d_kept_wishN (fin false P) (st 6 ds) := by
  obtain ⟨ns, n, rfl, ne, hl, n0, n1, q⟩ := h
  simp only [d_kept_wishN, dC, dV, dB, dO2, ob_some, dT, dAndT, dOrT, dNotT, dIf, dAndV, dOrV, dNotV, dChain, aNil, aCons, dTup, dLst, dCut, oNone, oSome, dRev, dNeg, dTru, dCa, dIs, dIsA, dCall, dCallK, sNil, sSeq, sNever, sBrk, sCont, sIf, sRet, sRetO, sRetE, sSet, sSetO, sDrop, sPar, sPar3, kn, enOf, owD, sAsg, gNm, gsNil, gsCons, gTp, sApp, sIns, sExt, sClr, sRev, sPut, sFrz, owAt, fin, st, iRng, iRngB, iSeq, lstD, tupD, sFor, dLc, dDc, wipeE, tYesD, dIndex, dSort, dDictZip, dMeth, dFld, dMk, List.map_cons, List.map_nil, List.length_cons, List.length_nil, List.replicate_succ, List.replicate_zero, List.cons_append, List.nil_append, List.append_nil, List.getElem?_cons_zero, List.getElem?_cons_succ, List.set_cons_zero, List.set_cons_succ, Option.bind_some, Option.map_some, Nat.reduceSub, Nat.reduceAdd, kwP, List.getD_cons_zero, List.getD_cons_succ]
  refine ⟨_, .inl rfl, by rw [List.length_map]; omega, fun os ho => ?_⟩
  obtain ⟨zs, rfl, hz⟩ := perm_str ho
  refine .inl ⟨ns, n, rfl, ne, hl, n0, n1, fun ps lp wp => ?_⟩
  simp only [ob_some, dC, dV, dB, dO2, ob_some, dT, dAndT, dOrT, dNotT, dIf, dAndV, dOrV, dNotV, dChain, aNil, aCons, dTup, dLst, dCut, oNone, oSome, dRev, dNeg, dTru, dCa, dIs, dIsA, dCall, dCallK, sNil, sSeq, sNever, sBrk, sCont, sIf, sRet, sRetO, sRetE, sSet, sSetO, sDrop, sPar, sPar3, kn, enOf, owD, sAsg, gNm, gsNil, gsCons, gTp, sApp, sIns, sExt, sClr, sRev, sPut, sFrz, owAt, fin, st, iRng, iRngB, iSeq, lstD, tupD, sFor, dLc, dDc, wipeE, tYesD, dIndex, dSort, dDictZip, dMeth, dFld, dMk, List.map_cons, List.map_nil, List.length_cons, List.length_nil, List.replicate_succ, List.replicate_zero, List.cons_append, List.nil_append, List.append_nil, List.getElem?_cons_zero, List.getElem?_cons_succ, List.set_cons_zero, List.set_cons_succ, Option.bind_some, Option.map_some, Nat.reduceSub, Nat.reduceAdd, kwP, List.getD_cons_zero, List.getD_cons_succ]
  have mz : ∀ p ∈ ps, p.1 ∈ zs ∧ p.2 ∈ zs := fun p hp => ⟨hz.mem_iff.mpr (wp p hp).1, hz.mem_iff.mpr (wp p hp).2.1⟩
  refine comp_filter pairD pairD (fun p => decide (ixS zs p.1 < ixS zs p.2)) ps [] (fun p hp Q Z h1 h0 => ?_) (by simp; omega) ?_
  · obtain ⟨m1, m2⟩ := mz p hp
    simp only [dC, dV, dB, dO2, ob_some, dT, dAndT, dOrT, dNotT, dIf, dAndV, dOrV, dNotV, dChain, aNil, aCons, dTup, dLst, dCut, oNone, oSome, dRev, dNeg, dTru, dCa, dIs, dIsA, dCall, dCallK, sNil, sSeq, sNever, sBrk, sCont, sIf, sRet, sRetO, sRetE, sSet, sSetO, sDrop, sPar, sPar3, kn, enOf, owD, sAsg, gNm, gsNil, gsCons, gTp, sApp, sIns, sExt, sClr, sRev, sPut, sFrz, owAt, fin, st, iRng, iRngB, iSeq, lstD, tupD, sFor, dLc, dDc, wipeE, tYesD, dIndex, dSort, dDictZip, dMeth, dFld, dMk, List.map_cons, List.map_nil, List.length_cons, List.length_nil, List.replicate_succ, List.replicate_zero, List.cons_append, List.nil_append, List.append_nil, List.getElem?_cons_zero, List.getElem?_cons_succ, List.set_cons_zero, List.set_cons_succ, Option.bind_some, Option.map_some, Nat.reduceSub, Nat.reduceAdd, kwP, List.getD_cons_zero, List.getD_cons_succ, pairD, leaf_strs, D.leaf, index_ixS zs _ m1, index_ixS zs _ m2, lt_nn]
    refine ⟨trivial, trivial, trivial, trivial, trivial, trivial, ?_⟩
    by_cases g : ixS zs p.1 < ixS zs p.2
    · rw [decide_eq_true g, if_pos rfl]
      exact ⟨by decide, h1 (decide_eq_true g)⟩
    · rw [decide_eq_false g, if_neg Bool.false_ne_true]
      exact h0 (decide_eq_false g)
  · rw [List.nil_append]
    exact q zs _ hz (fun p hp => of_decide_eq_true (List.mem_filter.mp hp).2) (Nat.le_trans (List.length_filter_le _ _) lp) fun p hp => wp p (List.mem_filter.mp hp).1
def sp_all_groups : DSp := fun ds P => ∃ ns : List Str, ds = [.lst (ns.map D.str)] ∧ ns.length ≤ 4 ∧ (∀ z ∈ ns, NameOk z) ∧ P (.lst ((grps ns).map fun S => (rs S).d))
def d_all_groups : TDS := (sSeq (sSet 1 (dLst (aCons (dLst aNil) aNil)))
  (sSeq (sFor (iSeq (dV 0)) (gNm 2) (sSet 1 (dO2 bAdd (dV 1) (dLc (iSeq (dV 1)) (gNm 3) tYesD (dO2 bAdd (dV 3) (dLst (aCons (dV 2) aNil))) [3]))))
  (sRet (dLc (iSeq (dV 1)) (gNm 3) (dT (dO2 (bEqN true) (dV 3) (dLst aNil))) (dTup (aCons (dC (.str "raise")) (aCons (dV 3) aNil))) [3]))))
theorem ln_all_groups {ds : List D} {P : D → Prop} (h : sp_all_groups ds P) : ds.length = 1 := by obtain ⟨_, rfl, _⟩ := h; rfl
def ordE (p : List Str) : D := .lst (p.map D.str)
theorem rd_all_groups {ds : List D} {P : D → Prop} (h : sp_all_groups ds P) : d_all_groups (fin false P) (st 4 ds) := by
  obtain ⟨ns, rfl, l4, nn, q⟩ := h
  have two : ∀ n, n ≤ 4 → 2 ^ n ≤ 2 ^ 4 := fun n h => Nat.pow_le_pow_right (by decide) h
  simp only [d_all_groups, dC, dV, dB, dO2, ob_some, dT, dAndT, dOrT, dNotT, dIf, dAndV, dOrV, dNotV, dChain, aNil, aCons, dTup, dLst, dCut, oNone, oSome, dRev, dNeg, dTru, dCa, dIs, dIsA, dCall, dCallK, sNil, sSeq, sNever, sBrk, sCont, sIf, sRet, sRetO, sRetE, sSet, sSetO, sDrop, sPar, sPar3, kn, enOf, owD, sAsg, gNm, gsNil, gsCons, gTp, sApp, sIns, sExt, sClr, sRev, sPut, sFrz, owAt, fin, st, iRng, iRngB, iSeq, lstD, tupD, sFor, dLc, dDc, wipeE, tYesD, dIndex, dSort, dDictZip, dMeth, dFld, dMk, List.map_cons, List.map_nil, List.length_cons, List.length_nil, List.replicate_succ, List.replicate_zero, List.cons_append, List.nil_append, List.append_nil, List.getElem?_cons_zero, List.getElem?_cons_succ, List.set_cons_zero, List.set_cons_succ, Option.bind_some, Option.map_some, Nat.reduceSub, Nat.reduceAdd, kwP, List.getD_cons_zero, List.getD_cons_succ]
  refine ⟨by decide, by decide, .inl (loop_all D.str ns (fun pre env => ∃ e2 e3, env = [.fz (.lst (ns.map D.str)), .fz (.lst ((subs pre).map ordE)), e2, e3]) ⟨_, _, rfl⟩ (fun pre z post env ee h k hk => ?_) (fun env h => ?_))⟩
  · obtain ⟨e2, e3, rfl⟩ := h
    have lp : pre.length ≤ 4 := by have := congrArg List.length ee; simp at this; omega
    have sl := subs_len pre
    have t2 := two _ lp
    simp only [dC, dV, dB, dO2, ob_some, dT, dAndT, dOrT, dNotT, dIf, dAndV, dOrV, dNotV, dChain, aNil, aCons, dTup, dLst, dCut, oNone, oSome, dRev, dNeg, dTru, dCa, dIs, dIsA, dCall, dCallK, sNil, sSeq, sNever, sBrk, sCont, sIf, sRet, sRetO, sRetE, sSet, sSetO, sDrop, sPar, sPar3, kn, enOf, owD, sAsg, gNm, gsNil, gsCons, gTp, sApp, sIns, sExt, sClr, sRev, sPut, sFrz, owAt, fin, st, iRng, iRngB, iSeq, lstD, tupD, sFor, dLc, dDc, wipeE, tYesD, dIndex, dSort, dDictZip, dMeth, dFld, dMk, List.map_cons, List.map_nil, List.length_cons, List.length_nil, List.replicate_succ, List.replicate_zero, List.cons_append, List.nil_append, List.append_nil, List.getElem?_cons_zero, List.getElem?_cons_succ, List.set_cons_zero, List.set_cons_succ, Option.bind_some, Option.map_some, Nat.reduceSub, Nat.reduceAdd, kwP, List.getD_cons_zero, List.getD_cons_succ]
    refine .inl (comp_map ordE (fun s => ordE (s ++ [z])) (subs pre) [] (fun s hs Q Z hQ => ?_) (by simp; omega) ?_)
    · have ls := subs_sl pre s hs
      simp only [dC, dV, dB, dO2, ob_some, dT, dAndT, dOrT, dNotT, dIf, dAndV, dOrV, dNotV, dChain, aNil, aCons, dTup, dLst, dCut, oNone, oSome, dRev, dNeg, dTru, dCa, dIs, dIsA, dCall, dCallK, sNil, sSeq, sNever, sBrk, sCont, sIf, sRet, sRetO, sRetE, sSet, sSetO, sDrop, sPar, sPar3, kn, enOf, owD, sAsg, gNm, gsNil, gsCons, gTp, sApp, sIns, sExt, sClr, sRev, sPut, sFrz, owAt, fin, st, iRng, iRngB, iSeq, lstD, tupD, sFor, dLc, dDc, wipeE, tYesD, dIndex, dSort, dDictZip, dMeth, dFld, dMk, List.map_cons, List.map_nil, List.length_cons, List.length_nil, List.replicate_succ, List.replicate_zero, List.cons_append, List.nil_append, List.append_nil, List.getElem?_cons_zero, List.getElem?_cons_succ, List.set_cons_zero, List.set_cons_succ, Option.bind_some, Option.map_some, Nat.reduceSub, Nat.reduceAdd, kwP, List.getD_cons_zero, List.getD_cons_succ, ordE]
      refine ⟨by decide, ?_⟩
      rw [bAdd_l2 (by rw [List.length_map]; simp; omega), ob_some]
      have e : s.map D.str ++ [D.str z] = (s ++ [z]).map D.str := by rw [List.map_append]; rfl
      rw [e]
      exact hQ
    · rw [List.nil_append, bAdd_l2 (by rw [List.length_map, List.length_map]; omega), ob_some]
      have e : (subs pre).map ordE ++ (subs pre).map (fun s => ordE (s ++ [z])) = (subs (pre ++ [z])).map ordE := by rw [subs_snoc, List.map_append, List.map_map]; rfl
      rw [e]
      exact hk _ ⟨_, _, rfl⟩
  · obtain ⟨e2, e3, rfl⟩ := h
    have sl := subs_len ns
    have t2 := two _ l4
    simp only [dC, dV, dB, dO2, ob_some, dT, dAndT, dOrT, dNotT, dIf, dAndV, dOrV, dNotV, dChain, aNil, aCons, dTup, dLst, dCut, oNone, oSome, dRev, dNeg, dTru, dCa, dIs, dIsA, dCall, dCallK, sNil, sSeq, sNever, sBrk, sCont, sIf, sRet, sRetO, sRetE, sSet, sSetO, sDrop, sPar, sPar3, kn, enOf, owD, sAsg, gNm, gsNil, gsCons, gTp, sApp, sIns, sExt, sClr, sRev, sPut, sFrz, owAt, fin, st, iRng, iRngB, iSeq, lstD, tupD, sFor, dLc, dDc, wipeE, tYesD, dIndex, dSort, dDictZip, dMeth, dFld, dMk, List.map_cons, List.map_nil, List.length_cons, List.length_nil, List.replicate_succ, List.replicate_zero, List.cons_append, List.nil_append, List.append_nil, List.getElem?_cons_zero, List.getElem?_cons_succ, List.set_cons_zero, List.set_cons_succ, Option.bind_some, Option.map_some, Nat.reduceSub, Nat.reduceAdd, kwP, List.getD_cons_zero, List.getD_cons_succ]
    refine .inl (comp_filter ordE (fun S => (rs S).d) (fun s => !decide (s = [])) (subs ns) [] (fun s hs Q Z h1 h0 => ?_) (by simp; omega) ?_)
    · have so : ∀ z ∈ s, NameOk z := fun z hz => nn z (subs_sub ns s hs z hz)
      simp only [dC, dV, dB, dO2, ob_some, dT, dAndT, dOrT, dNotT, dIf, dAndV, dOrV, dNotV, dChain, aNil, aCons, dTup, dLst, dCut, oNone, oSome, dRev, dNeg, dTru, dCa, dIs, dIsA, dCall, dCallK, sNil, sSeq, sNever, sBrk, sCont, sIf, sRet, sRetO, sRetE, sSet, sSetO, sDrop, sPar, sPar3, kn, enOf, owD, sAsg, gNm, gsNil, gsCons, gTp, sApp, sIns, sExt, sClr, sRev, sPut, sFrz, owAt, fin, st, iRng, iRngB, iSeq, lstD, tupD, sFor, dLc, dDc, wipeE, tYesD, dIndex, dSort, dDictZip, dMeth, dFld, dMk, List.map_cons, List.map_nil, List.length_cons, List.length_nil, List.replicate_succ, List.replicate_zero, List.cons_append, List.nil_append, List.append_nil, List.getElem?_cons_zero, List.getElem?_cons_succ, List.set_cons_zero, List.set_cons_succ, Option.bind_some, Option.map_some, Nat.reduceSub, Nat.reduceAdd, kwP, List.getD_cons_zero, List.getD_cons_succ]
      refine ⟨by decide, beq_ob (n := 1) (by decide) (sh_names so) rfl (fun e => ?_) (fun e => ?_)⟩
      · have : s = [] := by
          cases s with
          | nil => rfl
          | cons a s => simp [ordE] at e
        exact h0 (by simp [this])
      · have : s ≠ [] := fun z => e (by rw [z]; rfl)
        refine ⟨by decide, ?_⟩
        have := h1 (by simp [this])
        rw [mvT_d] at this
        exact this
    · rw [List.nil_append]
      exact q
end DL
namespace DL
open PySem PySem.Spec PyProof.Rows L2 RK
def ordT (p : List Str) : D := .tup (p.map D.str)
def ko (p : List Str) : List Key := p.map Sum.inr
theorem tk_ko (p : List Str) : tkD (ko p) = ordT p := by unfold tkD ko ordT; rw [List.map_map]; rfl
theorem ko_inj {a b : List Str} (h : ko a = ko b) : a = b := by
  unfold ko at h
  induction a generalizing b with
  | nil => cases b with
    | nil => rfl
    | cons _ _ => cases h
  | cons x a ih => cases b with
    | nil => cases h
    | cons y b =>
      rw [List.map_cons, List.map_cons] at h
      injection h with h1 h2
      injection h1 with h1
      rw [h1, ih h2]
theorem alk (a b : List Str) : PySem.W.alike (encT (ko a)) (encT (ko b)) = true := by
  have key : ∀ a b : List Str, PySem.W.alikeAll ((ko a).map kP) ((ko b).map kP) = true := by
    intro a
    induction a with
    | nil => intro b; simp [ko, PySem.W.alikeAll]
    | cons x a ih =>
      intro b
      cases b with
      | nil => simp [ko, PySem.W.alikeAll]
      | cons y b =>
        have := ih b
        show (PySem.W.alike (.str x) (.str y) && PySem.W.alikeAll ((ko a).map kP) ((ko b).map kP)) = true
        rw [this]
        simp [PySem.W.alike]
  show PySem.W.alike (.tuple _) (.tuple _) = true
  rw [PySem.W.alike]
  exact key a b
theorem ko_list : ∀ {ys : List (List Key)}, (∀ y ∈ ys, ∃ k, y = ko k) → ∃ KL : List (List Str), ys = KL.map ko
  | [], _ => ⟨[], rfl⟩
  | y :: ys, h => by
    obtain ⟨k, rfl⟩ := h y List.mem_cons_self
    obtain ⟨KL, rfl⟩ := ko_list fun z hz => h z (List.mem_cons_of_mem _ hz)
    exact ⟨k :: KL, rfl⟩
def d_rf : TDS := (sSet 6 (dO2 bAdd (dV 6) (dLc (iSeq (dV 1)) (gNm 7) tYesD (dCa tupleD (aCons (dO2 bIx (dCall sp_afterM (aCons dEmp (aCons (dCa listD (aCons (dV 5) aNil)) (aCons (dLst (aCons (dV 7) aNil)) aNil)))) (dC (.int 1))) aNil)) [7])))
def ltr (ns : List Str) (KL : List (List Str)) : List (List Str) := KL.flatMap fun k => (grps ns).map fun S => stO k (rs S)
theorem rd_rf {ns os k : List Str} {L : List (List Str)} (l4 : ns.length ≤ 4) (lk : k.length ≤ 4) (lL : L.length ≤ 1000) {PP : DEnds} {e0 e2 e3 e4 e7 : En}
    (hk : PP.nx [e0, .fz (.lst ((grps ns).map fun S => (rs S).d)), e2, e3, e4, .fz (ordT k), .fz (.lst ((L ++ (grps ns).map fun S => stO k (rs S)).map ordT)), e7]) :
    d_rf PP [e0, .fz (.lst ((grps ns).map fun S => (rs S).d)), e2, e3, e4, .fz (ordT k), .fz (.lst (L.map ordT)), e7] := by
  have lg : (grps ns).length ≤ 16 := by
    have h1 := List.length_filter_le (fun s => !decide (s = [])) (subs ns)
    rw [subs_len] at h1
    exact Nat.le_trans h1 (Nat.le_trans (Nat.pow_le_pow_right (by decide) l4) (by decide))
  simp only [d_rf, dC, dV, dB, dO2, ob_some, dT, dAndT, dOrT, dNotT, dIf, dAndV, dOrV, dNotV, dChain, aNil, aCons, dTup, dLst, dCut, oNone, oSome, dRev, dNeg, dTru, dCa, dIs, dIsA, dCall, dCallK, sNil, sSeq, sNever, sBrk, sCont, sIf, sRet, sRetO, sRetE, sSet, sSetO, sDrop, sPar, sPar3, kn, enOf, owD, sAsg, gNm, gsNil, gsCons, gTp, sApp, sIns, sExt, sClr, sRev, sPut, sFrz, owAt, fin, st, iRng, iRngB, iSeq, lstD, tupD, sFor, dLc, dDc, wipeE, tYesD, dIndex, dSort, dDictZip, dMeth, dFld, dMk, List.map_cons, List.map_nil, List.length_cons, List.length_nil, List.replicate_succ, List.replicate_zero, List.cons_append, List.nil_append, List.append_nil, List.getElem?_cons_zero, List.getElem?_cons_succ, List.set_cons_zero, List.set_cons_succ, Option.bind_some, Option.map_some, Nat.reduceSub, Nat.reduceAdd, kwP, List.getD_cons_zero, List.getD_cons_succ, dEmp]
  refine .inl (comp_map (fun S => (rs S).d) (fun S => ordT (stO k (rs S))) (grps ns) [] (fun S hS Q Z hQ => ?_) (by simp; omega) ?_)
  · have ls : listD [ordT k] = some (.lst (k.map D.str)) := rfl
    have x1 : ∀ y, bIx (.tup [.dic [], y]) (.int 1) = some y := fun y => bIx_tp (j := 1) rfl
    simp only [dC, dV, dB, dO2, ob_some, dT, dAndT, dOrT, dNotT, dIf, dAndV, dOrV, dNotV, dChain, aNil, aCons, dTup, dLst, dCut, oNone, oSome, dRev, dNeg, dTru, dCa, dIs, dIsA, dCall, dCallK, sNil, sSeq, sNever, sBrk, sCont, sIf, sRet, sRetO, sRetE, sSet, sSetO, sDrop, sPar, sPar3, kn, enOf, owD, sAsg, gNm, gsNil, gsCons, gTp, sApp, sIns, sExt, sClr, sRev, sPut, sFrz, owAt, fin, st, iRng, iRngB, iSeq, lstD, tupD, sFor, dLc, dDc, wipeE, tYesD, dIndex, dSort, dDictZip, dMeth, dFld, dMk, List.map_cons, List.map_nil, List.length_cons, List.length_nil, List.replicate_succ, List.replicate_zero, List.cons_append, List.nil_append, List.append_nil, List.getElem?_cons_zero, List.getElem?_cons_succ, List.set_cons_zero, List.set_cons_succ, Option.bind_some, Option.map_some, Nat.reduceSub, Nat.reduceAdd, kwP, List.getD_cons_zero, List.getD_cons_succ, ls]
    refine ⟨by decide, _, k, [rs S], rfl, .inl rfl, by omega, fun s hs => ⟨S, List.mem_singleton.mp hs⟩, ?_⟩
    show ob (bIx (.tup [.dic [], .lst ((aftO k [rs S]).map D.str)]) (.int 1)) _
    rw [x1, ob_some]
    exact hQ
  · rw [List.nil_append, bAdd_l2 (by rw [List.length_map, List.length_map]; omega), ob_some]
    have e : L.map ordT ++ (grps ns).map (fun S => ordT (stO k (rs S))) = (L ++ (grps ns).map fun S => stO k (rs S)).map ordT := by rw [List.map_append, List.map_map]; rfl
    rw [e]
    exact hk
def d_rb : TDS := (sSeq (sSet 6 (dLst aNil))
  (sSeq (sFor (iSeq (dV 3)) (gNm 5) (sSet 6 (dO2 bAdd (dV 6) (dLc (iSeq (dV 1)) (gNm 7) tYesD (dCa tupleD (aCons (dO2 bIx (dCall sp_afterM (aCons dEmp (aCons (dCa listD (aCons (dV 5) aNil)) (aCons (dLst (aCons (dV 7) aNil)) aNil)))) (dC (.int 1))) aNil)) [7]))))
  (sPar 3 4 false false (dSoSet (dO2 bAdd (dV 3) (dV 6))) (dO2 bAdd (dV 4) (dC (.int 1))))))
theorem rb_eq : d_rb = sSeq (sSet 6 (dLst aNil)) (sSeq (sFor (iSeq (dV 3)) (gNm 5) d_rf) (sPar 3 4 false false (dSoSet (dO2 bAdd (dV 3) (dV 6))) (dO2 bAdd (dV 4) (dC (.int 1))))) := rfl
theorem rd_rb {ns os : List Str} {KL : List (List Str)} {r : Nat} (l4 : ns.length ≤ 4) (lo : os.length ≤ 4) (on : os ≠ []) (K : Kn (grps ns) os r KL) {PP : DEnds} {e0 e2 e5 e6 e7 : En}
    (hk : ∀ KL' e5 e6, Kn (grps ns) os (r + 1) KL' → PP.nx [e0, .fz (.lst ((grps ns).map fun S => (rs S).d)), e2, .fz (.lst (KL'.map ordT)), .fz (.int ((r + 1 : Nat) : Int)), e5, e6, e7]) :
    d_rb PP [e0, .fz (.lst ((grps ns).map fun S => (rs S).d)), e2, .fz (.lst (KL.map ordT)), .fz (.int (r : Nat)), e5, e6, e7] := by
  have lK := kn_len K lo
  have lg : (grps ns).length ≤ 16 := by
    have h1 := List.length_filter_le (fun s => !decide (s = [])) (subs ns)
    rw [subs_len] at h1
    exact Nat.le_trans h1 (Nat.le_trans (Nat.pow_le_pow_right (by decide) l4) (by decide))
  have pk : ∀ k ∈ KL, k.Perm os := fun k hk => let ⟨_, _, q⟩ := (K.mem k).mp hk; q.perm
  have hF := fun (k : List Str) (L : List (List Str)) lk lL PP (e3 e4 : En) hk => rd_rf (ns := ns) (os := os) (k := k) (L := L) (e0 := e0) (e2 := e2) (e3 := e3) (e4 := e4) (e7 := e7) (PP := PP) l4 lk lL hk
  rw [rb_eq]
  generalize d_rf = RF at hF ⊢
  simp only [dC, dV, dB, dO2, ob_some, dT, dAndT, dOrT, dNotT, dIf, dAndV, dOrV, dNotV, dChain, aNil, aCons, dTup, dLst, dCut, oNone, oSome, dRev, dNeg, dTru, dCa, dIs, dIsA, dCall, dCallK, sNil, sSeq, sNever, sBrk, sCont, sIf, sRet, sRetO, sRetE, sSet, sSetO, sDrop, sPar, sPar3, kn, enOf, owD, sAsg, gNm, gsNil, gsCons, gTp, sApp, sIns, sExt, sClr, sRev, sPut, sFrz, owAt, fin, st, iRng, iRngB, iSeq, lstD, tupD, sFor, dLc, dDc, wipeE, tYesD, dIndex, dSort, dDictZip, dMeth, dFld, dMk, List.map_cons, List.map_nil, List.length_cons, List.length_nil, List.replicate_succ, List.replicate_zero, List.cons_append, List.nil_append, List.append_nil, List.getElem?_cons_zero, List.getElem?_cons_succ, List.set_cons_zero, List.set_cons_succ, Option.bind_some, Option.map_some, Nat.reduceSub, Nat.reduceAdd, kwP, List.getD_cons_zero, List.getD_cons_succ]
  have lbd : ∀ pre : List (List Str), pre.length ≤ 24 → (ltr ns pre).length ≤ 24 * 16 := fun pre h => by
    have := flat_bdm (l := pre) (f := fun k => (grps ns).map fun S => stO k (rs S)) (m := 16) fun k _ => by rw [List.length_map]; exact lg
    exact Nat.le_trans this (Nat.mul_le_mul_right 16 h)
  refine ⟨by decide, .inl (loop_all ordT KL (fun pre env => ∃ e5, env = [e0, .fz (.lst ((grps ns).map fun S => (rs S).d)), e2, .fz (.lst (KL.map ordT)), .fz (.int (r : Nat)), e5, .fz (.lst ((ltr ns pre).map ordT)), e7]) ⟨_, rfl⟩ (fun pre k post env e h q hq => ?_) (fun env h => ?_))⟩
  · obtain ⟨f5, rfl⟩ := h
    have hin : k ∈ KL := by rw [e]; simp
    have lp : pre.length ≤ 24 := by have := congrArg List.length e; simp at this; omega
    have lb := lbd pre lp
    simp only [dC, dV, dB, dO2, ob_some, dT, dAndT, dOrT, dNotT, dIf, dAndV, dOrV, dNotV, dChain, aNil, aCons, dTup, dLst, dCut, oNone, oSome, dRev, dNeg, dTru, dCa, dIs, dIsA, dCall, dCallK, sNil, sSeq, sNever, sBrk, sCont, sIf, sRet, sRetO, sRetE, sSet, sSetO, sDrop, sPar, sPar3, kn, enOf, owD, sAsg, gNm, gsNil, gsCons, gTp, sApp, sIns, sExt, sClr, sRev, sPut, sFrz, owAt, fin, st, iRng, iRngB, iSeq, lstD, tupD, sFor, dLc, dDc, wipeE, tYesD, dIndex, dSort, dDictZip, dMeth, dFld, dMk, List.map_cons, List.map_nil, List.length_cons, List.length_nil, List.replicate_succ, List.replicate_zero, List.cons_append, List.nil_append, List.append_nil, List.getElem?_cons_zero, List.getElem?_cons_succ, List.set_cons_zero, List.set_cons_succ, Option.bind_some, Option.map_some, Nat.reduceSub, Nat.reduceAdd, kwP, List.getD_cons_zero, List.getD_cons_succ]
    have e9 : ltr ns (pre ++ [k]) = ltr ns pre ++ (grps ns).map fun S => stO k (rs S) := by unfold ltr; rw [List.flatMap_append, List.flatMap_cons, List.flatMap_nil, List.append_nil]
    rw [e9] at hq
    exact hF k (ltr ns pre) (by rw [(pk k hin).length_eq]; exact lo) (by omega) _ _ _ (hq _ ⟨_, rfl⟩)
  · obtain ⟨f5, rfl⟩ := h
    have lb := lbd KL lK
    simp only [dC, dV, dB, dO2, ob_some, dT, dAndT, dOrT, dNotT, dIf, dAndV, dOrV, dNotV, dChain, aNil, aCons, dTup, dLst, dCut, oNone, oSome, dRev, dNeg, dTru, dCa, dIs, dIsA, dCall, dCallK, sNil, sSeq, sNever, sBrk, sCont, sIf, sRet, sRetO, sRetE, sSet, sSetO, sDrop, sPar, sPar3, kn, enOf, owD, sAsg, gNm, gsNil, gsCons, gTp, sApp, sIns, sExt, sClr, sRev, sPut, sFrz, owAt, fin, st, iRng, iRngB, iSeq, lstD, tupD, sFor, dLc, dDc, wipeE, tYesD, dIndex, dSort, dDictZip, dMeth, dFld, dMk, List.map_cons, List.map_nil, List.length_cons, List.length_nil, List.replicate_succ, List.replicate_zero, List.cons_append, List.nil_append, List.append_nil, List.getElem?_cons_zero, List.getElem?_cons_succ, List.set_cons_zero, List.set_cons_succ, Option.bind_some, Option.map_some, Nat.reduceSub, Nat.reduceAdd, kwP, List.getD_cons_zero, List.getD_cons_succ, dSoSet]
    rw [bAdd_l2 (by rw [List.length_map, List.length_map]; omega), ob_some, ← List.map_append]
    have pl : ∀ k ∈ KL ++ ltr ns KL, k.Perm os := fun k hk => by
      rcases List.mem_append.mp hk with h | h
      · exact pk k h
      · obtain ⟨k', h1, h2⟩ := List.mem_flatMap.mp h
        obtain ⟨S, _, rfl⟩ := List.mem_map.mp h2
        exact (o_perm _ _).trans (pk k' h1)
    have ck : ∀ k ∈ (KL ++ ltr ns KL).map ko, ∃ k', k' ∈ KL ++ ltr ns KL ∧ k = ko k' := fun k hk => by
      obtain ⟨k', h1, rfl⟩ := List.mem_map.mp hk
      exact ⟨k', h1, rfl⟩
    refine ⟨(KL ++ ltr ns KL).map ko, (pms os).map ko, by rw [List.map_map]; exact List.map_congr_left fun k _ => (tk_ko k).symm, fun k hk => ?_, fun k hk j hj => ?_, fun k hk => ?_, ?_, fun ys nd mm _ => ?_⟩
    · obtain ⟨k', h1, rfl⟩ := ck k hk
      intro z
      have := (pl k' h1).length_eq
      have z' : k' = [] := by
        cases k' with
        | nil => rfl
        | cons _ _ => cases z
      rw [z'] at this
      exact on (List.eq_nil_of_length_eq_zero this.symm)
    · obtain ⟨k', _, rfl⟩ := ck k hk
      obtain ⟨j', _, rfl⟩ := ck j hj
      exact alk k' j'
    · obtain ⟨k', h1, rfl⟩ := ck k hk
      exact List.mem_map.mpr ⟨k', pms_mem (pl k' h1), rfl⟩
    · rw [List.length_map]
      have := pms_four lo
      omega
    · obtain ⟨KL', rfl⟩ := ko_list fun y hy => let ⟨k, _, e⟩ := ck y ((mm y).mp hy); ⟨k, e⟩
      have mk : ∀ (M : List (List Str)) k, ko k ∈ M.map ko ↔ k ∈ M := fun M k => by
        rw [List.mem_map]
        exact ⟨fun ⟨x, h1, h2⟩ => ko_inj h2 ▸ h1, fun h => ⟨k, h, rfl⟩⟩
      have KK : Kn (grps ns) os (r + 1) KL' := kn_step K (by
        rw [List.nodup_iff_pairwise_ne] at nd ⊢
        exact List.Pairwise.imp (fun {a b} (h : ko a ≠ ko b) (e : a = b) => h (congrArg ko e)) (List.pairwise_map.mp nd)) fun k => by
        have := mm (ko k)
        rw [mk, mk] at this
        exact this
      have e1 : (KL'.map ko).map tkD = KL'.map ordT := by rw [List.map_map]; exact List.map_congr_left fun k _ => tk_ko k
      rw [e1]
      exact hk KL' _ _ KK
def sp_rounds : DSp := fun ds P => ∃ ns os ps N k, ds = [.lst (os.map D.str), .lst ((grps ns).map fun S => (rs S).d), .lst (ps.map pairD)] ∧ ns.length ≤ 4 ∧ os.length ≤ 4 ∧ os ≠ [] ∧ ps.length ≤ 1000 ∧ (∀ p ∈ ps, p.1 ∈ os ∧ p.2 ∈ os) ∧ Rc (grps ns) os N k ∧ Keeps ps k ∧
  ∀ n : Nat, (∃ j k, j ≤ n ∧ Rc (grps ns) os j k ∧ Keeps ps k) → (∀ j k, Rc (grps ns) os j k → Keeps ps k → n ≤ j) → P (.int (n : Int))
def d_rounds : TDS := (sSeq (sPar 3 4 false false (dLst (aCons (dCa tupleD (aCons (dV 0) aNil)) aNil)) (dC (.int 0)))
  (sSeq (sWhile (dNotT (dT (dCa anyD (aCons (dLc (iSeq (dV 3)) (gNm 5) tYesD (dCall sp_keepsM (aCons (dCa listD (aCons (dV 5) aNil)) (aCons (dV 2) aNil))) [5]) aNil)))) (sSeq (sSet 6 (dLst aNil))
  (sSeq (sFor (iSeq (dV 3)) (gNm 5) (sSet 6 (dO2 bAdd (dV 6) (dLc (iSeq (dV 1)) (gNm 7) tYesD (dCa tupleD (aCons (dO2 bIx (dCall sp_afterM (aCons dEmp (aCons (dCa listD (aCons (dV 5) aNil)) (aCons (dLst (aCons (dV 7) aNil)) aNil)))) (dC (.int 1))) aNil)) [7]))))
  (sPar 3 4 false false (dSoSet (dO2 bAdd (dV 3) (dV 6))) (dO2 bAdd (dV 4) (dC (.int 1)))))))
  (sRet (dV 4))))
def cond38 : TDT := (dNotT (dT (dCa anyD (aCons (dLc (iSeq (dV 3)) (gNm 5) tYesD (dCall sp_keepsM (aCons (dCa listD (aCons (dV 5) aNil)) (aCons (dV 2) aNil))) [5]) aNil))))
theorem rounds_eq : d_rounds = sSeq (sPar 3 4 false false (dLst (aCons (dCa tupleD (aCons (dV 0) aNil)) aNil)) (dC (.int 0))) (sSeq (sWhile cond38 d_rb) (sRet (dV 4))) := rfl
theorem ln_rounds {ds : List D} {P : D → Prop} (h : sp_rounds ds P) : ds.length = 3 := by obtain ⟨_, _, _, _, _, rfl, _⟩ := h; rfl
theorem rd_rounds {ds : List D} {P : D → Prop} (h : sp_rounds ds P) : d_rounds (fin false P) (st 8 ds) := by
  obtain ⟨ns, os, ps, N, kN, rfl, l4, lo, on, lp, pm, rN, kpN, q⟩ := h
  have tp : tupleD [.lst (os.map D.str)] = some (ordT os) := rfl
  rw [rounds_eq]
  have hB := fun (KL : List (List Str)) (r : Nat) K PP (e0 e2 e5 e6 e7 : En) hk => rd_rb (ns := ns) (os := os) (KL := KL) (r := r) (e0 := e0) (e2 := e2) (e5 := e5) (e6 := e6) (e7 := e7) (PP := PP) l4 lo on K hk
  generalize d_rb = RB at hB ⊢
  simp only [dC, dV, dB, dO2, ob_some, dT, dAndT, dOrT, dNotT, dIf, dAndV, dOrV, dNotV, dChain, aNil, aCons, dTup, dLst, dCut, oNone, oSome, dRev, dNeg, dTru, dCa, dIs, dIsA, dCall, dCallK, sNil, sSeq, sNever, sBrk, sCont, sIf, sRet, sRetO, sRetE, sSet, sSetO, sDrop, sPar, sPar3, kn, enOf, owD, sAsg, gNm, gsNil, gsCons, gTp, sApp, sIns, sExt, sClr, sRev, sPut, sFrz, owAt, fin, st, iRng, iRngB, iSeq, lstD, tupD, sFor, dLc, dDc, wipeE, tYesD, dIndex, dSort, dDictZip, dMeth, dFld, dMk, List.map_cons, List.map_nil, List.length_cons, List.length_nil, List.replicate_succ, List.replicate_zero, List.cons_append, List.nil_append, List.append_nil, List.getElem?_cons_zero, List.getElem?_cons_succ, List.set_cons_zero, List.set_cons_succ, Option.bind_some, Option.map_some, Nat.reduceSub, Nat.reduceAdd, kwP, List.getD_cons_zero, List.getD_cons_succ, tp, sWhile]
  refine ⟨by decide, fun m env => ∃ (r : Nat) (KL : List (List Str)) (e5 e6 : En), m = N - r ∧ r ≤ N ∧ Kn (grps ns) os r KL ∧ (∀ j k, Rc (grps ns) os j k → Keeps ps k → r ≤ j) ∧ env = [.fz (.lst (os.map D.str)), .fz (.lst ((grps ns).map fun S => (rs S).d)), .fz (.lst (ps.map pairD)), .fz (.lst (KL.map ordT)), .fz (.int (r : Nat)), e5, e6, .no], ⟨_, 0, [os], _, _, rfl, Nat.zero_le _, kn_zero _ _, fun _ _ _ _ => Nat.zero_le _, rfl⟩, ?_⟩
  rintro m env ⟨r, KL, e5, e6, rfl, rN', K, lo', rfl⟩
  have lK := kn_len K lo
  have pk : ∀ k ∈ KL, k.Perm os := fun k hk => let ⟨_, _, q⟩ := (K.mem k).mp hk; q.perm
  simp only [cond38, dC, dV, dB, dO2, ob_some, dT, dAndT, dOrT, dNotT, dIf, dAndV, dOrV, dNotV, dChain, aNil, aCons, dTup, dLst, dCut, oNone, oSome, dRev, dNeg, dTru, dCa, dIs, dIsA, dCall, dCallK, sNil, sSeq, sNever, sBrk, sCont, sIf, sRet, sRetO, sRetE, sSet, sSetO, sDrop, sPar, sPar3, kn, enOf, owD, sAsg, gNm, gsNil, gsCons, gTp, sApp, sIns, sExt, sClr, sRev, sPut, sFrz, owAt, fin, st, iRng, iRngB, iSeq, lstD, tupD, sFor, dLc, dDc, wipeE, tYesD, dIndex, dSort, dDictZip, dMeth, dFld, dMk, List.map_cons, List.map_nil, List.length_cons, List.length_nil, List.replicate_succ, List.replicate_zero, List.cons_append, List.nil_append, List.append_nil, List.getElem?_cons_zero, List.getElem?_cons_succ, List.set_cons_zero, List.set_cons_succ, Option.bind_some, Option.map_some, Nat.reduceSub, Nat.reduceAdd, kwP, List.getD_cons_zero, List.getD_cons_succ]
  refine .inl (comp_map ordT (fun k => D.bl (kpB k ps)) KL [] (fun k hk Q Z hQ => ?_) (by simp; omega) ?_)
  · have ls : listD [ordT k] = some (.lst (k.map D.str)) := rfl
    simp only [dC, dV, dB, dO2, ob_some, dT, dAndT, dOrT, dNotT, dIf, dAndV, dOrV, dNotV, dChain, aNil, aCons, dTup, dLst, dCut, oNone, oSome, dRev, dNeg, dTru, dCa, dIs, dIsA, dCall, dCallK, sNil, sSeq, sNever, sBrk, sCont, sIf, sRet, sRetO, sRetE, sSet, sSetO, sDrop, sPar, sPar3, kn, enOf, owD, sAsg, gNm, gsNil, gsCons, gTp, sApp, sIns, sExt, sClr, sRev, sPut, sFrz, owAt, fin, st, iRng, iRngB, iSeq, lstD, tupD, sFor, dLc, dDc, wipeE, tYesD, dIndex, dSort, dDictZip, dMeth, dFld, dMk, List.map_cons, List.map_nil, List.length_cons, List.length_nil, List.replicate_succ, List.replicate_zero, List.cons_append, List.nil_append, List.append_nil, List.getElem?_cons_zero, List.getElem?_cons_succ, List.set_cons_zero, List.set_cons_succ, Option.bind_some, Option.map_some, Nat.reduceSub, Nat.reduceAdd, kwP, List.getD_cons_zero, List.getD_cons_succ, ls]
    exact ⟨k, ps, rfl, by omega, fun p hp => ⟨(pk k hk).mem_iff.mpr (pm p hp).1, (pk k hk).mem_iff.mpr (pm p hp).2⟩, hQ⟩
  · rw [List.nil_append, anyD_f]
    simp only [ob_some]
    cases ha : KL.any fun k => kpB k ps with
    | true =>
      obtain ⟨k, hk, kk⟩ := List.any_eq_true.mp ha
      obtain ⟨j, hj, q'⟩ := (K.mem k).mp hk
      simp only [Bool.not_true, Bool.false_eq_true, if_false]
      exact q r ⟨j, k, hj, q', kpB_iff.mp kk⟩ lo'
    | false =>
      have no : ∀ k ∈ KL, ¬ Keeps ps k := fun k hk z => by
        have := List.any_eq_false.mp ha k hk
        rw [kpB_iff.mpr z] at this
        exact this rfl
      have lo2 : ∀ j k, Rc (grps ns) os j k → Keeps ps k → r + 1 ≤ j := fun j k h1 h2 => by
        have := lo' j k h1 h2
        rcases Nat.lt_or_ge r j with g | g
        · exact g
        · exact absurd h2 (no k ((K.mem k).mpr ⟨j, g, h1⟩))
      have := lo2 N kN rN kpN
      simp only [Bool.not_false, if_true]
      exact hB KL r K _ _ _ _ _ _ fun KL' f5 f6 K' => ⟨N - (r + 1), by omega, r + 1, KL', f5, f6, rfl, this, K', lo2, rfl⟩
end DL
namespace DL
open PySem PySem.Spec PyProof.Rows L2 RK
end DL
namespace DL
open PySem PySem.Spec PyProof.Rows L2 RK
end DL
namespace DL
open PySem PySem.Spec PyProof.Rows L2 RK
end DL
namespace DL
open PySem PySem.Spec PyProof.Rows L2 RK
def smI : Nat → D → Bool
  | _, .int i => decide (i.natAbs < 10 ^ 12)
  | n + 1, .lst xs => xs.all (smI n)
  | n + 1, .tup xs => xs.all (smI n)
  | _, .str _ => true
  | _, .non => true
  | _, _ => false
theorem log_small {m : Nat} (h : m < 10 ^ 12) : m.log2 < 40 := by
  rcases Nat.eq_zero_or_pos m with e | e
  · rw [e]; decide
  · exact (Nat.log2_lt (by omega)).mpr (Nat.lt_of_lt_of_le h (by decide))
theorem show_sm : ∀ (n : Nat) (x : D), sh n x = true → smI n x = true → (toP x).showable = true ∧ (toP x).intsShort 13 = true := by
  have leafI : ∀ i : Int, decide (i.natAbs < 10 ^ 12) = true → (PyData.int i).showable = true ∧ (PyData.int i).intsShort 13 = true := fun i h => by
    have h' := of_decide_eq_true h
    have := log_small h'
    exact ⟨by rw [PyData.showable]; exact decide_eq_true (by omega), by rw [PyData.intsShort]; exact decide_eq_true (PyData.shown_int_le h')⟩
  have leaf : ∀ x : D, (∀ xs, x ≠ .lst xs) → (∀ xs, x ≠ .tup xs) → ∀ n, sh n x = true → smI n x = true → (toP x).showable = true ∧ (toP x).intsShort 13 = true := by
    intro x h1 h2 n hs hm
    cases x with
    | non => exact ⟨by rw [toP, PyData.showable], by rw [toP, PyData.intsShort]⟩
    | str z => exact ⟨by rw [toP, PyData.showable], by rw [toP, PyData.intsShort]⟩
    | int i =>
      rw [toP]
      exact leafI i (by cases n <;> exact hm)
    | lst xs => exact absurd rfl (h1 xs)
    | tup xs => exact absurd rfl (h2 xs)
    | _ => cases n <;> cases hs
  intro n
  induction n with
  | zero =>
    intro x hs hm
    refine leaf x (fun xs e => ?_) (fun xs e => ?_) 0 hs hm
    · subst e; cases hs
    · subst e; cases hs
  | succ n ih =>
    have all : ∀ xs : List D, xs.all (sh n) = true → xs.all (smI n) = true → PyData.showableAll (toPA xs) = true ∧ PyData.intsShortAll 13 (toPA xs) = true := by
      intro xs
      induction xs with
      | nil => intro _ _; exact ⟨by rw [toPA, PyData.showableAll], by rw [toPA, PyData.intsShortAll]⟩
      | cons y ys ih2 =>
        intro h1 h2
        rw [List.all_cons, Bool.and_eq_true] at h1 h2
        have a := ih y h1.1 h2.1
        have b := ih2 h1.2 h2.2
        exact ⟨by rw [toPA, PyData.showableAll, a.1, b.1]; rfl, by rw [toPA, PyData.intsShortAll, a.2, b.2]; rfl⟩
    intro x hs hm
    by_cases e1 : ∃ xs, x = .lst xs
    · obtain ⟨xs, rfl⟩ := e1
      have := all xs hs hm
      exact ⟨by rw [toP, PyData.showable]; exact this.1, by rw [toP, PyData.intsShort]; exact this.2⟩
    · by_cases e2 : ∃ xs, x = .tup xs
      · obtain ⟨xs, rfl⟩ := e2
        have := all xs hs hm
        exact ⟨by rw [toP, PyData.showable]; exact this.1, by rw [toP, PyData.intsShort]; exact this.2⟩
      · exact leaf x (fun xs e => e1 ⟨xs, e⟩) (fun xs e => e2 ⟨xs, e⟩) (n + 1) hs hm
theorem wt_all {B : Nat} : ∀ {xs : List D}, (∀ x ∈ xs, (toP x).weight ≤ B) → PyData.weightAll (toPA xs) ≤ xs.length * (B + 1)
  | [], _ => by rw [toPA, PyData.weightAll]; exact Nat.zero_le _
  | x :: xs, h => by
    rw [toPA, PyData.weightAll, List.length_cons, Nat.add_mul, Nat.one_mul]
    have h1 := h x List.mem_cons_self
    have h2 := wt_all fun y hy => h y (List.mem_cons_of_mem _ hy)
    omega
end DL
namespace DL
open PySem PySem.Spec PyProof.Rows L2 RK
end DL
namespace DL
open PySem PySem.Spec PyProof.Rows L2 RK
end DL
namespace DL
open PySem PySem.Spec PyProof.Rows L2 RK
end DL
namespace DL
open PySem PySem.Spec PyProof.Rows L2 RK
end DL
namespace DL
open PySem PySem.Spec PyProof.Rows L2 RK
end DL
namespace DL
open PySem PySem.Spec PyProof.Rows L2 RK
end DL
namespace DL
open PySem PySem.Spec PyProof.Rows L2 RK
end DL
namespace DL
open PySem PySem.Spec PyProof.Rows L2 RK
end DL
namespace DL
open PySem PySem.Spec PyProof.Rows L2 RK
end DL
namespace DL
open PySem PySem.Spec PyProof.Rows L2 RK
structure HnOk (RN : TDE) : Prop where
  h : ∀ (ws : List Win) (r : De) (Q : D → Prop), ws.length ≤ 100 → Q (.int ((ws.length * 2 + 2 : Nat) : Int)) → RN (.fz (winD ws) :: r) Q
end DL
namespace DL
open PySem PySem.Spec PyProof.Rows L2 RK
theorem wt_int {i : Int} (h : i.natAbs < 10 ^ 12) : (PyData.int i).weight ≤ 40 := by
  have := log_small h
  rw [PyData.weight]
  split <;> omega
theorem wt_name {z : Str} (h : NameOk z) : (PyData.str z).weight ≤ 6 := by
  rw [PyData.weight]
  exact h.2.1
theorem wt_names {zs : List Str} (h : ∀ z ∈ zs, NameOk z) : PyData.weightAll (toPA (zs.map D.str)) ≤ zs.length * 7 := by
  have := wt_all (B := 6) (xs := zs.map D.str) fun x hx => by
    obtain ⟨z, hz, rfl⟩ := List.mem_map.mp hx
    rw [toP]
    exact wt_name (h z hz)
  rw [List.length_map] at this
  exact this
theorem step_small {nm : List Str} (no : ∀ z ∈ nm, NameOk z) {s : Sc} (h : s.isRp = false ∧ Rt nm s) : sh 2 s.d = true ∧ smI 2 s.d = true ∧ (toP s.d).weight ≤ 7100 := by
  obtain ⟨h0, h⟩ := h
  cases h with
  | @mv up ns g =>
    have nn : ∀ z ∈ ns, NameOk z := fun z hz => no z (g.2.2.1 z hz)
    have so : PyData.strOk (Sc.mv up ns).word = true := by
      cases up
      · show PyData.strOk "lower" = true
        decide +kernel
      · show PyData.strOk "raise" = true
        decide +kernel
    have wl : (PyData.str (Sc.mv up ns).word).weight ≤ 10 := by
      cases up
      · show (PyData.str "lower").weight ≤ 10
        decide +kernel
      · show (PyData.str "raise").weight ≤ 10
        decide +kernel
    rw [mv_d]
    refine ⟨?_, ?_, ?_⟩
    · show (PyData.strOk (Sc.mv up ns).word && (sh 1 (.lst (ns.map D.str)) && true)) = true
      rw [so, sh_names nn]
      rfl
    · show (true && ((ns.map D.str).all (smI 0) && true)) = true
      have : (ns.map D.str).all (smI 0) = true := by
        rw [List.all_eq_true]
        intro x hx
        obtain ⟨z, hz, rfl⟩ := List.mem_map.mp hx
        rfl
      rw [this]
      rfl
    · have w := wt_names nn
      have l := g.2.2.2
      simp only [toP, toPA, PyData.weight, PyData.weightAll] at w wl ⊢
      omega
  | @pl n r g1 g2 =>
    have hn := no _ g1
    have so : PyData.strOk "place" = true := by decide +kernel
    have wl : (PyData.str "place").weight ≤ 10 := by decide +kernel
    have wn := wt_name hn
    have sn := name_ok hn
    obtain ⟨b1, b2, b3, b4, b5, b6, b7, b8, _, _⟩ := g2
    have q : (10 : Nat) ^ 12 = 1000000000000 := by decide
    have i1 : r.l.natAbs < 10 ^ 12 := by rw [q]; omega
    have i2 : r.t.natAbs < 10 ^ 12 := by rw [q]; omega
    have i3 : r.r.natAbs < 10 ^ 12 := by rw [q]; omega
    have i4 : r.b.natAbs < 10 ^ 12 := by rw [q]; omega
    have ed : (Sc.pl n r).d = .tup [.str "place", .str n, .tup [.int r.l, .int r.t, .int r.r, .int r.b]] := rfl
    rw [ed]
    refine ⟨?_, ?_, ?_⟩
    · show (PyData.strOk "place" && (PyData.strOk n && (true && true))) = true
      rw [so, sn]
      rfl
    · show (true && (true && ((decide (r.l.natAbs < 10 ^ 12) && (decide (r.t.natAbs < 10 ^ 12) && (decide (r.r.natAbs < 10 ^ 12) && (decide (r.b.natAbs < 10 ^ 12) && true)))) && true))) = true
      rw [decide_eq_true i1, decide_eq_true i2, decide_eq_true i3, decide_eq_true i4]
      rfl
    · have w1 := wt_int i1
      have w2 := wt_int i2
      have w3 := wt_int i3
      have w4 := wt_int i4
      simp only [toP, toPA, PyData.weightAll]
      rw [PyData.weight]
      simp only [PyData.weightAll]
      have e4 : (PyData.tuple [PyData.int r.l, PyData.int r.t, PyData.int r.r, PyData.int r.b]).weight = (PyData.int r.l).weight + 1 + ((PyData.int r.t).weight + 1 + ((PyData.int r.r).weight + 1 + ((PyData.int r.b).weight + 1 + 0))) := by
        rw [PyData.weight]
        simp only [PyData.weightAll]
      rw [e4]
      omega
  | rp => cases h0
theorem steps_small {nm : List Str} (no : ∀ z ∈ nm, NameOk z) {ss : List Sc} (pp : Plain nm ss) (hl : ss.length ≤ 100) : sh 3 (.lst (ss.map Sc.d)) = true ∧ smI 3 (.lst (ss.map Sc.d)) = true ∧ (toP (.lst (ss.map Sc.d))).weight ≤ 2 ^ 20 := by
  refine ⟨?_, ?_, ?_⟩
  · show (ss.map Sc.d).all (sh 2) = true
    rw [List.all_eq_true]
    intro x hx
    obtain ⟨s, hs, rfl⟩ := List.mem_map.mp hx
    exact (step_small no (pp s hs)).1
  · show (ss.map Sc.d).all (smI 2) = true
    rw [List.all_eq_true]
    intro x hx
    obtain ⟨s, hs, rfl⟩ := List.mem_map.mp hx
    exact (step_small no (pp s hs)).2.1
  · have := wt_all (B := 7100) (xs := ss.map Sc.d) fun x hx => by
      obtain ⟨s, hs, rfl⟩ := List.mem_map.mp hx
      exact (step_small no (pp s hs)).2.2
    rw [List.length_map] at this
    have h2 : ss.length * (7100 + 1) ≤ 100 * 7101 := Nat.mul_le_mul hl (by decide)
    rw [toP, PyData.weight]
    have e : (2 : Nat) ^ 20 = 1048576 := by decide
    omega
end DL
namespace DL
open PySem PySem.Spec PyProof.Rows L2 RK
theorem wt_tup (xs : List PyData) : (PyData.tuple xs).weight = PyData.weightAll xs := by rw [PyData.weight]
theorem wt_lst (xs : List PyData) : (PyData.list xs).weight = PyData.weightAll xs := by rw [PyData.weight]
theorem wtA_cons (x : PyData) (xs : List PyData) : PyData.weightAll (x :: xs) = x.weight + 1 + PyData.weightAll xs := by rw [PyData.weightAll]
theorem wtA_nil : PyData.weightAll [] = 0 := by rw [PyData.weightAll]
end DL
namespace DL
open PySem PySem.Spec PyProof.Rows L2 RK
end DL
namespace DL
open PySem PySem.Spec PyProof.Rows L2 RK
theorem step24 {nm : List Str} (no : ∀ z ∈ nm, NameOk z) (l24 : nm.length ≤ 24) {s : Sc} (h : s.isRp = false ∧ Rt nm s) : (toP s.d).weight ≤ 300 := by
  obtain ⟨h0, h⟩ := h
  cases h with
  | @mv up ns g =>
    have nn : ∀ z ∈ ns, NameOk z := fun z hz => no z (g.2.2.1 z hz)
    have wl : (PyData.str (Sc.mv up ns).word).weight ≤ 10 := by
      cases up
      · show (PyData.str "lower").weight ≤ 10
        decide +kernel
      · show (PyData.str "raise").weight ≤ 10
        decide +kernel
    rw [mv_d]
    have w := wt_names nn
    have l := sub_lenS g.2.1 g.2.2.1
    simp only [toP, toPA, PyData.weight, PyData.weightAll] at w wl ⊢
    omega
  | @pl n r g1 g2 =>
    have hn := no _ g1
    have so : PyData.strOk "place" = true := by decide +kernel
    have wl : (PyData.str "place").weight ≤ 10 := by decide +kernel
    have wn := wt_name hn
    have sn := name_ok hn
    obtain ⟨b1, b2, b3, b4, b5, b6, b7, b8, _, _⟩ := g2
    have q : (10 : Nat) ^ 12 = 1000000000000 := by decide
    have i1 : r.l.natAbs < 10 ^ 12 := by rw [q]; omega
    have i2 : r.t.natAbs < 10 ^ 12 := by rw [q]; omega
    have i3 : r.r.natAbs < 10 ^ 12 := by rw [q]; omega
    have i4 : r.b.natAbs < 10 ^ 12 := by rw [q]; omega
    have ed : (Sc.pl n r).d = .tup [.str "place", .str n, .tup [.int r.l, .int r.t, .int r.r, .int r.b]] := rfl
    rw [ed]
    have w1 := wt_int i1
    have w2 := wt_int i2
    have w3 := wt_int i3
    have w4 := wt_int i4
    simp only [toP, toPA, PyData.weightAll]
    rw [PyData.weight]
    simp only [PyData.weightAll]
    have e4 : (PyData.tuple [PyData.int r.l, PyData.int r.t, PyData.int r.r, PyData.int r.b]).weight = (PyData.int r.l).weight + 1 + ((PyData.int r.t).weight + 1 + ((PyData.int r.r).weight + 1 + ((PyData.int r.b).weight + 1 + 0))) := by
      rw [PyData.weight]
      simp only [PyData.weightAll]
    rw [e4]
    omega
  | rp => cases h0
theorem repr_obG {n : Nat} {xs : List D} {P : D → Prop} (hn : n ≤ 60) (hs : sh n (.tup xs) = true) (hm : smI n (.tup xs) = true) (hw : (toP (.tup xs)).weight ≤ 2 ^ 20) (q : P (.str (toP (.tup xs)).shown)) : pRepr (.tup xs) P := by
  obtain ⟨e, c, d⟩ := sh_py n _ hs
  obtain ⟨s1, s2⟩ := show_sm n _ hs hm
  unfold pRepr
  rw [e]
  have ly : PyData.layable0 (toP (.tup xs)) = true := by
    unfold PyData.layable0
    rw [c, decide_eq_true (show (toP (.tup xs)).depth ≤ 64 by omega), decide_eq_true hw]
    rfl
  exact ⟨s1, PyData.hasDict_of_canLay _ c, by omega, Nat.le_trans (shown_le13 ly s2) (by rw [sizeLine_eq]; decide), q⟩
end DL
namespace DL
open PySem PySem.Spec PyProof.Rows L2 RK
theorem rp_st {nm : List Str} (no : ∀ z ∈ nm, NameOk z) (l24 : nm.length ≤ 24) {ps : List Sc} {c : List Str} (pp : Plain nm ps) (lp : ps.length ≤ 100) (hc : ∀ z ∈ c, z ∈ nm) (lc : c.length ≤ 100) : ∃ u : Str, ∀ P : D → Prop, P (.str u) → rpN (.tup [.str "steps", .lst (ps.map Sc.d), .lst (c.map D.str)]) P := by
  have nn : ∀ z ∈ c, NameOk z := fun z h => no z (hc z h)
  have so : PyData.strOk "steps" = true := by decide +kernel
  have w1 : (PyData.str "steps").weight ≤ 12 := by decide +kernel
  refine ⟨_, fun P q => repr_obG (n := 4) (by decide) ?_ ?_ ?_ q⟩
  · show (PyData.strOk "steps" && (sh 3 (.lst (ps.map Sc.d)) && (sh 3 (.lst (c.map D.str)) && true))) = true
    rw [so, (steps_small no pp lp).1, sh_names nn]
    rfl
  · show (true && (smI 3 (.lst (ps.map Sc.d)) && ((c.map D.str).all (smI 2) && true))) = true
    rw [(steps_small no pp lp).2.1]
    have : (c.map D.str).all (smI 2) = true := by
      rw [List.all_eq_true]
      intro x hx
      obtain ⟨z, hz, rfl⟩ := List.mem_map.mp hx
      rfl
    rw [this]
    rfl
  · have a1 := wt_all (B := 300) (xs := ps.map Sc.d) fun x hx => by
      obtain ⟨s, hs, rfl⟩ := List.mem_map.mp hx
      exact step24 no l24 (pp s hs)
    rw [List.length_map] at a1
    have a2 : ps.length * (300 + 1) ≤ 100 * 301 := Nat.mul_le_mul lp (by decide)
    have a3 := wt_names nn
    have e : (2 : Nat) ^ 20 = 1048576 := by decide
    simp only [toP, toPA, wt_tup, wt_lst, wtA_cons, wtA_nil]
    omega
theorem bneS3 {n : Nat} {x : D} (hn : n ≤ 64) (h : sh n x = true) : bEqN true x x = some (.bl false) := by
  obtain ⟨b, e, hb⟩ := beq_iff (neg := true) hn h h
  rw [e, hb.mpr rfl]
  rfl
theorem ss_ne (z : Str) : bEqN true (.str z) (.str z) = some (.bl false) := by rw [bNe_s, decide_eq_true rfl]; rfl
theorem ClnR.cl {os : List Str} {h : Str → Nat} {b : List SP} {m : Nat} {c : List Str} (x : ClnR os h b m c) : Cln os h b m c := ⟨x.1, fun hm => by
  obtain ⟨z, y1, c0, _, r⟩ := x.2 hm
  exact ⟨z, y1, c0, r⟩⟩
structure Tn (ns os bs : List Str) (ps : List SP) (n : Nat) : Prop where
  l4 : ns.length ≤ 4
  ne : ns ≠ []
  nd : ns.Nodup
  nn : ∀ z ∈ ns, NameOk z
  po : os.Perm ns
  pb : bs.Perm ns
  kb : Keeps ps bs
  lp : ps.length ≤ 100
  wp : WsOk ns ps
  ex : ∃ j k, j ≤ n ∧ Rc (grps ns) os j k ∧ Keeps ps k
  lo : ∀ j k, Rc (grps ns) os j k → Keeps ps k → n ≤ j
theorem Tn.wo {ns os bs : List Str} {ps : List SP} {n : Nat} (t : Tn ns os bs ps n) : ∀ p ∈ ps, p.1 ∈ os ∧ p.2 ∈ os ∧ p.1 ≠ p.2 := fun p hp => ⟨t.po.mem_iff.mpr (t.wp p hp).1, t.po.mem_iff.mpr (t.wp p hp).2.1, (t.wp p hp).2.2⟩
theorem Tn.on {ns os bs : List Str} {ps : List SP} {n : Nat} (t : Tn ns os bs ps n) : os ≠ [] := fun z => by
  have := t.po.length_eq
  rw [z] at this
  exact t.ne (List.eq_nil_of_length_eq_zero this.symm)
theorem Tn.n4 {ns os bs : List Str} {ps : List SP} {n : Nat} (t : Tn ns os bs ps n) : n ≤ 4 := by
  have h := t.lo _ _ (rc_steps (ones bs) (ones_ok fun z hz => t.pb.mem_iff.mp hz)) (ones_keeps (t.pb.nodup_iff.mpr t.nd) t.wo (fun z hz => t.pb.mem_iff.mpr (t.po.mem_iff.mp hz)) t.kb)
  have e : (ones bs).length = bs.length := List.length_map _
  have := t.pb.length_eq
  have := t.l4
  omega
theorem Tn.bits {ns os bs : List Str} {ps : List SP} {n m : Nat} {h : Str → Nat} {b : List SP} {c : List Str} (t : Tn ns os bs ps n) (T : Hts os (lsOf os ps) h b) (M : MaxH os h m) (C : Cln os h b m c) : (srt os h m).length = n ∧ RsOk ns (srt os h m) ∧ Keeps ps (aftO os (srt os h m)) := by
  have nd := t.po.nodup_iff.mpr t.nd
  have lo : os.length ≤ 1000 := by have := t.po.length_eq; have := t.l4; omega
  have K := srt_keeps T M t.wo
  have R : RsOk ns (srt os h m) := fun s hs => by
    obtain ⟨ys, e, a, b, c, d⟩ := srt_rs T C nd lo s hs
    exact ⟨ys, e, a, b, c, fun z hz => t.po.mem_iff.mp (d z hz)⟩
  refine ⟨?_, R, K⟩
  have h1 := t.lo _ _ (rc_steps _ R) K
  obtain ⟨j, k, hj, r, kk⟩ := t.ex
  have h2 := rc_bits t.wo r kk T M
  have h3 := srt_len os h m
  omega
theorem Tn.gp {ns os bs : List Str} {ps : List SP} {n : Nat} (t : Tn ns os bs ps n) {o e : D} (ho : IsSeq o os) (he : IsPrs e ps) {P : D → Prop}
    (hk : ∀ h b m c, HB (lsOf os ps) h b → Hts os (lsOf os ps) h b → MaxH os h m → ClnR os h b m c → P (.tup [.str "steps", .lst ((srt os h m).map Sc.d), .lst (c.map D.str)])) : sp_group_planN [o, e] P := by
  have l := t.po.length_eq
  have l4 := t.l4
  exact ⟨o, e, os, ps, bs, rfl, ho, he, t.on, by omega, t.po.nodup_iff.mpr t.nd, by have := t.lp; omega, fun z hz => t.nn z (t.po.mem_iff.mp hz), t.wo, t.pb.trans t.po.symm, t.kb, fun h b m c hb T _ M C => hk h b m c hb T M C⟩
def d_ba : TDS := (sSeq (sSet 9 (dCall sp_group_planN (aCons (dV 4) (aCons (dV 5) aNil))))
  (sIfY (dOrT (dNotT (dT (dIs "tuple" (dV 9)))) (dOrT (dT (dO2 (bEqN true) (dCa lenD (aCons (dV 9) aNil)) (dC (.int 3)))) (dOrT (dT (dO2 (bEqN true) (dO2 bIx (dV 9) (dC (.int 0))) (dC (.str "steps")))) (dNotT (dT (dCall sp_steps_are (aCons (dO2 bIx (dV 9) (dC (.int 1))) (aCons (dLst (aCons (dC (.str "raise")) (aCons (dC (.str "lower")) aNil))) (aCons (dV 3) aNil))))))))) (sRet (dC (.bl false)))
  (sIfY (dOrT (dT (dO2 (bEqN true) (dCa lenD (aCons (dO2 bIx (dV 9) (dC (.int 1))) aNil)) (dV 6))) (dOrT (dNotT (dT (dCall sp_keepsM (aCons (dO2 bIx (dCall sp_afterM (aCons dEmp (aCons (dV 4) (aCons (dO2 bIx (dV 9) (dC (.int 1))) aNil)))) (dC (.int 1))) (aCons (dV 5) aNil))))) (dT (dO2 (bEqN true) (dV 5) (dV 7))))) (sRet (dC (.bl false)))
  (sMutY 9 1 sNil))))
theorem rd_ba {ns os bs : List Str} {ps : List SP} {n : Nat} (t : Tn ns os bs ps n) {PP : DEnds} {e0 e2 e8 e9 : En}
    (hk : PP.nx [e0, .fz .bag, e2, .fz (.lst (ns.map D.str)), .fz (.lst (os.map D.str)), .fz (.lst (ps.map pairD)), .fz (.int (n : Nat)), .fz (.lst (ps.map pairD)), e8, .no]) :
    d_ba PP [e0, .fz .bag, e2, .fz (.lst (ns.map D.str)), .fz (.lst (os.map D.str)), .fz (.lst (ps.map pairD)), .fz (.int (n : Nat)), .fz (.lst (ps.map pairD)), e8, e9] := by
  have l := t.po.length_eq
  have l4 := t.l4
  have lp := t.lp
  simp only [d_ba, dC, dV, dB, dO2, ob_some, dT, dAndT, dOrT, dNotT, dIf, dAndV, dOrV, dNotV, dChain, aNil, aCons, dTup, dLst, dCut, oNone, oSome, dRev, dNeg, dTru, dCa, dIs, dIsA, dCall, dCallK, sNil, sSeq, sNever, sBrk, sCont, sIf, sRet, sRetO, sRetE, sSet, sSetO, sDrop, sPar, sPar3, kn, enOf, owD, sAsg, gNm, gsNil, gsCons, gTp, sApp, sIns, sExt, sClr, sRev, sPut, sFrz, owAt, fin, st, iRng, iRngB, iSeq, lstD, tupD, sFor, dLc, dDc, wipeE, tYesD, dIndex, dSort, dDictZip, dMeth, dFld, dMk, List.map_cons, List.map_nil, List.length_cons, List.length_nil, List.replicate_succ, List.replicate_zero, List.cons_append, List.nil_append, List.append_nil, List.getElem?_cons_zero, List.getElem?_cons_succ, List.set_cons_zero, List.set_cons_succ, Option.bind_some, Option.map_some, Nat.reduceSub, Nat.reduceAdd, kwP, List.getD_cons_zero, List.getD_cons_succ, sIfY, sMutY]
  refine t.gp (.inl rfl) (.inl rfl) fun h b m c hb T M C => ?_
  obtain ⟨b1, b2, b3⟩ := t.bits T M C.cl
  have i1 : isD "tuple" (.tup [.str "steps", .lst ((srt os h m).map Sc.d), .lst (c.map D.str)]) = some true := rfl
  have x0 : bIx (.tup [.str "steps", .lst ((srt os h m).map Sc.d), .lst (c.map D.str)]) (.int 0) = some (.str "steps") := rfl
  have x1 : bIx (.tup [.str "steps", .lst ((srt os h m).map Sc.d), .lst (c.map D.str)]) (.int 1) = some (.lst ((srt os h m).map Sc.d)) := rfl
  have ln : lenD [.tup [.str "steps", .lst ((srt os h m).map Sc.d), .lst (c.map D.str)]] = some (.int 3) := rfl
  have q3 : bEqN true (.int 3) (.int 3) = some (.bl false) := bneS3 (n := 0) (by decide) rfl
  have qn : bEqN true (.int (n : Nat)) (.int (n : Nat)) = some (.bl false) := bneS3 (n := 0) (by decide) rfl
  have qs := ss_ne "steps"
  have ls : lenD [.lst ((srt os h m).map Sc.d)] = some (.int (n : Nat)) := by
    show some (D.int ((((srt os h m).map Sc.d).length : Nat) : Int)) = _
    rw [List.length_map, b1]
  have pok : ∀ p ∈ ps, Pok p := fun p hp => ⟨name_ok (t.nn _ (t.wp p hp).1), name_ok (t.nn _ (t.wp p hp).2.1)⟩
  have qp : bEqN true (.lst (ps.map pairD)) (.lst (ps.map pairD)) = some (.bl false) := bneS3 (n := 2) (by decide) (sh_poks pok)
  have x2 : ∀ y, bIx (.tup [.dic [], y]) (.int 1) = some y := fun y => bIx_tp (j := 1) rfl
  have pa := aftO_perm (srt os h m) os
  simp only [dC, dV, dB, dO2, ob_some, dT, dAndT, dOrT, dNotT, dIf, dAndV, dOrV, dNotV, dChain, aNil, aCons, dTup, dLst, dCut, oNone, oSome, dRev, dNeg, dTru, dCa, dIs, dIsA, dCall, dCallK, sNil, sSeq, sNever, sBrk, sCont, sIf, sRet, sRetO, sRetE, sSet, sSetO, sDrop, sPar, sPar3, kn, enOf, owD, sAsg, gNm, gsNil, gsCons, gTp, sApp, sIns, sExt, sClr, sRev, sPut, sFrz, owAt, fin, st, iRng, iRngB, iSeq, lstD, tupD, sFor, dLc, dDc, wipeE, tYesD, dIndex, dSort, dDictZip, dMeth, dFld, dMk, List.map_cons, List.map_nil, List.length_cons, List.length_nil, List.replicate_succ, List.replicate_zero, List.cons_append, List.nil_append, List.append_nil, List.getElem?_cons_zero, List.getElem?_cons_succ, List.set_cons_zero, List.set_cons_succ, Option.bind_some, Option.map_some, Nat.reduceSub, Nat.reduceAdd, kwP, List.getD_cons_zero, List.getD_cons_succ, i1, x0, x1, ln, q3, qs, ls, qn, qp, ob_some, Bool.not_true, Bool.false_eq_true, if_false]
  have n4 := t.n4
  refine ⟨by decide, srt os h m, ns, rfl, by rw [← List.length_map (f := Sc.d)] ; simp only [List.length_map]; omega, b2, ?_⟩
  simp only [Bool.not_true, Bool.false_eq_true, if_false, ls, qn, ob_some, dC, dV, dB, dO2, ob_some, dT, dAndT, dOrT, dNotT, dIf, dAndV, dOrV, dNotV, dChain, aNil, aCons, dTup, dLst, dCut, oNone, oSome, dRev, dNeg, dTru, dCa, dIs, dIsA, dCall, dCallK, sNil, sSeq, sNever, sBrk, sCont, sIf, sRet, sRetO, sRetE, sSet, sSetO, sDrop, sPar, sPar3, kn, enOf, owD, sAsg, gNm, gsNil, gsCons, gTp, sApp, sIns, sExt, sClr, sRev, sPut, sFrz, owAt, fin, st, iRng, iRngB, iSeq, lstD, tupD, sFor, dLc, dDc, wipeE, tYesD, dIndex, dSort, dDictZip, dMeth, dFld, dMk, List.map_cons, List.map_nil, List.length_cons, List.length_nil, List.replicate_succ, List.replicate_zero, List.cons_append, List.nil_append, List.append_nil, List.getElem?_cons_zero, List.getElem?_cons_succ, List.set_cons_zero, List.set_cons_succ, Option.bind_some, Option.map_some, Nat.reduceSub, Nat.reduceAdd, kwP, List.getD_cons_zero, List.getD_cons_succ, dEmp]
  refine ⟨.lst (os.map D.str), os, srt os h m, rfl, .inl rfl, by omega, fun s hs => let ⟨ys, e, _⟩ := b2 s hs; ⟨ys, e⟩, ?_⟩
  show ob (bIx (.tup [.dic [], .lst ((aftO os (srt os h m)).map D.str)]) (.int 1)) _
  rw [x2, ob_some]
  refine ⟨_, ps, rfl, by omega, fun p hp => ⟨pa.mem_iff.mpr (t.wo p hp).1, pa.mem_iff.mpr (t.wo p hp).2.1⟩, ?_⟩
  rw [kpB_iff.mpr b3]
  simp only [Bool.not_true, Bool.false_eq_true, if_false, qp, ob_some, dC, dV, dB, dO2, ob_some, dT, dAndT, dOrT, dNotT, dIf, dAndV, dOrV, dNotV, dChain, aNil, aCons, dTup, dLst, dCut, oNone, oSome, dRev, dNeg, dTru, dCa, dIs, dIsA, dCall, dCallK, sNil, sSeq, sNever, sBrk, sCont, sIf, sRet, sRetO, sRetE, sSet, sSetO, sDrop, sPar, sPar3, kn, enOf, owD, sAsg, gNm, gsNil, gsCons, gTp, sApp, sIns, sExt, sClr, sRev, sPut, sFrz, owAt, fin, st, iRng, iRngB, iSeq, lstD, tupD, sFor, dLc, dDc, wipeE, tYesD, dIndex, dSort, dDictZip, dMeth, dFld, dMk, List.map_cons, List.map_nil, List.length_cons, List.length_nil, List.replicate_succ, List.replicate_zero, List.cons_append, List.nil_append, List.append_nil, List.getElem?_cons_zero, List.getElem?_cons_succ, List.set_cons_zero, List.set_cons_succ, Option.bind_some, Option.map_some, Nat.reduceSub, Nat.reduceAdd, kwP, List.getD_cons_zero, List.getD_cons_succ]
  exact ⟨⟨_, _, rfl, rfl⟩, hk⟩
def d_lf : TDS := (sIf (dT (dO2 (bEqN true) (dReprN (dCallK sp_group_planN [1, 0] (aCons (dCa tupleD (aCons (dV 5) aNil)) (aCons (dCa tupleD (aCons (dV 4) aNil)) aNil)))) (dReprN (dCall sp_group_planN (aCons (dV 4) (aCons (dV 5) aNil)))))) (sRet (dC (.bl false))) sNil)
theorem rd_lf {ns os bs : List Str} {ps : List SP} {n : Nat} (t : Tn ns os bs ps n) {PP : DEnds} {e0 e2 e3 e6 e7 e8 e9 : En}
    (hk : PP.nx [e0, .fz .bag, e2, e3, .fz (.lst (os.map D.str)), .fz (.lst (ps.map pairD)), e6, e7, e8, e9]) :
    d_lf PP [e0, .fz .bag, e2, e3, .fz (.lst (os.map D.str)), .fz (.lst (ps.map pairD)), e6, e7, e8, e9] := by
  have l := t.po.length_eq
  have l4 := t.l4
  have n4 := t.n4
  have no : ∀ z ∈ os, NameOk z := fun z hz => t.nn z (t.po.mem_iff.mp hz)
  have t1 : tupleD [.lst (ps.map pairD)] = some (.tup (ps.map pairD)) := rfl
  have t2 : tupleD [.lst (os.map D.str)] = some (.tup (os.map D.str)) := rfl
  simp only [d_lf, dC, dV, dB, dO2, ob_some, dT, dAndT, dOrT, dNotT, dIf, dAndV, dOrV, dNotV, dChain, aNil, aCons, dTup, dLst, dCut, oNone, oSome, dRev, dNeg, dTru, dCa, dIs, dIsA, dCall, dCallK, sNil, sSeq, sNever, sBrk, sCont, sIf, sRet, sRetO, sRetE, sSet, sSetO, sDrop, sPar, sPar3, kn, enOf, owD, sAsg, gNm, gsNil, gsCons, gTp, sApp, sIns, sExt, sClr, sRev, sPut, sFrz, owAt, fin, st, iRng, iRngB, iSeq, lstD, tupD, sFor, dLc, dDc, wipeE, tYesD, dIndex, dSort, dDictZip, dMeth, dFld, dMk, List.map_cons, List.map_nil, List.length_cons, List.length_nil, List.replicate_succ, List.replicate_zero, List.cons_append, List.nil_append, List.append_nil, List.getElem?_cons_zero, List.getElem?_cons_succ, List.set_cons_zero, List.set_cons_succ, Option.bind_some, Option.map_some, Nat.reduceSub, Nat.reduceAdd, kwP, List.getD_cons_zero, List.getD_cons_succ, dReprN, t1, t2]
  refine ⟨trivial, ?_⟩
  refine t.gp (.inr rfl) (.inr rfl) fun h b m c hb T M C => ?_
  obtain ⟨b1, b2, b3⟩ := t.bits T M C.cl
  have pl : Plain os (srt os h m) := fun s hs => by
    obtain ⟨ys, rfl, ne, nd, ly, sub⟩ := b2 s hs
    exact ⟨rfl, .mv ⟨ne, nd, fun z hz => t.po.mem_iff.mpr (sub z hz), by omega⟩⟩
  have cs : ∀ z ∈ c, z ∈ os := fun z hz => by
    by_cases hm : m = 0
    · rw [C.1 hm] at hz; cases hz
    · obtain ⟨_, _, c0, _, _, _, _, _, sub, _, rfl⟩ := C.2 hm
      exact sub z (List.mem_reverse.mp hz)
  have lc : c.length ≤ 100 := by
    by_cases hm : m = 0
    · rw [C.1 hm]; simp
    · obtain ⟨_, _, c0, _, _, _, _, nd0, sub, _, rfl⟩ := C.2 hm
      have := sub_lenS nd0 sub
      rw [List.length_reverse]
      omega
  obtain ⟨u, hu⟩ := rp_st no (by omega) pl (by omega) cs lc
  refine hu _ ?_
  refine t.gp (.inl rfl) (.inl rfl) fun h' b' m' c' hb' T' M' C' => ?_
  obtain ⟨rfl, rfl⟩ := hb.one hb'
  have em : m' = m := by
    obtain ⟨x, hx, e1⟩ := M.ex
    obtain ⟨y, hy, e2⟩ := M'.ex
    have := M.le y hy
    have := M'.le x hx
    omega
  subst em
  have ec := C.one C'
  subst ec
  refine hu _ ?_
  rw [ss_ne, ob_some]
  exact hk
def d_law : TDS := (sSeq (sFor (iRng (aCons (dC (.int 2)) aNil)) (gNm 2) (sSeq (sSet 3 (dCall sp_mixed (aCons (dV 1) (aCons (dCall sp_names (aCons (dV 1) (aCons (dO2 bAdd (dC (.int 1)) (dCall sp_pull (aCons (dV 1) (aCons (dC (.int 4)) aNil)))) aNil))) aNil))))
  (sSeq (sPar 4 5 false false (dCall sp_mixed (aCons (dV 1) (aCons (dV 3) aNil))) (dCall sp_kept_wishN (aCons (dV 1) (aCons (dV 3) (aCons (dC (.int 8)) aNil)))))
  (sSeq (sPar 6 7 false false (dCall sp_rounds (aCons (dV 4) (aCons (dCall sp_all_groups (aCons (dV 3) aNil)) (aCons (dV 5) aNil)))) (dCa listD (aCons (dV 5) aNil)))
  (sSeq (sFor (iRng (aCons (dC (.int 2)) aNil)) (gNm 8) d_ba)
  d_lf)))))
  (sRet (dC (.bl true))))
theorem rd_law : d_law { nx := fun _ => False, rt := fun x => x = .bl true } (.no :: .fz .bag :: List.replicate 8 .no) := by
  have hA := fun (ns os bs : List Str) (ps : List SP) (n : Nat) t PP (e0 e2 e8 e9 : En) hk => rd_ba (ns := ns) (os := os) (bs := bs) (ps := ps) (n := n) (e0 := e0) (e2 := e2) (e8 := e8) (e9 := e9) (PP := PP) t hk
  have hF := fun (ns os bs : List Str) (ps : List SP) (n : Nat) t PP (e0 e2 e3 e6 e7 e8 e9 : En) hk => rd_lf (ns := ns) (os := os) (bs := bs) (ps := ps) (n := n) (e0 := e0) (e2 := e2) (e3 := e3) (e6 := e6) (e7 := e7) (e8 := e8) (e9 := e9) (PP := PP) t hk
  rw [d_law]
  generalize d_ba = R1 at hA ⊢
  generalize d_lf = R2 at hF ⊢
  simp only [dC, dV, dB, dO2, ob_some, dT, dAndT, dOrT, dNotT, dIf, dAndV, dOrV, dNotV, dChain, aNil, aCons, dTup, dLst, dCut, oNone, oSome, dRev, dNeg, dTru, dCa, dIs, dIsA, dCall, dCallK, sNil, sSeq, sNever, sBrk, sCont, sIf, sRet, sRetO, sRetE, sSet, sSetO, sDrop, sPar, sPar3, kn, enOf, owD, sAsg, gNm, gsNil, gsCons, gTp, sApp, sIns, sExt, sClr, sRev, sPut, sFrz, owAt, fin, st, iRng, iRngB, iSeq, lstD, tupD, sFor, dLc, dDc, wipeE, tYesD, dIndex, dSort, dDictZip, dMeth, dFld, dMk, List.map_cons, List.map_nil, List.length_cons, List.length_nil, List.replicate_succ, List.replicate_zero, List.cons_append, List.nil_append, List.append_nil, List.getElem?_cons_zero, List.getElem?_cons_succ, List.set_cons_zero, List.set_cons_succ, Option.bind_some, Option.map_some, Nat.reduceSub, Nat.reduceAdd, kwP, List.getD_cons_zero, List.getD_cons_succ]
  refine ⟨by decide, by decide, ?_⟩
  refine loop_rng (fun _ env => ∃ e2 e3 e4 e5 e6 e7 e8 e9, env = [.no, .fz .bag, e2, e3, e4, e5, e6, e7, e8, e9]) ⟨_, _, _, _, _, _, _, _, rfl⟩ (fun turn env _ h k hk => ?_) (fun env h => ?_)
  · obtain ⟨e2, e3, e4, e5, e6, e7, e8, e9, rfl⟩ := h
    simp only [dC, dV, dB, dO2, ob_some, dT, dAndT, dOrT, dNotT, dIf, dAndV, dOrV, dNotV, dChain, aNil, aCons, dTup, dLst, dCut, oNone, oSome, dRev, dNeg, dTru, dCa, dIs, dIsA, dCall, dCallK, sNil, sSeq, sNever, sBrk, sCont, sIf, sRet, sRetO, sRetE, sSet, sSetO, sDrop, sPar, sPar3, kn, enOf, owD, sAsg, gNm, gsNil, gsCons, gTp, sApp, sIns, sExt, sClr, sRev, sPut, sFrz, owAt, fin, st, iRng, iRngB, iSeq, lstD, tupD, sFor, dLc, dDc, wipeE, tYesD, dIndex, dSort, dDictZip, dMeth, dFld, dMk, List.map_cons, List.map_nil, List.length_cons, List.length_nil, List.replicate_succ, List.replicate_zero, List.cons_append, List.nil_append, List.append_nil, List.getElem?_cons_zero, List.getElem?_cons_succ, List.set_cons_zero, List.set_cons_succ, Option.bind_some, Option.map_some, Nat.reduceSub, Nat.reduceAdd, kwP, List.getD_cons_zero, List.getD_cons_succ]
    refine ⟨_, rfl, by decide, by decide, fun r r0 r1 => ?_⟩
    have ad : ∀ i j : Int, bAdd (.int i) (.int j) = some (.int (i + j)) := fun _ _ => rfl
    show ob (bAdd (.int 1) (.int r)) _
    rw [ad, ob_some]
    refine ⟨_, rfl, by omega, by omega, fun ns0 ln nn0 nd0 => ?_⟩
    refine ⟨_, .inl rfl, by rw [List.length_map]; omega, fun os0 h0 => ?_⟩
    obtain ⟨ns, rfl, pn⟩ := perm_str h0
    have ln' := pn.length_eq
    have nd := pn.nodup_iff.mpr nd0
    have nn : ∀ z ∈ ns, NameOk z := fun z hz => nn0 z (pn.mem_iff.mp hz)
    have l4 : ns.length ≤ 4 := by omega
    have ne : ns ≠ [] := fun z => by rw [z] at ln'; simp at ln'; omega
    refine ⟨_, .inl rfl, by rw [List.length_map]; omega, fun os1 h1 => ?_⟩
    obtain ⟨os, rfl, po⟩ := perm_str h1
    have lo := po.length_eq
    refine ⟨ns, 8, rfl, ne, by omega, by decide, by decide, fun bs ps pb kb lp wp => ?_⟩
    refine ⟨ns, rfl, l4, nn, ?_⟩
    have wo : ∀ p ∈ ps, p.1 ∈ os ∧ p.2 ∈ os ∧ p.1 ≠ p.2 := fun p hp => ⟨po.mem_iff.mpr (wp p hp).1, po.mem_iff.mpr (wp p hp).2.1, (wp p hp).2.2⟩
    have on : os ≠ [] := fun z => by rw [z] at lo; exact ne (List.eq_nil_of_length_eq_zero lo.symm)
    refine ⟨ns, os, ps, _, _, rfl, l4, by omega, on, by omega, fun p hp => ⟨(wo p hp).1, (wo p hp).2.1⟩, rc_steps (ones bs) (ones_ok fun z hz => pb.mem_iff.mp hz), ones_keeps (pb.nodup_iff.mpr nd) wo (fun z hz => pb.mem_iff.mpr (po.mem_iff.mp hz)) kb, fun n ex mn => ?_⟩
    have t : Tn ns os bs ps n := ⟨l4, ne, nd, nn, po, pb, kb, lp, wp, ex, mn⟩
    have ls : listD [.lst (ps.map pairD)] = some (.lst (ps.map pairD)) := rfl
    simp only [ls, ob_some, dC, dV, dB, dO2, ob_some, dT, dAndT, dOrT, dNotT, dIf, dAndV, dOrV, dNotV, dChain, aNil, aCons, dTup, dLst, dCut, oNone, oSome, dRev, dNeg, dTru, dCa, dIs, dIsA, dCall, dCallK, sNil, sSeq, sNever, sBrk, sCont, sIf, sRet, sRetO, sRetE, sSet, sSetO, sDrop, sPar, sPar3, kn, enOf, owD, sAsg, gNm, gsNil, gsCons, gTp, sApp, sIns, sExt, sClr, sRev, sPut, sFrz, owAt, fin, st, iRng, iRngB, iSeq, lstD, tupD, sFor, dLc, dDc, wipeE, tYesD, dIndex, dSort, dDictZip, dMeth, dFld, dMk, List.map_cons, List.map_nil, List.length_cons, List.length_nil, List.replicate_succ, List.replicate_zero, List.cons_append, List.nil_append, List.append_nil, List.getElem?_cons_zero, List.getElem?_cons_succ, List.set_cons_zero, List.set_cons_succ, Option.bind_some, Option.map_some, Nat.reduceSub, Nat.reduceAdd, kwP, List.getD_cons_zero, List.getD_cons_succ]
    refine ⟨by decide, by decide, ?_⟩
    refine loop_rng (fun _ env => ∃ f8 f9, env = [.no, .fz .bag, .fz (.int (0 + (turn : Nat))), .fz (.lst (ns.map D.str)), .fz (.lst (os.map D.str)), .fz (.lst (ps.map pairD)), .fz (.int (n : Nat)), .fz (.lst (ps.map pairD)), f8, f9]) ⟨_, _, rfl⟩ (fun again env _ h k2 hk2 => ?_) (fun env h => ?_)
    · obtain ⟨f8, f9, rfl⟩ := h
      simp only [dC, dV, dB, dO2, ob_some, dT, dAndT, dOrT, dNotT, dIf, dAndV, dOrV, dNotV, dChain, aNil, aCons, dTup, dLst, dCut, oNone, oSome, dRev, dNeg, dTru, dCa, dIs, dIsA, dCall, dCallK, sNil, sSeq, sNever, sBrk, sCont, sIf, sRet, sRetO, sRetE, sSet, sSetO, sDrop, sPar, sPar3, kn, enOf, owD, sAsg, gNm, gsNil, gsCons, gTp, sApp, sIns, sExt, sClr, sRev, sPut, sFrz, owAt, fin, st, iRng, iRngB, iSeq, lstD, tupD, sFor, dLc, dDc, wipeE, tYesD, dIndex, dSort, dDictZip, dMeth, dFld, dMk, List.map_cons, List.map_nil, List.length_cons, List.length_nil, List.replicate_succ, List.replicate_zero, List.cons_append, List.nil_append, List.append_nil, List.getElem?_cons_zero, List.getElem?_cons_succ, List.set_cons_zero, List.set_cons_succ, Option.bind_some, Option.map_some, Nat.reduceSub, Nat.reduceAdd, kwP, List.getD_cons_zero, List.getD_cons_succ]
      exact hA ns os bs ps n t _ _ _ _ _ (hk2 _ ⟨_, _, rfl⟩)
    · obtain ⟨f8, f9, rfl⟩ := h
      exact hF ns os bs ps n t _ _ _ _ _ _ _ _ (hk _ ⟨_, _, _, _, _, _, _, _, rfl⟩)
  · obtain ⟨e2, e3, e4, e5, e6, e7, e8, e9, rfl⟩ := h
    exact rfl
end DL
namespace RK
open PySem PySem.Spec PyProof.Rows L2 DL
def topS (i : Nat) : Stmt := PySem.Challenge.pw_raisekeys_k38_fewest_group_steps.main.body.getD i (.Pass ⟨0, 0, 0, 0⟩)
abbrev s_DeskError___init : Stmt := inClass (topS 1) 0
abbrev s_BadWish___init : Stmt := inClass (topS 2) 0
abbrev s_check_wish : Stmt := topS 4
abbrev s_is_pair : Stmt := topS 5
abbrev s_places : Stmt := topS 6
abbrev s_settled : Stmt := topS 7
abbrev s_ring : Stmt := topS 8
abbrev s_steps_for : Stmt := topS 10
abbrev s_group_plan : Stmt := topS 11
abbrev s_heights : Stmt := topS 12
abbrev s_greatest : Stmt := topS 13
abbrev s_sorting_raises : Stmt := topS 14
abbrev s_highest_way : Stmt := topS 15
abbrev s_bag : Stmt := topS 17
abbrev s_pull : Stmt := topS 18
abbrev s_of : Stmt := topS 19
abbrev s_mixed : Stmt := topS 20
abbrev s_names : Stmt := topS 21
abbrev s_after : Stmt := topS 22
abbrev s_keeps : Stmt := topS 23
abbrev s_wish : Stmt := topS 24
abbrev s_steps_are : Stmt := topS 25
abbrev s_kept_wish : Stmt := topS 26
abbrev s_all_groups : Stmt := topS 27
abbrev s_rounds : Stmt := topS 28
abbrev s_law : Stmt := topS 29
theorem sc_check_wish : FnScope ["names", "wish", "known", "at", "item", "name"] ["names", "wish"] (defScope s_check_wish) := ⟨rfl, rfl, rfl, by decide +kernel, rfl, by decide +kernel, by decide +kernel⟩
theorem sc_is_pair : FnScope ["known", "item", "name"] ["known", "item"] (defScope s_is_pair) := ⟨rfl, rfl, rfl, by decide +kernel, rfl, by decide +kernel, by decide +kernel⟩
theorem sc_places : FnScope ["order", "at", "name"] ["order"] (defScope s_places) := ⟨rfl, rfl, rfl, by decide +kernel, rfl, by decide +kernel, by decide +kernel⟩
theorem sc_settled : FnScope ["names", "wish", "waiting", "pairs", "found", "held", "free", "low", "high", "name"] ["names", "wish"] (defScope s_settled) := ⟨rfl, rfl, rfl, by decide +kernel, rfl, by decide +kernel, by decide +kernel⟩
theorem sc_ring : FnScope ["names", "wish", "free", "lows", "held", "way", "low", "high", "name"] ["names", "wish"] (defScope s_ring) := ⟨rfl, rfl, rfl, by decide +kernel, rfl, by decide +kernel, by decide +kernel⟩
theorem sc_steps_for : FnScope ["count"] ["count"] (defScope s_steps_for) := ⟨rfl, rfl, rfl, by decide +kernel, rfl, by decide +kernel, by decide +kernel⟩
theorem sc_group_plan : FnScope ["order", "wish", "found", "place", "links", "height", "before", "low", "high"] ["order", "wish"] (defScope s_group_plan) := ⟨rfl, rfl, rfl, by decide +kernel, rfl, by decide +kernel, by decide +kernel⟩
theorem sc_heights : FnScope ["names", "links", "height", "before", "is_settled", "low", "high", "rise", "name"] ["names", "links"] (defScope s_heights) := ⟨rfl, rfl, rfl, by decide +kernel, rfl, by decide +kernel, by decide +kernel⟩
theorem sc_greatest : FnScope ["height", "name"] ["height"] (defScope s_greatest) := ⟨rfl, rfl, rfl, by decide +kernel, rfl, by decide +kernel, by decide +kernel⟩
theorem sc_sorting_raises : FnScope ["height", "most", "digit", "name"] ["height"] (defScope s_sorting_raises) := ⟨rfl, rfl, rfl, by decide +kernel, rfl, by decide +kernel, by decide +kernel⟩
theorem sc_highest_way : FnScope ["height", "before", "most", "way", "name"] ["height", "before"] (defScope s_highest_way) := ⟨rfl, rfl, rfl, by decide +kernel, rfl, by decide +kernel, by decide +kernel⟩
theorem sc_bag : FnScope ["_law_script", "_law_salt", "_law_cell"] ["_law_script"] (defScope s_bag) := ⟨rfl, rfl, rfl, by decide +kernel, rfl, by decide +kernel, by decide +kernel⟩
theorem sc_pull : FnScope ["_law_bag_here", "_law_amount", "_law_cell", "_law_got", "_law_seed"] ["_law_bag_here", "_law_amount"] (defScope s_pull) := ⟨rfl, rfl, rfl, by decide +kernel, rfl, by decide +kernel, by decide +kernel⟩
theorem sc_of : FnScope ["_law_bag_here", "_law_things"] ["_law_bag_here", "_law_things"] (defScope s_of) := ⟨rfl, rfl, rfl, by decide +kernel, rfl, by decide +kernel, by decide +kernel⟩
theorem sc_mixed : FnScope ["_law_bag_here", "_law_things", "_law_found", "_law_thing"] ["_law_bag_here", "_law_things"] (defScope s_mixed) := ⟨rfl, rfl, rfl, by decide +kernel, rfl, by decide +kernel, by decide +kernel⟩
theorem sc_names : FnScope ["_law_bag_here", "_law_count", "_law_letters", "_law_base", "_law_k", "_law_spot", "_law_first", "_law_step"] ["_law_bag_here", "_law_count"] (defScope s_names) := ⟨rfl, rfl, rfl, by decide +kernel, rfl, by decide +kernel, by decide +kernel⟩
theorem sc_after : FnScope ["_law_rects", "_law_order_z", "_law_steps", "_law_step", "_law_named", "_law_others", "_law_name"] ["_law_rects", "_law_order_z", "_law_steps"] (defScope s_after) := ⟨rfl, rfl, rfl, by decide +kernel, rfl, by decide +kernel, by decide +kernel⟩
theorem sc_keeps : FnScope ["_law_order_z", "_law_wish_z", "_law_low", "_law_high"] ["_law_order_z", "_law_wish_z"] (defScope s_keeps) := ⟨rfl, rfl, rfl, by decide +kernel, rfl, by decide +kernel, by decide +kernel⟩
theorem sc_wish : FnScope ["_law_bag_here", "_law_names_here", "_law_most", "_law_base", "_law_found", "_law_k", "_law_one", "_law_other", "_law_good"] ["_law_bag_here", "_law_names_here", "_law_most"] (defScope s_wish) := ⟨rfl, rfl, rfl, by decide +kernel, rfl, by decide +kernel, by decide +kernel⟩
theorem sc_steps_are : FnScope ["_law_steps", "_law_words", "_law_names_here", "_law_good", "_law_step", "_law_name"] ["_law_steps", "_law_words", "_law_names_here"] (defScope s_steps_are) := ⟨rfl, rfl, rfl, by decide +kernel, rfl, by decide +kernel, by decide +kernel⟩
theorem sc_kept_wish : FnScope ["_law_bag_here", "_law_names_here", "_law_most", "_law_base", "_law_low", "_law_high"] ["_law_bag_here", "_law_names_here", "_law_most"] (defScope s_kept_wish) := ⟨rfl, rfl, rfl, by decide +kernel, rfl, by decide +kernel, by decide +kernel⟩
theorem sc_all_groups : FnScope ["_law_names_here", "_law_found", "_law_name", "_law_some"] ["_law_names_here"] (defScope s_all_groups) := ⟨rfl, rfl, rfl, by decide +kernel, rfl, by decide +kernel, by decide +kernel⟩
theorem sc_rounds : FnScope ["_law_order_z", "_law_steps", "_law_wish_z", "_law_known", "_law_count", "_law_here", "_law_later", "_law_step"] ["_law_order_z", "_law_steps", "_law_wish_z"] (defScope s_rounds) := ⟨rfl, rfl, rfl, by decide +kernel, rfl, by decide +kernel, by decide +kernel⟩
theorem sc_law : FnScope ["_law_script", "_law_bag_here", "_law_turn", "_law_names_here", "_law_order_z", "_law_wish_z", "_law_due", "_law_shown", "_law_again", "_law_found"] ["_law_script"] (defScope s_law) := ⟨rfl, rfl, rfl, by decide +kernel, rfl, by decide +kernel, by decide +kernel⟩
def kwG_kb_group_plan_0_wish_order {α : Type} : List α → List α → List α
  | [], [c0, c1] => [c1, c0]
  | _, _ => []
structure Txt (K : PySem.W.Frag) (mg : Str → Option Value) where
  f_check_wish : Addr
  fd_check_wish : FuncData
  F_check_wish : Fun K "check_wish" "check_wish" s_check_wish f_check_wish fd_check_wish
  g_check_wish : mg "check_wish" = some (.ref f_check_wish)
  b_check_wish : Binds K fd_check_wish ["names", "wish"] []
  f_is_pair : Addr
  fd_is_pair : FuncData
  F_is_pair : Fun K "is_pair" "is_pair" s_is_pair f_is_pair fd_is_pair
  g_is_pair : mg "is_pair" = some (.ref f_is_pair)
  b_is_pair : Binds K fd_is_pair ["known", "item"] []
  f_places : Addr
  fd_places : FuncData
  F_places : Fun K "places" "places" s_places f_places fd_places
  g_places : mg "places" = some (.ref f_places)
  b_places : Binds K fd_places ["order"] []
  f_settled : Addr
  fd_settled : FuncData
  F_settled : Fun K "settled" "settled" s_settled f_settled fd_settled
  g_settled : mg "settled" = some (.ref f_settled)
  b_settled : Binds K fd_settled ["names", "wish"] []
  f_ring : Addr
  fd_ring : FuncData
  F_ring : Fun K "ring" "ring" s_ring f_ring fd_ring
  g_ring : mg "ring" = some (.ref f_ring)
  b_ring : Binds K fd_ring ["names", "wish"] []
  f_steps_for : Addr
  fd_steps_for : FuncData
  F_steps_for : Fun K "steps_for" "steps_for" s_steps_for f_steps_for fd_steps_for
  g_steps_for : mg "steps_for" = some (.ref f_steps_for)
  b_steps_for : Binds K fd_steps_for ["count"] []
  f_group_plan : Addr
  fd_group_plan : FuncData
  F_group_plan : Fun K "group_plan" "group_plan" s_group_plan f_group_plan fd_group_plan
  g_group_plan : mg "group_plan" = some (.ref f_group_plan)
  b_group_plan : Binds K fd_group_plan ["order", "wish"] []
  f_heights : Addr
  fd_heights : FuncData
  F_heights : Fun K "heights" "heights" s_heights f_heights fd_heights
  g_heights : mg "heights" = some (.ref f_heights)
  b_heights : Binds K fd_heights ["names", "links"] []
  f_greatest : Addr
  fd_greatest : FuncData
  F_greatest : Fun K "greatest" "greatest" s_greatest f_greatest fd_greatest
  g_greatest : mg "greatest" = some (.ref f_greatest)
  b_greatest : Binds K fd_greatest ["height"] []
  f_sorting_raises : Addr
  fd_sorting_raises : FuncData
  F_sorting_raises : Fun K "sorting_raises" "sorting_raises" s_sorting_raises f_sorting_raises fd_sorting_raises
  g_sorting_raises : mg "sorting_raises" = some (.ref f_sorting_raises)
  b_sorting_raises : Binds K fd_sorting_raises ["height"] []
  f_highest_way : Addr
  fd_highest_way : FuncData
  F_highest_way : Fun K "highest_way" "highest_way" s_highest_way f_highest_way fd_highest_way
  g_highest_way : mg "highest_way" = some (.ref f_highest_way)
  b_highest_way : Binds K fd_highest_way ["height", "before"] []
  f_bag : Addr
  fd_bag : FuncData
  F_bag : Fun K "_law_bag" "_law_bag" s_bag f_bag fd_bag
  g_bag : mg "_law_bag" = some (.ref f_bag)
  b_bag : Binds K fd_bag ["_law_script"] []
  f_pull : Addr
  fd_pull : FuncData
  F_pull : Fun K "_law_pull" "_law_pull" s_pull f_pull fd_pull
  g_pull : mg "_law_pull" = some (.ref f_pull)
  b_pull : Binds K fd_pull ["_law_bag_here", "_law_amount"] []
  f_of : Addr
  fd_of : FuncData
  F_of : Fun K "_law_of" "_law_of" s_of f_of fd_of
  g_of : mg "_law_of" = some (.ref f_of)
  b_of : Binds K fd_of ["_law_bag_here", "_law_things"] []
  f_mixed : Addr
  fd_mixed : FuncData
  F_mixed : Fun K "_law_mixed" "_law_mixed" s_mixed f_mixed fd_mixed
  g_mixed : mg "_law_mixed" = some (.ref f_mixed)
  b_mixed : Binds K fd_mixed ["_law_bag_here", "_law_things"] []
  f_names : Addr
  fd_names : FuncData
  F_names : Fun K "_law_names" "_law_names" s_names f_names fd_names
  g_names : mg "_law_names" = some (.ref f_names)
  b_names : Binds K fd_names ["_law_bag_here", "_law_count"] []
  f_after : Addr
  fd_after : FuncData
  F_after : Fun K "_law_after" "_law_after" s_after f_after fd_after
  g_after : mg "_law_after" = some (.ref f_after)
  b_after : Binds K fd_after ["_law_rects", "_law_order_z", "_law_steps"] []
  f_keeps : Addr
  fd_keeps : FuncData
  F_keeps : Fun K "_law_keeps" "_law_keeps" s_keeps f_keeps fd_keeps
  g_keeps : mg "_law_keeps" = some (.ref f_keeps)
  b_keeps : Binds K fd_keeps ["_law_order_z", "_law_wish_z"] []
  f_wish : Addr
  fd_wish : FuncData
  F_wish : Fun K "_law_wish" "_law_wish" s_wish f_wish fd_wish
  g_wish : mg "_law_wish" = some (.ref f_wish)
  b_wish : Binds K fd_wish ["_law_bag_here", "_law_names_here", "_law_most"] []
  f_steps_are : Addr
  fd_steps_are : FuncData
  F_steps_are : Fun K "_law_steps_are" "_law_steps_are" s_steps_are f_steps_are fd_steps_are
  g_steps_are : mg "_law_steps_are" = some (.ref f_steps_are)
  b_steps_are : Binds K fd_steps_are ["_law_steps", "_law_words", "_law_names_here"] []
  f_kept_wish : Addr
  fd_kept_wish : FuncData
  F_kept_wish : Fun K "_law_kept_wish" "_law_kept_wish" s_kept_wish f_kept_wish fd_kept_wish
  g_kept_wish : mg "_law_kept_wish" = some (.ref f_kept_wish)
  b_kept_wish : Binds K fd_kept_wish ["_law_bag_here", "_law_names_here", "_law_most"] []
  f_all_groups : Addr
  fd_all_groups : FuncData
  F_all_groups : Fun K "_law_all_groups" "_law_all_groups" s_all_groups f_all_groups fd_all_groups
  g_all_groups : mg "_law_all_groups" = some (.ref f_all_groups)
  b_all_groups : Binds K fd_all_groups ["_law_names_here"] []
  f_rounds : Addr
  fd_rounds : FuncData
  F_rounds : Fun K "_law_rounds" "_law_rounds" s_rounds f_rounds fd_rounds
  g_rounds : mg "_law_rounds" = some (.ref f_rounds)
  b_rounds : Binds K fd_rounds ["_law_order_z", "_law_steps", "_law_wish_z"] []
  f_law : Addr
  fd_law : FuncData
  F_law : Fun K "law" "law" s_law f_law fd_law
  g_law : mg "law" = some (.ref f_law)
  b_law : Binds K fd_law ["_law_script"] []
  kb_group_plan_0_wish_order : KBinds K fd_group_plan ["order", "wish"] ["wish", "order"] (kwG_kb_group_plan_0_wish_order (α := Value)) (kwG_kb_group_plan_0_wish_order (α := V))
  m_all : mg "all" = none
  m_any : mg "any" = none
  m_dict : mg "dict" = none
  m_enumerate : mg "enumerate" = none
  m_isinstance : mg "isinstance" = none
  m_len : mg "len" = none
  m_list : mg "list" = none
  m_max : mg "max" = none
  m_range : mg "range" = none
  m_repr : mg "repr" = none
  m_set : mg "set" = none
  m_sorted : mg "sorted" = none
  m_str : mg "str" = none
  m_tuple : mg "tuple" = none
theorem kd_kb_group_plan_0_wish_order {K : PySem.W.Frag} {N : Addr → Prop} {W : Wd} {H : Hp} {zs : List V} {es : List D} (h : DdAll K N W H zs es) (hl : es.length = 2) : DdAll K N W H (kwG_kb_group_plan_0_wish_order [] zs) (kwP [1, 0] es) := by
  cases h with
  | nil => simp at hl
  | cons h0 h =>
    cases h with
    | nil => simp at hl
    | cons h1 h =>
      cases h with
      | cons _ _ => simp at hl
      | nil => exact (.cons h1 (.cons h0 .nil))
section
variable {P : Program} {w : World} {K : PySem.W.Frag} {mg : Str → Option Value} {base : Heap}
theorem ok_is_pair (T : Txt K mg) {k : Nat} : FnOk P w K mg base CX0 (k + 1) T.f_is_pair T.fd_is_pair ["known", "item"] (lSp K false sp_is_pair) := by
  refine T.F_is_pair.ok sc_is_pair (fun vs H Q E h => ?_) (fun cdv A outer s H vs Q E hr h => ?_)
  · obtain ⟨W, N0, ds, Pd, _, _, _, dd, sp, _⟩ := h
    rw [dd.len]
    exact ln_is_pair sp
  · obtain ⟨W, N0, ds, Pd, al, wn, ok, dd, sp, q⟩ := h
    have tm : PSs (cxOf CX0 P w K mg base ["known", "item", "name"] "is_pair" (defScope s_is_pair) T.f_is_pair cdv A outer s H E).nox (defBody s_is_pair) (lS ⟨K, W, N0, H, false⟩ (d_is_pair)) := ((ss_cons (ds_if (PW.pt (wt_or (dt_not (dt_val (dd_isi (by rfl) T.m_isinstance (c_b (dd_v (pv 1))) (pe_bltn (v := .ty "tuple") (by rfl) T.m_tuple (by decide +kernel) rfl)))) (wt_or1 (dt_ne hr (c_b (dd_len (by rfl) T.m_len (c_b (dd_v (pv 1))))) (c_b dd_int))))) (ss_one (ds_ret (by rfl) dd_bl)) ss_nil)
      (ss_one (ds_ret (by rfl) (dd_and (dd_all (by rfl) T.m_all (c_b (n_c (PE.mono (pe_lc (own := [("name", 2)]) (by rfl) sc_is_pair.nd (db_seq (c_b (dd_v (pv 1)))) (blkOk_by (own := [("name", 2)]) (N := ["known", "item", "name"]) (sc := defScope s_is_pair) (by decide +kernel)) (fun _ _ _ _ _ => (dg_name (i := 2) sc_is_pair.nd rfl (Or.inl rfl))) (fun _ _ _ _ _ => ts_nil) (fun _ _ _ _ _ => (dd_and (dd_isi (by rfl) T.m_isinstance (c_b (dd_v (pv 2))) (pe_bltn (v := .ty "str") (by rfl) T.m_str (by decide +kernel) rfl)) (dd_one (dd_in hr (c_b (dd_v (pv 2))) (c_b (dd_v (pv 0)))))))) (l_lc (by simp)))))) (dd_one (dd_ne hr (c_b (dd_ix hr (c_b (dd_v (pv 1))) (c_b dd_int))) (c_b (dd_ix hr (c_b (dd_v (pv 1))) (c_b dd_int))))))))))
    exact ⟨_, tm, fn_d al wn ok dd q (rd_is_pair sp)⟩
theorem ok_check_wish (T : Txt K mg) {k : Nat} : FnOk P w K mg base CX0 (k + 2) T.f_check_wish T.fd_check_wish ["names", "wish"] (lSp K false sp_check_wish) := by
  refine T.F_check_wish.ok sc_check_wish (fun vs H Q E h => ?_) (fun cdv A outer s H vs Q E hr h => ?_)
  · obtain ⟨W, N0, ds, Pd, _, _, _, dd, sp, _⟩ := h
    rw [dd.len]
    exact ln_check_wish sp
  · obtain ⟨W, N0, ds, Pd, al, wn, ok, dd, sp, q⟩ := h
    have tm : PSs (cxOf CX0 P w K mg base ["names", "wish", "known", "at", "item", "name"] "check_wish" (defScope s_check_wish) T.f_check_wish cdv A outer s H E).nox (defBody s_check_wish) (lS ⟨K, W, N0, H, false⟩ (d_check_wish)) := ((ss_cons (PS.mono (ps_setDc (i := 2) (own := [("name", 5)]) (by rfl) sc_check_wish.nd rfl rfl (swD_true rfl rfl rfl (by decide +kernel)) (db_seq (c_b (dd_v (pv 0)))) (blkOk_by (own := [("name", 5)]) (N := ["names", "wish", "known", "at", "item", "name"]) (sc := defScope s_check_wish) (by decide +kernel)) (fun _ _ _ _ _ => (dg_name (i := 5) sc_check_wish.nd rfl (Or.inl rfl))) (fun _ _ _ _ _ => ts_nil) (fun _ _ _ _ _ => (dd_v (pv 5))) (fun _ _ _ _ _ => dd_bl)) (l_setF_n (l_dc (by simp))))
      (ss_one (ds_for PassesOwn.never rfl (di_enum (by rfl) T.m_enumerate (dd_v (pv 1))) (PG.mono (pg_tup (by rfl) (PGs.mono (pgs_cons (dg_name (i := 3) sc_check_wish.nd rfl (Or.inl rfl)) (PGs.mono (pgs_cons (dg_name (i := 4) sc_check_wish.nd rfl (Or.inl rfl)) dgs_nil) l_gcons)) l_gcons)) (l_gtup rfl)) (ss_one (ds_if (dt_not (dt_val (dd_call (ok_is_pair T) hr (by rfl) T.g_is_pair T.F_is_pair.kp T.b_is_pair pass0 (da_cons (dd_v (pv 2)) (da_cons (dd_v (pv 4)) da_nil))))) (ss_one ds_never) ss_nil))))))
    exact ⟨_, tm, fn_d al wn ok dd q (rd_check_wish sp)⟩
theorem ok_places (T : Txt K mg) {k : Nat} : FnOk P w K mg base CX0 (k + 1) T.f_places T.fd_places ["order"] (lSp K true sp_places) := by
  refine T.F_places.ok sc_places (fun vs H Q E h => ?_) (fun cdv A outer s H vs Q E hr h => ?_)
  · obtain ⟨W, N0, ds, Pd, _, _, _, dd, sp, _⟩ := h
    rw [dd.len]
    exact ln_places sp
  · obtain ⟨W, N0, ds, Pd, al, wn, ok, dd, sp, q⟩ := h
    have tm : PSs (cxOf CX0 P w K mg base ["order", "at", "name"] "places" (defScope s_places) T.f_places cdv A outer s H E).nox (defBody s_places) (lS ⟨K, W, N0, H, true⟩ (d_places)) := ((ss_one (ds_retN (PE.mono (pe_dc (own := [("at", 1), ("name", 2)]) (by rfl) sc_places.nd (db_enum (by rfl) T.m_enumerate (c_b (dd_v (pv 0)))) (blkOk_by (own := [("at", 1), ("name", 2)]) (N := ["order", "at", "name"]) (sc := defScope s_places) (by decide +kernel)) (fun _ _ _ _ _ => (PG.mono (pg_tup (by rfl) (PGs.mono (pgs_cons (dg_name (i := 1) sc_places.nd rfl (Or.inl rfl)) (PGs.mono (pgs_cons (dg_name (i := 2) sc_places.nd rfl (Or.inl rfl)) dgs_nil) l_gcons)) l_gcons)) (l_gtup rfl))) (fun _ _ _ _ _ => ts_nil) (fun _ _ _ _ _ => (dd_v (pv 2))) (fun _ _ _ _ _ => (dd_v (pv 1)))) (l_dc (by simp))))))
    exact ⟨_, tm, fn_d al wn ok dd q (rd_places sp)⟩
theorem ok_settled (T : Txt K mg) {k : Nat} : FnOk P w K mg base CX0 (k + 1) T.f_settled T.fd_settled ["names", "wish"] (lSp K true sp_settledB) := by
  refine T.F_settled.ok sc_settled (fun vs H Q E h => ?_) (fun cdv A outer s H vs Q E hr h => ?_)
  · obtain ⟨W, N0, ds, Pd, _, _, _, dd, sp, _⟩ := h
    rw [dd.len]
    exact ln_settledB sp
  · obtain ⟨W, N0, ds, Pd, al, wn, ok, dd, sp, q⟩ := h
    have tm : PSs (cxOf CX0 P w K mg base ["names", "wish", "waiting", "pairs", "found", "held", "free", "low", "high", "name"] "settled" (defScope s_settled) T.f_settled cdv A outer s H E).nox (defBody s_settled) (lS ⟨K, W, N0, H, true⟩ (d_settledB)) := ((ss_cons (ds_setO (i := 2) sc_settled.nd rfl (.inl rfl) (dn_sortB (by rfl) T.m_sorted (c_b (dd_v (pv 0)))))
      (ss_cons (ds_set (i := 3) sc_settled.nd rfl (.inl rfl) (n_c (dn_list (by rfl) T.m_list (c_b (dd_v (pv 1))))))
      (ss_cons (ds_setO (i := 4) sc_settled.nd rfl (.inl rfl) (dn_lst da_nil))
      (ss_one (ds_while PassesOwn.never (dt_val dd_bl) (ss_cons (ds_set (i := 5) sc_settled.nd rfl (.inr rfl) (n_c (PE.mono (pe_dc (own := [("low", 7), ("high", 8)]) (by rfl) sc_settled.nd (db_seq (c_b (dd_v (pv 3)))) (blkOk_by (own := [("low", 7), ("high", 8)]) (N := ["names", "wish", "waiting", "pairs", "found", "held", "free", "low", "high", "name"]) (sc := defScope s_settled) (by decide +kernel)) (fun _ _ _ _ _ => (PG.mono (pg_tup (by rfl) (PGs.mono (pgs_cons (dg_name (i := 7) sc_settled.nd rfl (Or.inl rfl)) (PGs.mono (pgs_cons (dg_name (i := 8) sc_settled.nd rfl (Or.inl rfl)) dgs_nil) l_gcons)) l_gcons)) (l_gtup rfl))) (fun _ _ _ _ _ => ts_nil) (fun _ _ _ _ _ => (dd_v (pv 8))) (fun _ _ _ _ _ => dd_bl)) (l_dc (by simp)))))
      (ss_cons (ds_set (i := 6) sc_settled.nd rfl (.inr rfl) (n_c (PE.mono (pe_lc (own := [("name", 9)]) (by rfl) sc_settled.nd (db_seq (dd_b (pv 2))) (blkOk_by (own := [("name", 9)]) (N := ["names", "wish", "waiting", "pairs", "found", "held", "free", "low", "high", "name"]) (sc := defScope s_settled) (by decide +kernel)) (fun _ _ _ _ _ => (dg_name (i := 9) sc_settled.nd rfl (Or.inl rfl))) (fun _ _ _ _ _ => (ts_one (dt_notin hr (c_b (dd_v (pv 9))) (c_b (dd_v (pv 5)))))) (fun _ _ _ _ _ => (dd_v (pv 9)))) (l_lc (by simp)))))
      (ss_cons (ds_if (dt_not (dt_tru (c_b (dd_v (pv 6))))) (ss_one (ds_retO (pv 4))) ss_nil)
      (ss_cons (ds_app (pv 4) (dd_ix hr (c_b (dd_v (pv 6))) (c_b dd_int)))
      (ss_cons (ds_rem (pv 2) (dd_ix hr (c_b (dd_v (pv 6))) (c_b dd_int)))
      (ss_one (PS.mono (ps_setLc (i := 3) (own := [("low", 7), ("high", 8)]) (by rfl) sc_settled.nd rfl rfl (sw_true rfl rfl rfl (by decide +kernel)) (db_seq (c_b (dd_v (pv 3)))) (blkOk_by (own := [("low", 7), ("high", 8)]) (N := ["names", "wish", "waiting", "pairs", "found", "held", "free", "low", "high", "name"]) (sc := defScope s_settled) (by decide +kernel)) (fun _ _ _ _ _ => (PG.mono (pg_tup (by rfl) (PGs.mono (pgs_cons (dg_name (i := 7) sc_settled.nd rfl (Or.inl rfl)) (PGs.mono (pgs_cons (dg_name (i := 8) sc_settled.nd rfl (Or.inl rfl)) dgs_nil) l_gcons)) l_gcons)) (l_gtup rfl))) (fun _ _ _ _ _ => (ts_one (dt_ne hr (c_b (dd_v (pv 7))) (c_b (dd_ix hr (c_b (dd_v (pv 6))) (c_b dd_int)))))) (fun _ _ _ _ _ => (n_c (dn_tup (da_cons (dd_v (pv 7)) (da_cons (dd_v (pv 8)) da_nil)))))) (l_setF_n (l_lc (by simp))))))))))))))))
    exact ⟨_, tm, fn_d al wn ok dd q (rd_settledB sp)⟩
theorem ok_ring (T : Txt K mg) {k : Nat} : FnOk P w K mg base CX0 (k + 3) T.f_ring T.fd_ring ["names", "wish"] (lSp K false sp_ringB) := by
  refine T.F_ring.ok sc_ring (fun vs H Q E h => ?_) (fun cdv A outer s H vs Q E hr h => ?_)
  · obtain ⟨W, N0, ds, Pd, _, _, _, dd, sp, _⟩ := h
    rw [dd.len]
    exact ln_ringB sp
  · obtain ⟨W, N0, ds, Pd, al, wn, ok, dd, sp, q⟩ := h
    have tm : PSs (cxOf CX0 P w K mg base ["names", "wish", "free", "lows", "held", "way", "low", "high", "name"] "ring" (defScope s_ring) T.f_ring cdv A outer s H E).nox (defBody s_ring) (lS ⟨K, W, N0, H, false⟩ (d_ringB)) := ((ss_cons (ds_expr (dd_call (ok_check_wish T) hr (by rfl) T.g_check_wish T.F_check_wish.kp T.b_check_wish pass0 (da_cons (dd_v (pv 0)) (da_cons (dd_v (pv 1)) da_nil))))
      (ss_cons (ds_set (i := 2) sc_ring.nd rfl (.inr rfl) (n_c (dn_call (ok_places T) hr (by rfl) T.g_places T.F_places.kp T.b_places pass0 (da_cons (n_c (dn_call (ok_settled T) hr (by rfl) T.g_settled T.F_settled.kp T.b_settled pass0 (da_cons (dd_v (pv 0)) (da_cons (dd_v (pv 1)) da_nil)))) da_nil))))
      (ss_cons (PS.mono (ps_setDc (i := 3) (own := [("low", 6), ("high", 7)]) (by rfl) sc_ring.nd rfl rfl (swD_true rfl rfl rfl (by decide +kernel)) (db_seq (c_b (dd_v (pv 1)))) (blkOk_by (own := [("low", 6), ("high", 7)]) (N := ["names", "wish", "free", "lows", "held", "way", "low", "high", "name"]) (sc := defScope s_ring) (by decide +kernel)) (fun _ _ _ _ _ => (PG.mono (pg_tup (by rfl) (PGs.mono (pgs_cons (dg_name (i := 6) sc_ring.nd rfl (Or.inl rfl)) (PGs.mono (pgs_cons (dg_name (i := 7) sc_ring.nd rfl (Or.inl rfl)) dgs_nil) l_gcons)) l_gcons)) (l_gtup rfl))) (fun _ _ _ _ _ => (ts_one (dt_notin hr (c_b (dd_v (pv 6))) (c_b (dd_v (pv 2)))))) (fun _ _ _ _ _ => (dd_v (pv 7))) (fun _ _ _ _ _ => (dd_v (pv 6)))) (l_setF_n (l_dc (by simp))))
      (ss_cons (PS.mono (ps_setLc (i := 4) (own := [("name", 8)]) (by rfl) sc_ring.nd rfl rfl (sw_true rfl rfl rfl (by decide +kernel)) (db_seq (c_b (dd_v (pv 0)))) (blkOk_by (own := [("name", 8)]) (N := ["names", "wish", "free", "lows", "held", "way", "low", "high", "name"]) (sc := defScope s_ring) (by decide +kernel)) (fun _ _ _ _ _ => (dg_name (i := 8) sc_ring.nd rfl (Or.inl rfl))) (fun _ _ _ _ _ => (ts_one (dt_notin hr (c_b (dd_v (pv 8))) (c_b (dd_v (pv 2)))))) (fun _ _ _ _ _ => (dd_v (pv 8)))) (l_setF_n (l_lc (by simp))))
      (ss_cons (ds_if (dt_not (dt_tru (c_b (dd_v (pv 4))))) (ss_one (ds_ret (by rfl) dd_non)) ss_nil)
      (ss_cons (ds_setO (i := 5) sc_ring.nd rfl (.inl rfl) (dn_lst (da_cons (dd_ix hr (c_b (dd_v (pv 4))) (c_b dd_int)) da_nil)))
      (ss_cons (ds_while PassesOwn.never (dt_notin hr (c_b (dd_ix hr (c_b (dd_v (pv 3))) (c_b (dd_ix hr (dd_b (pv 5)) (c_b (dd_neg dd_int)))))) (dd_b (pv 5))) (ss_one (ds_app (pv 5) (dd_ix hr (c_b (dd_v (pv 3))) (c_b (dd_ix hr (dd_b (pv 5)) (c_b (dd_neg dd_int))))))))
      (ss_one (ds_ret (by rfl) (n_c (dn_rev (c_b (dd_cut (dd_b (pv 5)) (do_some (dd_index (dd_b (pv 5)) (c_b (dd_ix hr (c_b (dd_v (pv 3))) (c_b (dd_ix hr (dd_b (pv 5)) (c_b (dd_neg dd_int)))))))) do_none))))))))))))))
    exact ⟨_, tm, fn_d al wn ok dd q (rd_ringB sp)⟩
theorem ok_steps_for (T : Txt K mg) {k : Nat} : FnOk P w K mg base CX0 (k + 1) T.f_steps_for T.fd_steps_for ["count"] (lSp K false sp_steps_for) := by
  refine T.F_steps_for.ok sc_steps_for (fun vs H Q E h => ?_) (fun cdv A outer s H vs Q E hr h => ?_)
  · obtain ⟨W, N0, ds, Pd, _, _, _, dd, sp, _⟩ := h
    rw [dd.len]
    exact ln_steps_for sp
  · obtain ⟨W, N0, ds, Pd, al, wn, ok, dd, sp, q⟩ := h
    have tm : PSs (cxOf CX0 P w K mg base ["count"] "steps_for" (defScope s_steps_for) T.f_steps_for cdv A outer s H E).nox (defBody s_steps_for) (lS ⟨K, W, N0, H, false⟩ (d_steps_for)) := ((ss_one (ds_ret (by rfl) (dd_bits (dd_v (pv 0))))))
    exact ⟨_, tm, fn_d al wn ok dd q (rd_steps_for sp)⟩
theorem ok_heights (T : Txt K mg) {k : Nat} : FnOk P w K mg base CX0 (k + 1) T.f_heights T.fd_heights ["names", "links"] (lSp K false sp_heightsN) := by
  refine T.F_heights.ok sc_heights (fun vs H Q E h => ?_) (fun cdv A outer s H vs Q E hr h => ?_)
  · obtain ⟨W, N0, ds, Pd, _, _, _, dd, sp, _⟩ := h
    rw [dd.len]
    exact ln_heightsN sp
  · obtain ⟨W, N0, ds, Pd, al, wn, ok, dd, sp, q⟩ := h
    have tm : PSs (cxOf CX0 P w K mg base ["names", "links", "height", "before", "is_settled", "low", "high", "rise", "name"] "heights" (defScope s_heights) T.f_heights cdv A outer s H E).nox (defBody s_heights) (lS ⟨K, W, N0, H, false⟩ (d_heightsN)) := ((ss_cons (PS.mono (ps_setDc (i := 2) (own := [("name", 8)]) (by rfl) sc_heights.nd rfl rfl (swD_true rfl rfl rfl (by decide +kernel)) (db_seq (c_b (dd_v (pv 0)))) (blkOk_by (own := [("name", 8)]) (N := ["names", "links", "height", "before", "is_settled", "low", "high", "rise", "name"]) (sc := defScope s_heights) (by decide +kernel)) (fun _ _ _ _ _ => (dg_name (i := 8) sc_heights.nd rfl (Or.inl rfl))) (fun _ _ _ _ _ => ts_nil) (fun _ _ _ _ _ => (dd_v (pv 8))) (fun _ _ _ _ _ => dd_int)) (l_setO (l_dc (by simp))))
      (ss_cons (ds_setO (i := 3) sc_heights.nd rfl (.inl rfl) dn_emp)
      (ss_cons (ds_set (i := 4) sc_heights.nd rfl (.inl rfl) dd_bl)
      (ss_cons (ds_while PassesOwn.never (dt_not (dt_tru (c_b (dd_v (pv 4))))) (ss_cons (ds_set (i := 4) sc_heights.nd rfl (.inl rfl) dd_bl)
      (ss_one (ds_for PassesOwn.never rfl (di_seq (dd_v (pv 1))) (PG.mono (pg_tup (by rfl) (PGs.mono (pgs_cons (dg_name (i := 5) sc_heights.nd rfl (Or.inl rfl)) (PGs.mono (pgs_cons (dg_name (i := 6) sc_heights.nd rfl (Or.inl rfl)) (PGs.mono (pgs_cons (dg_name (i := 7) sc_heights.nd rfl (Or.inl rfl)) dgs_nil) l_gcons)) l_gcons)) l_gcons)) (l_gtup rfl)) (ss_one (ds_if (dt_gt (c_b (dd_add (c_b (dd_ix hr (dd_b (pv 2)) (c_b (dd_v (pv 5))))) (c_b (dd_v (pv 7))))) (c_b (dd_ix hr (dd_b (pv 2)) (c_b (dd_v (pv 6)))))) (ss_cons (PS.mono (ps_dput (hu_of hr) (pv 2) (dd_v (pv 6)) (dd_add (c_b (dd_ix hr (dd_b (pv 2)) (c_b (dd_v (pv 5))))) (c_b (dd_v (pv 7)))) rfl) l_dput)
      (ss_cons (PS.mono (ps_dput (hu_of hr) (pv 3) (dd_v (pv 6)) (dd_v (pv 5)) rfl) l_dput)
      (ss_one (ds_set (i := 4) sc_heights.nd rfl (.inl rfl) dd_bl)))) ss_nil))))))
      (ss_frz (i := 2) (ss_frz (i := 3) (ss_one (ds_ret (by rfl) (n_c (dn_tup (da_cons (dd_v (pv 2)) (da_cons (dd_v (pv 3)) da_nil)))))))))))))
    exact ⟨_, tm, fn_d al wn ok dd q (rd_heightsN sp)⟩
theorem ok_greatest (T : Txt K mg) {k : Nat} : FnOk P w K mg base CX0 (k + 1) T.f_greatest T.fd_greatest ["height"] (lSp K false sp_greatest) := by
  refine T.F_greatest.ok sc_greatest (fun vs H Q E h => ?_) (fun cdv A outer s H vs Q E hr h => ?_)
  · obtain ⟨W, N0, ds, Pd, _, _, _, dd, sp, _⟩ := h
    rw [dd.len]
    exact ln_greatest sp
  · obtain ⟨W, N0, ds, Pd, al, wn, ok, dd, sp, q⟩ := h
    have tm : PSs (cxOf CX0 P w K mg base ["height", "name"] "greatest" (defScope s_greatest) T.f_greatest cdv A outer s H E).nox (defBody s_greatest) (lS ⟨K, W, N0, H, false⟩ (d_greatest)) := ((ss_one (ds_ret (by rfl) (dd_maxD (by rfl) T.m_max (by rfl) (n_c (dn_lcK (own := [("name", 1)]) (pv 0) (by simp) (fun N0 H0 wi hi => pe_lc (own := [("name", 1)]) (by rfl) sc_greatest.nd hi (blkOk_by (own := [("name", 1)]) (N := ["height", "name"]) (sc := defScope s_greatest) (by decide +kernel)) (fun _ _ _ _ _ => (dg_name (i := 1) sc_greatest.nd rfl (Or.inl rfl))) (fun _ _ _ _ _ => ts_nil) (fun _ _ _ _ _ => (dd_ix hr (c_b (dd_v (pv 0))) (c_b (dd_v (pv 1)))))))) (dk_cons dd_int dk_nil)))))
    exact ⟨_, tm, fn_d al wn ok dd q (rd_greatest sp)⟩
theorem ok_sorting_raises (T : Txt K mg) {k : Nat} : FnOk P w K mg base CX0 (k + 2) T.f_sorting_raises T.fd_sorting_raises ["height"] (lSp K true sp_sorting_raisesN) := by
  refine T.F_sorting_raises.ok sc_sorting_raises (fun vs H Q E h => ?_) (fun cdv A outer s H vs Q E hr h => ?_)
  · obtain ⟨W, N0, ds, Pd, _, _, _, dd, sp, _⟩ := h
    rw [dd.len]
    exact ln_sorting_raisesN sp
  · obtain ⟨W, N0, ds, Pd, al, wn, ok, dd, sp, q⟩ := h
    have tm : PSs (cxOf CX0 P w K mg base ["height", "most", "digit", "name"] "sorting_raises" (defScope s_sorting_raises) T.f_sorting_raises cdv A outer s H E).nox (defBody s_sorting_raises) (lS ⟨K, W, N0, H, true⟩ (d_sorting_raisesN)) := ((ss_cons (ds_set (i := 1) sc_sorting_raises.nd rfl (.inl rfl) (dd_call (ok_steps_for T) hr (by rfl) T.g_steps_for T.F_steps_for.kp T.b_steps_for pass0 (da_cons (dd_call (ok_greatest T) hr (by rfl) T.g_greatest T.F_greatest.kp T.b_greatest pass0 (da_cons (dd_v (pv 0)) da_nil)) da_nil)))
      (ss_one (ds_retN (PE.mono (pe_lc (own := [("digit", 2)]) (by rfl) sc_sorting_raises.nd (db_rng (by rfl) T.m_range (da_cons (dd_v (pv 1)) da_nil)) (blkOk_by (own := [("digit", 2)]) (N := ["height", "most", "digit", "name"]) (sc := defScope s_sorting_raises) (by decide +kernel)) (fun _ _ _ _ _ => (dg_name (i := 2) sc_sorting_raises.nd rfl (Or.inr rfl))) (fun _ _ _ _ _ => ts_nil) (fun _ _ _ _ _ => (n_c (dn_tup (da_cons dd_str (da_cons (n_c (dn_lcK (own := [("name", 3)]) (pv 0) (by simp) (fun N0 H0 wi hi => pe_lc (own := [("name", 3)]) (by rfl) sc_sorting_raises.nd hi (blkOk_by (own := [("name", 3)]) (N := ["height", "most", "digit", "name"]) (by kernel_rfl)) (fun _ _ _ _ _ => (dg_name (i := 3) sc_sorting_raises.nd rfl (Or.inl rfl))) (fun _ _ _ _ _ => (ts_one (dt_eq hr (c_b (dd_bitand (c_b (dd_shr (c_b (dd_ix hr (c_b (dd_v (pv 0))) (c_b (dd_v (pv 3))))) (c_b (dd_v (pv 2))))) (c_b dd_int))) (c_b dd_int)))) (fun _ _ _ _ _ => (dd_v (pv 3)))))) da_nil)))))) (l_lc (by simp)))))))
    exact ⟨_, tm, fn_d al wn ok dd q (rd_sorting_raisesN sp)⟩
theorem ok_highest_way (T : Txt K mg) {k : Nat} : FnOk P w K mg base CX0 (k + 2) T.f_highest_way T.fd_highest_way ["height", "before"] (lSp K false sp_highest_wayN) := by
  refine T.F_highest_way.ok sc_highest_way (fun vs H Q E h => ?_) (fun cdv A outer s H vs Q E hr h => ?_)
  · obtain ⟨W, N0, ds, Pd, _, _, _, dd, sp, _⟩ := h
    rw [dd.len]
    exact ln_highest_wayN sp
  · obtain ⟨W, N0, ds, Pd, al, wn, ok, dd, sp, q⟩ := h
    have tm : PSs (cxOf CX0 P w K mg base ["height", "before", "most", "way", "name"] "highest_way" (defScope s_highest_way) T.f_highest_way cdv A outer s H E).nox (defBody s_highest_way) (lS ⟨K, W, N0, H, false⟩ (d_highest_wayN)) := ((ss_cons (ds_set (i := 2) sc_highest_way.nd rfl (.inr rfl) (dd_call (ok_greatest T) hr (by rfl) T.g_greatest T.F_greatest.kp T.b_greatest pass0 (da_cons (dd_v (pv 0)) da_nil)))
      (ss_cons (ds_if (dt_eq hr (c_b (dd_v (pv 2))) (c_b dd_int)) (ss_one (ds_ret (by rfl) (n_c (dn_lst da_nil)))) ss_nil)
      (ss_cons (ds_setO (i := 3) sc_highest_way.nd rfl (.inl rfl) (dn_cut (c_b (n_c (dn_lcK (own := [("name", 4)]) (pv 0) (by simp) (fun N0 H0 wi hi => pe_lc (own := [("name", 4)]) (by rfl) sc_highest_way.nd hi (blkOk_by (own := [("name", 4)]) (N := ["height", "before", "most", "way", "name"]) (sc := defScope s_highest_way) (by decide +kernel)) (fun _ _ _ _ _ => (dg_name (i := 4) sc_highest_way.nd rfl (Or.inl rfl))) (fun _ _ _ _ _ => (ts_one (dt_eq hr (c_b (dd_ix hr (c_b (dd_v (pv 0))) (c_b (dd_v (pv 4))))) (c_b (dd_v (pv 2)))))) (fun _ _ _ _ _ => (dd_v (pv 4))))))) do_none (do_some dd_int)))
      (ss_cons (ds_while PassesOwn.never (dt_in hr (c_b (dd_ix hr (dd_b (pv 3)) (c_b (dd_neg dd_int)))) (c_b (dd_v (pv 1)))) (ss_one (ds_app (pv 3) (dd_ix hr (c_b (dd_v (pv 1))) (c_b (dd_ix hr (dd_b (pv 3)) (c_b (dd_neg dd_int))))))))
      (ss_one (ds_ret (by rfl) (n_c (dn_rev (dd_b (pv 3)))))))))))
    exact ⟨_, tm, fn_d al wn ok dd q (rd_highest_wayN sp)⟩
theorem ok_group_plan (T : Txt K mg) {k : Nat} : FnOk P w K mg base CX0 (k + 4) T.f_group_plan T.fd_group_plan ["order", "wish"] (lSp K (.ch 1) sp_group_planN) := by
  refine T.F_group_plan.ok sc_group_plan (fun vs H Q E h => ?_) (fun cdv A outer s H vs Q E hr h => ?_)
  · obtain ⟨W, N0, ds, Pd, _, _, _, dd, sp, _⟩ := h
    rw [dd.len]
    exact ln_group_planN sp
  · obtain ⟨W, N0, ds, Pd, al, wn, ok, dd, sp, q⟩ := h
    have tm : PSs (cxOf CX0 P w K mg base ["order", "wish", "found", "place", "links", "height", "before", "low", "high"] "group_plan" (defScope s_group_plan) T.f_group_plan cdv A outer s H E).nox (defBody s_group_plan) (lS ⟨K, W, N0, H, (.ch 1)⟩ (d_group_planN)) := ((ss_cons (ds_set (i := 2) sc_group_plan.nd rfl (.inl rfl) (dd_call (ok_ring T) hr (by rfl) T.g_ring T.F_ring.kp T.b_ring pass0 (da_cons (dd_v (pv 0)) (da_cons (dd_v (pv 1)) da_nil))))
      (ss_cons (ds_if (dt_isnot (c_b (dd_v (pv 2))) (c_b dd_non)) (ss_one ds_never) ss_nil)
      (ss_cons (ds_set (i := 3) sc_group_plan.nd rfl (.inr rfl) (n_c (dn_call (ok_places T) hr (by rfl) T.g_places T.F_places.kp T.b_places pass0 (da_cons (dd_v (pv 0)) da_nil))))
      (ss_cons (PS.mono (ps_setLc (i := 4) (own := [("low", 7), ("high", 8)]) (by rfl) sc_group_plan.nd rfl rfl (sw_true rfl rfl rfl (by decide +kernel)) (db_seq (c_b (dd_v (pv 1)))) (blkOk_by (own := [("low", 7), ("high", 8)]) (N := ["order", "wish", "found", "place", "links", "height", "before", "low", "high"]) (sc := defScope s_group_plan) (by decide +kernel)) (fun _ _ _ _ _ => (PG.mono (pg_tup (by rfl) (PGs.mono (pgs_cons (dg_name (i := 7) sc_group_plan.nd rfl (Or.inl rfl)) (PGs.mono (pgs_cons (dg_name (i := 8) sc_group_plan.nd rfl (Or.inl rfl)) dgs_nil) l_gcons)) l_gcons)) (l_gtup rfl))) (fun _ _ _ _ _ => ts_nil) (fun _ _ _ _ _ => (n_c (dn_tup (da_cons (dd_v (pv 7)) (da_cons (dd_v (pv 8)) (da_cons (dd_if (dt_gt (c_b (dd_ix hr (c_b (dd_v (pv 3))) (c_b (dd_v (pv 7))))) (c_b (dd_ix hr (c_b (dd_v (pv 3))) (c_b (dd_v (pv 8)))))) dd_int dd_int) da_nil))))))) (l_setF_n (l_lc (by simp))))
      (ss_cons (PS.mono (ps_asg (dd_call (ok_heights T) hr (by rfl) T.g_heights T.F_heights.kp T.b_heights pass0 (da_cons (dd_v (pv 0)) (da_cons (dd_v (pv 4)) da_nil))) (PG.mono (pg_tup (by rfl) (PGs.mono (pgs_cons (dg_name (i := 5) sc_group_plan.nd rfl (Or.inl rfl)) (PGs.mono (pgs_cons (dg_name (i := 6) sc_group_plan.nd rfl (Or.inl rfl)) dgs_nil) l_gcons)) l_gcons)) (l_gtup rfl))) l_asg)
      (ss_one (ds_retJ rfl (dj_tup3 dd_str (dn_call (ok_sorting_raises T) hr (by rfl) T.g_sorting_raises T.F_sorting_raises.kp T.b_sorting_raises pass0 (da_cons (dd_v (pv 5)) da_nil)) (dd_call (ok_highest_way T) hr (by rfl) T.g_highest_way T.F_highest_way.kp T.b_highest_way pass0 (da_cons (dd_v (pv 5)) (da_cons (dd_v (pv 6)) da_nil))))))))))))
    exact ⟨_, tm, fn_d al wn ok dd q (rd_group_planN sp)⟩
theorem okb_bag (T : Txt K mg) {k : Nat} : FnOk P w K mg base CX0 (k + 1) T.f_bag T.fd_bag ["_law_script"] (spBag K) := by
  refine T.F_bag.ok sc_bag (fun vs H Q E h => ?_) (fun cdv A outer s H vs Q E hr h => ?_)
  · obtain ⟨a, ns, rfl, _⟩ := h
    rfl
  · obtain ⟨a, ns, rfl, hS, hlen, q⟩ := h
    refine ⟨_, (pss_cons (ps_set (i := 1) sc_bag.nd rfl (.inl rfl) pe_int)
      (pss_cons (ps_for PassesOwn.never rfl (pi_list (pe_slice (r := rSlL K) sl_list (pv 0) po_none (po_some pe_int))) (pg_name (i := 2) sc_bag.nd rfl (.inl rfl)) (pss_one (ps_set (i := 1) sc_bag.nd rfl (.inl rfl) (pe_op op_mod (pe_op op_add (pe_op op_add (pe_op op_mul (pv 1) pe_int) (pe_op op_mod (pv 2) pe_int)) pe_int) pe_int))))
      (pss_one (ps_ret (pe_lst (pa_cons (pe_callTy (T := "list") (r := RK.rListQ K) RK.call_listQ (by rfl) T.m_list (by decide +kernel) (pa_cons (pe_slice (r := rSlL K) sl_list (pv 0) po_none (po_some pe_int)) pa_nil)) (pa_cons pe_int (pa_cons pe_int (pa_cons (pv 1) pa_nil))))))))), ?_⟩
    refine ⟨.ref a, rfl, 63, rfl, a, _, rfl, hS, fun p np => ?_⟩
    rw [cut63 ns hlen]
    have s1 : Same H (upd H p (.lst (ns.map V.int))) := same_new np _
    refine ⟨p, rfl, ⟨_, .inl (.inl upd_same)⟩, for_list (xs := ns.map V.int) (fun _ σ H' => ∃ z y2, σ = [some (.ref a), some (.int z), y2] ∧ 0 ≤ z ∧ z < 2147483647 ∧ H' = upd H p (.lst (ns.map V.int))) ⟨9489, none, rfl, by decide, by decide, rfl⟩ ?_ ?_ ?_⟩
    · rintro i σ H' _ ⟨z, y2, rfl, _, _, rfl⟩
      exact .inl (.inl upd_same)
    · rintro i x σ H' hx ⟨z, y2, rfl, z0, z1, rfl⟩
      rw [List.getElem?_map] at hx
      obtain ⟨c, hc, rfl⟩ := Option.map_eq_some_iff.mp hx
      refine ⟨.int z, rfl, _, _, rfl, rfl, .inl ⟨by omega, by omega⟩, .int c, rfl, _, _, rfl, rfl, (show (0 : Int) < 2147483587 by decide), _, _, rfl, rfl, _, _, rfl, rfl, _, _, rfl, rfl, (show (0 : Int) < 2147483647 by decide), _, _, rfl, Int.emod_nonneg _ (by decide), Int.emod_lt_of_pos _ (by decide), rfl⟩
    · rintro σ H' ⟨z, y2, rfl, z0, z1, rfl⟩
      refine ⟨.ref a, rfl, 63, rfl, a, _, rfl, s1.seq hS, fun p2 np2 => ?_⟩
      rw [cut63 ns hlen]
      have s2 := same_new np2 (.lst (ns.map V.int))
      refine ⟨p2, _, rfl, .inl (.inl (.inl upd_same)), fun l nl => ?_⟩
      have s3 := same_new nl (.lst (ns.map V.int))
      refine ⟨.int z, rfl, (by show 4 ≤ sizeLine; decide), fun b nb => ?_⟩
      have s4 := same_new nb (.lst [.ref l, .int 0, .int 0, .int z])
      have st : Same H _ := ((s1.trans s2).trans s3).trans s4
      refine q _ b l st (((s1.trans s2).trans s3).free nb) ((s1.trans s2).free nl) ⟨ns, 0, 0, z, upd_same, s4 _ _ upd_same, ne_of_none upd_same nb, Nat.zero_le _, hlen, by decide, z0, z1⟩
theorem okb_pull (T : Txt K mg) {k : Nat} : FnOk P w K mg base CX0 (k + 1) T.f_pull T.fd_pull ["_law_bag_here", "_law_amount"] spPull := by
  refine T.F_pull.ok sc_pull (fun vs H Q E h => ?_) (fun cdv A outer s H vs Q E hr h => ?_)
  · obtain ⟨b, s, n, rfl, _⟩ := h
    rfl
  · obtain ⟨b, s, n, rfl, B, n1, n2, q⟩ := h
    obtain ⟨ns, i, big, salt, B⟩ := B
    refine ⟨_, (C8.pss_cut (ps_if (PW.pt (pw_and (pt_cmpR op_eq (pe_ix (r := rIxL K) ix_list (pv 0) pe_int (fun _ _ => rfl)) pe_int (nomark _)) (pw_and1 (pt_cmpR op_lt (pe_ix (r := rIxL K) ix_list (pv 0) pe_int (fun _ _ => rfl)) (pe_callB (id := "len") (r := RK.rLenQ K) RK.call_lenQ (by rfl) T.m_len (by decide +kernel) (pa_cons (pe_ix (r := rIxL K) ix_list (pv 0) pe_int (fun _ _ => rfl)) pa_nil)) (nomark _))))) (pss_cons (ps_set (i := 2) sc_pull.nd rfl (.inl rfl) (pe_ix (r := rIxL K) ix_list (pe_ix (r := rIxL K) ix_list (pv 0) pe_int (fun _ _ => rfl)) (pe_ix (r := rIxL K) ix_list (pv 0) pe_int (fun _ _ => rfl)) (fun _ _ => rfl)))
      (pss_cons (ps_asg (pe_op op_add (pe_ix (r := rIxL K) ix_list (pv 0) pe_int (fun _ _ => rfl)) pe_int) (pg_sub (pv 0) pe_int L2.set_list))
      (pss_one (ps_if (pt_cmpR op_ge (pv 2) (pe_op op_pow pe_int pe_int) (nomark _)) (pss_one (ps_asg (pv 2) (pg_sub (pv 0) pe_int L2.set_list))) (pss_one (ps_asg (pe_op op_mod (pe_op op_add (pe_op op_add (pe_op op_mul (pe_ix (r := rIxL K) ix_list (pv 0) pe_int (fun _ _ => rfl)) pe_int) (pe_op op_mul (pe_op op_mod (pv 2) pe_int) pe_int)) pe_int) pe_int) (pg_sub (pv 0) pe_int L2.set_list))))))) pss_nil)
      (pss_cons (ps_if (pt_cmpR op_gt (pe_ix (r := rIxL K) ix_list (pv 0) pe_int (fun _ _ => rfl)) pe_int (nomark _)) (pss_cons (ps_set (i := 3) sc_pull.nd rfl (.inl rfl) (pe_op op_mod (pe_ix (r := rIxL K) ix_list (pv 0) pe_int (fun _ _ => rfl)) (pv 1)))
      (pss_cons (ps_asg (pe_op op_fdivW (pe_ix (r := rIxL K) ix_list (pv 0) pe_int (fun _ _ => rfl)) (pv 1)) (pg_sub (pv 0) pe_int L2.set_list))
      (pss_one (ps_ret (pv 3))))) pss_nil)
      (pss_cons (ps_set (i := 4) sc_pull.nd rfl (.inl rfl) (pe_ix (r := rIxL K) ix_list (pv 0) pe_int (fun _ _ => rfl)))
      (pss_cons (ps_asg (pe_op op_mod (pe_op op_add (pe_op op_add (pe_op op_mul (pv 4) (pv 4)) (pe_op op_mul (pv 4) pe_int)) pe_int) pe_int) (pg_sub (pv 0) pe_int L2.set_list))
      (pss_one (ps_ret (pe_op op_mod (pe_op op_add (pe_op op_fdivW (pe_ix (r := rIxL K) ix_list (pv 0) pe_int (fun _ _ => rfl)) pe_int) (pe_op op_mul (pe_op op_mod (pe_ix (r := rIxL K) ix_list (pv 0) pe_int (fun _ _ => rfl)) pe_int) pe_int)) (pv 1)))))))), ?_⟩
    refine ⟨fun σ H' => ∃ y2, σ = [some (.ref b), some (.int n), y2, none, none] ∧ KeepT b H H' ∧ ∃ i big salt, BagC H' b s ns i big salt, ?_, ?_⟩
    · -- the first if
      refine ⟨.ref b, rfl, b, _, 2, _, rfl, rfl, SqL.of B.hb, at2, rfl, _, rfl, ite2 (fun c => ?_) (fun c => ?_)⟩
      · refine ⟨.ref b, rfl, b, _, 1, _, rfl, rfl, SqL.of B.hb, at1, .ref b, rfl, b, _, 0, _, rfl, rfl, SqL.of B.hb, at0, s, _, rfl, .inl (SqL.of B.hs), _, _, rfl, rfl, _, rfl, ite2 (fun c2 => ?_) (fun c2 => ?_)⟩
        · have hi : i < ns.length := by
            have := of_decide_eq_true c2
            rw [List.length_map] at this
            omega
          have g : (ns.map V.int)[i]? = some (.int ns[i]) := by
            rw [List.getElem?_map, List.getElem?_eq_getElem hi]
            rfl
          refine ⟨.ref b, rfl, b, _, 0, _, rfl, rfl, SqL.of B.hb, at0, .ref b, rfl, b, _, 1, _, rfl, rfl, SqL.of B.hb, at1, s, _, _, _, rfl, rfl, SqL.of B.hs, atI_nat g, ?_⟩
          refine ⟨.ref b, rfl, b, _, 1, _, rfl, rfl, SqL.of B.hb, at1, _, _, rfl, rfl, .ref b, rfl, b, _, 1, 1, rfl, rfl, B.hb, rfl, ?_⟩
          have k1 : KeepT b H (upd H b (.lst [.ref s, .int (↑i + 1), .int big, .int salt])) := (KeepT.refl b H).upd
          have hs1 : (upd H b (.lst [.ref s, .int (↑i + 1), .int big, .int salt])) s = some (.lst (ns.map V.int)) := by rw [upd_ne B.ne]; exact B.hs
          refine ⟨.int ns[i], rfl, _, _, rfl, rfl, ⟨by decide, by decide, by decide⟩, _, _, rfl, rfl, _, rfl, ite2 (fun c3 => ?_) (fun c3 => ?_)⟩
          · have hc : 0 ≤ ns[i] := by
              have h3 := of_decide_eq_true c3
              have h4 : ((10 : Int) ^ (18 : Int).toNat) = 1000000000000000000 := by decide
              rw [h4] at h3
              omega
            refine ⟨.int ns[i], rfl, .ref b, rfl, b, _, 2, 2, rfl, rfl, upd_same, rfl, ?_⟩
            refine ⟨_, rfl, k1.upd, i + 1, ns[i], salt, ⟨?_, ?_, B.ne, hi, B.hn, hc, B.h1, B.h2⟩⟩
            · rw [upd_same]; rfl
            · rw [upd_ne B.ne]; exact hs1
          · refine ⟨.ref b, rfl, b, _, 3, _, rfl, rfl, SqL.of upd_same, at3, _, _, rfl, rfl, .inr ⟨by decide, by decide⟩, .int ns[i], rfl, _, _, rfl, rfl, (show (0 : Int) < 2147483587 by decide), _, _, rfl, rfl, .inr ⟨by decide, by decide⟩, _, _, rfl, rfl, _, _, rfl, rfl, _, _, rfl, rfl, (show (0 : Int) < 2147483647 by decide), .ref b, rfl, b, _, 3, 3, rfl, rfl, upd_same, rfl, ?_⟩
            refine ⟨_, rfl, k1.upd, i + 1, big, (salt * 40692 + ns[i] % 2147483587 * 48271 + 7) % 2147483647, ⟨?_, ?_, B.ne, hi, B.hn, B.h0, Int.emod_nonneg _ (show (2147483647 : Int) ≠ 0 by decide), Int.emod_lt_of_pos _ (show (0 : Int) < 2147483647 by decide)⟩⟩
            · rw [upd_same]; rfl
            · rw [upd_ne B.ne]; exact hs1
        · exact ⟨_, rfl, KeepT.refl b H, i, big, salt, B⟩
      · exact ⟨_, rfl, KeepT.refl b H, i, big, salt, B⟩
    · rintro σ H1 ⟨y2, rfl, k1, i, big, salt, B⟩
      refine ⟨.ref b, rfl, b, _, 2, _, rfl, rfl, SqL.of B.hb, at2, _, _, rfl, rfl, _, rfl, ite2 (fun c => ?_) (fun c => ?_)⟩
      · refine ⟨.ref b, rfl, b, _, 2, _, rfl, rfl, SqL.of B.hb, at2, .int n, rfl, _, _, rfl, rfl, (show (0 : Int) < n by omega), .ref b, rfl, b, _, 2, _, rfl, rfl, SqL.of B.hb, at2, .int n, rfl, _, _, rfl, rfl, cdivw n1 n2, .ref b, rfl, b, _, 2, 2, rfl, rfl, B.hb, rfl, .int (big % n), rfl, ?_⟩
        refine q _ _ (Int.emod_nonneg _ (by omega)) (Int.emod_lt_of_pos _ (by omega)) k1.upd ⟨ns, i, big / n, salt, ?_, ?_, B.ne, B.hi, B.hn, Int.ediv_nonneg B.h0 (by omega), B.h1, B.h2⟩
        · rw [upd_same]; rfl
        · rw [upd_ne B.ne]; exact B.hs
      · have h1 := B.h1
        have h2 := B.h2
        refine ⟨.ref b, rfl, b, _, 3, _, rfl, rfl, SqL.of B.hb, at3, .int salt, rfl, .int salt, rfl, _, _, rfl, rfl, .inl ⟨by omega, by omega⟩, .int salt, rfl, _, _, rfl, rfl, .inl ⟨by omega, by omega⟩, _, _, rfl, rfl, _, _, rfl, rfl, _, _, rfl, rfl, (show (0 : Int) < 2147483647 by decide), .ref b, rfl, b, _, 3, 3, rfl, rfl, B.hb, rfl, ?_⟩
        refine ⟨.ref b, rfl, b, _, 3, _, rfl, rfl, SqL.of upd_same, at3, _, _, rfl, rfl, cdivw (n := 89) (by decide) (by decide), .ref b, rfl, b, _, 3, _, rfl, rfl, SqL.of upd_same, at3, _, _, rfl, rfl, (show (0 : Int) < 8191 by decide), _, _, rfl, rfl, .inr ⟨by decide, by decide⟩, _, _, rfl, rfl, .int n, rfl, _, _, rfl, rfl, (show (0 : Int) < n by omega), ?_⟩
        refine q _ _ (Int.emod_nonneg _ (by omega)) (Int.emod_lt_of_pos _ (by omega)) k1.upd ⟨ns, i, big, (salt * salt + salt * 69621 + 1013904223) % 2147483647, ?_, ?_, B.ne, B.hi, B.hn, B.h0, Int.emod_nonneg _ (show (2147483647 : Int) ≠ 0 by decide), Int.emod_lt_of_pos _ (show (0 : Int) < 2147483647 by decide)⟩
        · rw [upd_same]; rfl
        · rw [upd_ne B.ne]; exact B.hs
theorem ok_pull (T : Txt K mg) {k : Nat} : FnOk P w K mg base CX0 (k + 1) T.f_pull T.fd_pull ["_law_bag_here", "_law_amount"] (lSp K false sp_pull) := pull_d (okb_pull T)
theorem ok_of (T : Txt K mg) {k : Nat} : FnOk P w K mg base CX0 (k + 2) T.f_of T.fd_of ["_law_bag_here", "_law_things"] (lSp K false sp_of) := by
  refine T.F_of.ok sc_of (fun vs H Q E h => ?_) (fun cdv A outer s H vs Q E hr h => ?_)
  · obtain ⟨W, N0, ds, Pd, _, _, _, dd, sp, _⟩ := h
    rw [dd.len]
    exact ln_of sp
  · obtain ⟨W, N0, ds, Pd, al, wn, ok, dd, sp, q⟩ := h
    have tm : PSs (cxOf CX0 P w K mg base ["_law_bag_here", "_law_things"] "_law_of" (defScope s_of) T.f_of cdv A outer s H E).nox (defBody s_of) (lS ⟨K, W, N0, H, false⟩ (d_of)) := ((ss_one (ds_ret (by rfl) (dd_ix hr (c_b (dd_v (pv 1))) (c_b (dd_call (ok_pull T) hr (by rfl) T.g_pull T.F_pull.kp T.b_pull pass0 (da_cons (dd_v (pv 0)) (da_cons (dd_len (by rfl) T.m_len (c_b (dd_v (pv 1)))) da_nil))))))))
    exact ⟨_, tm, fn_d al wn ok dd q (rd_of sp)⟩
theorem ok_mixed (T : Txt K mg) {k : Nat} : FnOk P w K mg base CX0 (k + 2) T.f_mixed T.fd_mixed ["_law_bag_here", "_law_things"] (lSp K true sp_mixed) := by
  refine T.F_mixed.ok sc_mixed (fun vs H Q E h => ?_) (fun cdv A outer s H vs Q E hr h => ?_)
  · obtain ⟨W, N0, ds, Pd, _, _, _, dd, sp, _⟩ := h
    rw [dd.len]
    exact ln_mixed sp
  · obtain ⟨W, N0, ds, Pd, al, wn, ok, dd, sp, q⟩ := h
    have tm : PSs (cxOf CX0 P w K mg base ["_law_bag_here", "_law_things", "_law_found", "_law_thing"] "_law_mixed" (defScope s_mixed) T.f_mixed cdv A outer s H E).nox (defBody s_mixed) (lS ⟨K, W, N0, H, true⟩ (d_mixed)) := ((ss_cons (ds_setO (i := 2) sc_mixed.nd rfl (.inl rfl) (dn_lst da_nil))
      (ss_cons (ds_for PassesOwn.never rfl (di_seq (dd_v (pv 1))) (dg_name (i := 3) sc_mixed.nd rfl (Or.inl rfl)) (ss_one (ds_ins (pv 2) (dd_call (ok_pull T) hr (by rfl) T.g_pull T.F_pull.kp T.b_pull pass0 (da_cons (dd_v (pv 0)) (da_cons (dd_add (c_b (dd_len (by rfl) T.m_len (dd_b (pv 2)))) (c_b dd_int)) da_nil))) (dd_v (pv 3)))))
      (ss_one (ds_retO (pv 2))))))
    exact ⟨_, tm, fn_d al wn ok dd q (rd_mixed sp)⟩
theorem ok_names (T : Txt K mg) {k : Nat} : FnOk P w K mg base CX0 (k + 3) T.f_names T.fd_names ["_law_bag_here", "_law_count"] (lSp K true sp_names) := by
  refine T.F_names.ok sc_names (fun vs H Q E h => ?_) (fun cdv A outer s H vs Q E hr h => ?_)
  · obtain ⟨W, N0, ds, Pd, _, _, _, dd, sp, _⟩ := h
    rw [dd.len]
    exact ln_names sp
  · obtain ⟨W, N0, ds, Pd, al, wn, ok, dd, sp, q⟩ := h
    have tm : PSs (cxOf CX0 P w K mg base ["_law_bag_here", "_law_count", "_law_letters", "_law_base", "_law_k", "_law_spot", "_law_first", "_law_step"] "_law_names" (defScope s_names) T.f_names cdv A outer s H E).nox (defBody s_names) (lS ⟨K, W, N0, H, true⟩ (d_names)) := ((ss_cons (PS.mono (ps_asg (n_c (dn_tup (da_cons dd_str (da_cons dd_str da_nil)))) (PG.mono (pg_tup (by rfl) (PGs.mono (pgs_cons (dg_name (i := 2) sc_names.nd rfl (Or.inr rfl)) (PGs.mono (pgs_cons (dg_name (i := 3) sc_names.nd rfl (Or.inr rfl)) dgs_nil) l_gcons)) l_gcons)) (l_gtup rfl))) l_asg)
      (ss_cons (ds_for PassesOwn.never rfl (di_rng (by rfl) T.m_range (da_cons (dd_call (ok_pull T) hr (by rfl) T.g_pull T.F_pull.kp T.b_pull pass0 (da_cons (dd_v (pv 0)) (da_cons dd_int da_nil))) da_nil)) (dg_name (i := 4) sc_names.nd rfl (Or.inl rfl)) (ss_one (ds_set (i := 3) sc_names.nd rfl (.inr rfl) (dd_add (c_b (dd_v (pv 3))) (c_b (dd_call (ok_of T) hr (by rfl) T.g_of T.F_of.kp T.b_of pass0 (da_cons (dd_v (pv 0)) (da_cons (dd_v (pv 2)) da_nil))))))))
      (ss_cons (ds_if (dt_eq hr (c_b (dd_call (ok_pull T) hr (by rfl) T.g_pull T.F_pull.kp T.b_pull pass0 (da_cons (dd_v (pv 0)) (da_cons dd_int da_nil)))) (c_b dd_int)) (ss_one (ds_retN (PE.mono (pe_lc (own := [("_law_k", 4)]) (by rfl) sc_names.nd (db_rng (by rfl) T.m_range (da_cons (dd_v (pv 1)) da_nil)) (blkOk_by (own := [("_law_k", 4)]) (N := ["_law_bag_here", "_law_count", "_law_letters", "_law_base", "_law_k", "_law_spot", "_law_first", "_law_step"]) (sc := defScope s_names) (by decide +kernel)) (fun _ _ _ _ _ => (dg_name (i := 4) sc_names.nd rfl (Or.inl rfl))) (fun _ _ _ _ _ => ts_nil) (fun _ _ _ _ _ => (dd_mul (c_b (dd_ix hr (c_b (dd_v (pv 2))) (c_b (dd_mod (c_b (dd_add (c_b (dd_len (by rfl) T.m_len (c_b (dd_v (pv 3))))) (c_b (dd_mul (c_b dd_int) (c_b (dd_v (pv 4))))))) (c_b dd_int))))) (c_b (dd_add (c_b dd_int) (c_b (dd_mod (c_b (dd_add (c_b (dd_len (by rfl) T.m_len (c_b (dd_v (pv 3))))) (c_b (dd_mul (c_b dd_int) (c_b (dd_v (pv 4))))))) (c_b dd_int)))))))) (l_lc (by simp))))) ss_nil)
      (ss_cons (PS.mono (ps_asg (n_c (dn_tup (da_cons (dd_call (ok_pull T) hr (by rfl) T.g_pull T.F_pull.kp T.b_pull pass0 (da_cons (dd_v (pv 0)) (da_cons (dd_add (c_b (dd_len (by rfl) T.m_len (c_b (dd_v (pv 3))))) (c_b dd_int)) da_nil))) (da_cons (dd_call (ok_pull T) hr (by rfl) T.g_pull T.F_pull.kp T.b_pull pass0 (da_cons (dd_v (pv 0)) (da_cons dd_int da_nil))) (da_cons (dd_call (ok_of T) hr (by rfl) T.g_of T.F_of.kp T.b_of pass0 (da_cons (dd_v (pv 0)) (da_cons (n_c (dn_lst (da_cons dd_int (da_cons dd_int (da_cons dd_int (da_cons dd_int (da_cons dd_int da_nil))))))) da_nil))) da_nil))))) (PG.mono (pg_tup (by rfl) (PGs.mono (pgs_cons (dg_name (i := 5) sc_names.nd rfl (Or.inr rfl)) (PGs.mono (pgs_cons (dg_name (i := 6) sc_names.nd rfl (Or.inr rfl)) (PGs.mono (pgs_cons (dg_name (i := 7) sc_names.nd rfl (Or.inr rfl)) dgs_nil) l_gcons)) l_gcons)) l_gcons)) (l_gtup rfl))) l_asg)
      (ss_one (ds_retN (PE.mono (pe_lc (own := [("_law_k", 4)]) (by rfl) sc_names.nd (db_rng (by rfl) T.m_range (da_cons (dd_v (pv 1)) da_nil)) (blkOk_by (own := [("_law_k", 4)]) (N := ["_law_bag_here", "_law_count", "_law_letters", "_law_base", "_law_k", "_law_spot", "_law_first", "_law_step"]) (sc := defScope s_names) (by decide +kernel)) (fun _ _ _ _ _ => (dg_name (i := 4) sc_names.nd rfl (Or.inl rfl))) (fun _ _ _ _ _ => ts_nil) (fun _ _ _ _ _ => (dd_add (c_b (dd_add (c_b (dd_cut (c_b (dd_v (pv 3))) do_none (do_some (dd_v (pv 5))))) (c_b (dd_ix hr (c_b (dd_v (pv 2))) (c_b (dd_mod (c_b (dd_add (c_b (dd_v (pv 6))) (c_b (dd_mul (c_b (dd_v (pv 7))) (c_b (dd_v (pv 4))))))) (c_b dd_int))))))) (c_b (dd_cut (c_b (dd_v (pv 3))) (do_some (dd_v (pv 5))) do_none))))) (l_lc (by simp))))))))))
    exact ⟨_, tm, fn_d al wn ok dd q (rd_names sp)⟩
theorem ok_after (T : Txt K mg) {k : Nat} : FnOk P w K mg base CX0 (k + 1) T.f_after T.fd_after ["_law_rects", "_law_order_z", "_law_steps"] (lSp K false sp_afterM) := by
  refine T.F_after.ok sc_after (fun vs H Q E h => ?_) (fun cdv A outer s H vs Q E hr h => ?_)
  · obtain ⟨W, N0, ds, Pd, _, _, _, dd, sp, _⟩ := h
    rw [dd.len]
    exact ln_afterM sp
  · obtain ⟨W, N0, ds, Pd, al, wn, ok, dd, sp, q⟩ := h
    have tm : PSs (cxOf CX0 P w K mg base ["_law_rects", "_law_order_z", "_law_steps", "_law_step", "_law_named", "_law_others", "_law_name"] "_law_after" (defScope s_after) T.f_after cdv A outer s H E).nox (defBody s_after) (lS ⟨K, W, N0, H, false⟩ (d_afterM)) := ((ss_cons (PS.mono (ps_par (i := 0) (j := 1) (by rfl) sc_after.nd rfl rfl (by decide) rfl rfl (pa_cons (dn_dict (by rfl) T.m_dict (dd_b (pv 0))) (pa_cons (n_c (dn_list (by rfl) T.m_list (c_b (dd_v (pv 1))))) pa_nil)) (by rfl)) l_parL)
      (ss_cons (ds_for PassesOwn.never rfl (di_seq (dd_v (pv 2))) (dg_name (i := 3) sc_after.nd rfl (Or.inr rfl)) (ss_one (ds_if (dt_eq hr (c_b (dd_ix hr (c_b (dd_v (pv 3))) (c_b dd_int))) (c_b dd_str)) (ss_one (PS.mono (ps_dput (hu_of hr) (pv 0) (dd_ix hr (c_b (dd_v (pv 3))) (c_b dd_int)) (dd_ix hr (c_b (dd_v (pv 3))) (c_b dd_int)) rfl) l_dput)) (ss_cons (PS.mono (ps_par (i := 4) (j := 5) (by rfl) sc_after.nd rfl rfl (by decide) rfl rfl (pa_cons (n_c (PE.mono (pe_lc (own := [("_law_name", 6)]) (by rfl) sc_after.nd (db_seq (c_b (dd_v (pv 1)))) (blkOk_by (own := [("_law_name", 6)]) (N := ["_law_rects", "_law_order_z", "_law_steps", "_law_step", "_law_named", "_law_others", "_law_name"]) (sc := defScope s_after) (by decide +kernel)) (fun _ _ _ _ _ => (dg_name (i := 6) sc_after.nd rfl (Or.inl rfl))) (fun _ _ _ _ _ => (ts_one (dt_in hr (c_b (dd_v (pv 6))) (c_b (dd_ix hr (c_b (dd_v (pv 3))) (c_b dd_int)))))) (fun _ _ _ _ _ => (dd_v (pv 6)))) (l_lc (by simp)))) (pa_cons (n_c (PE.mono (pe_lc (own := [("_law_name", 6)]) (by rfl) sc_after.nd (db_seq (c_b (dd_v (pv 1)))) (blkOk_by (own := [("_law_name", 6)]) (N := ["_law_rects", "_law_order_z", "_law_steps", "_law_step", "_law_named", "_law_others", "_law_name"]) (sc := defScope s_after) (by decide +kernel)) (fun _ _ _ _ _ => (dg_name (i := 6) sc_after.nd rfl (Or.inl rfl))) (fun _ _ _ _ _ => (ts_one (dt_notin hr (c_b (dd_v (pv 6))) (c_b (dd_ix hr (c_b (dd_v (pv 3))) (c_b dd_int)))))) (fun _ _ _ _ _ => (dd_v (pv 6)))) (l_lc (by simp)))) pa_nil)) (by rfl)) l_par)
      (ss_one (ds_set (i := 1) sc_after.nd rfl (.inl rfl) (dd_if (dt_eq hr (c_b (dd_ix hr (c_b (dd_v (pv 3))) (c_b dd_int))) (c_b dd_str)) (dd_add (c_b (dd_v (pv 5))) (c_b (dd_v (pv 4)))) (dd_add (c_b (dd_v (pv 4))) (c_b (dd_v (pv 5)))))))))))
      (ss_frz (i := 0) (ss_one (ds_ret (by rfl) (n_c (dn_tup (da_cons (dd_v (pv 0)) (da_cons (dd_v (pv 1)) da_nil))))))))))
    exact ⟨_, tm, fn_d al wn ok dd q (rd_afterM sp)⟩
theorem ok_keeps (T : Txt K mg) {k : Nat} : FnOk P w K mg base CX0 (k + 1) T.f_keeps T.fd_keeps ["_law_order_z", "_law_wish_z"] (lSp K false sp_keepsM) := by
  refine T.F_keeps.ok sc_keeps (fun vs H Q E h => ?_) (fun cdv A outer s H vs Q E hr h => ?_)
  · obtain ⟨W, N0, ds, Pd, _, _, _, dd, sp, _⟩ := h
    rw [dd.len]
    exact ln_keepsM sp
  · obtain ⟨W, N0, ds, Pd, al, wn, ok, dd, sp, q⟩ := h
    have tm : PSs (cxOf CX0 P w K mg base ["_law_order_z", "_law_wish_z", "_law_low", "_law_high"] "_law_keeps" (defScope s_keeps) T.f_keeps cdv A outer s H E).nox (defBody s_keeps) (lS ⟨K, W, N0, H, false⟩ (d_keepsM)) := ((ss_one (ds_ret (by rfl) (dd_all (by rfl) T.m_all (c_b (n_c (PE.mono (pe_lc (own := [("_law_low", 2), ("_law_high", 3)]) (by rfl) sc_keeps.nd (db_seq (c_b (dd_v (pv 1)))) (blkOk_by (own := [("_law_low", 2), ("_law_high", 3)]) (N := ["_law_order_z", "_law_wish_z", "_law_low", "_law_high"]) (sc := defScope s_keeps) (by decide +kernel)) (fun _ _ _ _ _ => (PG.mono (pg_tup (by rfl) (PGs.mono (pgs_cons (dg_name (i := 2) sc_keeps.nd rfl (Or.inl rfl)) (PGs.mono (pgs_cons (dg_name (i := 3) sc_keeps.nd rfl (Or.inl rfl)) dgs_nil) l_gcons)) l_gcons)) (l_gtup rfl))) (fun _ _ _ _ _ => ts_nil) (fun _ _ _ _ _ => (dd_lt (c_b (dd_index (c_b (dd_v (pv 0))) (c_b (dd_v (pv 2))))) (c_b (dd_index (c_b (dd_v (pv 0))) (c_b (dd_v (pv 3)))))))) (l_lc (by simp)))))))))
    exact ⟨_, tm, fn_d al wn ok dd q (rd_keepsM sp)⟩
theorem ok_wish (T : Txt K mg) {k : Nat} : FnOk P w K mg base CX0 (k + 3) T.f_wish T.fd_wish ["_law_bag_here", "_law_names_here", "_law_most"] (lSp K true sp_wish) := by
  refine T.F_wish.ok sc_wish (fun vs H Q E h => ?_) (fun cdv A outer s H vs Q E hr h => ?_)
  · obtain ⟨W, N0, ds, Pd, _, _, _, dd, sp, _⟩ := h
    rw [dd.len]
    exact ln_wish sp
  · obtain ⟨W, N0, ds, Pd, al, wn, ok, dd, sp, q⟩ := h
    have tm : PSs (cxOf CX0 P w K mg base ["_law_bag_here", "_law_names_here", "_law_most", "_law_base", "_law_found", "_law_k", "_law_one", "_law_other", "_law_good"] "_law_wish" (defScope s_wish) T.f_wish cdv A outer s H E).nox (defBody s_wish) (lS ⟨K, W, N0, H, true⟩ (d_wish)) := ((ss_cons (PS.mono (ps_par (i := 3) (j := 4) (by rfl) sc_wish.nd rfl rfl (by decide) rfl rfl (pa_cons (n_c (dn_call (ok_mixed T) hr (by rfl) T.g_mixed T.F_mixed.kp T.b_mixed pass0 (da_cons (dd_v (pv 0)) (da_cons (dd_v (pv 1)) da_nil)))) (pa_cons (dn_lst da_nil) pa_nil)) (by rfl)) l_parR)
      (ss_cons (ds_for PassesOwn.never rfl (di_rng (by rfl) T.m_range (da_cons (dd_call (ok_pull T) hr (by rfl) T.g_pull T.F_pull.kp T.b_pull pass0 (da_cons (dd_v (pv 0)) (da_cons (dd_add (c_b (dd_v (pv 2))) (c_b dd_int)) da_nil))) da_nil)) (dg_name (i := 5) sc_wish.nd rfl (Or.inl rfl)) (ss_cons (PS.mono (ps_par (i := 6) (j := 7) (by rfl) sc_wish.nd rfl rfl (by decide) rfl rfl (pa_cons (dd_call (ok_of T) hr (by rfl) T.g_of T.F_of.kp T.b_of pass0 (da_cons (dd_v (pv 0)) (da_cons (dd_v (pv 1)) da_nil))) (pa_cons (dd_call (ok_of T) hr (by rfl) T.g_of T.F_of.kp T.b_of pass0 (da_cons (dd_v (pv 0)) (da_cons (dd_v (pv 1)) da_nil))) pa_nil)) (by rfl)) l_par)
      (ss_one (ds_if (dt_ne hr (c_b (dd_v (pv 6))) (c_b (dd_v (pv 7)))) (ss_cons (ds_set (i := 8) sc_wish.nd rfl (.inl rfl) (dd_or (dd_lt (c_b (dd_index (c_b (dd_v (pv 3))) (c_b (dd_v (pv 6))))) (c_b (dd_index (c_b (dd_v (pv 3))) (c_b (dd_v (pv 7)))))) (dd_one (dd_eq hr (c_b (dd_call (ok_pull T) hr (by rfl) T.g_pull T.F_pull.kp T.b_pull pass0 (da_cons (dd_v (pv 0)) (da_cons dd_int da_nil)))) (c_b dd_int)))))
      (ss_one (ds_app (pv 4) (dd_if (dt_tru (c_b (dd_v (pv 8)))) (n_c (dn_tup (da_cons (dd_v (pv 6)) (da_cons (dd_v (pv 7)) da_nil)))) (n_c (dn_tup (da_cons (dd_v (pv 7)) (da_cons (dd_v (pv 6)) da_nil)))))))) ss_nil))))
      (ss_one (ds_retO (pv 4))))))
    exact ⟨_, tm, fn_d al wn ok dd q (rd_wish sp)⟩
theorem ok_steps_are (T : Txt K mg) {k : Nat} : FnOk P w K mg base CX0 (k + 1) T.f_steps_are T.fd_steps_are ["_law_steps", "_law_words", "_law_names_here"] (lSp K false sp_steps_are) := by
  refine T.F_steps_are.ok sc_steps_are (fun vs H Q E h => ?_) (fun cdv A outer s H vs Q E hr h => ?_)
  · obtain ⟨W, N0, ds, Pd, _, _, _, dd, sp, _⟩ := h
    rw [dd.len]
    exact ln_steps_are sp
  · obtain ⟨W, N0, ds, Pd, al, wn, ok, dd, sp, q⟩ := h
    have tm : PSs (cxOf CX0 P w K mg base ["_law_steps", "_law_words", "_law_names_here", "_law_good", "_law_step", "_law_name"] "_law_steps_are" (defScope s_steps_are) T.f_steps_are cdv A outer s H E).nox (defBody s_steps_are) (lS ⟨K, W, N0, H, false⟩ (d_steps_are)) := ((ss_cons (ds_if (PW.pt (wt_or (dt_not (dt_val (dd_isi (by rfl) T.m_isinstance (c_b (dd_v (pv 0))) (pe_bltn (v := .ty "list") (by rfl) T.m_list (by decide +kernel) rfl)))) (wt_or1 (dt_not (dt_val (dd_all (by rfl) T.m_all (c_b (n_c (PE.mono (pe_lc (own := [("_law_step", 4)]) (by rfl) sc_steps_are.nd (db_seq (c_b (dd_v (pv 0)))) (blkOk_by (own := [("_law_step", 4)]) (N := ["_law_steps", "_law_words", "_law_names_here", "_law_good", "_law_step", "_law_name"]) (sc := defScope s_steps_are) (by decide +kernel)) (fun _ _ _ _ _ => (dg_name (i := 4) sc_steps_are.nd rfl (Or.inl rfl))) (fun _ _ _ _ _ => ts_nil) (fun _ _ _ _ _ => (dd_and (dd_isi (by rfl) T.m_isinstance (c_b (dd_v (pv 4))) (pe_bltn (v := .ty "tuple") (by rfl) T.m_tuple (by decide +kernel) rfl)) (dd_and (dd_eq hr (c_b (dd_len (by rfl) T.m_len (c_b (dd_v (pv 4))))) (c_b dd_int)) (dd_one (dd_in hr (c_b (dd_ix hr (c_b (dd_v (pv 4))) (c_b dd_int))) (c_b (dd_v (pv 1))))))))) (l_lc (by simp))))))))))) (ss_one (ds_ret (by rfl) dd_bl)) ss_nil)
      (ss_cons (PS.mono (ps_setLc (i := 3) (own := [("_law_step", 4)]) (by rfl) sc_steps_are.nd rfl rfl (sw_true rfl rfl rfl (by decide +kernel)) (db_seq (c_b (dd_v (pv 0)))) (blkOk_by (own := [("_law_step", 4)]) (N := ["_law_steps", "_law_words", "_law_names_here", "_law_good", "_law_step", "_law_name"]) (sc := defScope s_steps_are) (by decide +kernel)) (fun _ _ _ _ _ => (dg_name (i := 4) sc_steps_are.nd rfl (Or.inl rfl))) (fun _ _ _ _ _ => ts_nil) (fun _ _ _ _ _ => (dd_and (dd_isi (by rfl) T.m_isinstance (c_b (dd_ix hr (c_b (dd_v (pv 4))) (c_b dd_int))) (pe_bltn (v := .ty "list") (by rfl) T.m_list (by decide +kernel) rfl)) (dd_one (dd_lteq hr (c_b dd_int) (c_b (dd_len (by rfl) T.m_len (c_b (dd_ix hr (c_b (dd_v (pv 4))) (c_b dd_int))))) (c_b (dd_lenSet (by rfl) T.m_len (by rfl) T.m_set (c_b (dd_ix hr (c_b (dd_v (pv 4))) (c_b dd_int)))))))))) (l_setF_n (l_lc (by simp))))
      (ss_one (ds_ret (by rfl) (dd_and (dd_all (by rfl) T.m_all (c_b (dd_v (pv 3)))) (dd_one (dd_all (by rfl) T.m_all (c_b (n_c (PE.mono (pe_lc (own := [("_law_step", 4)]) (by rfl) sc_steps_are.nd (db_seq (c_b (dd_v (pv 0)))) (blkOk_by (own := [("_law_step", 4)]) (N := ["_law_steps", "_law_words", "_law_names_here", "_law_good", "_law_step", "_law_name"]) (sc := defScope s_steps_are) (by decide +kernel)) (fun _ _ _ _ _ => (dg_name (i := 4) sc_steps_are.nd rfl (Or.inl rfl))) (fun _ _ _ _ _ => ts_nil) (fun _ _ _ _ _ => (dd_all (by rfl) T.m_all (c_b (n_c (PE.mono (pe_lc (own := [("_law_name", 5)]) (by rfl) sc_steps_are.nd (db_seq (c_b (dd_ix hr (c_b (dd_v (pv 4))) (c_b dd_int)))) (blkOk_by (own := [("_law_name", 5)]) (N := ["_law_steps", "_law_words", "_law_names_here", "_law_good", "_law_step", "_law_name"]) (by kernel_rfl)) (fun _ _ _ _ _ => (dg_name (i := 5) sc_steps_are.nd rfl (Or.inl rfl))) (fun _ _ _ _ _ => ts_nil) (fun _ _ _ _ _ => (dd_in hr (c_b (dd_v (pv 5))) (c_b (dd_v (pv 2)))))) (l_lc (by simp)))))))) (l_lc (by simp)))))))))))))
    exact ⟨_, tm, fn_d al wn ok dd q (rd_steps_are sp)⟩
theorem ok_kept_wish (T : Txt K mg) {k : Nat} : FnOk P w K mg base CX0 (k + 4) T.f_kept_wish T.fd_kept_wish ["_law_bag_here", "_law_names_here", "_law_most"] (lSp K false sp_kept_wishN) := by
  refine T.F_kept_wish.ok sc_kept_wish (fun vs H Q E h => ?_) (fun cdv A outer s H vs Q E hr h => ?_)
  · obtain ⟨W, N0, ds, Pd, _, _, _, dd, sp, _⟩ := h
    rw [dd.len]
    exact ln_kept_wishN sp
  · obtain ⟨W, N0, ds, Pd, al, wn, ok, dd, sp, q⟩ := h
    have tm : PSs (cxOf CX0 P w K mg base ["_law_bag_here", "_law_names_here", "_law_most", "_law_base", "_law_low", "_law_high"] "_law_kept_wish" (defScope s_kept_wish) T.f_kept_wish cdv A outer s H E).nox (defBody s_kept_wish) (lS ⟨K, W, N0, H, false⟩ (d_kept_wishN)) := ((ss_cons (ds_set (i := 3) sc_kept_wish.nd rfl (.inr rfl) (n_c (dn_call (ok_mixed T) hr (by rfl) T.g_mixed T.F_mixed.kp T.b_mixed pass0 (da_cons (dd_v (pv 0)) (da_cons (dd_v (pv 1)) da_nil)))))
      (ss_one (ds_ret (by rfl) (n_c (PE.mono (pe_lc (own := [("_law_low", 4), ("_law_high", 5)]) (by rfl) sc_kept_wish.nd (db_seq (c_b (n_c (dn_call (ok_wish T) hr (by rfl) T.g_wish T.F_wish.kp T.b_wish pass0 (da_cons (dd_v (pv 0)) (da_cons (dd_v (pv 1)) (da_cons (dd_v (pv 2)) da_nil))))))) (blkOk_by (own := [("_law_low", 4), ("_law_high", 5)]) (N := ["_law_bag_here", "_law_names_here", "_law_most", "_law_base", "_law_low", "_law_high"]) (sc := defScope s_kept_wish) (by decide +kernel)) (fun _ _ _ _ _ => (PG.mono (pg_tup (by rfl) (PGs.mono (pgs_cons (dg_name (i := 4) sc_kept_wish.nd rfl (Or.inl rfl)) (PGs.mono (pgs_cons (dg_name (i := 5) sc_kept_wish.nd rfl (Or.inl rfl)) dgs_nil) l_gcons)) l_gcons)) (l_gtup rfl))) (fun _ _ _ _ _ => (ts_one (dt_lt (c_b (dd_index (c_b (dd_v (pv 3))) (c_b (dd_v (pv 4))))) (c_b (dd_index (c_b (dd_v (pv 3))) (c_b (dd_v (pv 5)))))))) (fun _ _ _ _ _ => (n_c (dn_tup (da_cons (dd_v (pv 4)) (da_cons (dd_v (pv 5)) da_nil)))))) (l_lc (by simp))))))))
    exact ⟨_, tm, fn_d al wn ok dd q (rd_kept_wishN sp)⟩
theorem ok_all_groups (T : Txt K mg) {k : Nat} : FnOk P w K mg base CX0 (k + 1) T.f_all_groups T.fd_all_groups ["_law_names_here"] (lSp K false sp_all_groups) := by
  refine T.F_all_groups.ok sc_all_groups (fun vs H Q E h => ?_) (fun cdv A outer s H vs Q E hr h => ?_)
  · obtain ⟨W, N0, ds, Pd, _, _, _, dd, sp, _⟩ := h
    rw [dd.len]
    exact ln_all_groups sp
  · obtain ⟨W, N0, ds, Pd, al, wn, ok, dd, sp, q⟩ := h
    have tm : PSs (cxOf CX0 P w K mg base ["_law_names_here", "_law_found", "_law_name", "_law_some"] "_law_all_groups" (defScope s_all_groups) T.f_all_groups cdv A outer s H E).nox (defBody s_all_groups) (lS ⟨K, W, N0, H, false⟩ (d_all_groups)) := ((ss_cons (ds_set (i := 1) sc_all_groups.nd rfl (.inl rfl) (n_c (dn_lst (da_cons (n_c (dn_lst da_nil)) da_nil))))
      (ss_cons (ds_for PassesOwn.never rfl (di_seq (dd_v (pv 0))) (dg_name (i := 2) sc_all_groups.nd rfl (Or.inr rfl)) (ss_one (ds_set (i := 1) sc_all_groups.nd rfl (.inl rfl) (dd_add (c_b (dd_v (pv 1))) (c_b (n_c (PE.mono (pe_lc (own := [("_law_some", 3)]) (by rfl) sc_all_groups.nd (db_seq (c_b (dd_v (pv 1)))) (blkOk_by (own := [("_law_some", 3)]) (N := ["_law_names_here", "_law_found", "_law_name", "_law_some"]) (sc := defScope s_all_groups) (by decide +kernel)) (fun _ _ _ _ _ => (dg_name (i := 3) sc_all_groups.nd rfl (Or.inl rfl))) (fun _ _ _ _ _ => ts_nil) (fun _ _ _ _ _ => (dd_add (c_b (dd_v (pv 3))) (c_b (n_c (dn_lst (da_cons (dd_v (pv 2)) da_nil))))))) (l_lc (by simp)))))))))
      (ss_one (ds_ret (by rfl) (n_c (PE.mono (pe_lc (own := [("_law_some", 3)]) (by rfl) sc_all_groups.nd (db_seq (c_b (dd_v (pv 1)))) (blkOk_by (own := [("_law_some", 3)]) (N := ["_law_names_here", "_law_found", "_law_name", "_law_some"]) (sc := defScope s_all_groups) (by decide +kernel)) (fun _ _ _ _ _ => (dg_name (i := 3) sc_all_groups.nd rfl (Or.inl rfl))) (fun _ _ _ _ _ => (ts_one (dt_ne hr (c_b (dd_v (pv 3))) (c_b (n_c (dn_lst da_nil)))))) (fun _ _ _ _ _ => (n_c (dn_tup (da_cons dd_str (da_cons (dd_v (pv 3)) da_nil)))))) (l_lc (by simp)))))))))
    exact ⟨_, tm, fn_d al wn ok dd q (rd_all_groups sp)⟩
theorem ok_rounds (T : Txt K mg) {k : Nat} : FnOk P w K mg base CX0 (k + 2) T.f_rounds T.fd_rounds ["_law_order_z", "_law_steps", "_law_wish_z"] (lSp K false sp_rounds) := by
  refine T.F_rounds.ok sc_rounds (fun vs H Q E h => ?_) (fun cdv A outer s H vs Q E hr h => ?_)
  · obtain ⟨W, N0, ds, Pd, _, _, _, dd, sp, _⟩ := h
    rw [dd.len]
    exact ln_rounds sp
  · obtain ⟨W, N0, ds, Pd, al, wn, ok, dd, sp, q⟩ := h
    have tm : PSs (cxOf CX0 P w K mg base ["_law_order_z", "_law_steps", "_law_wish_z", "_law_known", "_law_count", "_law_here", "_law_later", "_law_step"] "_law_rounds" (defScope s_rounds) T.f_rounds cdv A outer s H E).nox (defBody s_rounds) (lS ⟨K, W, N0, H, false⟩ (d_rounds)) := ((ss_cons (PS.mono (ps_par (i := 3) (j := 4) (by rfl) sc_rounds.nd rfl rfl (by decide) rfl rfl (pa_cons (n_c (dn_lst (da_cons (n_c (dn_tuple (by rfl) T.m_tuple (c_b (dd_v (pv 0))))) da_nil))) (pa_cons dd_int pa_nil)) (by rfl)) l_par)
      (ss_cons (ds_while PassesOwn.never (dt_not (dt_val (dd_any (by rfl) T.m_any (c_b (n_c (PE.mono (pe_lc (own := [("_law_here", 5)]) (by rfl) sc_rounds.nd (db_seq (c_b (dd_v (pv 3)))) (blkOk_by (own := [("_law_here", 5)]) (N := ["_law_order_z", "_law_steps", "_law_wish_z", "_law_known", "_law_count", "_law_here", "_law_later", "_law_step"]) (sc := defScope s_rounds) (by decide +kernel)) (fun _ _ _ _ _ => (dg_name (i := 5) sc_rounds.nd rfl (Or.inl rfl))) (fun _ _ _ _ _ => ts_nil) (fun _ _ _ _ _ => (dd_call (ok_keeps T) hr (by rfl) T.g_keeps T.F_keeps.kp T.b_keeps pass0 (da_cons (n_c (dn_list (by rfl) T.m_list (c_b (dd_v (pv 5))))) (da_cons (dd_v (pv 2)) da_nil))))) (l_lc (by simp)))))))) (ss_cons (ds_set (i := 6) sc_rounds.nd rfl (.inl rfl) (n_c (dn_lst da_nil)))
      (ss_cons (ds_for PassesOwn.never rfl (di_seq (dd_v (pv 3))) (dg_name (i := 5) sc_rounds.nd rfl (Or.inr rfl)) (ss_one (ds_set (i := 6) sc_rounds.nd rfl (.inl rfl) (dd_add (c_b (dd_v (pv 6))) (c_b (n_c (PE.mono (pe_lc (own := [("_law_step", 7)]) (by rfl) sc_rounds.nd (db_seq (c_b (dd_v (pv 1)))) (blkOk_by (own := [("_law_step", 7)]) (N := ["_law_order_z", "_law_steps", "_law_wish_z", "_law_known", "_law_count", "_law_here", "_law_later", "_law_step"]) (sc := defScope s_rounds) (by decide +kernel)) (fun _ _ _ _ _ => (dg_name (i := 7) sc_rounds.nd rfl (Or.inl rfl))) (fun _ _ _ _ _ => ts_nil) (fun _ _ _ _ _ => (n_c (dn_tuple (by rfl) T.m_tuple (c_b (dd_ix hr (c_b (dd_call (ok_after T) hr (by rfl) T.g_after T.F_after.kp T.b_after pass0 (da_cons (n_c dn_emp) (da_cons (n_c (dn_list (by rfl) T.m_list (c_b (dd_v (pv 5))))) (da_cons (n_c (dn_lst (da_cons (dd_v (pv 7)) da_nil))) da_nil))))) (c_b dd_int))))))) (l_lc (by simp)))))))))
      (ss_one (PS.mono (ps_par (i := 3) (j := 4) (by rfl) sc_rounds.nd rfl rfl (by decide) rfl rfl (pa_cons (n_c (dn_soSet hr (by rfl) T.m_sorted (by rfl) T.m_set (c_b (dd_add (c_b (dd_v (pv 3))) (c_b (dd_v (pv 6))))))) (pa_cons (dd_add (c_b (dd_v (pv 4))) (c_b dd_int)) pa_nil)) (by rfl)) l_par)))))
      (ss_one (ds_ret (by rfl) (dd_v (pv 4)))))))
    exact ⟨_, tm, fn_d al wn ok dd q (rd_rounds sp)⟩
theorem ok_law (T : Txt K mg) : RK.FnAt P w K mg base CX0 callerA T.f_law T.fd_law ["_law_script"] (spLaw K) := by
  refine DL.fun_at (k := 4) T.F_law sc_law ⟨rfl, by decide, by decide⟩ (fun vs H Q E h => ?_) (fun cdv outer s H vs Q E hr h => ?_)
  · obtain ⟨a, ns, rfl, _⟩ := h
    rfl
  · obtain ⟨a, ns, rfl, hS, hlen, q⟩ := h
    have tm : ∀ W N0 H0, PSs (cxOf CX0 P w K mg base ["_law_script", "_law_bag_here", "_law_turn", "_law_names_here", "_law_order_z", "_law_wish_z", "_law_due", "_law_shown", "_law_again", "_law_found"] "law" (defScope s_law) T.f_law cdv callerA outer s H E).nox ((defBody s_law).drop 1) (lS ⟨K, W, N0, H0, false⟩ (d_law)) := fun W N0 H0 => ((ss_cons (ds_for PassesOwn.never rfl (di_rng (by rfl) T.m_range (da_cons dd_int da_nil)) (dg_name (i := 2) sc_law.nd rfl (Or.inl rfl)) (ss_cons (ds_set (i := 3) sc_law.nd rfl (.inl rfl) (n_c (dn_call (ok_mixed T) hr (by rfl) T.g_mixed T.F_mixed.kp T.b_mixed pass0 (da_cons (dd_v (pv 1)) (da_cons (n_c (dn_call (ok_names T) hr (by rfl) T.g_names T.F_names.kp T.b_names pass0 (da_cons (dd_v (pv 1)) (da_cons (dd_add (c_b dd_int) (c_b (dd_call (ok_pull T) hr (by rfl) T.g_pull T.F_pull.kp T.b_pull pass0 (da_cons (dd_v (pv 1)) (da_cons dd_int da_nil))))) da_nil)))) da_nil)))))
      (ss_cons (PS.mono (ps_par (i := 4) (j := 5) (by rfl) sc_law.nd rfl rfl (by decide) rfl rfl (pa_cons (n_c (dn_call (ok_mixed T) hr (by rfl) T.g_mixed T.F_mixed.kp T.b_mixed pass0 (da_cons (dd_v (pv 1)) (da_cons (dd_v (pv 3)) da_nil)))) (pa_cons (dd_call (ok_kept_wish T) hr (by rfl) T.g_kept_wish T.F_kept_wish.kp T.b_kept_wish pass0 (da_cons (dd_v (pv 1)) (da_cons (dd_v (pv 3)) (da_cons dd_int da_nil)))) pa_nil)) (by rfl)) l_par)
      (ss_cons (PS.mono (ps_par (i := 6) (j := 7) (by rfl) sc_law.nd rfl rfl (by decide) rfl rfl (pa_cons (dd_call (ok_rounds T) hr (by rfl) T.g_rounds T.F_rounds.kp T.b_rounds pass0 (da_cons (dd_v (pv 4)) (da_cons (dd_call (ok_all_groups T) hr (by rfl) T.g_all_groups T.F_all_groups.kp T.b_all_groups pass0 (da_cons (dd_v (pv 3)) da_nil)) (da_cons (dd_v (pv 5)) da_nil)))) (pa_cons (n_c (dn_list (by rfl) T.m_list (c_b (dd_v (pv 5))))) pa_nil)) (by rfl)) l_par)
      (ss_cons (ds_for PassesOwn.never rfl (di_rng (by rfl) T.m_range (da_cons dd_int da_nil)) (dg_name (i := 8) sc_law.nd rfl (Or.inl rfl)) (sY_start (i := 9) (j := 1) sc_law.nd rfl (.inl rfl) (dj_call (ok_group_plan T) hr (by rfl) T.g_group_plan T.F_group_plan.kp T.b_group_plan pass0 (da_cons (dd_v (pv 4)) (da_cons (dd_v (pv 5)) da_nil)))
      (sY_if (PW.pt (wt_or (dt_not (dt_val (dd_isi (by rfl) T.m_isinstance (c_b (dd_v (pv 9))) (pe_bltn (v := .ty "tuple") (by rfl) T.m_tuple (by decide +kernel) rfl)))) (wt_or (dt_ne hr (c_b (dd_len (by rfl) T.m_len (c_b (dd_v (pv 9))))) (c_b dd_int)) (wt_or (dt_ne hr (c_b (dd_ix hr (c_b (dd_v (pv 9))) (c_b dd_int))) (c_b dd_str)) (wt_or1 (dt_not (dt_val (dd_call (ok_steps_are T) hr (by rfl) T.g_steps_are T.F_steps_are.kp T.b_steps_are pass0 (da_cons (dd_ix hr (c_b (dd_v (pv 9))) (c_b dd_int)) (da_cons (n_c (dn_lst (da_cons dd_str (da_cons dd_str da_nil)))) (da_cons (dd_v (pv 3)) da_nil))))))))))) (ss_one (ds_ret (by rfl) dd_bl))
  (sY_if (PW.pt (wt_or (dt_ne hr (c_b (dd_len (by rfl) T.m_len (c_b (dd_ix hr (c_b (dd_v (pv 9))) (c_b dd_int))))) (c_b (dd_v (pv 6)))) (wt_or (dt_not (dt_val (dd_call (ok_keeps T) hr (by rfl) T.g_keeps T.F_keeps.kp T.b_keeps pass0 (da_cons (dd_ix hr (c_b (dd_call (ok_after T) hr (by rfl) T.g_after T.F_after.kp T.b_after pass0 (da_cons (n_c dn_emp) (da_cons (dd_v (pv 4)) (da_cons (dd_ix hr (c_b (dd_v (pv 9))) (c_b dd_int)) da_nil))))) (c_b dd_int)) (da_cons (dd_v (pv 5)) da_nil))))) (wt_or1 (dt_ne hr (c_b (dd_v (pv 5))) (c_b (dd_v (pv 7)))))))) (ss_one (ds_ret (by rfl) dd_bl))
  (sY_clr (pv 9)
  ss_nil)))))
      (ss_one (ds_if (dt_ne hr (c_b (dd_reprN (by rfl) hr (by rfl) T.m_repr (c_b (dd_callKP (ok_group_plan T) hr (by rfl) T.g_group_plan T.F_group_plan.kp T.kb_group_plan_0_wish_order pass0 (dk_cons (n_c (dn_tuple (by rfl) T.m_tuple (c_b (dd_v (pv 5))))) (dk_cons (n_c (dn_tuple (by rfl) T.m_tuple (c_b (dd_v (pv 4))))) dk_nil)) (fun h hl => kd_kb_group_plan_0_wish_order h hl))))) (c_b (dd_reprN (by rfl) hr (by rfl) T.m_repr (c_b (dd_call (ok_group_plan T) hr (by rfl) T.g_group_plan T.F_group_plan.kp T.b_group_plan pass0 (da_cons (dd_v (pv 4)) (da_cons (dd_v (pv 5)) da_nil))))))) (ss_one (ds_ret (by rfl) dd_bl)) ss_nil)))))))
      (ss_one (ds_ret (by rfl) dd_bl))))
    refine ⟨_, pss_cons (ps_set (i := 1) sc_law.nd rfl (.inl rfl) (pe_call (okb_bag T) hr (by rfl) T.g_bag T.F_bag.kp T.b_bag .nil pass0 (pa_cons (pv 0) pa_nil))) (pss_ex tm), ?_⟩
    refine ⟨.ref a, rfl, a, ns, rfl, hS, hlen, fun H0 b s0 e0 nb ns0 B0 => law_bag (n := 8) e0 nb B0 q ?_⟩
    exact rd_law
end
theorem all_mk {l : PySem.W.OpenLaw} {w : World} {K : PySem.W.Frag} {h : Heap} {mg : Str → Option Value} {fa : Addr} (X : K.In h) (G : h.Ns mainGlobals mg) (hfa : mg "law" = some (.ref fa))
    {f0 : Addr} {od0 an0 : Option Addr} {sl0 : Array (Option Value)} {oc0 kV0 dc0 pm0 cd0 ct0 : Value}
    (a0 : PySem.W.nsIn K mainGlobals "check_wish" = some (some (.ref f0)))
    (l0 : K.lookup f0 = some ⟨oc0, od0, .func (PySem.W.fnOf "check_wish" "check_wish" (defArgs s_check_wish) (defBody s_check_wish) (defScope s_check_wish) .none kV0 dc0 pm0 an0 cd0 ct0), sl0⟩) (c0 : PySem.W.codeIn K cd0 "check_wish" = true) (k0 : PySem.W.keepIn K (.ref f0) = true)
    {f1 : Addr} {od1 an1 : Option Addr} {sl1 : Array (Option Value)} {oc1 kV1 dc1 pm1 cd1 ct1 : Value}
    (a1 : PySem.W.nsIn K mainGlobals "is_pair" = some (some (.ref f1)))
    (l1 : K.lookup f1 = some ⟨oc1, od1, .func (PySem.W.fnOf "is_pair" "is_pair" (defArgs s_is_pair) (defBody s_is_pair) (defScope s_is_pair) .none kV1 dc1 pm1 an1 cd1 ct1), sl1⟩) (c1 : PySem.W.codeIn K cd1 "is_pair" = true) (k1 : PySem.W.keepIn K (.ref f1) = true)
    {f2 : Addr} {od2 an2 : Option Addr} {sl2 : Array (Option Value)} {oc2 kV2 dc2 pm2 cd2 ct2 : Value}
    (a2 : PySem.W.nsIn K mainGlobals "places" = some (some (.ref f2)))
    (l2 : K.lookup f2 = some ⟨oc2, od2, .func (PySem.W.fnOf "places" "places" (defArgs s_places) (defBody s_places) (defScope s_places) .none kV2 dc2 pm2 an2 cd2 ct2), sl2⟩) (c2 : PySem.W.codeIn K cd2 "places" = true) (k2 : PySem.W.keepIn K (.ref f2) = true)
    {f3 : Addr} {od3 an3 : Option Addr} {sl3 : Array (Option Value)} {oc3 kV3 dc3 pm3 cd3 ct3 : Value}
    (a3 : PySem.W.nsIn K mainGlobals "settled" = some (some (.ref f3)))
    (l3 : K.lookup f3 = some ⟨oc3, od3, .func (PySem.W.fnOf "settled" "settled" (defArgs s_settled) (defBody s_settled) (defScope s_settled) .none kV3 dc3 pm3 an3 cd3 ct3), sl3⟩) (c3 : PySem.W.codeIn K cd3 "settled" = true) (k3 : PySem.W.keepIn K (.ref f3) = true)
    {f4 : Addr} {od4 an4 : Option Addr} {sl4 : Array (Option Value)} {oc4 kV4 dc4 pm4 cd4 ct4 : Value}
    (a4 : PySem.W.nsIn K mainGlobals "ring" = some (some (.ref f4)))
    (l4 : K.lookup f4 = some ⟨oc4, od4, .func (PySem.W.fnOf "ring" "ring" (defArgs s_ring) (defBody s_ring) (defScope s_ring) .none kV4 dc4 pm4 an4 cd4 ct4), sl4⟩) (c4 : PySem.W.codeIn K cd4 "ring" = true) (k4 : PySem.W.keepIn K (.ref f4) = true)
    {f5 : Addr} {od5 an5 : Option Addr} {sl5 : Array (Option Value)} {oc5 kV5 dc5 pm5 cd5 ct5 : Value}
    (a5 : PySem.W.nsIn K mainGlobals "steps_for" = some (some (.ref f5)))
    (l5 : K.lookup f5 = some ⟨oc5, od5, .func (PySem.W.fnOf "steps_for" "steps_for" (defArgs s_steps_for) (defBody s_steps_for) (defScope s_steps_for) .none kV5 dc5 pm5 an5 cd5 ct5), sl5⟩) (c5 : PySem.W.codeIn K cd5 "steps_for" = true) (k5 : PySem.W.keepIn K (.ref f5) = true)
    {f6 : Addr} {od6 an6 : Option Addr} {sl6 : Array (Option Value)} {oc6 kV6 dc6 pm6 cd6 ct6 : Value}
    (a6 : PySem.W.nsIn K mainGlobals "group_plan" = some (some (.ref f6)))
    (l6 : K.lookup f6 = some ⟨oc6, od6, .func (PySem.W.fnOf "group_plan" "group_plan" (defArgs s_group_plan) (defBody s_group_plan) (defScope s_group_plan) .none kV6 dc6 pm6 an6 cd6 ct6), sl6⟩) (c6 : PySem.W.codeIn K cd6 "group_plan" = true) (k6 : PySem.W.keepIn K (.ref f6) = true)
    {f7 : Addr} {od7 an7 : Option Addr} {sl7 : Array (Option Value)} {oc7 kV7 dc7 pm7 cd7 ct7 : Value}
    (a7 : PySem.W.nsIn K mainGlobals "heights" = some (some (.ref f7)))
    (l7 : K.lookup f7 = some ⟨oc7, od7, .func (PySem.W.fnOf "heights" "heights" (defArgs s_heights) (defBody s_heights) (defScope s_heights) .none kV7 dc7 pm7 an7 cd7 ct7), sl7⟩) (c7 : PySem.W.codeIn K cd7 "heights" = true) (k7 : PySem.W.keepIn K (.ref f7) = true)
    {f8 : Addr} {od8 an8 : Option Addr} {sl8 : Array (Option Value)} {oc8 kV8 dc8 pm8 cd8 ct8 : Value}
    (a8 : PySem.W.nsIn K mainGlobals "greatest" = some (some (.ref f8)))
    (l8 : K.lookup f8 = some ⟨oc8, od8, .func (PySem.W.fnOf "greatest" "greatest" (defArgs s_greatest) (defBody s_greatest) (defScope s_greatest) .none kV8 dc8 pm8 an8 cd8 ct8), sl8⟩) (c8 : PySem.W.codeIn K cd8 "greatest" = true) (k8 : PySem.W.keepIn K (.ref f8) = true)
    {f9 : Addr} {od9 an9 : Option Addr} {sl9 : Array (Option Value)} {oc9 kV9 dc9 pm9 cd9 ct9 : Value}
    (a9 : PySem.W.nsIn K mainGlobals "sorting_raises" = some (some (.ref f9)))
    (l9 : K.lookup f9 = some ⟨oc9, od9, .func (PySem.W.fnOf "sorting_raises" "sorting_raises" (defArgs s_sorting_raises) (defBody s_sorting_raises) (defScope s_sorting_raises) .none kV9 dc9 pm9 an9 cd9 ct9), sl9⟩) (c9 : PySem.W.codeIn K cd9 "sorting_raises" = true) (k9 : PySem.W.keepIn K (.ref f9) = true)
    {f10 : Addr} {od10 an10 : Option Addr} {sl10 : Array (Option Value)} {oc10 kV10 dc10 pm10 cd10 ct10 : Value}
    (a10 : PySem.W.nsIn K mainGlobals "highest_way" = some (some (.ref f10)))
    (l10 : K.lookup f10 = some ⟨oc10, od10, .func (PySem.W.fnOf "highest_way" "highest_way" (defArgs s_highest_way) (defBody s_highest_way) (defScope s_highest_way) .none kV10 dc10 pm10 an10 cd10 ct10), sl10⟩) (c10 : PySem.W.codeIn K cd10 "highest_way" = true) (k10 : PySem.W.keepIn K (.ref f10) = true)
    {f11 : Addr} {od11 an11 : Option Addr} {sl11 : Array (Option Value)} {oc11 kV11 dc11 pm11 cd11 ct11 : Value}
    (a11 : PySem.W.nsIn K mainGlobals "_law_bag" = some (some (.ref f11)))
    (l11 : K.lookup f11 = some ⟨oc11, od11, .func (PySem.W.fnOf "_law_bag" "_law_bag" (defArgs s_bag) (defBody s_bag) (defScope s_bag) .none kV11 dc11 pm11 an11 cd11 ct11), sl11⟩) (c11 : PySem.W.codeIn K cd11 "_law_bag" = true) (k11 : PySem.W.keepIn K (.ref f11) = true)
    {f12 : Addr} {od12 an12 : Option Addr} {sl12 : Array (Option Value)} {oc12 kV12 dc12 pm12 cd12 ct12 : Value}
    (a12 : PySem.W.nsIn K mainGlobals "_law_pull" = some (some (.ref f12)))
    (l12 : K.lookup f12 = some ⟨oc12, od12, .func (PySem.W.fnOf "_law_pull" "_law_pull" (defArgs s_pull) (defBody s_pull) (defScope s_pull) .none kV12 dc12 pm12 an12 cd12 ct12), sl12⟩) (c12 : PySem.W.codeIn K cd12 "_law_pull" = true) (k12 : PySem.W.keepIn K (.ref f12) = true)
    {f13 : Addr} {od13 an13 : Option Addr} {sl13 : Array (Option Value)} {oc13 kV13 dc13 pm13 cd13 ct13 : Value}
    (a13 : PySem.W.nsIn K mainGlobals "_law_of" = some (some (.ref f13)))
    (l13 : K.lookup f13 = some ⟨oc13, od13, .func (PySem.W.fnOf "_law_of" "_law_of" (defArgs s_of) (defBody s_of) (defScope s_of) .none kV13 dc13 pm13 an13 cd13 ct13), sl13⟩) (c13 : PySem.W.codeIn K cd13 "_law_of" = true) (k13 : PySem.W.keepIn K (.ref f13) = true)
    {f14 : Addr} {od14 an14 : Option Addr} {sl14 : Array (Option Value)} {oc14 kV14 dc14 pm14 cd14 ct14 : Value}
    (a14 : PySem.W.nsIn K mainGlobals "_law_mixed" = some (some (.ref f14)))
    (l14 : K.lookup f14 = some ⟨oc14, od14, .func (PySem.W.fnOf "_law_mixed" "_law_mixed" (defArgs s_mixed) (defBody s_mixed) (defScope s_mixed) .none kV14 dc14 pm14 an14 cd14 ct14), sl14⟩) (c14 : PySem.W.codeIn K cd14 "_law_mixed" = true) (k14 : PySem.W.keepIn K (.ref f14) = true)
    {f15 : Addr} {od15 an15 : Option Addr} {sl15 : Array (Option Value)} {oc15 kV15 dc15 pm15 cd15 ct15 : Value}
    (a15 : PySem.W.nsIn K mainGlobals "_law_names" = some (some (.ref f15)))
    (l15 : K.lookup f15 = some ⟨oc15, od15, .func (PySem.W.fnOf "_law_names" "_law_names" (defArgs s_names) (defBody s_names) (defScope s_names) .none kV15 dc15 pm15 an15 cd15 ct15), sl15⟩) (c15 : PySem.W.codeIn K cd15 "_law_names" = true) (k15 : PySem.W.keepIn K (.ref f15) = true)
    {f16 : Addr} {od16 an16 : Option Addr} {sl16 : Array (Option Value)} {oc16 kV16 dc16 pm16 cd16 ct16 : Value}
    (a16 : PySem.W.nsIn K mainGlobals "_law_after" = some (some (.ref f16)))
    (l16 : K.lookup f16 = some ⟨oc16, od16, .func (PySem.W.fnOf "_law_after" "_law_after" (defArgs s_after) (defBody s_after) (defScope s_after) .none kV16 dc16 pm16 an16 cd16 ct16), sl16⟩) (c16 : PySem.W.codeIn K cd16 "_law_after" = true) (k16 : PySem.W.keepIn K (.ref f16) = true)
    {f17 : Addr} {od17 an17 : Option Addr} {sl17 : Array (Option Value)} {oc17 kV17 dc17 pm17 cd17 ct17 : Value}
    (a17 : PySem.W.nsIn K mainGlobals "_law_keeps" = some (some (.ref f17)))
    (l17 : K.lookup f17 = some ⟨oc17, od17, .func (PySem.W.fnOf "_law_keeps" "_law_keeps" (defArgs s_keeps) (defBody s_keeps) (defScope s_keeps) .none kV17 dc17 pm17 an17 cd17 ct17), sl17⟩) (c17 : PySem.W.codeIn K cd17 "_law_keeps" = true) (k17 : PySem.W.keepIn K (.ref f17) = true)
    {f18 : Addr} {od18 an18 : Option Addr} {sl18 : Array (Option Value)} {oc18 kV18 dc18 pm18 cd18 ct18 : Value}
    (a18 : PySem.W.nsIn K mainGlobals "_law_wish" = some (some (.ref f18)))
    (l18 : K.lookup f18 = some ⟨oc18, od18, .func (PySem.W.fnOf "_law_wish" "_law_wish" (defArgs s_wish) (defBody s_wish) (defScope s_wish) .none kV18 dc18 pm18 an18 cd18 ct18), sl18⟩) (c18 : PySem.W.codeIn K cd18 "_law_wish" = true) (k18 : PySem.W.keepIn K (.ref f18) = true)
    {f19 : Addr} {od19 an19 : Option Addr} {sl19 : Array (Option Value)} {oc19 kV19 dc19 pm19 cd19 ct19 : Value}
    (a19 : PySem.W.nsIn K mainGlobals "_law_steps_are" = some (some (.ref f19)))
    (l19 : K.lookup f19 = some ⟨oc19, od19, .func (PySem.W.fnOf "_law_steps_are" "_law_steps_are" (defArgs s_steps_are) (defBody s_steps_are) (defScope s_steps_are) .none kV19 dc19 pm19 an19 cd19 ct19), sl19⟩) (c19 : PySem.W.codeIn K cd19 "_law_steps_are" = true) (k19 : PySem.W.keepIn K (.ref f19) = true)
    {f20 : Addr} {od20 an20 : Option Addr} {sl20 : Array (Option Value)} {oc20 kV20 dc20 pm20 cd20 ct20 : Value}
    (a20 : PySem.W.nsIn K mainGlobals "_law_kept_wish" = some (some (.ref f20)))
    (l20 : K.lookup f20 = some ⟨oc20, od20, .func (PySem.W.fnOf "_law_kept_wish" "_law_kept_wish" (defArgs s_kept_wish) (defBody s_kept_wish) (defScope s_kept_wish) .none kV20 dc20 pm20 an20 cd20 ct20), sl20⟩) (c20 : PySem.W.codeIn K cd20 "_law_kept_wish" = true) (k20 : PySem.W.keepIn K (.ref f20) = true)
    {f21 : Addr} {od21 an21 : Option Addr} {sl21 : Array (Option Value)} {oc21 kV21 dc21 pm21 cd21 ct21 : Value}
    (a21 : PySem.W.nsIn K mainGlobals "_law_all_groups" = some (some (.ref f21)))
    (l21 : K.lookup f21 = some ⟨oc21, od21, .func (PySem.W.fnOf "_law_all_groups" "_law_all_groups" (defArgs s_all_groups) (defBody s_all_groups) (defScope s_all_groups) .none kV21 dc21 pm21 an21 cd21 ct21), sl21⟩) (c21 : PySem.W.codeIn K cd21 "_law_all_groups" = true) (k21 : PySem.W.keepIn K (.ref f21) = true)
    {f22 : Addr} {od22 an22 : Option Addr} {sl22 : Array (Option Value)} {oc22 kV22 dc22 pm22 cd22 ct22 : Value}
    (a22 : PySem.W.nsIn K mainGlobals "_law_rounds" = some (some (.ref f22)))
    (l22 : K.lookup f22 = some ⟨oc22, od22, .func (PySem.W.fnOf "_law_rounds" "_law_rounds" (defArgs s_rounds) (defBody s_rounds) (defScope s_rounds) .none kV22 dc22 pm22 an22 cd22 ct22), sl22⟩) (c22 : PySem.W.codeIn K cd22 "_law_rounds" = true) (k22 : PySem.W.keepIn K (.ref f22) = true)
    {f23 : Addr} {od23 an23 : Option Addr} {sl23 : Array (Option Value)} {oc23 kV23 dc23 pm23 cd23 ct23 : Value}
    (a23 : PySem.W.nsIn K mainGlobals "law" = some (some (.ref f23)))
    (l23 : K.lookup f23 = some ⟨oc23, od23, .func (PySem.W.fnOf "law" "law" (defArgs s_law) (defBody s_law) (defScope s_law) .none kV23 dc23 pm23 an23 cd23 ct23), sl23⟩) (c23 : PySem.W.codeIn K cd23 "law" = true) (k23 : PySem.W.keepIn K (.ref f23) = true)
    (z_all : PySem.W.nsIn K mainGlobals "all" = some none)
    (z_any : PySem.W.nsIn K mainGlobals "any" = some none)
    (z_dict : PySem.W.nsIn K mainGlobals "dict" = some none)
    (z_enumerate : PySem.W.nsIn K mainGlobals "enumerate" = some none)
    (z_isinstance : PySem.W.nsIn K mainGlobals "isinstance" = some none)
    (z_len : PySem.W.nsIn K mainGlobals "len" = some none)
    (z_list : PySem.W.nsIn K mainGlobals "list" = some none)
    (z_max : PySem.W.nsIn K mainGlobals "max" = some none)
    (z_range : PySem.W.nsIn K mainGlobals "range" = some none)
    (z_repr : PySem.W.nsIn K mainGlobals "repr" = some none)
    (z_set : PySem.W.nsIn K mainGlobals "set" = some none)
    (z_sorted : PySem.W.nsIn K mainGlobals "sorted" = some none)
    (z_str : PySem.W.nsIn K mainGlobals "str" = some none)
    (z_tuple : PySem.W.nsIn K mainGlobals "tuple" = some none)
    : ∃ fd : FuncData, (∀ (s : Shared) (v : Value), BindsTo s fd ⟨[v], []⟩ [("_law_script", v)]) ∧ ∀ base : Heap, K.In base → base.Ns mainGlobals mg → RK.FnAt l.prog w K mg base CX0 callerA fa fd ["_law_script"] (DL.spLaw K) := by
  have e := hfa.symm.trans (PySem.W.mg_of X G a23)
  cases e
  have F0 := fun_mk (st := s_check_wish) l0 c0 k0
  have b0 := F0.binds (ps := ["names", "wish"]) fun _ _ _ _ _ _ us hl => match us, hl with | [_, _], _ => rfl
  have F1 := fun_mk (st := s_is_pair) l1 c1 k1
  have b1 := F1.binds (ps := ["known", "item"]) fun _ _ _ _ _ _ us hl => match us, hl with | [_, _], _ => rfl
  have F2 := fun_mk (st := s_places) l2 c2 k2
  have b2 := F2.binds (ps := ["order"]) fun _ _ _ _ _ _ us hl => match us, hl with | [_], _ => rfl
  have F3 := fun_mk (st := s_settled) l3 c3 k3
  have b3 := F3.binds (ps := ["names", "wish"]) fun _ _ _ _ _ _ us hl => match us, hl with | [_, _], _ => rfl
  have F4 := fun_mk (st := s_ring) l4 c4 k4
  have b4 := F4.binds (ps := ["names", "wish"]) fun _ _ _ _ _ _ us hl => match us, hl with | [_, _], _ => rfl
  have F5 := fun_mk (st := s_steps_for) l5 c5 k5
  have b5 := F5.binds (ps := ["count"]) fun _ _ _ _ _ _ us hl => match us, hl with | [_], _ => rfl
  have F6 := fun_mk (st := s_group_plan) l6 c6 k6
  have b6 := F6.binds (ps := ["order", "wish"]) fun _ _ _ _ _ _ us hl => match us, hl with | [_, _], _ => rfl
  have F7 := fun_mk (st := s_heights) l7 c7 k7
  have b7 := F7.binds (ps := ["names", "links"]) fun _ _ _ _ _ _ us hl => match us, hl with | [_, _], _ => rfl
  have F8 := fun_mk (st := s_greatest) l8 c8 k8
  have b8 := F8.binds (ps := ["height"]) fun _ _ _ _ _ _ us hl => match us, hl with | [_], _ => rfl
  have F9 := fun_mk (st := s_sorting_raises) l9 c9 k9
  have b9 := F9.binds (ps := ["height"]) fun _ _ _ _ _ _ us hl => match us, hl with | [_], _ => rfl
  have F10 := fun_mk (st := s_highest_way) l10 c10 k10
  have b10 := F10.binds (ps := ["height", "before"]) fun _ _ _ _ _ _ us hl => match us, hl with | [_, _], _ => rfl
  have F11 := fun_mk (st := s_bag) l11 c11 k11
  have b11 := F11.binds (ps := ["_law_script"]) fun _ _ _ _ _ _ us hl => match us, hl with | [_], _ => rfl
  have F12 := fun_mk (st := s_pull) l12 c12 k12
  have b12 := F12.binds (ps := ["_law_bag_here", "_law_amount"]) fun _ _ _ _ _ _ us hl => match us, hl with | [_, _], _ => rfl
  have F13 := fun_mk (st := s_of) l13 c13 k13
  have b13 := F13.binds (ps := ["_law_bag_here", "_law_things"]) fun _ _ _ _ _ _ us hl => match us, hl with | [_, _], _ => rfl
  have F14 := fun_mk (st := s_mixed) l14 c14 k14
  have b14 := F14.binds (ps := ["_law_bag_here", "_law_things"]) fun _ _ _ _ _ _ us hl => match us, hl with | [_, _], _ => rfl
  have F15 := fun_mk (st := s_names) l15 c15 k15
  have b15 := F15.binds (ps := ["_law_bag_here", "_law_count"]) fun _ _ _ _ _ _ us hl => match us, hl with | [_, _], _ => rfl
  have F16 := fun_mk (st := s_after) l16 c16 k16
  have b16 := F16.binds (ps := ["_law_rects", "_law_order_z", "_law_steps"]) fun _ _ _ _ _ _ us hl => match us, hl with | [_, _, _], _ => rfl
  have F17 := fun_mk (st := s_keeps) l17 c17 k17
  have b17 := F17.binds (ps := ["_law_order_z", "_law_wish_z"]) fun _ _ _ _ _ _ us hl => match us, hl with | [_, _], _ => rfl
  have F18 := fun_mk (st := s_wish) l18 c18 k18
  have b18 := F18.binds (ps := ["_law_bag_here", "_law_names_here", "_law_most"]) fun _ _ _ _ _ _ us hl => match us, hl with | [_, _, _], _ => rfl
  have F19 := fun_mk (st := s_steps_are) l19 c19 k19
  have b19 := F19.binds (ps := ["_law_steps", "_law_words", "_law_names_here"]) fun _ _ _ _ _ _ us hl => match us, hl with | [_, _, _], _ => rfl
  have F20 := fun_mk (st := s_kept_wish) l20 c20 k20
  have b20 := F20.binds (ps := ["_law_bag_here", "_law_names_here", "_law_most"]) fun _ _ _ _ _ _ us hl => match us, hl with | [_, _, _], _ => rfl
  have F21 := fun_mk (st := s_all_groups) l21 c21 k21
  have b21 := F21.binds (ps := ["_law_names_here"]) fun _ _ _ _ _ _ us hl => match us, hl with | [_], _ => rfl
  have F22 := fun_mk (st := s_rounds) l22 c22 k22
  have b22 := F22.binds (ps := ["_law_order_z", "_law_steps", "_law_wish_z"]) fun _ _ _ _ _ _ us hl => match us, hl with | [_, _, _], _ => rfl
  have F23 := fun_mk (st := s_law) l23 c23 k23
  have b23 := F23.binds (ps := ["_law_script"]) fun _ _ _ _ _ _ us hl => match us, hl with | [_], _ => rfl
  have kb_group_plan_0_wish_order : KBinds K (PySem.W.fnOf "group_plan" "group_plan" (defArgs s_group_plan) (defBody s_group_plan) (defScope s_group_plan) .none kV6 dc6 pm6 an6 cd6 ct6) ["order", "wish"] ["wish", "order"] (kwG_kb_group_plan_0_wish_order (α := Value)) (kwG_kb_group_plan_0_wish_order (α := V)) := by
    refine ⟨fun s us ws _ hl => ?_, fun {vs us zs ws} r1 r2 => ?_⟩
    · match us, ws, hl with
      | [], [c0, c1], _ => exact BindsTo.of_eq (fd := (PySem.W.fnOf "group_plan" "group_plan" (defArgs s_group_plan) (defBody s_group_plan) (defScope s_group_plan) .none kV6 dc6 pm6 an6 cd6 ct6)) rfl
    · cases r1 with
      | nil =>
        cases r2 with
        | nil => exact .nil
        | cons q0 r2 =>
          cases r2 with
          | nil => exact .nil
          | cons q1 r2 =>
            cases r2 with
            | nil =>
              exact (.cons q1 (.cons q0 .nil))
            | cons _ _ => exact .nil
      | cons _ _ => (cases r2 <;> exact .nil)
  let T : Txt K mg := { f_check_wish := _, fd_check_wish := _, F_check_wish := F0, b_check_wish := b0, g_check_wish := PySem.W.mg_of X G a0, f_is_pair := _, fd_is_pair := _, F_is_pair := F1, b_is_pair := b1, g_is_pair := PySem.W.mg_of X G a1, f_places := _, fd_places := _, F_places := F2, b_places := b2, g_places := PySem.W.mg_of X G a2, f_settled := _, fd_settled := _, F_settled := F3, b_settled := b3, g_settled := PySem.W.mg_of X G a3, f_ring := _, fd_ring := _, F_ring := F4, b_ring := b4, g_ring := PySem.W.mg_of X G a4, f_steps_for := _, fd_steps_for := _, F_steps_for := F5, b_steps_for := b5, g_steps_for := PySem.W.mg_of X G a5, f_group_plan := _, fd_group_plan := _, F_group_plan := F6, b_group_plan := b6, g_group_plan := PySem.W.mg_of X G a6, f_heights := _, fd_heights := _, F_heights := F7, b_heights := b7, g_heights := PySem.W.mg_of X G a7, f_greatest := _, fd_greatest := _, F_greatest := F8, b_greatest := b8, g_greatest := PySem.W.mg_of X G a8, f_sorting_raises := _, fd_sorting_raises := _, F_sorting_raises := F9, b_sorting_raises := b9, g_sorting_raises := PySem.W.mg_of X G a9, f_highest_way := _, fd_highest_way := _, F_highest_way := F10, b_highest_way := b10, g_highest_way := PySem.W.mg_of X G a10, f_bag := _, fd_bag := _, F_bag := F11, b_bag := b11, g_bag := PySem.W.mg_of X G a11, f_pull := _, fd_pull := _, F_pull := F12, b_pull := b12, g_pull := PySem.W.mg_of X G a12, f_of := _, fd_of := _, F_of := F13, b_of := b13, g_of := PySem.W.mg_of X G a13, f_mixed := _, fd_mixed := _, F_mixed := F14, b_mixed := b14, g_mixed := PySem.W.mg_of X G a14, f_names := _, fd_names := _, F_names := F15, b_names := b15, g_names := PySem.W.mg_of X G a15, f_after := _, fd_after := _, F_after := F16, b_after := b16, g_after := PySem.W.mg_of X G a16, f_keeps := _, fd_keeps := _, F_keeps := F17, b_keeps := b17, g_keeps := PySem.W.mg_of X G a17, f_wish := _, fd_wish := _, F_wish := F18, b_wish := b18, g_wish := PySem.W.mg_of X G a18, f_steps_are := _, fd_steps_are := _, F_steps_are := F19, b_steps_are := b19, g_steps_are := PySem.W.mg_of X G a19, f_kept_wish := _, fd_kept_wish := _, F_kept_wish := F20, b_kept_wish := b20, g_kept_wish := PySem.W.mg_of X G a20, f_all_groups := _, fd_all_groups := _, F_all_groups := F21, b_all_groups := b21, g_all_groups := PySem.W.mg_of X G a21, f_rounds := _, fd_rounds := _, F_rounds := F22, b_rounds := b22, g_rounds := PySem.W.mg_of X G a22, f_law := _, fd_law := _, F_law := F23, b_law := b23, g_law := PySem.W.mg_of X G a23, kb_group_plan_0_wish_order := kb_group_plan_0_wish_order, m_all := PySem.W.mg_none_of X G z_all, m_any := PySem.W.mg_none_of X G z_any, m_dict := PySem.W.mg_none_of X G z_dict, m_enumerate := PySem.W.mg_none_of X G z_enumerate, m_isinstance := PySem.W.mg_none_of X G z_isinstance, m_len := PySem.W.mg_none_of X G z_len, m_list := PySem.W.mg_none_of X G z_list, m_max := PySem.W.mg_none_of X G z_max, m_range := PySem.W.mg_none_of X G z_range, m_repr := PySem.W.mg_none_of X G z_repr, m_set := PySem.W.mg_none_of X G z_set, m_sorted := PySem.W.mg_none_of X G z_sorted, m_str := PySem.W.mg_none_of X G z_str, m_tuple := PySem.W.mg_none_of X G z_tuple }
  exact ⟨(PySem.W.fnOf "law" "law" (defArgs s_law) (defBody s_law) (defScope s_law) .none kV23 dc23 pm23 an23 cd23 ct23), fun s v => .of_eq rfl, fun base _ _ => ok_law T⟩
end RK
open PySem PySem.W PyProof.Rows
set_option maxHeartbeats 0 in
theorem PySem.Challenge.cw_raisekeys_k38_fewest_group_steps_holds : PySem.Challenge.rw_raisekeys_k38_fewest_group_steps.Holds := by
  w_on; o_law; k_head; (case hw => w_witness2)
  k_fill
  refine RK.walk_at (l := PySem.Challenge.rw_raisekeys_k38_fewest_group_steps) (n := 63) (x := "_law_script") (CX := fun _ => L2.CX0) (sp := fun w => DL.spLaw _) rfl (by decide) rfl (fun w h Y => PySem.W.kIn_of Y) ?F (fun _ _ a ns hl _ hS => ⟨a, ns, rfl, hS, hl, fun _ => rfl⟩) (fun _ _ _ _ _ h => h)
  case F =>
    intro w mg fa h KX G hmg
    refine' RK.all_mk KX G hmg ?a0 ?l0 ?c0 ?k0 ?a1 ?l1 ?c1 ?k1 ?a2 ?l2 ?c2 ?k2 ?a3 ?l3 ?c3 ?k3 ?a4 ?l4 ?c4 ?k4 ?a5 ?l5 ?c5 ?k5 ?a6 ?l6 ?c6 ?k6 ?a7 ?l7 ?c7 ?k7 ?a8 ?l8 ?c8 ?k8 ?a9 ?l9 ?c9 ?k9 ?a10 ?l10 ?c10 ?k10 ?a11 ?l11 ?c11 ?k11 ?a12 ?l12 ?c12 ?k12 ?a13 ?l13 ?c13 ?k13 ?a14 ?l14 ?c14 ?k14 ?a15 ?l15 ?c15 ?k15 ?a16 ?l16 ?c16 ?k16 ?a17 ?l17 ?c17 ?k17 ?a18 ?l18 ?c18 ?k18 ?a19 ?l19 ?c19 ?k19 ?a20 ?l20 ?c20 ?k20 ?a21 ?l21 ?c21 ?k21 ?a22 ?l22 ?c22 ?k22 ?a23 ?l23 ?c23 ?k23 ?z_all ?z_any ?z_dict ?z_enumerate ?z_isinstance ?z_len ?z_list ?z_max ?z_range ?z_repr ?z_set ?z_sorted ?z_str ?z_tuple
    (case a0 => k_is)
    (case l0 => k_is)
    (case c0 => k_is)
    (case k0 => k_is)
    (case a1 => k_is)
    (case l1 => k_is)
    (case c1 => k_is)
    (case k1 => k_is)
    (case a2 => k_is)
    (case l2 => k_is)
    (case c2 => k_is)
    (case k2 => k_is)
    (case a3 => k_is)
    (case l3 => k_is)
    (case c3 => k_is)
    (case k3 => k_is)
    (case a4 => k_is)
    (case l4 => k_is)
    (case c4 => k_is)
    (case k4 => k_is)
    (case a5 => k_is)
    (case l5 => k_is)
    (case c5 => k_is)
    (case k5 => k_is)
    (case a6 => k_is)
    (case l6 => k_is)
    (case c6 => k_is)
    (case k6 => k_is)
    (case a7 => k_is)
    (case l7 => k_is)
    (case c7 => k_is)
    (case k7 => k_is)
    (case a8 => k_is)
    (case l8 => k_is)
    (case c8 => k_is)
    (case k8 => k_is)
    (case a9 => k_is)
    (case l9 => k_is)
    (case c9 => k_is)
    (case k9 => k_is)
    (case a10 => k_is)
    (case l10 => k_is)
    (case c10 => k_is)
    (case k10 => k_is)
    (case a11 => k_is)
    (case l11 => k_is)
    (case c11 => k_is)
    (case k11 => k_is)
    (case a12 => k_is)
    (case l12 => k_is)
    (case c12 => k_is)
    (case k12 => k_is)
    (case a13 => k_is)
    (case l13 => k_is)
    (case c13 => k_is)
    (case k13 => k_is)
    (case a14 => k_is)
    (case l14 => k_is)
    (case c14 => k_is)
    (case k14 => k_is)
    (case a15 => k_is)
    (case l15 => k_is)
    (case c15 => k_is)
    (case k15 => k_is)
    (case a16 => k_is)
    (case l16 => k_is)
    (case c16 => k_is)
    (case k16 => k_is)
    (case a17 => k_is)
    (case l17 => k_is)
    (case c17 => k_is)
    (case k17 => k_is)
    (case a18 => k_is)
    (case l18 => k_is)
    (case c18 => k_is)
    (case k18 => k_is)
    (case a19 => k_is)
    (case l19 => k_is)
    (case c19 => k_is)
    (case k19 => k_is)
    (case a20 => k_is)
    (case l20 => k_is)
    (case c20 => k_is)
    (case k20 => k_is)
    (case a21 => k_is)
    (case l21 => k_is)
    (case c21 => k_is)
    (case k21 => k_is)
    (case a22 => k_is)
    (case l22 => k_is)
    (case c22 => k_is)
    (case k22 => k_is)
    (case a23 => k_is)
    (case l23 => k_is)
    (case c23 => k_is)
    (case k23 => k_is)
    (case z_all => k_is)
    (case z_any => k_is)
    (case z_dict => k_is)
    (case z_enumerate => k_is)
    (case z_isinstance => k_is)
    (case z_len => k_is)
    (case z_list => k_is)
    (case z_max => k_is)
    (case z_range => k_is)
    (case z_repr => k_is)
    (case z_set => k_is)
    (case z_sorted => k_is)
    (case z_str => k_is)
    (case z_tuple => k_is)
