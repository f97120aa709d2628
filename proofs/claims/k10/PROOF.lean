import PyProof.Rows.All
import Wide.All
import OpenK.AllK
import Wide.FinOn
import HandS.ForMost
import HandS.IsInst
import HandS.Zip
import HandS.Walk
import HandS.More
import HandS.SortKw
import HandS.ForExc
import HandS.ExcInit
import HandS.ExcField
import HandS.TryMany
import HandS.ClsMeth
import HandS.FStr
import HandS.FStrTup
import HandS.WordsExc
import HandS.Defaults
import HandS.SuiteRaise
import HandS.RaiseFrom
import HandS.ExcInitHot
import KE.KAsSuite
import KE.KExcIs
import HandS.Text
import HandS.SortInts
import HandS.SetFor
import HandS.RaiseMore
import HandS.Flow
import HandS.Iter
import HandS.Comp
import HandS.Call
import HandS.List
import HandS.Star
import KE.KUnpackStar
import KE.KDictZip
import KE.KDictItemsList
import KE.GoesZip
import KE.GoesMore
import KE.GoesEnum
import HandS.ListItems
import HandS.Deep
import HandS.StrMore
import PySem.Challenge.RW_swapslip_k10_letters_written
set_option Elab.async false
set_option linter.all false
set_option maxRecDepth 100000
set_option maxHeartbeats 2000000


namespace PySem
namespace F
theorem args_sum2 (a b : Value) : argsOk "sum" ⟨[a, b], []⟩ := by unfold argsOk; kernel_rfl
end F
/-- the items of the lists from the i-th on, k of them -/
def catFrom (xs : Nat → Array Value) (i : Nat) : Nat → Array Value
  | 0 => #[]
  | k + 1 => xs i ++ catFrom xs (i + 1) k
section
variable {prog : Program} {w : World} {A : Around} {R : Result → Shared → Prop}
theorem sum_lists_loop (hh : A.in1.handled = none) (I ax S : Addr) (hne : ax ≠ I) (hSI : S ≠ I) (hSa : S ≠ ax) (items : Array Value) (ls : Nat → Addr) (xs : Nat → Array Value)
    (hit : ∀ (i : Nat) (v : Value), items[i]? = some v → v = Value.ref (ls i)) (hlI : ∀ i, i < items.size → ls i ≠ I) (hlS : ∀ i, i < items.size → ls i ≠ S) :
    ∀ (k i : Nat) (s : Shared) (acc : Addr) (ai : Array Value) (m c : Nat), items.size - i = k → i ≤ items.size → (s.heap.IsListIter I ax i ∧ s.heap.IsList ax items) →
      s.heap.get? S = some { cls := .type "list", dict := none, data := .seq #[.ref acc] c, slots := #[] } → s.heap.get? acc = some { cls := .type "list", data := .seq ai m } →
      (∀ j, j < items.size → ∃ n, s.heap.get? (ls j) = some { cls := .type "list", data := .seq (xs j) n }) → acc ≠ I → acc ≠ S →
      ai.size + (catFrom xs i k).size ≤ sizeLine →
      (∀ h' tk r n, (∀ b o, b ≠ I → b ≠ S → s.heap.get? b = some o → h'.get? b = some o) → h'.get? r = some { cls := .type "list", data := .seq (ai ++ catFrom xs i k) n } → (k = 0 → r = acc) → (0 < k → S < r) → R (.ok (.ret (.ref r))) { s with heap := h', toks := tk }) →
      codeAny (model prog w) A (.builtin "sum.loop" ⟨[.ref I, .ref S, rawInt 2, rawInt 0], []⟩) R s := by
  have W := Walks.list (prog := prog) (w := w) hh I ax hne items
  intro k
  induction k with
  | zero =>
    intro i s acc ai m c hk hi hst hS ha hl haI haS hz hR
    have hin : i = items.size := by omega
    subst hin
    refine codeAny_builtin F.entry_sum_loop ?_
    rw [Around.under_plainId F.plain_sum_loop _]
    show wpAny _ A.in1 (seqItems? (.ref S) >>= _) _ _ s
    refine wpAny_bind (wpAny_seqItems hS rfl ?_)
    show wpAny _ A.in1 (tryCatch (pyNext (.ref I)) _ >>= _) _ _ s
    refine wpAny_bind (wpAny_tryCatch (W.done s _ _ hst fun h' tk hk' => ?_))
    refine wpAny_pure (hR h' tk acc m (fun b o hbI hbS e => hk' b o (by simpa using hbI) e) ?_ (fun _ => rfl) (fun h => absurd h (Nat.lt_irrefl _)))
    have := hk' acc _ (by simpa using haI) ha
    simpa [catFrom] using this
  | succ k ih =>
    intro i s acc ai m c hk hi hst hS ha hl haI haS hz hR
    have hlt : i < items.size := by omega
    refine codeAny_builtin F.entry_sum_loop ?_
    rw [Around.under_plainId F.plain_sum_loop _]
    show wpAny _ A.in1 (seqItems? (.ref S) >>= _) _ _ s
    refine wpAny_bind (wpAny_seqItems hS rfl ?_)
    show wpAny _ A.in1 (tryCatch (pyNext (.ref I)) _ >>= _) _ _ s
    refine wpAny_bind (wpAny_tryCatch (W.item i s _ _ hlt hst fun v h' tk hP hst' hk' => ?_))
    have ev := hit i v hP
    subst ev
    have hS' := hk' S _ (by simpa using hSI) hS
    have ha' := hk' acc _ (by simpa using haI) ha
    obtain ⟨n1, hl1⟩ := hl i hlt
    have hl1' := hk' (ls i) _ (by simpa using hlI i hlt) hl1
    have hzz : ai.size + (xs i).size ≤ sizeLine := by
      have : (catFrom xs i (k + 1)).size = (xs i).size + (catFrom xs (i + 1) k).size := by simp [catFrom]
      omega
    show wpAny _ A.in1 ((holding [Value.ref (ls i)] (binaryOp .Add (.ref acc) (.ref (ls i)))).attempt >>= _) _ _ _
    refine wpAny_bind (wpAny_attempt (wpAny_holding (PySem.P.add_list (s := { s with heap := h', toks := tk }) ha' hl1' ?_ hzz)))
    have hSz : S < h'.objs.size := Heap.lt_size hS'
    have hIz : I < h'.objs.size := by obtain ⟨_, e, _⟩ := hst'.1; exact Heap.lt_size e
    have hS2 : (h'.push { cls := .type "list", data := .seq (ai ++ xs i) }).get? S = _ := Heap.get?_push_of_some _ hS'
    show wpAny _ A.in1 (updateSeq S (fun _ => #[.ref h'.objs.size]) >>= _) _ _ _
    refine wpAny_bind (wpAny_updateSeq hS2 rfl ?_)
    have hS₃ := Heap.get?_update_self (Obj.mapSeq fun _ => #[Value.ref h'.objs.size]) hS2 rfl
    refine wpAny_bind (wpAny_letGo ?_)
    refine wpAny_bind (wpAny_updateSeq hS₃ rfl ?_)
    have hS₄ := Heap.get?_update_self (Obj.mapSeq fun _ => #[Value.ref h'.objs.size]) hS₃ rfl
    have keep : ∀ b o, b ≠ S → h'.get? b = some o → (((h'.push { cls := .type "list", data := .seq (ai ++ xs i) }).update S (Obj.mapSeq fun _ => #[Value.ref h'.objs.size])).update S (Obj.mapSeq fun _ => #[Value.ref h'.objs.size])).get? b = some o := fun b o hb e =>
      (Heap.get?_update_other _ _ (Ne.symm hb)).trans ((Heap.get?_update_other _ _ (Ne.symm hb)).trans (Heap.get?_push_of_some _ e))
    have hnew : (((h'.push { cls := .type "list", data := .seq (ai ++ xs i) }).update S (Obj.mapSeq fun _ => #[Value.ref h'.objs.size])).update S (Obj.mapSeq fun _ => #[Value.ref h'.objs.size])).get? h'.objs.size = some { cls := .type "list", data := .seq (ai ++ xs i) } :=
      (Heap.get?_update_other _ _ (Nat.ne_of_lt hSz)).trans ((Heap.get?_update_other _ _ (Nat.ne_of_lt hSz)).trans (Heap.get?_push_size _ rfl))
    refine wpAny_pure ⟨plainId_quiet F.plain_sum_loop _, ih (i + 1) _ h'.objs.size (ai ++ xs i) _ _ (by omega) hlt (W.frame _ _ _ hst' fun b hb o e => keep b o ?_ e) hS₄ hnew ?_ (Nat.ne_of_gt hIz) (Nat.ne_of_gt hSz) ?_ ?_⟩
    · intro q; subst q
      rcases List.mem_cons.mp hb with q | q
      · exact hSI q
      · exact hSa (by simpa using q)
    · intro j hj
      obtain ⟨n2, e2⟩ := hl j hj
      exact ⟨n2, keep _ _ (hlS j hj) (hk' _ _ (by simpa using hlI j hj) e2)⟩
    · have : (catFrom xs i (k + 1)).size = (xs i).size + (catFrom xs (i + 1) k).size := by simp [catFrom]
      simp only [Array.size_append]
      omega
    · intro h2 tk2 r n hk2 hr h0 h1
      refine hR h2 tk2 r n (fun b o hbI hbS e => hk2 b o hbI hbS (keep b o hbS (hk' b o (by simpa using hbI) e))) ?_ (fun q => by omega) (fun _ => ?_)
      · simpa [catFrom, Array.append_assoc] using hr
      · by_cases h00 : k = 0
        · rw [h0 h00]; exact hSz
        · exact h1 (by omega)
end
section
variable {prog : Program} {w : World} {A : Around} {E : Value → Shared → Prop} {s : Shared}
theorem sub_list_str : isSubtype (.type "list") (.type "str") = pure false := by rw [isSubtype_type]; kernel_rfl
theorem sub_list_bytes : isSubtype (.type "list") (.type "bytes") = pure false := by rw [isSubtype_type]; kernel_rfl
theorem sub_list_bytearray : isSubtype (.type "list") (.type "bytearray") = pure false := by rw [isSubtype_type]; kernel_rfl
theorem call_sum_lists {l z : Addr} {items zi : Array Value} {nl nz : Nat} {Q : Value → Shared → Prop} (ls : Nat → Addr) (xs : Nat → Array Value) (hh : A.in1.handled = none)
    (hl : s.heap.get? l = some { cls := .type "list", data := .seq items nl }) (hz : s.heap.get? z = some { cls := .type "list", data := .seq zi nz })
    (hit : ∀ (i : Nat) (v : Value), items[i]? = some v → v = Value.ref (ls i)) (hls : ∀ j, j < items.size → ∃ n, s.heap.get? (ls j) = some { cls := .type "list", data := .seq (xs j) n }) (hpos : 0 < items.size)
    (hsz : zi.size + (catFrom xs 0 items.size).size ≤ sizeLine)
    (h : ∀ h' tk r n, (∀ b o, s.heap.get? b = some o → h'.get? b = some o) → s.heap.objs.size ≤ r → h'.get? r = some { cls := .type "list", data := .seq (zi ++ catFrom xs 0 items.size) n } → Q (.ref r) { s with heap := h', toks := tk }) :
    wpAny (model prog w) A (call (.builtin "sum") [.ref l, .ref z]) Q E s := by
  have hil : s.heap.IsList l items := ⟨_, hl, rfl, _, rfl⟩
  have hiz : s.heap.IsList z zi := ⟨_, hz, rfl, _, rfl⟩
  refine call_function_tree F.kind_sum F.plain_sum F.entry_sum (F.args_sum2 _ _) ?_
  unfold Builtin.«sum»
  simp only [List.length_cons, List.length_nil]
  rw [if_neg (by decide)]
  refine wpAny_bind (wpAny_of_eq (show Builtin.Builtins.bindParams "sum" ["start"] 0 ⟨[.ref z], []⟩ = pure [some (.ref z)] from rfl) ?_)
  refine wpAny_bind (L2.iter_any hil fun s₂ e2 st hne => ?_)
  subst e2
  refine wpAny_bind (wpAny_pure ?_)
  have hiz2 := hiz.push { cls := .type "list_iterator", data := .fields #[.ref l, .int 0 0] }
  simp only [List.forIn_cons, List.forIn_nil]
  refine wpAny_bind (wpAny_bind (wpAny_bind (wpAny_isInstance (T := "list") (b := false) hiz2.typeIs sub_list_str ?_)))
  simp only [Bool.false_eq_true, if_false]
  refine wpAny_pure (wpAny_bind (wpAny_bind (wpAny_isInstance (T := "list") (b := false) hiz2.typeIs sub_list_bytes ?_)))
  simp only [Bool.false_eq_true, if_false]
  refine wpAny_pure (wpAny_bind (wpAny_bind (wpAny_isInstance (T := "list") (b := false) hiz2.typeIs sub_list_bytearray ?_)))
  simp only [Bool.false_eq_true, if_false]
  refine wpAny_pure (wpAny_pure ?_)
  refine wpAny_bind (wpAny_newObj_type ?_)
  have hsz1 : (s.heap.push { cls := .type "list_iterator", data := .fields #[.ref l, .int 0 0] }).objs.size = s.heap.objs.size + 1 := Heap.size_push _ _
  have old : ∀ b o, s.heap.get? b = some o → ((s.heap.push { cls := .type "list_iterator", data := .fields #[.ref l, .int 0 0] }).push { cls := .type "list", data := .seq #[Value.ref z] }).get? b = some o := fun b o e =>
    Heap.get?_push_of_some _ (Heap.get?_push_of_some _ e)
  have lt : ∀ b o, s.heap.get? b = some o → b < s.heap.objs.size := fun b o e => Heap.lt_size e
  have lt2 : ∀ b, b < s.heap.objs.size → b ≠ (s.heap.push { cls := .type "list_iterator", data := .fields #[.ref l, .int 0 0] }).objs.size := fun b hb => Nat.ne_of_lt (by rw [hsz1]; exact Nat.lt_succ_of_lt hb)
  refine wpAny_pure ⟨plainId_quiet F.plain_sum_loop _, sum_lists_loop (A := A) hh s.heap.objs.size l (s.heap.push { cls := .type "list_iterator", data := .fields #[.ref l, .int 0 0] }).objs.size hne (Nat.ne_of_gt (by rw [hsz1]; exact Nat.lt_succ_self _)) (Ne.symm (lt2 _ (lt _ _ hl))) items ls xs hit
    (fun i hi => by obtain ⟨n, e⟩ := hls i hi; exact Nat.ne_of_lt (lt _ _ e)) (fun i hi => by obtain ⟨n, e⟩ := hls i hi; exact lt2 _ (lt _ _ e))
    items.size 0 _ z zi nz 0 (by omega) (Nat.zero_le _) ⟨st.1.at fun o e => Heap.get?_push_of_some _ e, st.2.push _⟩ (Heap.get?_push_size _ rfl) (old _ _ hz) (fun j hj => by obtain ⟨n, e⟩ := hls j hj; exact ⟨n, old _ _ e⟩)
    (Nat.ne_of_lt (lt _ _ hz)) (lt2 _ (lt _ _ hz)) hsz fun h' tk r n hk hr _ h1 => ?_⟩
  refine h h' tk r n (fun b o e => hk b o (Nat.ne_of_lt (lt _ _ e)) (lt2 _ (lt _ _ e)) (old b o e)) ?_ hr
  have := h1 hpos
  rw [hsz1] at this
  exact Nat.le_of_lt (Nat.lt_of_succ_lt this)
end
end PySem

namespace L2
open PySem PySem.Spec PyProof.Rows
section
variable {X : Cx}
/-- xs[i] as it is read in xs[i] op= e -/
def rGetL (K : PySem.W.Frag) : R2 := fun x y H Q => ∃ p xs i v, x = .ref p ∧ y = .int i ∧ SqL K H p xs ∧ 0 ≤ i ∧ xs[i.toNat]? = some v ∧ Q v H
theorem get_listA : PGet X (rGetL X.K) := by
  intro pins s σ H x y v u Q I rx ry h
  obtain ⟨p, xs, i, z, rfl, rfl, hq, h0, he, q⟩ := h
  cases rx
  obtain ⟨t, rfl⟩ := ry
  obtain ⟨its, r, pl, hz⟩ := I.list hq
  obtain ⟨w, ew, rw'⟩ := r.get he
  have hl := r.length
  have hn := line63
  have hlt : i.toNat < xs.length := (List.getElem?_eq_some_iff.mp he).1
  exact wpAny_getItem_list pl.isList h0 (by omega) (by simpa using ew) ⟨z, H, I, rw', q⟩
/-- sum(xss, zs): a list of one list and more, and a list to begin with -/
def rSumL (K : PySem.W.Frag) : List V → Hp → VK → Prop := fun vs H Q => ∃ (a z : Addr) (ls : List Addr) (xss : List (List V)) (zs : List V), vs = [V.ref a, V.ref z] ∧ H a = some (.lst (ls.map V.ref)) ∧ H z = some (.lst zs) ∧
  Paired (fun l xs => H l = some (.lst xs)) ls xss ∧ ls ≠ [] ∧ zs.length + xss.flatten.length ≤ sizeLine ∧ ∀ p, H p = none → Q (.ref p) (upd H p (.lst (zs ++ xss.flatten)))
theorem paired_at {α β : Type} {R : α → β → Prop} : ∀ {xs : List α} {ys : List β}, Paired R xs ys → ∀ (i : Nat) (x : α), xs[i]? = some x → ∃ y, ys[i]? = some y ∧ R x y
  | _, _, .nil, i, x, h => by simp at h
  | _, _, .cons r t, 0, x, h => by simp at h; subst h; exact ⟨_, rfl, r⟩
  | _, _, .cons r t, i + 1, x, h => by
    obtain ⟨y, e, q⟩ := paired_at t i x (by simpa using h)
    exact ⟨y, by simpa using e, q⟩
/-- the items of the list object at a -/
def seqAt (h : Heap) (a : Addr) : Array Value := match h.get? a with
  | some ⟨_, _, .seq xs _, _⟩ => xs
  | _ => #[]
theorem vals_cat {X : Cx} {pins : List (Addr × Obj)} {σ : St} {H : Hp} {s : Shared} (I : Inv X pins σ H s) : ∀ {ls : List Addr} {xss : List (List V)} (f : Nat → Addr) (i : Nat), Paired (fun l xs => H l = some (.lst xs)) ls xss → (∀ j a, ls[j]? = some a → f (i + j) = a) →
    Vals xss.flatten (catFrom (fun j => seqAt s.heap (f j)) i ls.length).toList
  | _, _, f, i, .nil, _ => .nil
  | _, _, f, i, .cons (a := l) (b := xs) (l₁ := ls) (l₂ := xss) r t, h => by
    obtain ⟨z, its, n, rv, hl, e⟩ := I.lstM r
    have e0 : f i = l := h 0 l rfl
    have es : seqAt s.heap (f i) = its.toArray := by
      unfold seqAt
      rw [e0, e]
    have ih := vals_cat I f (i + 1) t fun j a ha => by rw [show i + 1 + j = i + (j + 1) by omega]; exact h (j + 1) a (by simpa using ha)
    show Vals (xs ++ xss.flatten) (seqAt s.heap (f i) ++ catFrom (fun j => seqAt s.heap (f j)) (i + 1) ls.length).toList
    rw [es, Array.toList_append]
    exact rv.append ih
theorem vals_refs : ∀ {ls : List Addr} {us : List Value}, Vals (ls.map V.ref) us → us = ls.map Value.ref
  | [], _, .nil => rfl
  | l :: ls, _, .cons r t => by
    rw [vals_refs t]
    cases r
    rfl
theorem cr_sumL (hc : X.calm = true) : CallR X (.builtin "sum") (rSumL X.K) := by
  intro pins s σ H vs us Q I r h
  obtain ⟨a, z, ls, xss, zs, rfl, ha, hz, hp, hne, hsz, q⟩ := h
  obtain ⟨u1, u2, rfl, r1, r2⟩ := Vals.two r
  cases (show u1 = Value.ref a from r1)
  cases (show u2 = Value.ref z from r2)
  obtain ⟨_, its, n, rv, hl, e⟩ := I.lstM ha
  obtain ⟨_, itz, nz, rz, hlz, ez⟩ := I.lstM hz
  have ei := vals_refs rv
  subst ei
  have hlen : (ls.map Value.ref).toArray.size = ls.length := by simp
  have hcat := vals_cat I (fun j => ls.getD j 0) 0 hp (fun j b hb => by
    show ls.getD (0 + j) 0 = b
    rw [Nat.zero_add, List.getD_eq_getElem?_getD, hb]
    rfl)
  have hcl := hcat.length
  refine call_sum_lists (items := (ls.map Value.ref).toArray) (zi := itz.toArray) (fun j => ls.getD j 0) (fun j => seqAt s.heap (ls.getD j 0)) (I.ok.hd hc) e ez (fun i v hv => ?_) (fun j hj => ?_) ?_ ?_ fun h' tk p n' hk hp' hr => ?_
  · have hv' : (ls.map Value.ref)[i]? = some v := by simpa using hv
    rw [List.getElem?_map] at hv'
    obtain ⟨b, hb, rfl⟩ := Option.map_eq_some_iff.mp hv'
    rw [List.getD_eq_getElem?_getD, hb]
    rfl
  · rw [hlen] at hj
    have hb : ls[j]? = some ls[j] := List.getElem?_eq_getElem hj
    obtain ⟨ys, _, hy⟩ := paired_at hp j _ hb
    obtain ⟨_, itj, nj, _, _, ej⟩ := I.lstM hy
    refine ⟨nj, ?_⟩
    have : ls.getD j 0 = ls[j] := by rw [List.getD_eq_getElem?_getD, hb]; rfl
    rw [this, ej]
    unfold seqAt
    rw [ej]
  · rw [hlen]
    cases ls with
    | nil => exact absurd rfl hne
    | cons => simp
  · rw [hlen]
    simp only [List.size_toArray]
    have : (catFrom (fun j => seqAt s.heap (ls.getD j 0)) 0 ls.length).size = xss.flatten.length := (hcl.trans Array.length_toList).symm
    omega
  · rw [hlen] at hr
    have hv : Vals (zs ++ xss.flatten) (itz ++ (catFrom (fun j => seqAt s.heap (ls.getD j 0)) 0 ls.length).toList) := rz.append hcat
    refine ⟨.ref p, upd H p (.lst (zs ++ xss.flatten)), I.laid hk hp' ⟨by rw [List.length_append]; exact hsz, _, n', hv, ?_⟩, rfl, q p (I.hok.fresh hp')⟩
    rw [hr]
    congr 3
    apply Array.ext'
    simp
end
end L2

namespace Sw
/-! ties as (one, other, price); directed edges likewise: (a, b, c): from a one goes to b for c -/
abbrev T3 := Nat × Nat × Nat
/-- a way from v to the goal g with k steps for c -/
inductive Way (E : List T3) (g : Nat) : Nat → Nat → Nat → Prop
  | nil : Way E g g 0 0
  | cons {a b p k c : Nat} : (a, b, p) ∈ E → Way E g b k c → Way E g a (k + 1) (p + c)
abbrev Dist := List (Option Nat)
def at? (d : Dist) (v : Nat) : Option Nat := (d[v]?).getD none
/-- one relaxing -/
def relax (d : Dist) (e : T3) : Dist :=
  match at? d e.2.1 with
  | none => d
  | some y => match at? d e.1 with
    | none => d.set e.1 (some (y + e.2.2))
    | some x => if y + e.2.2 < x then d.set e.1 (some (y + e.2.2)) else d
def roundOf (L : List T3) (d : Dist) : Dist := L.foldl relax d
def start (n g : Nat) : Dist := (List.replicate n none).set g (some 0)
def rounds (L : List T3) : Nat → Dist → Dist
  | 0, d => d
  | k + 1, d => rounds L k (roundOf L d)
theorem relax_len (d : Dist) (e : T3) : (relax d e).length = d.length := by
  unfold relax
  split
  · rfl
  · split
    · simp
    · split <;> simp
theorem round_len (L : List T3) : ∀ d, (roundOf L d).length = d.length := by
  induction L with
  | nil => intro d; rfl
  | cons e L ih => intro d; show (roundOf L (relax d e)).length = _; rw [ih, relax_len]
theorem at_set (d : Dist) (v u : Nat) (x : Option Nat) (h : v < d.length) : at? (d.set v x) u = if u = v then x else at? d u := by
  unfold at?
  rw [List.getElem?_set]
  by_cases e : v = u
  · subst e; simp [h]
  · simp [e, Ne.symm e]
/-- le on Option with none the top -/
def Le (x y : Option Nat) : Prop := ∀ c, y = some c → ∃ c', x = some c' ∧ c' ≤ c
theorem Le.refl (x : Option Nat) : Le x x := fun c h => ⟨c, h, Nat.le_refl _⟩
theorem Le.trans {x y z : Option Nat} (h : Le x y) (h' : Le y z) : Le x z := fun c e => by
  obtain ⟨c1, e1, l1⟩ := h' c e
  obtain ⟨c2, e2, l2⟩ := h c1 e1
  exact ⟨c2, e2, Nat.le_trans l2 l1⟩
theorem relax_le (d : Dist) (e : T3) (hl : e.1 < d.length) (v : Nat) : Le (at? (relax d e) v) (at? d v) := by
  unfold relax
  split
  · exact Le.refl _
  · rename_i y hy
    split
    · rename_i hx
      rw [at_set _ _ _ _ hl]
      split
      · rename_i ev; subst ev; intro c hc; rw [hx] at hc; cases hc
      · exact Le.refl _
    · rename_i x hx
      split
      · rename_i lt
        rw [at_set _ _ _ _ hl]
        split
        · rename_i ev; subst ev; intro c hc; rw [hx] at hc; cases hc; exact ⟨_, rfl, Nat.le_of_lt lt⟩
        · exact Le.refl _
      · exact Le.refl _
theorem relax_does (d : Dist) (e : T3) (hl : e.1 < d.length) {y : Nat} (hy : at? d e.2.1 = some y) : Le (at? (relax d e) e.1) (some (y + e.2.2)) := by
  unfold relax
  rw [hy]
  simp only
  split
  · rw [at_set _ _ _ _ hl, if_pos rfl]; exact Le.refl _
  · rename_i x hx
    split
    · rw [at_set _ _ _ _ hl, if_pos rfl]; exact Le.refl _
    · rename_i nl
      intro c hc; cases hc; exact ⟨x, hx, by omega⟩
theorem round_le (L : List T3) : ∀ (d : Dist), (∀ e ∈ L, e.1 < d.length) → ∀ v, Le (at? (roundOf L d) v) (at? d v) := by
  induction L with
  | nil => intro d _ v; exact Le.refl _
  | cons e L ih =>
    intro d h v
    have h1 := relax_le d e (h e List.mem_cons_self) v
    have h2 := ih (relax d e) (fun e' m => by rw [relax_len]; exact h e' (List.mem_cons_of_mem _ m)) v
    exact Le.trans h2 h1
theorem round_does (L : List T3) : ∀ (d : Dist), (∀ e ∈ L, e.1 < d.length) → ∀ e ∈ L, ∀ y, at? d e.2.1 = some y → Le (at? (roundOf L d) e.1) (some (y + e.2.2)) := by
  induction L with
  | nil => intro d _ e m; cases m
  | cons e0 L ih =>
    intro d h e m y hy
    have hr : ∀ e ∈ L, e.1 < (relax d e0).length := fun e' m => by rw [relax_len]; exact h e' (List.mem_cons_of_mem _ m)
    have h1 := relax_le d e0 (h e0 List.mem_cons_self)
    rcases List.mem_cons.mp m with q | q
    · subst q
      have := relax_does d e (h e List.mem_cons_self) hy
      exact Le.trans (round_le L _ hr e.1) this
    · obtain ⟨y', e1, l1⟩ := h1 e.2.1 y hy
      obtain h2 := ih (relax d e0) hr e q y' e1
      intro c hc
      cases hc
      obtain ⟨c', e2, l2⟩ := h2 _ rfl
      exact ⟨c', e2, by omega⟩
/-- soundness -/
def Sound (E : List T3) (g : Nat) (d : Dist) : Prop := ∀ v c, at? d v = some c → ∃ k, Way E g v k c
theorem relax_sound {E : List T3} {g : Nat} {d : Dist} {e : T3} (he : e ∈ E) (hl : e.1 < d.length) (s : Sound E g d) : Sound E g (relax d e) := by
  intro v c hv
  unfold relax at hv
  split at hv
  · exact s v c hv
  · rename_i y hy
    obtain ⟨k, wk⟩ := s _ _ hy
    have ws : ∃ k, Way E g e.1 k (y + e.2.2) := ⟨k + 1, by rw [Nat.add_comm y]; exact Way.cons he wk⟩
    split at hv
    · rw [at_set _ _ _ _ hl] at hv
      split at hv
      · rename_i ev; subst ev; cases hv; exact ws
      · exact s v c hv
    · split at hv
      · rw [at_set _ _ _ _ hl] at hv
        split at hv
        · rename_i ev; subst ev; cases hv; exact ws
        · exact s v c hv
      · exact s v c hv
theorem round_sound {E : List T3} {g : Nat} (L : List T3) : ∀ (d : Dist), (∀ e ∈ L, e ∈ E) → (∀ e ∈ L, e.1 < d.length) → Sound E g d → Sound E g (roundOf L d) := by
  induction L with
  | nil => intro d _ _ s; exact s
  | cons e L ih =>
    intro d h1 h2 s
    exact ih (relax d e) (fun e' m => h1 e' (List.mem_cons_of_mem _ m)) (fun e' m => by rw [relax_len]; exact h2 e' (List.mem_cons_of_mem _ m)) (relax_sound (h1 e List.mem_cons_self) (h2 e List.mem_cons_self) s)
/-- below every way of at most k steps -/
def Below (E : List T3) (g k : Nat) (d : Dist) : Prop := ∀ v j c, j ≤ k → Way E g v j c → Le (at? d v) (some c)
theorem round_below {E : List T3} {g k : Nat} (L : List T3) (d : Dist) (h1 : ∀ e ∈ E, e ∈ L) (h2 : ∀ e ∈ L, e.1 < d.length) (b : Below E g k d) : Below E g (k + 1) (roundOf L d) := by
  intro v j c hj w
  cases w with
  | nil => exact Le.trans (round_le L d h2 _) (b _ 0 0 (Nat.zero_le _) Way.nil)
  | @cons _ u p j' c' he w' =>
    obtain ⟨y, e1, l1⟩ := b u j' c' (by omega) w' _ rfl
    obtain ⟨z, e2, l2⟩ := round_does L d h2 _ (h1 _ he) y e1 _ rfl
    intro c2 hc2
    cases hc2
    refine ⟨z, e2, ?_⟩
    simp only at l2
    omega
theorem rounds_len (L : List T3) : ∀ k d, (rounds L k d).length = d.length := by
  intro k
  induction k with
  | zero => intro d; rfl
  | succ k ih => intro d; show (rounds L k (roundOf L d)).length = _; rw [ih, round_len]
theorem rounds_ok {E : List T3} {g : Nat} (L : List T3) (h0 : ∀ e, e ∈ E ↔ e ∈ L) : ∀ (k j : Nat) (d : Dist), (∀ e ∈ L, e.1 < d.length) → Sound E g d → Below E g j d → Sound E g (rounds L k d) ∧ Below E g (j + k) (rounds L k d) := by
  intro k
  induction k with
  | zero => intro j d _ s b; exact ⟨s, b⟩
  | succ k ih =>
    intro j d h s b
    have := ih (j + 1) (roundOf L d) (fun e m => by rw [round_len]; exact h e m) (round_sound L d (fun e m => (h0 e).mpr m) h s) (round_below L d (fun e m => (h0 e).mp m) h b)
    rw [show j + (k + 1) = j + 1 + k by omega]
    exact this
theorem rounds_succ (L : List T3) : ∀ k d, rounds L (k + 1) d = roundOf L (rounds L k d) := by
  intro k
  induction k with
  | zero => intro d; rfl
  | succ k ih => intro d; show rounds L (k + 1) (roundOf L d) = _; rw [ih]; rfl
/-! a way without a house twice -/
/-- no more than n different numbers below n -/
theorem nodup_le : ∀ (n : Nat) (l : List Nat), l.Nodup → (∀ x ∈ l, x < n) → l.length ≤ n := by
  intro n
  induction n with
  | zero =>
    intro l _ h
    cases l with
    | nil => simp
    | cons a l => exact absurd (h a List.mem_cons_self) (by omega)
  | succ n ih =>
    intro l nd h
    have h1 := ih (l.erase n) (nd.erase _) (fun x m => by
      have := h x (List.mem_of_mem_erase m)
      have hne : x ≠ n := fun q => by
        subst q
        exact (List.Nodup.not_mem_erase nd) m
      omega)
    have h2 : l.length ≤ (l.erase n).length + 1 := by
      rw [List.length_erase]
      split <;> omega
    omega
/-- the houses of a way (the goal left out) -/
inductive WayL (E : List T3) (g : Nat) : Nat → List Nat → Nat → Prop
  | nil : WayL E g g [] 0
  | cons {a b p c : Nat} {l : List Nat} : (a, b, p) ∈ E → WayL E g b l c → WayL E g a (a :: l) (p + c)
theorem Way.toL {E : List T3} {g v k c : Nat} (w : Way E g v k c) : ∃ l, WayL E g v l c ∧ l.length = k := by
  induction w with
  | nil => exact ⟨[], .nil, rfl⟩
  | cons he _ ih => obtain ⟨l, w, e⟩ := ih; exact ⟨_, .cons he w, by simp [e]⟩
theorem WayL.toW {E : List T3} {g v c : Nat} {l : List Nat} (w : WayL E g v l c) : Way E g v l.length c := by
  induction w with
  | nil => exact .nil
  | cons he _ ih => exact .cons he ih
/-- from a house on the way on -/
theorem WayL.from {E : List T3} {g v c : Nat} {l : List Nat} (w : WayL E g v l c) (nd : l.Nodup) : ∀ u ∈ l, ∃ l' c', WayL E g u l' c' ∧ c' ≤ c ∧ l'.Nodup ∧ ∀ x ∈ l', x ∈ l := by
  induction w with
  | nil => intro u m; cases m
  | @cons a b p c l he w ih =>
    intro u m
    rcases List.mem_cons.mp m with q | q
    · subst q; exact ⟨_, _, .cons he w, Nat.le_refl _, nd, fun x m => m⟩
    · obtain ⟨l', c', w', le, nd', sub⟩ := ih (List.nodup_cons.mp nd).2 u q
      exact ⟨l', c', w', by omega, nd', fun x m => List.mem_cons_of_mem _ (sub x m)⟩
theorem WayL.simple {E : List T3} {g v c : Nat} {l : List Nat} (w : WayL E g v l c) : ∃ l' c', WayL E g v l' c' ∧ c' ≤ c ∧ l'.Nodup ∧ g ∉ l' := by
  induction w with
  | nil => exact ⟨[], 0, .nil, Nat.le_refl _, List.nodup_nil, by simp⟩
  | @cons a b p c l he w ih =>
    obtain ⟨l', c', w', le, nd, ng⟩ := ih
    by_cases hg : a = g
    · subst hg; exact ⟨[], 0, .nil, Nat.zero_le _, List.nodup_nil, by simp⟩
    · by_cases ha : a ∈ l'
      · obtain ⟨l2, c2, w2, le2, nd2, sub⟩ := w'.from nd a ha
        exact ⟨l2, c2, w2, by omega, nd2, fun m => ng (sub _ m)⟩
      · exact ⟨a :: l', p + c', .cons he w', by omega, List.nodup_cons.mpr ⟨ha, nd⟩, fun m => by
          rcases List.mem_cons.mp m with q | q
          · exact hg q.symm
          · exact ng q⟩
theorem WayL.lt {E : List T3} {g v c n : Nat} {l : List Nat} (w : WayL E g v l c) (hE : ∀ e ∈ E, e.1 < n) : ∀ x ∈ l, x < n := by
  induction w with
  | nil => intro x m; cases m
  | cons he _ ih =>
    intro x m
    rcases List.mem_cons.mp m with q | q
    · subst q; exact hE _ he
    · exact ih x q
theorem way_short {E : List T3} {g v k c n : Nat} (hE : ∀ e ∈ E, e.1 < n) (w : Way E g v k c) : ∃ k' c', k' ≤ n ∧ c' ≤ c ∧ Way E g v k' c' := by
  obtain ⟨l, wl, _⟩ := w.toL
  obtain ⟨l', c', w', le, nd, _⟩ := wl.simple
  exact ⟨l'.length, c', nodup_le n l' nd (w'.lt hE), le, w'.toW⟩
/-- what the list of least prices is -/
structure IsFar (E : List T3) (n g : Nat) (d : Dist) : Prop where
  len : d.length = n
  way : Sound E g d
  least : ∀ v k c, Way E g v k c → Le (at? d v) (some c)
theorem start_at (n g v : Nat) (hg : g < n) : at? (start n g) v = if v = g then some 0 else none := by
  unfold start
  rw [at_set _ _ _ _ (by simpa using hg)]
  split
  · rfl
  · unfold at?
    rw [List.getElem?_replicate]
    split <;> rfl
theorem far_is {E : List T3} {n g : Nat} (L : List T3) (h0 : ∀ e, e ∈ E ↔ e ∈ L) (hE : ∀ e ∈ E, e.1 < n) (hg : g < n) : IsFar E n g (rounds L n (start n g)) := by
  have hs : (start n g).length = n := by simp [start]
  have h := rounds_ok (E := E) (g := g) L h0 n 0 (start n g) (fun e m => by rw [hs]; exact hE e ((h0 e).mpr m))
    (fun v c h => by
      rw [start_at _ _ _ hg] at h
      split at h
      · rename_i q; subst q; cases h; exact ⟨0, .nil⟩
      · cases h)
    (fun v j c hj w => by
      have : j = 0 := by omega
      subst this
      cases w
      rw [start_at _ _ _ hg, if_pos rfl]
      exact Le.refl _)
  refine ⟨by rw [rounds_len, hs], h.1, fun v k c w => ?_⟩
  obtain ⟨k', c', hk, hc, w'⟩ := way_short hE w
  obtain ⟨z, e, l⟩ := h.2 v k' c' (by omega) w' _ rfl
  intro c2 e2
  cases e2
  exact ⟨z, e, by omega⟩
theorem far_one {E : List T3} {n g : Nat} {d d' : Dist} (h : IsFar E n g d) (h' : IsFar E n g d') : d = d' := by
  have key : ∀ v, at? d v = at? d' v := fun v => by
    cases e : at? d v with
    | none =>
      cases e' : at? d' v with
      | none => rfl
      | some c' =>
        obtain ⟨k, w⟩ := h'.way _ _ e'
        obtain ⟨z, ez, _⟩ := h.least _ _ _ w _ rfl
        rw [e] at ez; cases ez
    | some c =>
      obtain ⟨k, w⟩ := h.way _ _ e
      obtain ⟨z, ez, lz⟩ := h'.least _ _ _ w _ rfl
      obtain ⟨k2, w2⟩ := h'.way _ _ ez
      obtain ⟨z2, ez2, lz2⟩ := h.least _ _ _ w2 _ rfl
      rw [e] at ez2; cases ez2
      rw [ez]
      congr 1
      omega
  refine List.ext_getElem? fun i => ?_
  by_cases hi : i < n
  · have a1 : i < d.length := by rw [h.len]; exact hi
    have a2 : i < d'.length := by rw [h'.len]; exact hi
    have := key i
    unfold at? at this
    rw [List.getElem?_eq_getElem a1, List.getElem?_eq_getElem a2] at this ⊢
    simpa using this
  · rw [List.getElem?_eq_none (by rw [h.len]; omega), List.getElem?_eq_none (by rw [h'.len]; omega)]
theorem far_cong {E E' : List T3} {n g : Nat} {d : Dist} (he : ∀ e, e ∈ E ↔ e ∈ E') (h : IsFar E n g d) : IsFar E' n g d := by
  have tr : ∀ {A B : List T3}, (∀ e, e ∈ A → e ∈ B) → ∀ {v k c}, Way A g v k c → Way B g v k c := by
    intro A B hs v k c w
    induction w with
    | nil => exact .nil
    | cons m _ ih => exact .cons (hs _ m) ih
  exact ⟨h.len, fun v c e => by obtain ⟨k, w⟩ := h.way v c e; exact ⟨k, tr (fun e m => (he e).mp m) w⟩, fun v k c w => h.least v k c (tr (fun e m => (he e).mpr m) w)⟩
end Sw
namespace Sw
/-- u is a next house of h: just so much nearer -/
def Cand (E : List T3) (d : Dist) (h u : Nat) : Prop := ∃ c y, (h, u, c) ∈ E ∧ at? d u = some y ∧ at? d h = some (y + c)
def IsNext (E : List T3) (d : Dist) (g h : Nat) : Option Nat → Prop
  | none => h = g ∨ at? d h = none
  | some u => h ≠ g ∧ at? d h ≠ none ∧ Cand E d h u ∧ ∀ v, Cand E d h v → u ≤ v
theorem next_one {E : List T3} {d : Dist} {g h : Nat} : ∀ {x y : Option Nat}, IsNext E d g h x → IsNext E d g h y → x = y
  | none, none, _, _ => rfl
  | none, some u, h1, h2 => by
    rcases h1 with q | q
    · exact absurd q h2.1
    · exact absurd q h2.2.1
  | some u, none, h1, h2 => by
    rcases h2 with q | q
    · exact absurd q h1.1
    · exact absurd q h1.2.1
  | some u, some v, h1, h2 => by
    have a := h1.2.2.2 v h2.2.2.1
    have b := h2.2.2.2 u h1.2.2.1
    rw [Nat.le_antisymm a b]
theorem cand_cong {E E' : List T3} (he : ∀ e, e ∈ E ↔ e ∈ E') {d : Dist} {h u : Nat} : Cand E d h u ↔ Cand E' d h u :=
  ⟨fun ⟨c, y, a, b⟩ => ⟨c, y, (he _).mp a, b⟩, fun ⟨c, y, a, b⟩ => ⟨c, y, (he _).mpr a, b⟩⟩
theorem next_cong {E E' : List T3} (he : ∀ e, e ∈ E ↔ e ∈ E') {d : Dist} {g h : Nat} : ∀ {x : Option Nat}, IsNext E d g h x → IsNext E' d g h x
  | none, a => a
  | some u, a => ⟨a.1, a.2.1, (cand_cong he).mp a.2.2.1, fun v hv => a.2.2.2 v ((cand_cong he).mpr hv)⟩
theorem far_goal {E : List T3} {n g : Nat} {d : Dist} (f : IsFar E n g d) : at? d g = some 0 := by
  obtain ⟨c, e, l⟩ := f.least g 0 0 .nil 0 rfl
  rw [e]
  congr 1
  omega
theorem cand_ex {E : List T3} {n g h c : Nat} {d : Dist} (f : IsFar E n g d) (hg : h ≠ g) (hc : at? d h = some c) : ∃ u, Cand E d h u := by
  obtain ⟨k, w⟩ := f.way h c hc
  cases w with
  | nil => exact absurd rfl hg
  | @cons _ u p k' c' he w' =>
    obtain ⟨y, ey, ly⟩ := f.least u k' c' w' _ rfl
    obtain ⟨k2, w2⟩ := f.way u y ey
    obtain ⟨z, ez, lz⟩ := f.least h (k2 + 1) (p + y) (.cons he w2) _ rfl
    rw [hc] at ez
    cases ez
    refine ⟨u, p, y, he, ey, ?_⟩
    rw [hc]
    congr 1
    omega
theorem near_some {E : List T3} {n g h u c : Nat} {d : Dist} (f : IsFar E n g d) (hs : ∀ a b c, (a, b, c) ∈ E → (b, a, c) ∈ E) (he : (h, u, c) ∈ E) (hh : at? d h ≠ none) : ∃ y, at? d u = some y := by
  cases e : at? d h with
  | none => exact absurd e hh
  | some z =>
    obtain ⟨k, w⟩ := f.way h z e
    obtain ⟨y, ey, _⟩ := f.least u (k + 1) (c + z) (.cons (hs _ _ _ he) w) _ rfl
    exact ⟨y, ey⟩
/-- whether a neighbour (house, price) is just so much nearer -/
def test (d : Dist) (h : Nat) (q : Nat × Nat) : Bool := match at? d q.1 with
  | some y => decide (at? d h = some (y + q.2))
  | none => false
def candL (d : Dist) (h : Nat) (L : List (Nat × Nat)) : List Nat := (L.filter (test d h)).map (·.1)
theorem candL_mem {E : List T3} {d : Dist} {h : Nat} {L : List (Nat × Nat)} (hL : ∀ u c, (u, c) ∈ L ↔ (h, u, c) ∈ E) (u : Nat) : u ∈ candL d h L ↔ Cand E d h u := by
  unfold candL
  rw [List.mem_map]
  constructor
  · rintro ⟨q, hq, rfl⟩
    obtain ⟨m, t⟩ := List.mem_filter.mp hq
    unfold test at t
    cases e : at? d q.1 with
    | none => rw [e] at t; cases t
    | some y =>
      rw [e] at t
      exact ⟨q.2, y, (hL _ _).mp m, e, of_decide_eq_true t⟩
  · rintro ⟨c, y, m, e, t⟩
    refine ⟨(u, c), List.mem_filter.mpr ⟨(hL _ _).mpr m, ?_⟩, rfl⟩
    unfold test
    rw [e]
    exact decide_eq_true t
def nbr (ts : List T3) (h : Nat) : List (Nat × Nat) := ts.flatMap fun e => (if e.1 = h then [(e.2.1, e.2.2)] else []) ++ (if e.2.1 = h then [(e.1, e.2.2)] else [])
theorem nbr_mem (ts : List T3) (h u c : Nat) : (u, c) ∈ nbr ts h ↔ ((h, u, c) ∈ ts ∨ (u, h, c) ∈ ts) := by
  unfold nbr
  rw [List.mem_flatMap]
  constructor
  · rintro ⟨⟨a, b, p⟩, m, q⟩
    rcases List.mem_append.mp q with q | q
    · split at q
      · rename_i e; simp at q e; obtain ⟨rfl, rfl⟩ := q; subst e; exact .inl m
      · cases q
    · split at q
      · rename_i e; simp at q e; obtain ⟨rfl, rfl⟩ := q; subst e; exact .inr m
      · cases q
  · rintro (m | m)
    · exact ⟨_, m, by simp⟩
    · exact ⟨_, m, by simp⟩
theorem nbr_snoc (ts : List T3) (e : T3) (h : Nat) : nbr (ts ++ [e]) h = nbr ts h ++ ((if e.1 = h then [(e.2.1, e.2.2)] else []) ++ (if e.2.1 = h then [(e.1, e.2.2)] else [])) := by
  unfold nbr
  rw [List.flatMap_append]
  simp
theorem nbr_len (ts : List T3) (h : Nat) : (nbr ts h).length ≤ 2 * ts.length := by
  induction ts with
  | nil => simp [nbr]
  | cons e ts ih =>
    have : nbr (e :: ts) h = ((if e.1 = h then [(e.2.1, e.2.2)] else []) ++ (if e.2.1 = h then [(e.1, e.2.2)] else [])) ++ nbr ts h := rfl
    rw [this, List.length_append, List.length_append]
    have h1 : (if e.1 = h then [(e.2.1, e.2.2)] else []).length ≤ 1 := by split <;> simp
    have h2 : (if e.2.1 = h then [(e.1, e.2.2)] else []).length ≤ 1 := by split <;> simp
    simp only [List.length_cons]
    omega
theorem candL_snoc (d : Dist) (h : Nat) (L : List (Nat × Nat)) (q : Nat × Nat) : candL d h (L ++ [q]) = candL d h L ++ (if test d h q = true then [q.1] else []) := by
  unfold candL
  rw [List.filter_append, List.map_append]
  congr 1
  simp only [List.filter_cons, List.filter_nil]
  split <;> rfl
theorem candL_len (d : Dist) (h : Nat) (L : List (Nat × Nat)) : (candL d h L).length ≤ L.length := by
  unfold candL
  rw [List.length_map]
  exact List.length_filter_le _ _
end Sw
namespace Sw
def fl1 (ts : List T3) (h : Nat) : List (Nat × Nat) := ts.flatMap fun e => if e.1 = h then [(e.2.1, e.2.2)] else []
def fl2 (ts : List T3) (h : Nat) : List (Nat × Nat) := ts.flatMap fun e => if e.2.1 = h then [(e.1, e.2.2)] else []
theorem fl1_snoc (ts : List T3) (e : T3) (h : Nat) : fl1 (ts ++ [e]) h = fl1 ts h ++ (if e.1 = h then [(e.2.1, e.2.2)] else []) := by
  unfold fl1; rw [List.flatMap_append]; simp
theorem fl2_snoc (ts : List T3) (e : T3) (h : Nat) : fl2 (ts ++ [e]) h = fl2 ts h ++ (if e.2.1 = h then [(e.1, e.2.2)] else []) := by
  unfold fl2; rw [List.flatMap_append]; simp
theorem fl_mem (ts : List T3) (h u c : Nat) : (u, c) ∈ fl1 ts h ++ fl2 ts h ↔ ((h, u, c) ∈ ts ∨ (u, h, c) ∈ ts) := by
  rw [List.mem_append]
  unfold fl1 fl2
  rw [List.mem_flatMap, List.mem_flatMap]
  constructor
  · rintro (⟨⟨a, b, p⟩, m, q⟩ | ⟨⟨a, b, p⟩, m, q⟩)
    · split at q
      · rename_i e; simp at q e; obtain ⟨rfl, rfl⟩ := q; subst e; exact .inl m
      · cases q
    · split at q
      · rename_i e; simp at q e; obtain ⟨rfl, rfl⟩ := q; subst e; exact .inr m
      · cases q
  · rintro (m | m)
    · exact .inl ⟨_, m, by simp⟩
    · exact .inr ⟨_, m, by simp⟩
theorem fl1_len (ts : List T3) (h : Nat) : (fl1 ts h).length ≤ ts.length := by
  induction ts with
  | nil => simp [fl1]
  | cons e ts ih =>
    have : fl1 (e :: ts) h = (if e.1 = h then [(e.2.1, e.2.2)] else []) ++ fl1 ts h := rfl
    rw [this, List.length_append]
    have h1 : (if e.1 = h then [(e.2.1, e.2.2)] else []).length ≤ 1 := by split <;> simp
    simp only [List.length_cons]
    omega
theorem fl2_len (ts : List T3) (h : Nat) : (fl2 ts h).length ≤ ts.length := by
  induction ts with
  | nil => simp [fl2]
  | cons e ts ih =>
    have : fl2 (e :: ts) h = (if e.2.1 = h then [(e.1, e.2.2)] else []) ++ fl2 ts h := rfl
    rw [this, List.length_append]
    have h1 : (if e.2.1 = h then [(e.1, e.2.2)] else []).length ≤ 1 := by split <;> simp
    simp only [List.length_cons]
    omega
end Sw
namespace Sw
/-- the told way, house by house -/
inductive WayTo (E : List T3) (d : Dist) (g : Nat) : Nat → List Nat → Prop
  | here : WayTo E d g g [g]
  | step {h u : Nat} {l : List Nat} : IsNext E d g h (some u) → WayTo E d g u l → WayTo E d g h (h :: l)
theorem wayto_one {E : List T3} {d : Dist} {g h : Nat} {l l' : List Nat} (a : WayTo E d g h l) (b : WayTo E d g h l') : l = l' := by
  induction a generalizing l' with
  | here =>
    cases b with
    | here => rfl
    | step i _ => exact absurd rfl i.1
  | step i _ ih =>
    cases b with
    | here => exact absurd rfl i.1
    | step j r =>
      have e := next_one i j
      cases e
      rw [ih r]
theorem way_cost {E : List T3} {g v k c : Nat} (h : ∀ e ∈ E, e.2.2 ≤ 9) (w : Way E g v k c) : c ≤ 9 * k := by
  induction w with
  | nil => exact Nat.le_refl _
  | cons he _ ih =>
    have := h _ he
    simp only at this
    omega
theorem far_small {E : List T3} {n g v c : Nat} {d : Dist} (f : IsFar E n g d) (hE : ∀ e ∈ E, e.1 < n) (h9 : ∀ e ∈ E, e.2.2 ≤ 9) (e : at? d v = some c) : c ≤ 9 * n := by
  obtain ⟨k, w⟩ := f.way v c e
  obtain ⟨k', c', hk, hc, w'⟩ := way_short hE w
  obtain ⟨z, ez, lz⟩ := f.least v k' c' w' _ rfl
  rw [e] at ez
  cases ez
  have := way_cost h9 w'
  have : 9 * k' ≤ 9 * n := Nat.mul_le_mul_left 9 hk
  omega
/-- all houses that a list of prices reaches, rising -/
def lotOf (n : Nat) (d : Dist) : List Nat := (List.range n).filter fun h => (at? d h).isSome
end Sw

namespace K
open PySem PySem.Spec PyProof.Rows L2
/-- all but p stands as it stood -/
def But (p : Addr) (H H' : Hp) : Prop := ∀ b o, H b = some o → b ≠ p → H' b = some o
theorem But.refl (p : Addr) (H : Hp) : But p H H := fun _ _ e _ => e
theorem But.trans {p : Addr} {H H1 H2 : Hp} (a : But p H H1) (b : But p H1 H2) : But p H H2 := fun c o e hc => b c o (a c o e hc) hc
theorem But.of_same {p : Addr} {H H' : Hp} (s : Same H H') : But p H H' := fun b o e _ => s b o e
theorem But.put {p : Addr} {H : Hp} {o : HO} : But p H (upd H p o) := fun b u e hb => by rw [upd_ne hb]; exact e
theorem same_upd {H : Hp} {p : Addr} {o : HO} (h : H p = none) : Same H (upd H p o) := fun b x e => by
  rw [upd_ne (ne_of_none e h)]
  exact e
/-- the box of the draws at p, its list of cells at q -/
def BoxAt (H : Hp) (p q : Addr) : Prop := ∃ (ns : List Int) (i t s : Int), H p = some (.lst [.ref q, .int i, .int t, .int s]) ∧ H q = some (.lst (ns.map V.int)) ∧ 0 ≤ i ∧ i ≤ ns.length ∧ 0 ≤ s ∧ s < 2147483549 ∧ ns.length ≤ 63
theorem BoxAt.ne {H : Hp} {p q : Addr} (h : BoxAt H p q) : p ≠ q := by
  obtain ⟨ns, i, t, s, h1, h2, _⟩ := h
  refine ne_of h1 h2 fun e => ?_
  cases ns with
  | nil => cases e
  | cons n ns => injection e with e; injection e with e1 e2; cases e1
theorem BoxAt.at {H H' : Hp} {p q : Addr} (h : BoxAt H p q) (h1 : ∀ o, H p = some o → H' p = some o) (h2 : ∀ o, H q = some o → H' q = some o) : BoxAt H' p q := by
  obtain ⟨ns, i, t, s, e1, e2, r⟩ := h
  exact ⟨ns, i, t, s, h1 _ e1, h2 _ e2, r⟩
theorem BoxAt.same {H H' : Hp} {p q : Addr} (h : BoxAt H p q) (s : Same H H') : BoxAt H' p q := h.at (fun o e => s _ o e) (fun o e => s _ o e)
theorem BoxAt.p_some {H : Hp} {p q : Addr} (h : BoxAt H p q) : ∃ o, H p = some o := by
  obtain ⟨ns, i, t, s, e1, e2, r⟩ := h
  exact ⟨_, e1⟩
theorem BoxAt.q_some {H : Hp} {p q : Addr} (h : BoxAt H p q) : ∃ o, H q = some o := by
  obtain ⟨ns, i, t, s, e1, e2, r⟩ := h
  exact ⟨_, e2⟩
/-- another object than the box's own two is written -/
theorem BoxAt.put {H : Hp} {p q l : Addr} {o : HO} (h : BoxAt H p q) (hp : l ≠ p) (hq : l ≠ q) : BoxAt (upd H l o) p q :=
  h.at (fun o e => by rw [upd_ne (Ne.symm hp)]; exact e) (fun o e => by rw [upd_ne (Ne.symm hq)]; exact e)
theorem BoxAt.putN {H : Hp} {p q l : Addr} {o : HO} (h : BoxAt H p q) (hl : H l = none) : BoxAt (upd H l o) p q := h.same (same_upd hl)
theorem fmod_le {a n : Int} (hn : 0 < n) : 0 ≤ a.fmod n ∧ a.fmod n < n := by
  rw [Int.fmod_eq_emod_of_nonneg _ (Int.le_of_lt hn)]
  exact ⟨Int.emod_nonneg _ (by omega), Int.emod_lt_of_pos _ hn⟩
/-- _law_box(script) -/
def spBox (K : PySem.W.Frag) : Sp := fun vs H Q _ => ∃ (a : Addr) (ns : List Int), vs = [.ref a] ∧ SqL K H a (ns.map V.int) ∧ ns.length ≤ 63 ∧ ∀ (p q : Addr) (H' : Hp), H p = none → H q = none → BoxAt H' p q → Same H H' → Q (.ref p) H'
/-- _law_take(box, sides): a number below sides; the box is a box again -/
def spTake : Sp := fun vs H Q _ => ∃ (p q : Addr) (n : Int), vs = [.ref p, .int n] ∧ BoxAt H p q ∧ 0 < n ∧ n < 1073741824 ∧ ∀ (r : Int) (H' : Hp), 0 ≤ r → r < n → BoxAt H' p q → But p H H' → Q (.int r) H'
theorem atI0 {α : Type} {xs : List α} {i : Int} {v : α} (h0 : 0 ≤ i) (h : xs[i.toNat]? = some v) : atI xs i = some v := by
  have := atI_nat (j := i.toNat) h
  rwa [Int.toNat_of_nonneg h0] at this
end K
namespace K
open PySem PySem.Spec PyProof.Rows L2
/-- None, bools, ints, texts -/
def flat : V → Bool
  | .non | .bl _ | .int _ | .str _ => true
  | _ => false
/-- the same data, of less than n levels -/
def Eqv : Nat → Hp → V → V → Prop
  | 0, _, _, _ => False
  | n + 1, H, x, y => (x = y ∧ flat x = true) ∨ ∃ (a b : Addr) (xs ys : List V), x = .ref a ∧ y = .ref b ∧ ((H a = some (.lst xs) ∧ H b = some (.lst ys)) ∨ (H a = some (.tup xs) ∧ H b = some (.tup ys))) ∧ xs.length = ys.length ∧ xs.length ≤ 1000 ∧
      ∀ (i : Nat) (u v : V), xs[i]? = some u → ys[i]? = some v → Eqv n H u v
theorem Eqv.same {H H' : Hp} (s : Same H H') : ∀ {n : Nat} {x y : V}, Eqv n H x y → Eqv n H' x y
  | n + 1, x, y, h => by
    rcases h with h | ⟨a, b, xs, ys, e1, e2, h, hl, hz, hi⟩
    · exact .inl h
    · refine .inr ⟨a, b, xs, ys, e1, e2, ?_, hl, hz, fun i u v hu hv => (hi i u v hu hv).same s⟩
      rcases h with ⟨h1, h2⟩ | ⟨h1, h2⟩
      · exact .inl ⟨s _ _ h1, s _ _ h2⟩
      · exact .inr ⟨s _ _ h1, s _ _ h2⟩
def spSame (n : Nat) : Sp := fun vs H Q _ => ∃ (x y : V), vs = [x, y] ∧ Eqv n H x y ∧ ∀ H', Same H H' → Q (.bl true) H'
theorem kit2 {K : PySem.W.Frag} {t T U : String} {b c : Bool} (h : kitB t T = some b) (h2 : kitB t U = some c) : PySem.W.kitAny K (.type t) [.type T, .type U] = some (b || c) := by
  refine kitAny_cons (kit_ty h) (fun e => ?_) (fun e => by rw [e]; rfl)
  subst e
  refine kitAny_cons (kit_ty h2) (fun e => ?_) (fun e => by rw [e]; rfl)
  subst e
  exact kitAny_nil
theorem walk_zipTT {K : PySem.W.Frag} {a b : Addr} {xs ys : List V} {n : Nat} (hn : n = min xs.length ys.length) : Walk (RZ.ItzT K a b) n (fun H => SqT K H a xs ∧ SqT K H b ys) (YPair (fun i => xs[i]?) (fun i => ys[i]?)) := by
  subst hn
  refine ⟨fun i _ hi q => ?_, fun _ q => ⟨xs, ys, q.1, q.2, by omega⟩, fun i H v H' _ q y => ?_⟩
  · have h1 : i < xs.length := by omega
    have h2 : i < ys.length := by omega
    exact ⟨xs, ys, xs[i], ys[i], q.1, q.2, by simp [h1], by simp [h2]⟩
  · obtain ⟨T, x, z, h1, h2, h3, h4, h5⟩ := y
    exact ⟨T, x, z, h1, h2, h3, h4 xs q.1, h5 ys q.2⟩
theorem fnok_never {P : Program} {w : World} {K : PySem.W.Frag} {mg : Str → Option Value} {base : Heap} {f : Addr} {fd : FuncData} {ps : List Str} {sp : Sp} {k : Nat} (h : ∀ vs H Q E, ¬ sp vs H Q E) : FnOk P w K mg base CX0 k f fd ps sp :=
  ⟨fun vs H Q E q => (h _ _ _ _ q).elim, fun A outer s H args us vs Q E hr he hb hv hs => (h _ _ _ _ hs).elim⟩
end K
namespace K
open PySem PySem.Spec PyProof.Rows L2
open Sw (T3 Dist at? relax roundOf rounds)
/-- a tie as it stands in a tuple -/
def tv (e : T3) : List V := [.int (e.1 : Nat), .int (e.2.1 : Nat), .int (e.2.2 : Nat)]
/-- a list of ties -/
def TiesAt (H : Hp) (t : Addr) (ts : List T3) : Prop := ∃ as : List Addr, H t = some (.lst (as.map V.ref)) ∧ Paired (fun a e => H a = some (.tup (tv e))) as ts
theorem paired_mono {α β : Type} {R R' : α → β → Prop} (h : ∀ a b, R a b → R' a b) : ∀ {xs : List α} {ys : List β}, Paired R xs ys → Paired R' xs ys
  | _, _, .nil => .nil
  | _, _, .cons r t => .cons (h _ _ r) (paired_mono h t)
theorem paired_len {α β : Type} {R : α → β → Prop} : ∀ {xs : List α} {ys : List β}, Paired R xs ys → xs.length = ys.length
  | _, _, .nil => rfl
  | _, _, .cons r t => by simp [paired_len t]
theorem TiesAt.same {H H' : Hp} {t : Addr} {ts : List T3} (h : TiesAt H t ts) (s : Same H H') : TiesAt H' t ts := by
  obtain ⟨as, h1, h2⟩ := h
  exact ⟨as, s _ _ h1, paired_mono (fun a e q => s _ _ q) h2⟩
/-- a price or None -/
def ov : Option Nat → V
  | none => .non
  | some n => .int (n : Nat)
/-- a list of prices stands at p -/
def DistAt (H : Hp) (p : Addr) (d : Dist) : Prop := H p = some (.lst (d.map ov))
theorem at_of {d : Dist} {v : Nat} (h : v < d.length) : (d.map ov)[v]? = some (ov (at? d v)) := by
  rw [List.getElem?_map, List.getElem?_eq_getElem h]
  unfold at?
  rw [List.getElem?_eq_getElem h]
  rfl
theorem set_ov (d : Dist) (v : Nat) (x : Option Nat) : (d.map ov).set v (ov x) = (d.set v x).map ov := by rw [List.map_set]
theorem ixN_nat {n j : Nat} (h : j < n) : ixN n (j : Int) = some j := by
  unfold ixN
  rw [if_pos (by omega), if_pos (by omega), Int.toNat_natCast]
/-- the ties both ways about, tie by tie -/
def both (ts : List T3) : List T3 := ts.flatMap fun e => [e, (e.2.1, e.1, e.2.2)]
theorem both_mem (ts : List T3) (e : T3) : e ∈ both ts ↔ (e ∈ ts ∨ (e.2.1, e.1, e.2.2) ∈ ts) := by
  unfold both
  rw [List.mem_flatMap]
  constructor
  · rintro ⟨x, hx, m⟩
    simp only [List.mem_cons, List.not_mem_nil, or_false] at m
    rcases m with q | q
    · exact .inl (q ▸ hx)
    · subst q; exact .inr hx
  · rintro (h | h)
    · exact ⟨e, h, by simp⟩
    · exact ⟨_, h, by simp⟩
/-- the least prices, as they are reckoned tie by tie -/
def farD (n : Nat) (ts : List T3) (g : Nat) : Dist := rounds (both ts) n (Sw.start n g)
/-- the ties lie below n -/
def Fits (n : Nat) (ts : List T3) : Prop := ∀ e ∈ ts, e.1 < n ∧ e.2.1 < n
theorem both_lt {n : Nat} {ts : List T3} (h : Fits n ts) : ∀ e ∈ both ts, e.1 < n ∧ e.2.1 < n := fun e m => by
  rcases (both_mem ts e).mp m with q | q
  · exact h e q
  · have := h _ q
    exact ⟨this.2, this.1⟩
theorem farD_is {n g : Nat} {ts : List T3} (h : Fits n ts) (hg : g < n) : Sw.IsFar (both ts) n g (farD n ts g) := Sw.far_is (both ts) (fun _ => Iff.rfl) (fun e m => (both_lt h e m).1) hg
def spCheck : Sp := fun vs H Q _ => ∃ (n g : Nat), vs = [.int (n : Nat), .int (g : Nat)] ∧ g < n ∧ Q .non H
def spCheap : Sp := fun vs H Q _ => ∃ (p : Addr) (d : Dist) (a b c : Nat), vs = [.ref p, .int (a : Nat), .int (b : Nat), .int (c : Nat)] ∧ DistAt H p d ∧ a < d.length ∧ b < d.length ∧ ∀ H', DistAt H' p (relax d (a, b, c)) → But p H H' → Q .non H'
def spFar : Sp := fun vs H Q _ => ∃ (n g : Nat) (t : Addr) (ts : List T3), vs = [.int (n : Nat), .ref t, .int (g : Nat)] ∧ g < n ∧ n ≤ 1000 ∧ TiesAt H t ts ∧ Fits n ts ∧ ∀ p H', H p = none → Same H H' → DistAt H' p (farD n ts g) → Q (.ref p) H'
end K
namespace K
open PySem PySem.Spec PyProof.Rows L2
open Sw (T3 Dist at? relax roundOf rounds)
/-- a row of pairs of houses, below n, the lesser one first -/
def PairsV (H : Hp) (n : Nat) (xs : List V) : Prop := ∃ (as : List Addr) (ps : List (Nat × Nat)), xs = as.map V.ref ∧ Paired (fun a p => H a = some (.tup [.int (p.1 : Nat), .int (p.2 : Nat)])) as ps ∧ ∀ p ∈ ps, p.1 < p.2 ∧ p.2 < n
theorem PairsV.at {H H' : Hp} {n : Nat} {xs : List V} (h : PairsV H n xs) (k : ∀ a ys, H a = some (.tup ys) → H' a = some (.tup ys)) : PairsV H' n xs := by
  obtain ⟨as, ps, e, h1, h2⟩ := h
  exact ⟨as, ps, e, paired_mono (fun a p q => k _ _ q) h1, h2⟩
theorem PairsV.nil {H : Hp} {n : Nat} : PairsV H n [] := ⟨[], [], rfl, .nil, fun p m => by cases m⟩
theorem paired_append {α β : Type} {R : α → β → Prop} : ∀ {xs xs' : List α} {ys ys' : List β}, Paired R xs ys → Paired R xs' ys' → Paired R (xs ++ xs') (ys ++ ys')
  | _, _, _, _, .nil, s => s
  | _, _, _, _, .cons r t, s => .cons r (paired_append t s)
theorem PairsV.append {H : Hp} {n : Nat} {xs ys : List V} (h : PairsV H n xs) (h' : PairsV H n ys) : PairsV H n (xs ++ ys) := by
  obtain ⟨as, ps, rfl, h1, h2⟩ := h
  obtain ⟨as', ps', rfl, h1', h2'⟩ := h'
  refine ⟨as ++ as', ps ++ ps', by rw [List.map_append], paired_append h1 h1', fun p m => ?_⟩
  rcases List.mem_append.mp m with q | q
  · exact h2 p q
  · exact h2' p q
theorem PairsV.one {H : Hp} {n i j : Nat} {a : Addr} (h : H a = some (.tup [.int (i : Nat), .int (j : Nat)])) (h1 : i < j) (h2 : j < n) : PairsV H n [.ref a] :=
  ⟨[a], [(i, j)], rfl, .cons h .nil, fun p m => by simp at m; subst m; exact ⟨h1, h2⟩⟩
theorem PairsV.flat {H : Hp} {n : Nat} : ∀ {xss : List (List V)}, (∀ xs ∈ xss, PairsV H n xs) → PairsV H n xss.flatten
  | [], _ => PairsV.nil
  | xs :: xss, h => (h xs List.mem_cons_self).append (PairsV.flat fun ys m => h ys (List.mem_cons_of_mem _ m))
theorem flat_len {α : Type} {n : Nat} : ∀ {xss : List (List α)}, (∀ xs ∈ xss, xs.length ≤ n) → xss.flatten.length ≤ xss.length * n
  | [], _ => by simp
  | xs :: xss, h => by
    have h1 := h xs List.mem_cons_self
    have h2 := flat_len (xss := xss) fun ys m => h ys (List.mem_cons_of_mem _ m)
    rw [List.flatten_cons, List.length_append, List.length_cons, Nat.succ_mul]
    omega
/-- good ties below n -/
def Good (n : Nat) (ts : List T3) : Prop := ∀ e ∈ ts, e.1 < e.2.1 ∧ e.2.1 < n ∧ 1 ≤ e.2.2 ∧ e.2.2 ≤ 9
theorem Good.fits {n : Nat} {ts : List T3} (h : Good n ts) : Fits n ts := fun e m => by have := h e m; omega
def spPairs : Sp := fun vs H Q _ => ∃ n : Nat, vs = [.int (n : Nat)] ∧ 0 < n ∧ n ≤ 8 ∧ ∀ (p : Addr) (H' : Hp) (xs : List V), H p = none → Same H H' → H' p = some (.lst xs) → PairsV H' n xs → xs.length ≤ 64 → Q (.ref p) H'
def spShuf : Sp := fun vs H Q _ => ∃ (p q t : Addr) (xs : List V), vs = [.ref p, .ref t] ∧ BoxAt H p q ∧ t ≠ p ∧ H t = some (.lst xs) ∧ xs.length ≤ 1000 ∧ ∀ (r : Addr) (H' : Hp) (ys : List V), H r = none → BoxAt H' p q → But p H H' → H' r = some (.lst ys) → ys.Perm xs → Q (.ref r) H'
def spSome : Sp := fun vs H Q _ => ∃ (p q : Addr) (n : Nat) (o : Int), vs = [.ref p, .int (n : Nat), .int o] ∧ BoxAt H p q ∧ 0 < n ∧ n ≤ 8 ∧ ∀ (r : Addr) (H' : Hp) (ts : List T3), H r = none → BoxAt H' p q → But p H H' → TiesAt H' r ts → Good n ts → ts.length ≤ 14 → Q (.ref r) H'
end K
namespace K
open PySem PySem.Spec PyProof.Rows L2
open Sw (T3 Dist at? relax roundOf rounds)
def tupData (e : T3) : PyData := .tuple [.int (e.1 : Nat), .int (e.2.1 : Nat), .int (e.2.2 : Nat)]
def tieData (ts : List T3) : PyData := .list (ts.map tupData)
theorem dp_ties {K : PySem.W.Frag} {H : Hp} {t : Addr} {ts : List T3} (h : TiesAt H t ts) : Dp K H (.ref t) (tieData ts) := by
  obtain ⟨as, h1, h2⟩ := h
  refine .lst (SqL.of h1) ?_
  clear h1
  induction h2 with
  | nil => exact .nil
  | cons r _ ih => exact .cons (.tup (SqT.of r) (.cons (.int _) (.cons (.int _) (.cons (.int _) .nil)))) ih
theorem lay_ties (ts : List T3) : PyData.canLayAll0 (ts.map tupData) = true := by
  induction ts with
  | nil => simp [PyData.canLayAll0]
  | cons e ts ih => simp [PyData.canLayAll0, PyData.canLay0, tupData, ih]
theorem depth_ties (ts : List T3) : PyData.depthAll (ts.map tupData) ≤ 2 := by
  induction ts with
  | nil => simp [PyData.depthAll]
  | cons e ts ih =>
    have h1 : (tupData e).depth ≤ 2 := by simp [tupData, PyData.depth, PyData.depthAll]
    simp only [List.map_cons, PyData.depthAll]
    omega
theorem shaped_ties (ts : List T3) : SeqAt.shaped (tieData ts) = true := by
  unfold SeqAt.shaped tieData
  have h1 := lay_ties ts
  have h2 := depth_ties ts
  have h3 : (PyData.list (ts.map tupData)).canLay0 = true := by simpa [PyData.canLay0] using h1
  have h4 : (PyData.list (ts.map tupData)).depth ≤ 64 := by
    have e : (PyData.list (ts.map tupData)).depth = PyData.depthAll (ts.map tupData) + 1 := by simp [PyData.depth, Nat.add_comm]
    omega
  rw [h3, decide_eq_true h4]
  rfl
/-- the law's own going round -/
def swp (e : T3) : T3 := (e.2.1, e.1, e.2.2)
def lfarD (n : Nat) (ts : List T3) (g : Nat) : Dist := rounds (ts ++ ts.map swp) n (Sw.start n g)
theorem lfar_mem (ts : List T3) (e : T3) : e ∈ both ts ↔ e ∈ ts ++ ts.map swp := by
  rw [both_mem, List.mem_append, List.mem_map]
  constructor
  · rintro (h | h)
    · exact .inl h
    · exact .inr ⟨_, h, rfl⟩
  · rintro (h | ⟨x, hx, rfl⟩)
    · exact .inl h
    · exact .inr hx
theorem lfarD_is {n g : Nat} {ts : List T3} (h : Fits n ts) (hg : g < n) : Sw.IsFar (both ts) n g (lfarD n ts g) := Sw.far_is _ (lfar_mem ts) (fun e m => (both_lt h e m).1) hg
theorem far_lfar {n g : Nat} {ts : List T3} (h : Fits n ts) (hg : g < n) : lfarD n ts g = farD n ts g := Sw.far_one (lfarD_is h hg) (farD_is h hg)
def spLFar : Sp := fun vs H Q _ => ∃ (n g : Nat) (t : Addr) (ts : List T3), vs = [.int (n : Nat), .ref t, .int (g : Nat)] ∧ g < n ∧ n ≤ 1000 ∧ TiesAt H t ts ∧ ts.length ≤ 400 ∧ Fits n ts ∧ ∀ p H', H p = none → Same H H' → DistAt H' p (lfarD n ts g) → Q (.ref p) H'
theorem ov_flat (x : Option Nat) : flat (ov x) = true := by cases x <;> rfl
theorem eqv_dist {H : Hp} {a b : Addr} {d : Dist} {m : Nat} (h1 : DistAt H a d) (h2 : DistAt H b d) (hl : d.length ≤ 1000) : Eqv (m + 2) H (.ref a) (.ref b) := by
  refine .inr ⟨a, b, _, _, rfl, rfl, .inl ⟨h1, h2⟩, rfl, by rw [List.length_map]; exact hl, fun i u v hu hv => ?_⟩
  rw [hu] at hv
  cases hv
  rw [List.getElem?_map] at hu
  obtain ⟨x, _, rfl⟩ := Option.map_eq_some_iff.mp hu
  exact .inl ⟨rfl, ov_flat x⟩
/-- the law: a list of at most 63 ints is handed in, True comes out -/
def spLaw (K : PySem.W.Frag) : Sp := fun vs H Q _ => ∃ (a : Addr) (ns : List Int), vs = [.ref a] ∧ SqL K H a (ns.map V.int) ∧ ns.length ≤ 63 ∧ ∀ H', Q (.bl true) H'
theorem paired_pick {α β : Type} {R : α → β → Prop} : ∀ {xs : List α} {ys : List β}, Paired R xs ys → ∀ xs' : List α, (∀ x ∈ xs', x ∈ xs) → ∃ ys' : List β, Paired R xs' ys' ∧ ∀ y ∈ ys', y ∈ ys
  | xs, ys, h, [], _ => ⟨[], .nil, fun y m => by cases m⟩
  | xs, ys, h, x :: xs', hs => by
    obtain ⟨i, hi, e⟩ := List.getElem_of_mem (hs x List.mem_cons_self)
    obtain ⟨y, ey, r⟩ := paired_at h i x (by rw [List.getElem?_eq_getElem hi, e])
    obtain ⟨ys', h1, h2⟩ := paired_pick h xs' fun z m => hs z (List.mem_cons_of_mem _ m)
    refine ⟨y :: ys', .cons r h1, fun z m => ?_⟩
    rcases List.mem_cons.mp m with q | q
    · subst q; exact List.mem_of_getElem? ey
    · exact h2 z q
theorem perm_refs {as : List Addr} {ys : List V} (h : ys.Perm (as.map V.ref)) : ∃ bs : List Addr, ys = bs.map V.ref ∧ bs.Perm as := by
  have hm : ∀ y ∈ ys, ∃ b, y = V.ref b := fun y m => by
    obtain ⟨b, _, e⟩ := List.mem_map.mp (h.mem_iff.mp m)
    exact ⟨b, e.symm⟩
  have key : ∀ zs : List V, (∀ y ∈ zs, ∃ b, y = V.ref b) → ∃ bs : List Addr, zs = bs.map V.ref := by
    intro zs
    induction zs with
    | nil => intro _; exact ⟨[], rfl⟩
    | cons z zs ih =>
      intro hz
      obtain ⟨b, e⟩ := hz z List.mem_cons_self
      obtain ⟨bs, e2⟩ := ih fun y m => hz y (List.mem_cons_of_mem _ m)
      exact ⟨b :: bs, by rw [e, e2]; rfl⟩
  obtain ⟨bs, e⟩ := key ys hm
  refine ⟨bs, e, ?_⟩
  rw [e] at h
  have h2 := h.map (fun v => match v with | V.ref a => a | _ => 0)
  rw [List.map_map, List.map_map] at h2
  have e1 : ∀ l : List Addr, l.map ((fun v => match v with | V.ref a => a | _ => 0) ∘ V.ref) = l := fun l => by
    induction l with
    | nil => rfl
    | cons x l ih => rw [List.map_cons, ih]; rfl
  rw [e1, e1] at h2
  exact h2
end K

namespace K
open PySem PySem.Spec PyProof.Rows L2
/-- a def that can be called: its promise, its name, its place, how its arguments bind -/
structure Cal (P : Program) (w : World) (K : PySem.W.Frag) (mg : Str → Option Value) (base : Heap) (k : Nat) (x : Str) (f : Addr) (fd : FuncData) (ps : List Str) (sp : Sp) : Prop where
  ok : FnOk P w K mg base CX0 k f fd ps sp
  g : mg x = some (.ref f)
  kp : PySem.W.keepIn K (.ref f) = true
  b : Binds K fd ps []
/-- the built-in names that the text reads stand for the built-in things -/
structure BT (mg : Str → Option Value) : Prop where
  len : mg "len" = none
  range : mg "range" = none
  list : mg "list" = none
  tuple : mg "tuple" = none
  isinstance : mg "isinstance" = none
  bool : mg "bool" = none
  int : mg "int" = none
  str : mg "str" = none
  all : mg "all" = none
  zip : mg "zip" = none
  sum : mg "sum" = none
  min : mg "min" = none
  sorted : mg "sorted" = none
  abs : mg "abs" = none
  enumerate : mg "enumerate" = none
end K

namespace K
open PySem PySem.Spec PyProof.Rows L2
open Sw (T3 Dist at? relax roundOf rounds)
theorem rep_non (n : Nat) : (List.replicate n [V.non]).flatten = (List.replicate n (none : Option Nat)).map ov := by
  induction n with
  | zero => rfl
  | succ n ih => rw [List.replicate_succ, List.replicate_succ, List.flatten_cons, ih]; rfl
theorem take_succ_of {α : Type} {l : List α} {i : Nat} {x : α} (h : l[i]? = some x) : l.take (i + 1) = l.take i ++ [x] := by
  rw [List.take_add_one, h]; rfl
theorem both_snoc (ts : List T3) (e : T3) : both (ts ++ [e]) = both ts ++ [e, (e.2.1, e.1, e.2.2)] := by
  unfold both
  rw [List.flatMap_append]
  simp
theorem roundOf_append (L M : List T3) (d : Dist) : roundOf (L ++ M) d = roundOf M (roundOf L d) := List.foldl_append
theorem map_ref_at {as : List Addr} {i : Nat} {y : V} (h : (as.map V.ref)[i]? = some y) : ∃ a, as[i]? = some a ∧ y = .ref a := by
  rw [List.getElem?_map] at h
  obtain ⟨a, e, q⟩ := Option.map_eq_some_iff.mp h
  exact ⟨a, e, q.symm⟩
end K
namespace K
open PySem PySem.Spec PyProof.Rows L2
open Sw (T3 Dist at? relax roundOf rounds IsNext Cand IsFar nbr candL)
/-- a row of neighbours (house, price) -/
def NbrAt (H : Hp) (p : Addr) (L : List (Nat × Nat)) : Prop := ∃ as : List Addr, H p = some (.lst (as.map V.ref)) ∧ Paired (fun a q => H a = some (.tup [.int (q.1 : Nat), .int (q.2 : Nat)])) as L
theorem NbrAt.same {H H' : Hp} {p : Addr} {L : List (Nat × Nat)} (h : NbrAt H p L) (s : Same H H') : NbrAt H' p L := by
  obtain ⟨as, h1, h2⟩ := h
  exact ⟨as, s _ _ h1, paired_mono (fun a q e => s _ _ e) h2⟩
theorem nbr_both (ts : List T3) (h u c : Nat) : (u, c) ∈ nbr ts h ↔ (h, u, c) ∈ both ts := by
  rw [Sw.nbr_mem, both_mem]
theorem both_sym (ts : List T3) : ∀ a b c, (a, b, c) ∈ both ts → (b, a, c) ∈ both ts := fun a b c m => by
  rw [both_mem] at m ⊢
  exact m.symm
def spNbr : Sp := fun vs H Q _ => ∃ (t : Addr) (ts : List T3) (h : Nat), vs = [.ref t, .int (h : Nat)] ∧ TiesAt H t ts ∧ ts.length ≤ 400 ∧ ∀ p H', H p = none → Same H H' → NbrAt H' p (nbr ts h) → Q (.ref p) H'
def spNextH : Sp := fun vs H Q _ => ∃ (p t : Addr) (d : Dist) (ts : List T3) (n g h : Nat), vs = [.ref p, .ref t, .int (g : Nat), .int (h : Nat)] ∧ DistAt H p d ∧ TiesAt H t ts ∧ ts.length ≤ 400 ∧ Fits n ts ∧ IsFar (both ts) n g d ∧ h < n ∧
  ∀ x H', IsNext (both ts) d g h x → Same H H' → Q (ov x) H'
/-- the list of next houses -/
def NextsAt (H : Hp) (p : Addr) (E : List T3) (d : Dist) (n g : Nat) : Prop := ∃ xs : List (Option Nat), H p = some (.lst (xs.map ov)) ∧ xs.length = n ∧ ∀ h < n, IsNext E d g h (at? xs h)
def spNexts : Sp := fun vs H Q _ => ∃ (n g : Nat) (t : Addr) (ts : List T3), vs = [.int (n : Nat), .ref t, .int (g : Nat)] ∧ g < n ∧ n ≤ 1000 ∧ TiesAt H t ts ∧ ts.length ≤ 400 ∧ Fits n ts ∧ ∀ p H', H p = none → Same H H' → NextsAt H' p (both ts) (farD n ts g) n g → Q (.ref p) H'
def spLNext : Sp := fun vs H Q _ => ∃ (n g h : Nat) (t : Addr) (ts : List T3), vs = [.int (n : Nat), .ref t, .int (h : Nat), .int (g : Nat)] ∧ g < n ∧ h < n ∧ n ≤ 1000 ∧ TiesAt H t ts ∧ ts.length ≤ 400 ∧ Good n ts ∧
  ∀ x H', IsNext (both ts) (farD n ts g) g h x → Same H H' → Q (ov x) H'
theorem nexts_eqv {H : Hp} {a b : Addr} {E : List T3} {d : Dist} {n g m : Nat} (h1 : NextsAt H a E d n g) (h2 : NextsAt H b E d n g) (hn : n ≤ 1000) : Eqv (m + 2) H (.ref a) (.ref b) := by
  obtain ⟨xs, e1, l1, n1⟩ := h1
  obtain ⟨ys, e2, l2, n2⟩ := h2
  have e : xs = ys := by
    refine List.ext_getElem? fun i => ?_
    by_cases hi : i < n
    · have := Sw.next_one (n1 i hi) (n2 i hi)
      unfold at? at this
      rw [List.getElem?_eq_getElem (by omega), List.getElem?_eq_getElem (by omega)] at this ⊢
      simpa using this
    · rw [List.getElem?_eq_none (by omega), List.getElem?_eq_none (by omega)]
  subst e
  exact eqv_dist e1 e2 (by omega)
theorem NextsAt.same {H H' : Hp} {p : Addr} {E : List T3} {d : Dist} {n g : Nat} (h : NextsAt H p E d n g) (s : Same H H') : NextsAt H' p E d n g := by
  obtain ⟨xs, h1, h2⟩ := h
  exact ⟨xs, s _ _ h1, h2⟩
end K
namespace K
open PySem PySem.Spec PyProof.Rows L2
open Sw (T3 Dist at? relax roundOf rounds IsNext Cand IsFar nbr candL)
theorem tv_inj {e u : T3} (h : tv e = tv u) : e = u := by
  obtain ⟨a, b, c⟩ := e
  obtain ⟨a', b', c'⟩ := u
  unfold tv at h
  injection h with h1 h
  injection h with h2 h
  injection h with h3 _
  injection h1 with h1
  injection h2 with h2
  injection h3 with h3
  have h1 : (a : Int) = a' := h1
  have h2 : (b : Int) = b' := h2
  have h3 : (c : Int) = c' := h3
  have q1 : a = a' := by omega
  have q2 : b = b' := by omega
  have q3 : c = c' := by omega
  rw [q1, q2, q3]
theorem ties_mem {H : Hp} {as : List Addr} {ts : List T3} (h : Paired (fun a e => H a = some (.tup (tv e))) as ts) (e : T3) : e ∈ ts ↔ ∃ a ∈ as, H a = some (.tup (tv e)) := by
  induction h with
  | nil => exact ⟨fun m => (by cases m), fun ⟨a, m, _⟩ => (by cases m)⟩
  | @cons a u as ts r _ ih =>
    constructor
    · intro m
      rcases List.mem_cons.mp m with q | q
      · subst q; exact ⟨a, List.mem_cons_self, r⟩
      · obtain ⟨b, m2, e2⟩ := ih.mp q
        exact ⟨b, List.mem_cons_of_mem _ m2, e2⟩
    · rintro ⟨b, m, e2⟩
      rcases List.mem_cons.mp m with q | q
      · subst q
        rw [r] at e2
        injection e2 with e2
        injection e2 with e2
        rw [tv_inj e2]
        exact List.mem_cons_self
      · exact List.mem_cons_of_mem _ (ih.mpr ⟨b, q, e2⟩)
theorem both_iff {ts us : List T3} (h : ∀ e, (e ∈ us ∨ swp e ∈ us) ↔ (e ∈ ts ∨ swp e ∈ ts)) (e : T3) : e ∈ both us ↔ e ∈ both ts := by
  rw [both_mem, both_mem]
  exact h e
theorem swapped_iff {us ts : List T3} (h : Paired (fun u e => u = e ∨ u = swp e) us ts) (e : T3) : (e ∈ us ∨ swp e ∈ us) ↔ (e ∈ ts ∨ swp e ∈ ts) := by
  induction h with
  | nil => exact ⟨fun m => m, fun m => m⟩
  | @cons u x us ts r _ ih =>
    have key : (e = u ∨ swp e = u) ↔ (e = x ∨ swp e = x) := by
      rcases r with q | q
      · rw [q]
      · subst q
        obtain ⟨a, b, c⟩ := e
        obtain ⟨a', b', c'⟩ := x
        unfold swp
        simp only [Prod.mk.injEq]
        constructor
        · rintro (⟨h1, h2, h3⟩ | ⟨h1, h2, h3⟩)
          · exact .inr ⟨h2, h1, h3⟩
          · exact .inl ⟨h2, h1, h3⟩
        · rintro (⟨h1, h2, h3⟩ | ⟨h1, h2, h3⟩)
          · exact .inr ⟨h2, h1, h3⟩
          · exact .inl ⟨h2, h1, h3⟩
    simp only [List.mem_cons]
    constructor
    · rintro ((q | q) | (q | q))
      · rcases key.mp (.inl q) with z | z
        · exact .inl (.inl z)
        · exact .inr (.inl z)
      · rcases ih.mp (.inl q) with z | z
        · exact .inl (.inr z)
        · exact .inr (.inr z)
      · rcases key.mp (.inr q) with z | z
        · exact .inl (.inl z)
        · exact .inr (.inl z)
      · rcases ih.mp (.inr q) with z | z
        · exact .inl (.inr z)
        · exact .inr (.inr z)
    · rintro ((q | q) | (q | q))
      · rcases key.mpr (.inl q) with z | z
        · exact .inl (.inl z)
        · exact .inr (.inl z)
      · rcases ih.mpr (.inl q) with z | z
        · exact .inl (.inr z)
        · exact .inr (.inr z)
      · rcases key.mpr (.inr q) with z | z
        · exact .inl (.inl z)
        · exact .inr (.inl z)
      · rcases ih.mpr (.inr q) with z | z
        · exact .inl (.inr z)
        · exact .inr (.inr z)
theorem farD_cong {n g : Nat} {ts us : List T3} (h1 : Fits n ts) (h2 : Fits n us) (hg : g < n) (h : ∀ e, e ∈ both us ↔ e ∈ both ts) : farD n us g = farD n ts g :=
  Sw.far_one (Sw.far_cong h (farD_is h2 hg)) (farD_is h1 hg)
theorem NextsAt.cong {H : Hp} {p : Addr} {E E' : List T3} {d : Dist} {n g : Nat} (he : ∀ e, e ∈ E ↔ e ∈ E') (h : NextsAt H p E d n g) : NextsAt H p E' d n g := by
  obtain ⟨xs, h1, h2, h3⟩ := h
  exact ⟨xs, h1, h2, fun i hi => Sw.next_cong he (h3 i hi)⟩
theorem fits_of {n : Nat} {ts us : List T3} (h : Fits n ts) (he : ∀ e, e ∈ both us ↔ e ∈ both ts) : Fits n us := fun e m => both_lt h e ((he e).mp ((both_mem us e).mpr (.inl m)))
end K

namespace PySem
namespace F
theorem args_minD (a d : Value) : argsOk "min" ⟨[a], [(Str.ofString "default", d)]⟩ := by unfold argsOk; kernel_rfl
end F
section
variable {prog : Program} {w : World} {A : Around} {E : Value → Shared → Prop} {s : Shared}
/-- a built-in's call with keywords, where the built-in goes on as another one -/
theorem call_tree_kw {id : String} {b : Builtin} {args : List Value} {kw : List (Str × Value)} {Q : Value → Shared → Prop} (hk : builtinKind id = none) (hp : plainId id = true) (hb : entryFor table id = some b) (ha : argsOk id ⟨args, kw⟩)
    (hc : wpAny (model prog w) A.in1 (b ⟨args, kw⟩) (fun fin s' => match fin with
      | .done f => (match (Except.ok f : Result) with | .ok (.ret v) => Q v s' | .ok _ => False | .error e => E e s')
      | .again c' => c'.quiet = true ∧ codeAny (model prog w) A c' (fun r s' => match r with | .ok (.ret v) => Q v s' | .ok _ => False | .error e => E e s') s') E s) : wpAny (model prog w) A (call (.builtin id) args kw) Q E s := by
  refine wpAny_call (codeAny_call_builtin hp hb ?_)
  simp only [checkBuiltinCall, hk]
  cases hsig : Manifest.signature? id with
  | none => exact wpAny_pure hc
  | some sig =>
    have hz : Bind.checkArgs id sig ⟨args, kw⟩ = pure () := by simpa only [argsOk, hsig] using ha
    show wpAny _ A.in1 (Bind.checkArgs id sig ⟨args, kw⟩) _ _ s
    rw [hz]; exact wpAny_pure hc
end
section
variable {prog : Program} {w : World} {A : Around} {R : Result → Shared → Prop} {I : Addr} {fp wr : List Addr} {n : Nat} {P : Nat → Value → Prop} {St : Nat → Heap → Prop}
theorem minD_name : (toString "min" ++ toString ".loop" : String) = "min.loop" := by decide
theorem minD_loop (d : Value) (W : Walks prog w A.in1 I fp wr n P St) (bt : Nat → Nat → Bool) (hcmp : CmpOf prog w A.in1 .Lt P bt) (S : Addr) (hSf : S ∉ fp) :
    ∀ (k j : Nat) (s : Shared) (vb : Value) (c : Nat), n - (j + 1) = k → j + 1 ≤ n → St (j + 1) s.heap → P (argBest bt j) vb → s.heap.get? S = some { cls := .type "list", dict := none, data := .seq #[vb, vb] c, slots := #[] } →
    (∀ v h' tk, P (argBest bt (n - 1)) v → (∀ b o, b ∉ wr → b ≠ S → s.heap.get? b = some o → h'.get? b = some o) → R (.ok (.ret v)) { s with heap := h', toks := tk }) → codeAny (model prog w) A (.builtin "min.loop" ⟨[.ref I, .none, .ref S], [(Str.ofString "default", d)]⟩) R s := by
  have nS : S ∉ wr := fun h => hSf (W.sub _ h)
  intro k
  induction k with
  | zero =>
    intro j s vb c hk hj st pb e0 hR
    have hin : j + 1 = n := by omega
    refine codeAny_builtin F.entry_min_loop ?_
    rw [Around.under_plainId F.plain_min_loop _]
    show wpAny _ A.in1 (seqItems? (.ref S) >>= _) _ _ s
    refine wpAny_bind (wpAny_seqItems e0 rfl ?_)
    show wpAny _ A.in1 (tryCatch (pyNext (.ref I)) _ >>= _) _ _ s
    refine wpAny_bind (wpAny_tryCatch (W.done s _ _ (hin ▸ st) fun h' tk keep => ?_))
    have e1 := keep S _ nS e0
    show wpAny _ A.in1 (updateSeq S (fun _ => #[]) >>= _) _ _ _
    refine wpAny_bind (wpAny_updateSeq e1 rfl (wpAny_bind (wpAny_letGo (wpAny_pure ?_))))
    exact hR vb _ tk (by rw [← hin]; exact pb) fun b o hbw hbS e => (Heap.get?_update_other _ _ (Ne.symm hbS)).trans (keep b o hbw e)
  | succ k ih =>
    intro j s vb c hk hj st pb e0 hR
    have hlt : j + 1 < n := by omega
    refine codeAny_builtin F.entry_min_loop ?_
    rw [Around.under_plainId F.plain_min_loop _]
    show wpAny _ A.in1 (seqItems? (.ref S) >>= _) _ _ s
    refine wpAny_bind (wpAny_seqItems e0 rfl ?_)
    show wpAny _ A.in1 (tryCatch (pyNext (.ref I)) _ >>= _) _ _ s
    refine wpAny_bind (wpAny_tryCatch (W.item (j + 1) s _ _ hlt st fun v h' tk pv st' keep => ?_))
    have e1 := keep S _ nS e0
    show wpAny _ A.in1 (tryCatch (holding [v, v] (richCompare .Lt v vb >>= _)) _ >>= _) _ _ _
    refine wpAny_bind (wpAny_tryCatch (wpAny_holding (wpAny_bind (hcmp (j + 1) (argBest bt j) v vb _ _ _ pv pb ?_))))
    refine wpAny_bind (wpAny_holding (wpAny_truthy_bool (wpAny_bind (wpAny_letGo (wpAny_pure ?_)))))
    cases hb : bt (j + 1) (argBest bt j) with
    | true =>
      simp only [if_true]
      refine wpAny_bind (wpAny_updateSeq e1 rfl (wpAny_bind (wpAny_letGo ?_)))
      rw [minD_name]
      refine wpAny_pure ⟨plainId_quiet F.plain_min_loop _, ih (j + 1) _ v _ (by omega) hlt (W.frame _ _ _ st' fun b hbf o e => (Heap.get?_update_other _ _ (fun h : S = b => hSf (by rw [h]; exact hbf))).trans e) (by simp only [argBest, hb, if_true]; exact pv) (Heap.get?_update_self _ e1 rfl) fun v' h2 tk2 pv' keep2 => ?_⟩
      exact hR v' h2 tk2 pv' fun b o hbw hbS e => keep2 b o hbw hbS ((Heap.get?_update_other _ _ (Ne.symm hbS)).trans (keep b o hbw e))
    | false =>
      simp only [Bool.false_eq_true, if_false]
      refine wpAny_bind (wpAny_letGo ?_)
      rw [minD_name]
      refine wpAny_pure ⟨plainId_quiet F.plain_min_loop _, ih (j + 1) _ vb c (by omega) hlt st' (by simp only [argBest, hb, Bool.false_eq_true, if_false]; exact pb) e1 fun v' h2 tk2 pv' keep2 => ?_⟩
      exact hR v' h2 tk2 pv' fun b o hbw hbS e => keep2 b o hbw hbS (keep b o hbw e)
theorem minD_first (d : Value) (W : Walks prog w A.in1 I fp wr n P St) (bt : Nat → Nat → Bool) (hcmp : CmpOf prog w A.in1 .Lt P bt) (S : Addr) (hSf : S ∉ fp) {s : Shared} {c : Nat} (st : St 0 s.heap) (e0 : s.heap.get? S = some { cls := .type "list", dict := none, data := .seq #[] c, slots := #[] })
    (h0 : n = 0 → ∀ h' tk, (∀ b o, b ∉ wr → b ≠ S → s.heap.get? b = some o → h'.get? b = some o) → R (.ok (.ret d)) { s with heap := h', toks := tk })
    (hR : 0 < n → ∀ v h' tk, P (argBest bt (n - 1)) v → (∀ b o, b ∉ wr → b ≠ S → s.heap.get? b = some o → h'.get? b = some o) → R (.ok (.ret v)) { s with heap := h', toks := tk }) :
    codeAny (model prog w) A (.builtin "min.loop" ⟨[.ref I, .none, .ref S], [(Str.ofString "default", d)]⟩) R s := by
  have nS : S ∉ wr := fun h => hSf (W.sub _ h)
  refine codeAny_builtin F.entry_min_loop ?_
  rw [Around.under_plainId F.plain_min_loop _]
  show wpAny _ A.in1 (seqItems? (.ref S) >>= _) _ _ s
  refine wpAny_bind (wpAny_seqItems e0 rfl ?_)
  show wpAny _ A.in1 (tryCatch (pyNext (.ref I)) _ >>= _) _ _ s
  by_cases hn : 0 < n
  · refine wpAny_bind (wpAny_tryCatch (W.item 0 s _ _ hn st fun v h' tk pv st' keep => ?_))
    have e1 := keep S _ nS e0
    show wpAny _ A.in1 (updateSeq S (fun _ => #[v, v]) >>= _) _ _ _
    refine wpAny_bind (wpAny_updateSeq e1 rfl ?_)
    rw [minD_name]
    refine wpAny_pure ⟨plainId_quiet F.plain_min_loop _, minD_loop d W bt hcmp S hSf _ 0 _ v _ rfl hn (W.frame _ _ _ st' fun b hbf o e => (Heap.get?_update_other _ _ (fun h : S = b => hSf (by rw [h]; exact hbf))).trans e) pv (Heap.get?_update_self _ e1 rfl) fun v' h2 tk2 pv' keep2 => ?_⟩
    exact hR hn v' h2 tk2 pv' fun b o hbw hbS e => keep2 b o hbw hbS ((Heap.get?_update_other _ _ (Ne.symm hbS)).trans (keep b o hbw e))
  · have hz : n = 0 := by omega
    refine wpAny_bind (wpAny_tryCatch (W.done s _ _ (hz ▸ st) fun h' tk keep => ?_))
    refine wpAny_bind (wpAny_rule (wpAny_pure ?_))
    exact h0 hz h' tk fun b o hbw _ e => keep b o hbw e
end
section
variable {prog : Program} {w : World} {A : Around} {E : Value → Shared → Prop} {s : Shared}
theorem call_minD {x d : Value} {Q : Value → Shared → Prop}
    (h : wpAny (model prog w) A.in1 (pyIter x) (fun it s₂ => ∃ I fp wr n P St bt, it = .ref I ∧ Walks prog w A.in1 I fp wr n P St ∧ St 0 s₂.heap ∧ (∀ b ∈ fp, b < s₂.heap.objs.size) ∧ CmpOf prog w A.in1 .Lt P bt ∧
      (n = 0 → ∀ h' tk, (∀ b o, b ∉ wr → s₂.heap.get? b = some o → h'.get? b = some o) → Q d { s₂ with heap := h', toks := tk }) ∧
      (0 < n → ∀ v h' tk, P (argBest bt (n - 1)) v → (∀ b o, b ∉ wr → s₂.heap.get? b = some o → h'.get? b = some o) → Q v { s₂ with heap := h', toks := tk })) E s) :
    wpAny (model prog w) A (call (.builtin "min") [x] [(Str.ofString "default", d)]) Q E s := by
  refine call_tree_kw F.kind_min F.plain_min F.entry_min (F.args_minD _ _) ?_
  show wpAny _ A.in1 (Builtin.Builtins.bindParams "min" ["key", "default"] 0 ⟨[], [(Str.ofString "default", d)]⟩ >>= _) _ _ s
  refine wpAny_bind (wpAny_of_eq (show Builtin.Builtins.bindParams "min" ["key", "default"] 0 ⟨[], [(Str.ofString "default", d)]⟩ = pure [none, some d] from rfl) ?_)
  refine wpAny_bind (wpAny_pure (wpAny_bind (wpAny_mono h (fun it s₂ h₂ => ?_) fun _ _ e => e)))
  obtain ⟨I, fp, wr, n, P, St, bt, rfl, W, hst, hfp, hcmp, hQ0, hQ⟩ := h₂
  refine wpAny_bind (wpAny_newObj_type ?_)
  have nS : s₂.heap.objs.size ∉ fp := fun hm => Nat.lt_irrefl _ (hfp _ hm)
  rw [minD_name]
  refine wpAny_pure ⟨plainId_quiet F.plain_min_loop _, minD_first d W bt hcmp s₂.heap.objs.size nS (W.frame _ _ _ hst fun b _ o e => Heap.get?_push_of_some _ e) (Heap.get?_push_size _ rfl) (fun hz h' tk keep => ?_) (fun hn v h' tk pv keep => ?_)⟩
  · exact hQ0 hz h' tk fun b o hbw e => keep b o hbw (Nat.ne_of_lt (Heap.lt_size e)) (Heap.get?_push_of_some _ e)
  · exact hQ hn v h' tk pv fun b o hbw e => keep b o hbw (Nat.ne_of_lt (Heap.lt_size e)) (Heap.get?_push_of_some _ e)
end
end PySem
namespace L2
open PySem PySem.Spec PyProof.Rows
section
variable {X : Cx}
/-- min(xs, default=d) of a list of ints -/
def rMinD (K : PySem.W.Frag) : List V → List V → Hp → VK → Prop := fun vs zs H Q => ∃ (a : Addr) (ns : List Int) (d : V), vs = [V.ref a] ∧ zs = [d] ∧ SqL K H a (ns.map V.int) ∧ (ns = [] → Q d H) ∧ ∀ m, m ∈ ns → (∀ y, y ∈ ns → m ≤ y) → Q (.int m) H
theorem cr_minD (hc : X.calm = true) : CallRK X (.builtin "min") ["default"] (rMinD X.K) := by
  intro pins s σ H vs zs us ws Q I r r2 h
  obtain ⟨a, ns, d, rfl, rfl, hs, q0, q⟩ := h
  obtain ⟨its, rv, hl, _⟩ := I.list hs
  rw [Vals.ref1 r]
  cases r2 with
  | @cons _ u _ _ rd rn =>
  cases rn
  have hi := rv.ints
  have hlen := hi.length
  have hat : ∀ (i : Nat) (v : Value), its.toArray[i]? = some v → ∃ t, v = .int (ns.getD i 0) t := fun i v hv => by
    have hv' : its[i]? = some v := by simpa using hv
    have hlt : i < its.length := (List.getElem?_eq_some_iff.mp hv').1
    obtain ⟨w, hw, rw'⟩ := rv.get (i := i) (x := .int (ns.getD i 0)) (by
      rw [List.getElem?_map, List.getD_eq_getElem?_getD, List.getElem?_eq_getElem (by omega : i < ns.length)]
      rfl)
    rw [hv'] at hw
    cases hw
    exact rw'
  show wpAny _ _ (call (.builtin "min") [.ref a] [(Str.ofString "default", u)]) _ _ _
  refine call_minD (iter_any hl.isList fun s₂ e2 st hne => ?_)
  subst e2
  refine ⟨_, _, _, _, _, _, _, rfl, Walks.list (A := X.A.in1) (I.ok.hd hc) _ a hne its.toArray, st, ?_, CmpOf.ints_lt (fun i => ns.getD i 0) hat, fun hz h' tk hk => ?_, fun hn v h' tk hP hk => ?_⟩
  · intro b hb
    have hsz := Heap.size_push s.heap { cls := .type "list_iterator", data := .fields #[.ref a, .int 0 0] }
    show b < (s.heap.push _).objs.size
    rw [hsz]
    rcases List.mem_cons.mp hb with e1 | hb
    · rw [e1]; exact Nat.lt_succ_self _
    · rw [List.mem_singleton.mp hb]
      obtain ⟨_, e, _⟩ := hl.isList
      exact Nat.lt_succ_of_lt (Heap.lt_size e)
  · refine ⟨d, H, I.kept fun b o eo => hk b o (fun hmem => ?_) (Heap.get?_push_of_some _ eo), rd, q0 ?_⟩
    · rw [List.mem_singleton] at hmem
      exact absurd (hmem ▸ Heap.lt_size eo) (Nat.lt_irrefl _)
    · rw [List.size_toArray] at hz
      cases ns with
      | nil => rfl
      | cons => simp at hlen; omega
  · obtain ⟨t, rfl⟩ := hat _ _ hP
    obtain ⟨h1, h2⟩ := argBest_lt (fun i => ns.getD i 0) (its.toArray.size - 1)
    rw [List.size_toArray] at hn h1 h2 ⊢
    refine ⟨.int _, H, I.kept fun b o eo => hk b o (fun hmem => ?_) (Heap.get?_push_of_some _ eo), ⟨t, rfl⟩, q _ ?_ fun y hy => ?_⟩
    · rw [List.mem_singleton] at hmem
      exact absurd (hmem ▸ Heap.lt_size eo) (Nat.lt_irrefl _)
    · have hlt : argBest (fun i j => decide (ns.getD i 0 < ns.getD j 0)) (its.length - 1) < ns.length := by omega
      rw [List.getD_eq_getElem?_getD, List.getElem?_eq_getElem hlt]
      exact List.getElem_mem hlt
    · obtain ⟨j, hj, rfl⟩ := List.getElem_of_mem hy
      have := h2 j (by omega)
      rw [List.getD_eq_getElem?_getD (i := j), List.getElem?_eq_getElem hj] at this
      exact this
end
end L2

namespace PySem
open Sem
/-- the text of a list, whatever is under way -/
theorem list_repr_any {M : Model} {A : Around} {E : Value → Shared → Prop} {s : Shared} {Q : Fin → Shared → Prop} {a : Addr} {o : Obj} {x : Value} {l : List Value} {n b : Nat} (hget : s.heap.get? a = some o) (hd : o.data = .seq (x :: l).toArray n)
    (h1 : ∀ u tk, Q (.done (.ret (.str "[...]" u))) { s with toks := tk }) (h2 : wpAny M A (do again (.builtin "list.__repr__.loop" ⟨[.ref a, rawInt 0, ← newList [], rawInt b], []⟩)) Q E s) : wpAny M A (Builtin.listReprAt b ⟨[.ref a], []⟩) Q E s := by
  intro Γ p hΓ
  have k2 := h2 Γ p hΓ
  unfold Builtin.listReprAt
  simp [slotArgs, Builtin.List.listItems, seqItems?, wp_load_of (h := hget), hd, stack]
  show wp M Γ (if (Γ.below.any _) = true then _ else _) _ _ p s
  split
  · simp [rule, retStr, ret]
    exact h1 _ _
  · exact k2
section
variable {prog : Program} {w : World} {A : Around} {E : Value → Shared → Prop} {s : Shared}
theorem fmt_list_repr {a : Addr} {o : Obj} {l : List Value} {n : Nat} {ts : List Str} {Q : Value → Shared → Prop} (ha : s.heap.get? a = some o) (hc : o.cls = .type "list") (hd : o.data = .seq l.toArray n) (hlen : ts.length = l.toArray.size)
    (hT : ∀ (i : Nat) (y : Value), l.toArray[i]? = some y → ∃ t, ts[i]? = some t ∧ ReprIs prog w y t) (hsz : (listText ts).length ≤ sizeLine)
    (h : ∀ (m : Str) (h' : Heap) (u tk : Tok), m.length ≤ (listText ts).length + 5 → (∀ b o, s.heap.get? b = some o → h'.get? b = some o) → Q (.str m u) { s with heap := h', toks := tk }) : wpAny (model prog w) A (call (.builtin "list.__repr__") [.ref a]) Q E s := by
  have hTy : s.TypeIs (.ref a) "list" := ⟨o, ha, hc⟩
  cases l with
  | nil => exact call_list_repr_empty hTy ha hd (h "[]" s.heap _ _ (Nat.le_trans (by decide +kernel : ("[]" : Str).length ≤ 5) (Nat.le_add_left _ _)) fun _ _ e => e)
  | cons x l =>
    refine wpAny_call (codeAny_call_builtin F.slot_list_repr.plain F.entry_list_repr (F.slot_list_repr.check _ _ _ _ _ _ _ _ hTy (F.args_list_repr_1 _) ?_))
    refine list_repr_any (b := 0) ha hd (fun u tk => ?_) ?_
    · exact h "[...]" s.heap u tk (Nat.le_trans (by decide +kernel : ("[...]" : Str).length ≤ 5) (Nat.le_add_left _ _)) fun _ _ e => e
    · refine wpAny_bind (m := newList []) (wpAny_newObj_type ?_)
      refine wpAny_pure ⟨F.quiet_list_repr_loop _, ?_⟩
      refine codeAny_list_repr_start (P := s.heap.objs.size) (Nat.ne_of_lt (Heap.lt_size ha)) hlen hT (Heap.get?_push_of_some _ ha) hd (Heap.get?_push_size _ rfl) (fun h' u tk hk => ?_) (by omega)
      exact h (listText ts) h' u tk (Nat.le_add_right _ _) fun b o e => hk b o (Nat.ne_of_lt (Heap.lt_size e)) (Heap.get?_push_of_some _ e)
theorem fmt_list {a : Addr} {o : Obj} {l : List Value} {n : Nat} {ts : List Str} {Q : Value → Shared → Prop} (hu : A.units + 2 < cLine) (ha : s.heap.get? a = some o) (hc : o.cls = .type "list") (hd : o.data = .seq l.toArray n) (hlen : ts.length = l.toArray.size)
    (hT : ∀ (i : Nat) (y : Value), l.toArray[i]? = some y → ∃ t, ts[i]? = some t ∧ ReprIs prog w y t) (hsz : (listText ts).length ≤ sizeLine)
    (h : ∀ (m : Str) (h' : Heap) (u tk : Tok), m.length ≤ (listText ts).length + 5 → (∀ b o, s.heap.get? b = some o → h'.get? b = some o) → Q (.str m u) { s with heap := h', toks := tk }) : wpAny (model prog w) A (formatField (.ref a) Str.empty) Q E s :=
  wpAny_formatField_slot (fun _ _ => nofun) hu ⟨o, ha, hc⟩ F.slot_list_format F.slot_list_str F.slot_list_repr.toG
    (fmt_list_repr (s := { s with toks := s.toks + 1 }) ha hc hd hlen hT hsz fun m h' u tk hm hk => ⟨m, u, rfl, h m h' u tk hm hk⟩)
end
end PySem

namespace L2
open PySem PySem.Spec PyProof.Rows
theorem text_le : ∀ (ts : List Str) (k : Nat) (acc : Str), (textFrom k acc ts).length ≤ acc.length + piled ts
  | [], k, acc => Nat.le_add_right _ _
  | t :: ts, k, acc => by
    have ih := text_le ts (k + 1) (acc ++ ((if k > 0 then ", " else "" : String) : Str) ++ t)
    have e : (((if k > 0 then ", " else "" : String)) : Str).length ≤ 2 := by split <;> decide +kernel
    rw [strLen_append, strLen_append] at ih
    rw [piled_cons]
    show (textFrom (k + 1) (acc ++ ((if k > 0 then ", " else "" : String) : Str) ++ t) ts).length ≤ _
    omega
theorem digit_len {i : Int} (h0 : 0 ≤ i) (h1 : i < 10) : (Str.ofString (toString i)).length = 1 := by
  have : i = 0 ∨ i = 1 ∨ i = 2 ∨ i = 3 ∨ i = 4 ∨ i = 5 ∨ i = 6 ∨ i = 7 ∨ i = 8 ∨ i = 9 := by omega
  rcases this with e | e | e | e | e | e | e | e | e | e <;> subst e <;> decide +kernel
section
variable {X : Cx}
/-- {xs}, xs a list of digits: some text -/
def tFmtL (K : PySem.W.Frag) (te : TE) : TE := fun σ H Q => te σ H fun x H1 => ∃ (a : Addr) (ns : List Int), x = .ref a ∧ SqL K H1 a (ns.map V.int) ∧ ns.length ≤ 100 ∧ (∀ n ∈ ns, 0 ≤ n ∧ n < 10) ∧ ∀ m : Str, m.length ≤ 1000 → Q (.str m) H1
theorem pe_fmtLu {e : Expr} {te : TE} {pos : Pos} (hu : X.A.units + 2 < cLine) (he : PE X e te) : PE X (.FormattedValue e (-1) none pos) (tFmtL X.K te) := by
  refine ⟨fun pins s σ H Q I h => ?_⟩
  refine wpAny_FormattedValue_plain (thn (he.run pins s σ H _ I h) fun v s1 hv => ?_)
  obtain ⟨x, H1, I1, r1, a, ns, rfl, hs, hl, hn, q⟩ := hv
  cases r1
  obtain ⟨its, rv, pl, _⟩ := I1.list hs
  obtain ⟨o, ho, hcl, n, hd⟩ := pl.isList
  have hlen := rv.length
  rw [List.length_map] at hlen
  have hpile : ∀ l : List Int, (∀ n ∈ l, 0 ≤ n ∧ n < 10) → piled (l.map fun i => Str.ofString (toString i)) = 3 * l.length := by
    intro l
    induction l with
    | nil => intro _; rfl
    | cons i l ih =>
      intro hl
      have hi := hl i List.mem_cons_self
      rw [List.map_cons, piled_cons, ih (fun n m => hl n (List.mem_cons_of_mem _ m)), digit_len hi.1 hi.2, List.length_cons]
      omega
  have hp := hpile ns hn
  have hz : (listText (ns.map fun i => Str.ofString (toString i))).length ≤ 3 * ns.length + 2 := by
    unfold listText
    have h1 := text_le (ns.map fun i => Str.ofString (toString i)) 0 "["
    have e1 : ((("[" : String) : Str)).length = 1 := rfl
    have e2 : ((("]" : String) : Str)).length = 1 := rfl
    rw [strLen_append, e2]
    rw [e1] at h1
    omega
  refine fmt_list (ts := ns.map fun i => Str.ofString (toString i)) (by omega) ho hcl hd (by rw [List.length_map, List.size_toArray]; exact hlen) (fun i y hy => ?_) (by rw [sizeLine_eq]; omega) fun m h' u tk hm hk => ⟨.str m, H1, I1.kept hk, ⟨u, rfl⟩, q m (by omega)⟩
  have hy' : its[i]? = some y := by simpa using hy
  have hlt : i < ns.length := by have := (List.getElem?_eq_some_iff.mp hy').1; omega
  obtain ⟨z, hz2, rz⟩ := rv.get (i := i) (x := .int ns[i]) (by rw [List.getElem?_map, List.getElem?_eq_getElem hlt]; rfl)
  rw [hy'] at hz2
  cases hz2
  obtain ⟨t, rfl⟩ := rz
  have hb := hn _ (List.getElem_mem hlt)
  refine ⟨_, by rw [List.getElem?_map, List.getElem?_eq_getElem hlt]; rfl, ReprIs.int t ?_⟩
  have : ns[i].natAbs < 10 := by omega
  exact Nat.lt_of_le_of_lt (Nat.log2_le_self _) (by omega)
theorem pe_fmtL {e : Expr} {te : TE} {pos : Pos} {k : Nat} (hr : Room k X.A) (he : PE X e te) : PE X (.FormattedValue e (-1) none pos) (tFmtL X.K te) := pe_fmtLu (by have := hr.units; omega) he
/-- C.m(e, ..), C the class at C (own), m a def of it -/
def tClsF (C : Addr) (sp : Sp) (E : XK) (ta : TE) (t : TA) : TE := fun σ H Q => ta σ H fun x H1 => x = .ref C ∧ t σ H1 fun vs H2 => sp vs H2 Q E
theorem pe_clsf {CX : CXT} {k : Nat} {C f : Addr} {fd : FuncData} {ps : List Str} {mc : Value} {sp : Sp} {E : XK} {o e : Expr} {es : List Expr} {m : Str} {pos apos : Pos} {ta : TE} {t : TA} {pl : Sem Bool} (he : PE X o ta) (r : ClX.CRead X.K C mc) (at_ : PySem.W.findCls X.K (.ref C) mc m = some (.val (.ref f)))
    (F : FnOk X.prog X.w X.K X.mg X.base CX k f fd ps sp) (hr : Room k X.A) (hk : PySem.W.keepIn X.K (.ref f) = true) (hb : Binds X.K fd ps []) (hx : Passes CX X E) (ha : PA X (e :: es) t)
    (hst : starEach (e :: es) X.env = (false, eval e X.env) :: starEach es X.env := by rfl) (hpl : (backTo pos (starEach es X.env)).any (·.1) = false := by rfl)
    (ht : eval (.Call (.Attribute o m apos) (e :: es) [] pos) X.env = (do
      let ov ← eval o X.env
      standAt apos.atName
      let (f, first) ← holding [ov] (getMethod ov m pl)
      callWith pos f first (backTo pos (starEach (e :: es) X.env)) (backToKw pos (keywordEach [] X.env))) := by rfl) :
    PE X (.Call (.Attribute o m apos) (e :: es) [] pos) (tClsF C sp E ta t) := by
  refine ⟨fun pins s σ H Q I h => ?_⟩
  refine PySem.W.methodCall_KW (pl := pl) (thn (he.run pins s σ H _ I h) fun u s1 ⟨x, H1, I1, rx, ex, q⟩ => ?_) ht
  subst ex
  obtain rfl : u = Value.ref C := rx
  refine PySem.W.method_cls I1.kIn r.ga (ClX.getcval_ok (v := .ref f) I1 r ⟨at_, rfl⟩ fun s2 I2 => ?_)
  refine PySem.W.callWith_K (h₀ := X.base) I2.ok.mod.kin hk (thn (ha.run pos pins s2 σ H1 _ I2 q) fun us s3 ⟨vs, H2, I3, rv, q2⟩ => ⟨I3.kIn, ?_⟩) hst hpl
  refine run_fn (dvs := []) F hr hb .nil hx I3 rv ?_
  rw [List.append_nil]
  exact q2
end
end L2

/-! several except clauses, with and without a name -/
namespace L2
open PySem PySem.Spec PyProof.Rows
/-- one clause: the class that it names, the slot of its name (if any), its suite's reading -/
structure Cl where
  c : Value
  i : Option Nat
  ts : Addr → Value → Option Addr → TS
def slotN (i : Option Nat) (v : Option V) (σ : St) : St := match i with
  | none => σ
  | some i => σ.set i v
def endsN (i : Option Nat) (D : Ends) : Ends := match i with
  | none => D
  | some i => { nx := fun σ H => D.nx (σ.set i none) H, rt := D.rt, bk := fun σ H => D.bk (σ.set i none) H, ct := fun σ H => D.ct (σ.set i none) H }
/-- what the clauses wish of an exception of the body -/
def wMix (K : PySem.W.Frag) (Wout : WX) (D : Ends) : List Cl → WX
  | [] => Wout
  | x :: r => fun cls d σ H => ∃ b, PySem.W.exmOne K cls x.c = some b ∧ (b = true → ∀ a, H a = none → x.ts a cls d (endsN x.i D) (slotN x.i (some (.ref a)) σ) H) ∧ (b = false → wMix K Wout D r cls d σ H)
inductive MixOk (X : Cx) : List ExceptHandler → List Cl → Prop
  | nil : MixOk X [] []
  | bare {x : Str} {c : Value} {ts : Addr → Value → Option Addr → TS} {b₀ : Stmt} {suite : List Stmt} {np pos' : Pos} {hds : List ExceptHandler} {l : List Cl} (hc : Names X x c)
      (hsu : ∀ (a : Addr) (oe : Obj) (cls : Value) (d : Option Addr) (pn : List (Addr × Obj)), Zc cls d oe → (∃ vs, oe.data = .fields vs) → PSs (X.suite a ((a, oe) :: pn)) (b₀ :: suite) (ts a cls d)) (r : MixOk X hds l) :
      MixOk X (.ExceptHandler (some (.Name x np)) none (b₀ :: suite) pos' :: hds) (⟨c, none, ts⟩ :: l)
  | as {x n : Str} {i : Nat} {c : Value} {ts : Addr → Value → Option Addr → TS} {b₀ : Stmt} {suite : List Stmt} {np pos' : Pos} {hds : List ExceptHandler} {l : List Cl} (hN : X.N.Nodup) (hi : X.N[i]? = some n) (hln : X.env.kindOf n = some .local) (hc : Names X x c)
      (hsu : ∀ (a : Addr) (oe : Obj) (cls : Value) (d : Option Addr) (pn : List (Addr × Obj)), Zc cls d oe → (∃ vs, oe.data = .fields vs) → PSs (X.suite a ((a, oe) :: pn)) (b₀ :: suite) (ts a cls d)) (r : MixOk X hds l) :
      MixOk X (.ExceptHandler (some (.Name x np)) (some n) (b₀ :: suite) pos' :: hds) (⟨c, some i, ts⟩ :: l)
section
variable {X : Cx} {body : List Stmt} {h₀ : ExceptHandler} {hds : List ExceptHandler} {l : List Cl} {pos : Pos} {tb : WX → TS} {Wout : WX}
theorem ps_try_mix (hs : X.stack = X.env :: X.outer) (hf : X.env.frame = some X.env.locals) (tk : Takes X Wout)
    (hb : ∀ (W : WX) (pn : List (Addr × Obj)) (xe : Value → Shared → Prop), Takes (X.tr pn xe) W → PassesOwn (model X.prog X.w) X.A X.env xe → PSs (X.tr pn xe) body (tb W))
    (hh : MixOk X (h₀ :: hds) l) : PS X (.Try body (h₀ :: hds) [] [] pos) (fun D σ H => tb (wMix X.K Wout D l) D σ H) := by
  refine ⟨fun pins s σ H D I h => ?_⟩
  have ok := I.ok
  have hfr : X.A.frames = some (X.env :: X.outer) := by rw [ok.frames, hs]
  refine wpAny_Try_except (wpAny_mono ((hb (wMix X.K Wout D l) (X.pn ++ pins) (fun e s₁ => wpAny (model X.prog X.w) X.A (noteFrame e X.env) (fun _ s₂ => wpAny (model X.prog X.w) X.A (setFlight e none) (fun _ s₃ => wpAny (model X.prog X.w) X.A (handleBy e X.env (h₀ :: hds)) (SP X pins D) X.xe s₃) X.xe s₂) X.xe s₁) (fun u s' xx => ?_) PassesOwn.looking).run [] s σ H D (I.toTry _) h) (fun f s1 hsp => ?_) (fun e s1 he => he))
  · obtain ⟨a, B, sI, pins', σ', H', cls, d, rfl, J', nb, up, sky, na, os, ag, w⟩ := xx
    have J : Inv X pins σ' H' sI := J'.ofTry ok
    have sky2 : Sky B (X.env :: X.outer) a (Zc cls d) X.env.locals s'.heap := by rw [← hs]; exact sky
    show wpAny (model X.prog X.w) X.A (noteFrame (.ref a) X.env) _ _ _
    refine Sky.land Zc.steady hfr hf sky2 fun h3 fl3 up3 => ?_
    have J3 : Inv X pins σ' H' { s' with heap := h3 } := J.landed nb fl3.1 (up.trans up3) os ag
    obtain ⟨oe3, vs3, he3, hz3, hd3⟩ := fl3.there
    have nfr : a ∉ frs (X.env :: X.outer) := fun hm => by
      obtain ⟨_, o', e', hnf⟩ := fl3.2.2.1.mem hm
      rw [he3] at e'; cases e'
      exact hnf _ hd3
    have nL : a ≠ X.env.locals := fun z => nfr (List.mem_filterMap.mpr ⟨X.env, List.mem_cons_self, by rw [hf, z]⟩)
    have nF : a ∉ X.fs := fun hm => by
      obtain ⟨e, he, q⟩ := List.mem_filterMap.mp hm
      exact nfr (List.mem_filterMap.mpr ⟨e, List.mem_cons_of_mem _ he, q⟩)
    have S3 := J3.suite he3 hd3 na nL nF
    have LT : PySem.W.Looks (model X.prog X.w) h3 (typeOf (.ref a)) cls := fun A Q E s k q => wpAny_typeOf_ref (k _ _ he3) (by rw [hz3.1]; exact q)
    have test : ∀ {x : Str} {c : Value} {np : Pos} {Q : Value → Shared → Prop} {E : Value → Shared → Prop}, Names X x c → Q c { s' with heap := h3 } → wpAny (model X.prog X.w) (X.A.mark (some (.ref a))) (eval (.Name x np) X.env) Q E { s' with heap := h3 } := fun {x c np Q E} hc q => by
      obtain ⟨hg, hdbg, hm | ⟨hm, hv, hnn⟩⟩ := hc
      · exact ld_glob (X := X.suite a ((a, oe3) :: (X.pn ++ pins))) S3 hg hm q hdbg
      · exact ld_blt (X := X.suite a ((a, oe3) :: (X.pn ++ pins))) S3 hg hm hv q hnn hdbg
    have go : ∀ {hds' : List ExceptHandler} {l' : List Cl}, MixOk X hds' l' → wMix X.K Wout D l' cls d σ' H' → wpAny (model X.prog X.w) X.A (handleBy (.ref a) X.env hds') (SP X pins D) X.xe { s' with heap := h3 } := by
      intro hds' l' hk
      induction hk with
      | nil =>
        intro w
        refine wpAny_handleBy_nil ?_
        obtain ⟨k1, k2, k3, oe, vs, T, oT, ts', he, hz, hd, h1, hr⟩ := id fl3
        unfold PySem.passOn
        refine wpAny_bind (wpAny_field he hd h1 ?_)
        rw [if_neg (show ¬ ((Value.ref T == Value.none) = true) from by simp)]
        have fin : wpAny (model X.prog X.w) X.A (setFlight (.ref a) X.env.frame) (fun _ s4 => wpAny (model X.prog X.w) X.A (throw (.ref a) : Sem Flow) (SP X pins D) X.xe s4) X.xe { s' with heap := h3 } := by
          rw [hf]
          refine HandSPX.setFlight_upZ fl3 fun h4 hh4 up4 => wpAny_throw (tk _ _ ?_)
          exact ⟨a, B, sI, pins, σ', H', cls, d, rfl, J, nb, (up.trans up3).trans up4, .inr (.inr (by rw [hs]; exact hh4)), na, os, ag, w⟩
        first
          | exact wpAny_bind (wpAny_pure (wpAny_bind fin))
          | exact wpAny_bind fin
      | @bare x c ts b₀ suite np pos' hds2 l2 hc hsu r ih =>
        intro w
        obtain ⟨b, hb1, hyes, hno⟩ := w
        refine wpAny_handleBy_cons (codeAny_handlers_test ?_) (by intro q; cases q)
        refine test hc ((PySem.W.exm_one (M := model X.prog X.w) (J3.kIn) LT hb1).here ?_)
        cases b with
        | true =>
          refine codeAny_handlers_suite (HandSPX.lands_againZ fl3 fun h4 fl4 up4 => ?_)
          have J4 : Inv X pins σ' H' { s' with heap := h4 } := J.landed nb fl4.1 ((up.trans up3).trans up4) os ag
          obtain ⟨oe4, vs4, he4, hz4, hd4⟩ := fl4.there
          refine wpAny_mono ((hsu a oe4 cls d (X.pn ++ pins) hz4 ⟨_, hd4⟩).run [] _ _ H' _ (J4.suite he4 hd4 na nL nF) (hyes rfl a na)) (fun f s6 hsp => ?_) (fun _ _ z => False.elim z)
          cases f with
          | next => obtain ⟨σ6, H6, S6, q6⟩ := hsp; exact ⟨_, _, S6.unsuite ok, q6⟩
          | brk => obtain ⟨σ6, H6, S6, q6⟩ := hsp; exact ⟨_, _, S6.unsuite ok, q6⟩
          | cont => obtain ⟨σ6, H6, S6, q6⟩ := hsp; exact ⟨_, _, S6.unsuite ok, q6⟩
          | ret u => obtain ⟨v6, σ6, H6, S6, r6, q6⟩ := hsp; exact ⟨_, _, _, S6.unsuite ok, r6, q6⟩
        | false =>
          show wpAny _ X.A (handleBy (.ref a) X.env hds2) _ _ _
          exact ih (hno rfl)
      | @as x n i c ts b₀ suite np pos' hds2 l2 hN hi hln hc hsu r ih =>
        intro w
        obtain ⟨b, hb1, hyes, hno⟩ := w
        have hloc : Loc X.env.scope n := .inl hln
        refine wpAny_handleBy_cons (codeAny_handlers_test ?_) (by intro q; cases q)
        refine test hc ((PySem.W.exm_one (M := model X.prog X.w) (J3.kIn) LT hb1).here ?_)
        cases b with
        | true =>
          refine codeAny_handlers_suite_as (HandSPX.lands_againZ fl3 fun h4 fl4 up4 => ?_)
          have J4 : Inv X pins σ' H' { s' with heap := h4 } := J.landed nb fl4.1 ((up.trans up3).trans up4) os ag
          obtain ⟨oe4, vs4, he4, hz4, hd4⟩ := fl4.there
          have S4 := J4.suite he4 hd4 na nL nF
          refine store_ok (X := X.suite a ((a, oe4) :: (X.pn ++ pins))) (v := .ref a) S4 hN hi hloc rfl (fun s5 S5 => ?_) (.inr hln)
          refine wpAny_mono ((hsu a oe4 cls d (X.pn ++ pins) hz4 ⟨_, hd4⟩).run [] s5 _ H' _ S5 (hyes rfl a na)) (fun f s6 hsp => ?_) (fun _ _ z => False.elim z)
          have end_ : ∀ {σ6 : St} {H6 : Hp} {Q : Shared → Prop}, Inv (X.suite a ((a, oe4) :: (X.pn ++ pins))) [] σ6 H6 s6 → (∀ s7, Inv X pins (σ6.set i none) H6 s7 → Q s7) → wpAny (model X.prog X.w) X.A (do bindName X.env n .none; unbindBehindTheSuite X.env n pos') (fun _ s7 => Q s7) X.xe s6 := fun {σ6 H6 Q} S6 hq => gone_ok (S6.unsuite ok) hN hi hln hq
          cases f with
          | next => obtain ⟨σ6, H6, S6, q6⟩ := hsp; exact end_ S6 fun s7 J7 => ⟨_, _, J7, q6⟩
          | brk => obtain ⟨σ6, H6, S6, q6⟩ := hsp; exact end_ S6 fun s7 J7 => ⟨_, _, J7, q6⟩
          | cont => obtain ⟨σ6, H6, S6, q6⟩ := hsp; exact end_ S6 fun s7 J7 => ⟨_, _, J7, q6⟩
          | ret u => obtain ⟨v6, σ6, H6, S6, r6, q6⟩ := hsp; exact end_ S6 fun s7 J7 => ⟨_, _, _, J7, r6, q6⟩
        | false =>
          show wpAny _ X.A (handleBy (.ref a) X.env hds2) _ _ _
          exact ih (hno rfl)
    exact go hh w
  · cases f with
    | next => obtain ⟨σ', H', J', q⟩ := hsp; exact wpAny_execs_nil ⟨σ', H', J'.ofTry ok, q⟩
    | brk => obtain ⟨σ', H', J', q⟩ := hsp; exact ⟨σ', H', J'.ofTry ok, q⟩
    | cont => obtain ⟨σ', H', J', q⟩ := hsp; exact ⟨σ', H', J'.ofTry ok, q⟩
    | ret u => obtain ⟨v, σ', H', J', r, q⟩ := hsp; exact ⟨v, σ', H', J'.ofTry ok, r, q⟩
end
end L2

namespace K
open PySem PySem.Spec PyProof.Rows L2
/-- whether an error of the class at S is what «except C» names -/
theorem exm_pair {K : PySem.W.Frag} {S C : Addr} {b : Bool} (h1 : PySem.W.subIn K (.ref C) (.type "BaseException") = some true) (h2 : PySem.W.isClsIn K C = true) (h3 : PySem.W.typeIn K (.ref C) = some (.type "type")) (h4 : PySem.W.subIn K (.ref S) (.ref C) = some b) : PySem.W.exmOne K (.ref S) (.ref C) = some b := by
  have e1 : (PySem.W.subIn K (.ref C) (.type "BaseException") == some true) = true := by rw [h1] <;> rfl
  have e2 : ((PySem.W.clsIn K C).isSome && PySem.W.typeIn K (.ref C) == some (.type "type")) = true := by
    have h2' : (PySem.W.clsIn K C).isSome = true := h2
    rw [h2', h3] <;> rfl
  show (if (PySem.W.subIn K (.ref C) (.type "BaseException") == some true) = true then (if ((PySem.W.clsIn K C).isSome && PySem.W.typeIn K (.ref C) == some (.type "type")) = true then PySem.W.subIn K (.ref S) (.ref C) else none) else none) = some b
  rw [if_pos e1, if_pos e2]
  exact h4
/-- what the top has written of SlipError and its __init__ -/
structure SlipT (K : PySem.W.Frag) (mg : Str → Option Value) (CS fS : Addr) : Prop where
  g : mg "SlipError" = some (.ref CS)
  r : ClX.CRead K CS (.type "type")
  at_ : PySem.W.findCls K (.ref CS) (.type "type") "__init__" = some (.val (.ref fS))
  kp : PySem.W.keepIn K (.ref fS) = true
  vV : PySem.W.findCls K (.type "ValueError") (.type "type") "__init__" = some (.val (.builtin "ValueError.__init__"))
  mV : mg "ValueError" = none
/-- .. of a refusal's class x at C, its __init__ at fI -/
structure ExcT (K : PySem.W.Frag) (mg : Str → Option Value) (x : Str) (C fI : Addr) : Prop where
  g : mg x = some (.ref C)
  oex : OexC K C
  xf : XfC K C
  iC : PySem.W.findIn K (.ref C) "__init__" = some (some (.ref fI))
  tI : PySem.W.typeIn K (.ref fI) = some (.type "function")
  word : PySem.W.findIn K (.ref C) "word" = some none
def spSlip (K : PySem.W.Frag) : Sp := fun vs H Q _ => ∃ (a C : Addr) (w y : Str), vs = [.ref a, .str w, .str y] ∧ OexC K C ∧ PySem.W.findIn K (.ref C) "word" = some none ∧ H a = some (exo a C none) ∧
  ∀ dx, H dx = none → dx ≠ a → Q .non (upd (upd H dx (exd dx [("word", .str w)])) a (exo a C (some dx)))
/-- C(v): the exception at a gets its fields, newest first, in a new dict; all else stands -/
def spIn1 (K : PySem.W.Frag) (f wd : Str) (ask : Hp → V → Prop) (got : Hp → Hp → V → V → Prop) : Sp := fun vs H Q _ => ∃ (a C : Addr) (v : V), vs = [.ref a, v] ∧ ask H v ∧ OexC K C ∧ PySem.W.findIn K (.ref C) "word" = some none ∧ PySem.W.findIn K (.ref C) f = some none ∧ H a = some (exo a C none) ∧
  ∀ (dx : Addr) (v' : V) (H' : Hp), H dx = none → dx ≠ a → (∀ b o, H b = some o → b ≠ a → H' b = some o) → H' a = some (exo a C (some dx)) → H' dx = some (exd dx [(f, v'), ("word", .str wd)]) → got H H' v v' → Q .non H'
def askInt : Hp → V → Prop := fun _ v => ∃ i : Int, v = .int i ∧ i.natAbs.log2 < 1920
def gotSame : Hp → Hp → V → V → Prop := fun _ _ v v' => v' = v
/-- a list of digits -/
def askLot (K : PySem.W.Frag) : Hp → V → Prop := fun H v => ∃ (l : Addr) (ns : List Int), v = .ref l ∧ H l = some (.lst (ns.map V.int)) ∧ ns.length ≤ 100 ∧ ∀ n ∈ ns, 0 ≤ n ∧ n < 10
def gotLot : Hp → Hp → V → V → Prop := fun H0 H v v' => ∃ (l l' : Addr) (xs : List V), v = .ref l ∧ v' = .ref l' ∧ H l = some (.lst xs) ∧ H l' = some (.lst xs) ∧ l ≠ l' ∧ H0 l' = none
theorem ext_ne_lst {H : Hp} {a b : Addr} {C : Addr} {d : Option Addr} {xs : List V} (h : H a = some (exo a C d)) (h' : H b = some (.lst xs)) : b ≠ a := fun e => by
  subst e
  rw [h] at h'
  cases h'
section
variable {P : Program} {w : World} {K : PySem.W.Frag} {mg : Str → Option Value} {base : Heap}
theorem join2_le {c m : Str} (hc : (Str.empty ++ c).length ≤ 1000) (hm : m.length ≤ 2000) : ((Str.empty ++ c) ++ m).length ≤ sizeLine := by
  rw [strLen_append, sizeLine_eq]
  omega
theorem join3_le {c m e : Str} (hc : (Str.empty ++ c).length ≤ 1000) (hm : m.length ≤ 2000) (he : e.length ≤ 1000) : (((Str.empty ++ c) ++ m) ++ e).length ≤ sizeLine := by
  rw [strLen_append, strLen_append, sizeLine_eq]
  omega
/-- what a raise of such a refusal leaves -/
theorem raised_same {H H2 : Hp} {a d : Addr} {fs : List (Str × V)} (ha : H a = none) (k : ∀ b o, H b = some o → b ≠ a → H2 b = some o) (hd : H d = none) : Same H (upd (del H2 a) d (.xd fs)) := fun b o e => by
  have hb : b ≠ a := ne_of_none e ha
  rw [upd_ne (ne_of_none e hd), del_ne hb]
  exact k b o e hb
end
end K

namespace K
open PySem PySem.Spec PyProof.Rows L2
open Sw (T3 Dist at? relax roundOf rounds IsNext Cand IsFar nbr candL WayTo lotOf)
/-- a def that may raise, as it can be called -/
structure CalX (P : Program) (w : World) (K : PySem.W.Frag) (mg : Str → Option Value) (base : Heap) (k : Nat) (x : Str) (f : Addr) (fd : FuncData) (ps : List Str) (sp : Sp) : Prop where
  ok : FnOk P w K mg base (L2.CX P w) k f fd ps sp
  g : mg x = some (.ref f)
  kp : PySem.W.keepIn K (.ref f) = true
  b : Binds K fd ps []
/-- a refusal's class with the promise of its __init__ -/
structure ExcC (P : Program) (w : World) (K : PySem.W.Frag) (mg : Str → Option Value) (base : Heap) (k : Nat) (x : Str) (C fI : Addr) (fd : FuncData) (ps : List Str) (sp : Sp) : Prop where
  t : ExcT K mg x C fI
  ok : FnOk P w K mg base CX0 k fI fd ps sp
  b : Binds K fd ps []
/-- NoHouse(h), as it is in the air: its dict, new; all else stands -/
def HouseX (CH : Addr) (h : Int) (H : Hp) (E : XK) : Prop := ∀ (d : Addr) (H' : Hp), H d = none → Same H H' → H' d = some (.xd [("house", .int h), ("word", .str "nohouse")]) → E (.ref CH) (some d) H'
def LotX (CW : Addr) (wd : Str) (lot : List Nat) (H : Hp) (E : XK) : Prop := ∀ (d l : Addr) (H' : Hp), H d = none → H l = none → Same H H' → H' d = some (.xd [("lot", .ref l), ("word", .str wd)]) → H' l = some (.lst (lot.map fun h => V.int (h : Nat))) → E (.ref CW) (some d) H'
def spCheckX (CH : Addr) : Sp := fun vs H Q E => ∃ (n : Nat) (h : Int), vs = [.int (n : Nat), .int h] ∧ h.natAbs.log2 < 1920 ∧ (0 ≤ h ∧ h < n → Q .non H) ∧ (¬ (0 ≤ h ∧ h < n) → HouseX CH h H E)
def spReach : Sp := fun vs H Q _ => ∃ (n g : Nat) (t : Addr) (ts : List T3), vs = [.int (n : Nat), .ref t, .int (g : Nat)] ∧ g < n ∧ n ≤ 1000 ∧ TiesAt H t ts ∧ Fits n ts ∧ ∀ p H', H p = none → Same H H' → H' p = some (.lst ((lotOf n (farD n ts g)).map fun h => V.int (h : Nat))) → Q (.ref p) H'
/-- (price, way) -/
def PriceWay (H : Hp) (p : Addr) (c : Nat) (way : List Nat) : Prop := ∃ w : Addr, H p = some (.tup [.int (c : Nat), .ref w]) ∧ H w = some (.tup (way.map fun h => V.int (h : Nat)))
def spLeastX (CH CW : Addr) : Sp := fun vs H Q E => ∃ (n : Nat) (s g : Int) (t : Addr) (ts : List T3), vs = [.int (n : Nat), .ref t, .int s, .int g] ∧ n ≤ 9 ∧ s.natAbs.log2 < 1920 ∧ g.natAbs.log2 < 1920 ∧ TiesAt H t ts ∧ ts.length ≤ 400 ∧ Fits n ts ∧ (∀ e ∈ ts, 1 ≤ e.2.2 ∧ e.2.2 ≤ 9) ∧
  (¬ (0 ≤ s ∧ s < n) → HouseX CH s H E) ∧ (0 ≤ s ∧ s < n → ¬ (0 ≤ g ∧ g < n) → HouseX CH g H E) ∧
  (∀ s' g' : Nat, s = s' → g = g' → s' < n → g' < n → at? (farD n ts g') s' = none → LotX CW "noway" (lotOf n (farD n ts s')) H E) ∧
  (∀ (s' g' c : Nat) (way : List Nat), s = s' → g = g' → s' < n → g' < n → at? (farD n ts g') s' = some c → WayTo (both ts) (farD n ts g') g' s' way → way.length ≤ 100 → ∀ p H', H p = none → Same H H' → PriceWay H' p c way → Q (.ref p) H')
end K

/-! raising out of a named except suite; defs whose exceptions have no context; defs called while an exception is handled -/
namespace L2H
open PySem PySem.Spec PyProof.Rows L2 HotX
/-- the context of an except suite that may raise, its wish xe -/
abbrev suiteA (X : Cx) (a : Addr) (pn : List (Addr × Obj)) (xe : Value → Shared → Prop) : Cx := { X with A := X.A.mark (some (.ref a)), calm := false, pn := pn, xe := xe }
theorem tracedZ_sameBut {h h' base : Heap} {e L : Addr} {Z : Obj → Prop} {fl : Value} {m : Str → Option Value} (x : HandSPX.TracedZ h base e Z fl) (hn : h.Ns L m) (hs : Heap.SameBut L h h') : HandSPX.TracedZ h' base e Z fl := by
  obtain ⟨oe, vs, T, oT, ts, he, hc, hd, h1, hnT, hTe, hT, hdT, h3⟩ := x
  obtain ⟨oL, es, ep, hoL, hdL, _⟩ := hn
  have neE : e ≠ L := fun q => by
    rw [q, hoL] at he
    have z := Option.some.inj he
    rw [← z, hdL] at hd
    cases hd
  have neT : T ≠ L := fun q => by
    rw [q, hoL] at hT
    have z := Option.some.inj hT
    rw [← z, hdL] at hdT
    cases hdT
  exact ⟨oe, vs, T, oT, ts, (hs.2 e neE).trans he, hc, hd, h1, hnT, hTe, (hs.2 T neT).trans hT, hdT, h3⟩
section
variable {X : Cx} {pins : List (Addr × Obj)} {σ : L2.St} {H : Hp} {s : Shared} {i : Nat} {n : Str}
/-- the name's slot out of hand: any state that differs at the def's own names only -/
theorem inv_gone {h' : Heap} {v : Option Value} {m : Str → Option Value} {t' : Nat} (I : Inv X pins σ H s) (hN : X.N.Nodup) (hi : X.N[i]? = some n) (hn0 : s.heap.Ns X.env.locals m)
    (hn' : h'.Ns X.env.locals (fun x => if x = n then v else m x)) (hs : Heap.SameBut X.env.locals s.heap h') : Inv X pins (σ.set i none) H { s with heap := h', toks := t' } := by
  obtain ⟨mI, hnI, hlk⟩ := id I.loc
  have em : ∀ y, mI y = m y := fun y => by
    obtain ⟨o1, es1, ep1, e1, d1, k1, f1⟩ := hnI
    obtain ⟨o2, es2, ep2, e2, d2, k2, f2⟩ := hn0
    rw [e1] at e2
    cases e2
    rw [d1] at d2
    cases d2
    rw [← f1 y, ← f2 y]
  have neL : ∀ b o, X.s_0.heap.get? b = some o → b ≠ X.env.locals := fun b o e => Nat.ne_of_lt (Nat.lt_of_lt_of_le (Heap.lt_size e) I.ok.above)
  refine ⟨I.ok, I.os, I.bare, ⟨fun b o e n hb hx => ?_, fun b o e n hb hx => ?_, I.base.free, fun b o e hx => ?_, I.base.tups, I.base.frzs, I.base.tbls⟩, ⟨_, hn', fun j y v' e1 e2 e3 => ?_⟩, fun y c e => ?_, I.free, I.freeC, fun p hp => ?_, fun b ob e => ?_, by simpa using I.len⟩
  · exact (hs.2 b (neL b o e)).trans (I.base.keep b o e n hb hx)
  · obtain ⟨sl, e1⟩ := I.base.slot b o e n hb hx
    exact ⟨sl, (hs.2 b (neL b o e)).trans e1⟩
  · obtain ⟨o', e1⟩ := I.base.there b o e hx
    exact ⟨o', (hs.2 b (neL b o e)).trans e1⟩
  · by_cases hj : j = i
    · subst hj
      by_cases hlt : j < σ.length
      · rw [List.getElem?_set_self hlt] at e2; cases e2
      · rw [List.getElem?_eq_none (by simpa using hlt)] at e2; cases e2
    · rw [List.getElem?_set_ne (Ne.symm hj)] at e2
      obtain ⟨u', r', q⟩ := hlk j y v' e1 e2 e3
      refine ⟨u', r', ?_⟩
      rcases q with ⟨k, e⟩ | ⟨k, c, e, z⟩
      · have ny : y ≠ n := fun e => hj (nodup_ix hN e1 (e ▸ hi))
        exact .inl ⟨k, (if_neg ny).trans ((em y).symm.trans e)⟩
      · exact .inr ⟨k, c, e, z.sameBut hs (I.cne y c e)⟩
  · obtain ⟨w', z⟩ := I.cell y c e
    exact ⟨w', z.sameBut hs (I.cne y c e)⟩
  · obtain ⟨e, n, ne, nf, d⟩ := I.pin p hp
    exact ⟨(hs.2 p.1 ne).trans e, n, ne, nf, d⟩
  · refine (I.hok b ob e).stay (fun c w' hc q => (hs.2 c ?_).trans q) (fun _ q => q) fun _ _ q => q
    intro z
    subst z
    rcases hc with hc | hc
    · rw [← hc, I.free] at e; cases e
    · rw [I.free] at hc; cases hc
/-- what flies out of a named suite: it is noted, the name goes, it is passed on and comes back into the def's own activation -/
theorem takes_as {a : Addr} {q : Addr × Obj} {pos : Pos} {Wout : WX} {xe E₁ E₂ : Value → Shared → Prop} (hs : X.stack = X.env :: X.outer) (hf : X.env.frame = some X.env.locals) (hN : X.N.Nodup) (hi : X.N[i]? = some n) (hln : X.env.kindOf n = some .local) (tk : L2.Takes X Wout) (ok : X.Ok)
    {u : Value} {s' : Shared} (x : L2.XE (suiteA X a (q :: (X.pn ++ pins)) xe) (fun c d σ H => Wout c d (σ.set i none) H) u s') :
    wpAny (model X.prog X.w) (X.A.mark (some (.ref a))) (noteFrame u X.env) (fun _ s₃ => wpAny (model X.prog X.w) (X.A.mark (some (.ref a))) (do bindName X.env n .none; unbindBehindTheSuite X.env n pos)
      (fun _ s₄ => wpAny (model X.prog X.w) (X.A.mark (some (.ref a))) (passOn "try.except-as" u X.env : Sem Flow) (fun _ _ => False) (notedBy (model X.prog X.w) (X.A.mark (some (.ref a))) X.env (cameBackBy (model X.prog X.w) X.A X.env X.xe)) s₄) E₂ s₃) E₁ s' := by
  obtain ⟨a2, B, sI, pn2, σ, H, cls, d, rfl, I, nb, up, sky, na, os, ag, w⟩ := x
  have J : Inv X pins σ H sI := Inv.unsuite (X := X) (a := a) (q := q) (pn' := pn2) (show Inv (X.suite a (q :: (X.pn ++ pins))) pn2 σ H sI from I.wish fun _ _ => False) ok
  have hfr : (X.A.mark (some (.ref a))).frames = some (X.env :: X.outer) := by
    show X.A.frames = _
    rw [ok.frames, hs]
  have sky : Sky B (X.env :: X.outer) a2 (Zc cls d) X.env.locals s'.heap := by rw [← hs]; exact sky
  have nb : ∀ b o, sI.heap.get? b = some o → b ∉ frs X.stack → B.get? b = some o := nb
  have hcls : (X.env.scope.kind == .class || (X.env.scope.kind == .module && X.env.locals != X.env.globals)) = false := by rw [ok.kind]; rfl
  obtain ⟨mI, hnI, _⟩ := id J.loc
  have fin : ∀ h1, HandSPX.HeldZ B (X.env :: X.outer) a2 (Zc cls d) X.env.locals h1 → s'.heap.UpToSlots h1 → wpAny (model X.prog X.w) (X.A.mark (some (.ref a))) (do bindName X.env n .none; unbindBehindTheSuite X.env n pos)
      (fun _ s₄ => wpAny (model X.prog X.w) (X.A.mark (some (.ref a))) (passOn "try.except-as" (.ref a2) X.env : Sem Flow) (fun _ _ => False) (notedBy (model X.prog X.w) (X.A.mark (some (.ref a))) X.env (cameBackBy (model X.prog X.w) X.A X.env X.xe)) s₄) E₂ { s' with heap := h1 } := by
    intro h1 hh up1
    have upA := up.trans up1
    have hn : h1.Ns X.env.locals mI := upA.ns hnI
    have hbL : B.get? X.env.locals = none := by
      obtain ⟨_, ⟨L', _, hf', hb', _⟩, _⟩ := hh.2.2.1
      rw [hf] at hf'
      rw [Option.some.inj hf']
      exact hb'
    refine wpAny_nameGoes_keeps hln hn hcls fun h2 v hn2 hs2 => ?_
    have hh2 : HandSPX.HeldZ B (X.env :: X.outer) a2 (Zc cls d) X.env.locals h2 :=
      ⟨fun b o hb => (hs2.2 b fun z => by rw [z, hbL] at hb; cases hb).trans (hh.1 b o hb), hh.2.1, Heap.FunFrames.sameBut hs2 hn2 hh.2.2.1, tracedZ_sameBut hh.2.2.2 hn hs2⟩
    obtain ⟨oe, vs, T, oT, ts, he, hz, hd, h1', r⟩ := id hh2.2.2.2
    unfold PySem.passOn
    refine wpAny_bind (wpAny_field he hd h1' ?_)
    rw [if_neg (show ¬ ((Value.ref T == Value.none) = true) from by simp)]
    rw [hf]
    have go : wpAny (model X.prog X.w) (X.A.mark (some (.ref a))) (setFlight (.ref a2) (some X.env.locals)) (fun _ s4 => wpAny (model X.prog X.w) (X.A.mark (some (.ref a))) (throw (.ref a2) : Sem Flow) (fun _ _ => False) (notedBy (model X.prog X.w) (X.A.mark (some (.ref a))) X.env (cameBackBy (model X.prog X.w) X.A X.env X.xe)) s4) (notedBy (model X.prog X.w) (X.A.mark (some (.ref a))) X.env (cameBackBy (model X.prog X.w) X.A X.env X.xe)) { s' with heap := h2, toks := s'.toks + 1 } := by
      refine HandSPX.setFlight_onZ hh2 fun h3 hh3 up3 => wpAny_throw ?_
      show wpAny _ _ (noteFrame (.ref a2) X.env) _ _ _
      refine HandSPX.againZ hf hh3.2.2.2 ?_
      obtain ⟨oe3, vs3, T3, oT3, ts3, he3, hz3, hd3, h13, r3⟩ := id hh3.2.2.2
      show wpAny _ X.A (do
        if (← field (.ref a2) 1) == .none then unsupported "frame.own-activation:exception-without-traceback"
        setFlight (.ref a2) X.env.frame) _ _ _
      refine wpAny_bind (wpAny_field he3 hd3 h13 ?_)
      rw [if_neg (show ¬ ((Value.ref T3 == Value.none) = true) from by simp)]
      rw [hf]
      refine HandSPX.setFlight_onZ hh3 fun h4 hh4 up4 => tk _ _ ?_
      obtain ⟨oL, es, ep, hoL, hdL, hkL, hfL⟩ := id hn2
      obtain ⟨oI, esI, epI, hoI, hdI, _⟩ := id hnI
      have eL : (sI.heap.update X.env.locals fun _ => oL).get? X.env.locals = some oL := Heap.get?_update_self (fun _ => oL) hoI (Obj.isFreed_of_dict hdL)
      have eO : ∀ b, b ≠ X.env.locals → (sI.heap.update X.env.locals fun _ => oL).get? b = sI.heap.get? b := fun b hb => Heap.get?_update_other _ _ (Ne.symm hb)
      have J2 : Inv X pins (σ.set i none) H { sI with heap := sI.heap.update X.env.locals fun _ => oL, toks := sI.toks } :=
        inv_gone (t' := sI.toks) (m := mI) (v := v) J hN hi hnI ⟨oL, es, ep, eL, hdL, hkL, hfL⟩ (Heap.SameBut.update _ _ _)
      have upB := up3.trans up4
      refine ⟨a2, B, _, pins, _, H, cls, d, rfl, J2, fun b o e hb => ?_, fun b o e hnf => ?_, .inr (.inr (by rw [hs]; exact hh4)), na, os, ag, w⟩
      · have hbL2 : b ≠ X.env.locals := fun z => hb (by rw [z, hs]; exact List.mem_filterMap.mpr ⟨X.env, List.mem_cons_self, hf⟩)
        exact nb b o ((eO b hbL2).symm.trans e) hb
      · by_cases hbL2 : b = X.env.locals
        · subst hbL2
          have e' : some oL = some o := eL.symm.trans e
          cases e'
          exact upB _ _ hoL hnf
        · obtain ⟨sl, e1⟩ := upA b o ((eO b hbL2).symm.trans e) hnf
          obtain ⟨sl2, e2⟩ := upB b _ ((hs2.2 b hbL2).trans e1) hnf
          exact ⟨sl2, e2⟩
    first
      | exact wpAny_bind (wpAny_pure (wpAny_bind go))
      | exact wpAny_bind go
  rcases sky with ⟨hB, hn, hl, oe, vs, he, hz, hd, h1⟩ | fl | hh
  · exact HandSPX.look_newZ Zc.steady hfr hl hf he hB hn hd h1 hz fin
  · exact HandSPX.looks_onZ Zc.steady hfr hf fl fin
  · exact HandSPX.againZ hf hh.2.2.2 (fin s'.heap hh (Heap.UpToSlots.refl _))
end
section
variable {X : Cx} {x n : Str} {c : Value} {i : Nat} {body suite : List Stmt} {b₀ : Stmt} {np pos pos' : Pos} {tb : WX → TS} {ts : Addr → Value → Option Addr → TS} {Wout : WX}
/-- try: body, except x as n: suite that may raise out -/
theorem ps_try_asX (hs : X.stack = X.env :: X.outer) (hf : X.env.frame = some X.env.locals) (hN : X.N.Nodup) (hi : X.N[i]? = some n) (hln : X.env.kindOf n = some .local) (hc : Names X x c) (tk : L2.Takes X Wout)
    (hb : ∀ (W : WX) (pn : List (Addr × Obj)) (xe : Value → Shared → Prop), L2N.Takes (X.tr pn xe) W → PassesOwn (model X.prog X.w) X.A X.env xe → PSs (X.tr pn xe) body (tb W))
    (hsu : ∀ (a : Addr) (oe : Obj) (cls : Value) (d : Option Addr) (pn : List (Addr × Obj)) (xe : Value → Shared → Prop), L2N.Zn cls d oe → (∃ vs, oe.data = .fields vs) → L2.Takes (suiteA X a ((a, oe) :: pn) xe) (fun c d σ H => Wout c d (σ.set i none) H) → HotC (suiteA X a ((a, oe) :: pn) xe) →
      PSs (suiteA X a ((a, oe) :: pn) xe) (b₀ :: suite) (ts a cls d)) :
    PS X (.Try body [.ExceptHandler (some (.Name x np)) (some n) (b₀ :: suite) pos'] [] [] pos) (fun D σ H => tb (wAs X.K c i ts Wout D) D σ H) := by
  refine ⟨fun pins s σ H D I h => ?_⟩
  have ok := I.ok
  have hfr : X.A.frames = some (X.env :: X.outer) := by rw [ok.frames, hs]
  have hloc : Loc X.env.scope n := .inl hln
  refine wpAny_Try_except ?_
  refine wpAny_mono ((hb (wAs X.K c i ts Wout D) (X.pn ++ pins) (fun e s₁ => wpAny (model X.prog X.w) X.A (noteFrame e X.env) (fun _ s₂ => wpAny (model X.prog X.w) X.A (setFlight e none) (fun _ s₃ =>
    wpAny (model X.prog X.w) X.A (handleBy e X.env [.ExceptHandler (some (.Name x np)) (some n) (b₀ :: suite) pos']) (SP X pins D) X.xe s₃) X.xe s₂) X.xe s₁) (fun u s' xx => ?_) PassesOwn.looking).run [] s σ H D (I.toTry _) h) (fun f s1 hsp => ?_) (fun e s1 he => he)
  · obtain ⟨a, B, sI, pins', σ', H', cls, d, rfl, J', nb, up, sky, na, os, ag, b, hb1, hyes, hno⟩ := xx
    have J : Inv X pins σ' H' sI := J'.ofTry ok
    have sky' : Sky B (X.env :: X.outer) a (L2N.Zn cls d) X.env.locals s'.heap := by rw [← hs]; exact sky
    show wpAny (model X.prog X.w) X.A (noteFrame (.ref a) X.env) _ _ _
    refine L2N.Sky.land L2N.Zn.steady hfr hf sky' fun h3 fl3 up3 => ?_
    have J3 : Inv X pins σ' H' { s' with heap := h3 } := J.landed nb fl3.1 (up.trans up3) os ag
    obtain ⟨oe3, vs3, he3, hz3, hd3⟩ := fl3.there
    have nfr : a ∉ frs (X.env :: X.outer) := fun hm => by
      obtain ⟨_, o', e', hnf⟩ := fl3.2.2.1.mem hm
      rw [he3] at e'; cases e'
      exact hnf _ hd3
    have nL : a ≠ X.env.locals := fun z => nfr (List.mem_filterMap.mpr ⟨X.env, List.mem_cons_self, by rw [hf, z]⟩)
    have nF : a ∉ X.fs := fun hm => by
      obtain ⟨e, he, q⟩ := List.mem_filterMap.mp hm
      exact nfr (List.mem_filterMap.mpr ⟨e, List.mem_cons_of_mem _ he, q⟩)
    have S3 := J3.suite he3 hd3 na nL nF
    refine wpAny_handleBy_cons (codeAny_handlers_test ?_) (by intro q; cases q)
    have LT : PySem.W.Looks (model X.prog X.w) h3 (typeOf (.ref a)) cls := fun A Q E s k q => wpAny_typeOf_ref (k _ _ he3) (by rw [hz3.1]; exact q)
    have LM := PySem.W.exm_one (M := model X.prog X.w) (J3.kIn) LT hb1
    have test : ∀ {Q : Value → Shared → Prop} {E : Value → Shared → Prop}, Q c { s' with heap := h3 } → wpAny (model X.prog X.w) (X.A.mark (some (.ref a))) (eval (.Name x np) X.env) Q E { s' with heap := h3 } := fun {Q E} q => by
      obtain ⟨hg, hdbg, hm | ⟨hm, hv, hnn⟩⟩ := hc
      · exact ld_glob (X := X.suite a ((a, oe3) :: (X.pn ++ pins))) S3 hg hm q hdbg
      · exact ld_blt (X := X.suite a ((a, oe3) :: (X.pn ++ pins))) S3 hg hm hv q hnn hdbg
    refine test (LM.here ?_)
    cases b with
    | true =>
      refine codeAny_handlers_suite_as ?_
      refine HandSPX.lands_againZ fl3 fun h4 fl4 up4 => ?_
      have J4 : Inv X pins σ' H' { s' with heap := h4 } := J.landed nb fl4.1 ((up.trans up3).trans up4) os ag
      obtain ⟨oe4, vs4, he4, hz4, hd4⟩ := fl4.there
      have S4 := J4.suite he4 hd4 na nL nF
      refine store_ok (X := X.suite a ((a, oe4) :: (X.pn ++ pins))) (v := .ref a) S4 hN hi hloc rfl (fun s5 S5 => ?_) (.inr hln)
      have hot : ∀ xe, HotC (suiteA X a ((a, oe4) :: (X.pn ++ pins)) xe) := fun xe => ⟨(a, oe4), ⟨rfl, vs4, hd4, hz4.2.2 vs4 hd4⟩, List.mem_cons_self⟩
      have end_ : ∀ {σ6 : L2.St} {H6 : Hp} {s6 : Shared} {Q : Shared → Prop} {xe : Value → Shared → Prop} {E : Value → Shared → Prop}, Inv (suiteA X a ((a, oe4) :: (X.pn ++ pins)) xe) [] σ6 H6 s6 → (∀ s7, Inv X pins (σ6.set i none) H6 s7 → Q s7) → wpAny (model X.prog X.w) X.A (do bindName X.env n .none; unbindBehindTheSuite X.env n pos') (fun _ s7 => Q s7) E s6 := fun {σ6 H6 s6 Q xe E} S6 hq =>
        gone_ok (Inv.unsuite (X := X) (a := a) (q := (a, oe4)) (pn' := []) (show Inv (X.suite a ((a, oe4) :: (X.pn ++ pins))) [] σ6 H6 s6 from S6.wish fun _ _ => False) ok) hN hi hln hq
      refine wpAny_mono ((hsu a oe4 cls d (X.pn ++ pins) _ hz4 ⟨_, hd4⟩ (fun u s' x => takes_as (pins := pins) (pos := pos') hs hf hN hi hln tk ok x) (hot _)).run [] s5 _ H' _ (Inv.unwish (X := suiteA X a ((a, oe4) :: (X.pn ++ pins)) _) (E := fun _ _ => False) S5) (hyes rfl a na)) (fun f s6 hsp => ?_) (fun _ _ z => z)
      cases f with
      | next => obtain ⟨σ6, H6, S6, q6⟩ := hsp; exact end_ S6 fun s7 J7 => ⟨_, _, J7, q6⟩
      | brk => obtain ⟨σ6, H6, S6, q6⟩ := hsp; exact end_ S6 fun s7 J7 => ⟨_, _, J7, q6⟩
      | cont => obtain ⟨σ6, H6, S6, q6⟩ := hsp; exact end_ S6 fun s7 J7 => ⟨_, _, J7, q6⟩
      | ret u => obtain ⟨v6, σ6, H6, S6, r6, q6⟩ := hsp; exact end_ S6 fun s7 J7 => ⟨_, _, _, J7, r6, q6⟩
    | false =>
      show wpAny _ X.A (handleBy (.ref a) X.env []) _ _ _
      refine wpAny_handleBy_nil ?_
      have fl3' := flyingZ_imp (Z' := Zc cls d) (fun o z => z.zc) fl3
      obtain ⟨k1, k2, k3, oe, vs, T, oT, ts', he, hz, hd, h1, hr⟩ := id fl3'
      unfold PySem.passOn
      refine wpAny_bind (wpAny_field he hd h1 ?_)
      rw [if_neg (show ¬ ((Value.ref T == Value.none) = true) from by simp)]
      have fin : wpAny (model X.prog X.w) X.A (setFlight (.ref a) X.env.frame) (fun _ s4 => wpAny (model X.prog X.w) X.A (throw (.ref a) : Sem Flow) (SP X pins D) X.xe s4) X.xe { s' with heap := h3 } := by
        rw [hf]
        refine HandSPX.setFlight_upZ fl3' fun h4 hh4 up4 => wpAny_throw (tk _ _ ?_)
        exact ⟨a, B, sI, pins, σ', H', cls, d, rfl, J, nb, (up.trans up3).trans up4, .inr (.inr (by rw [hs]; exact hh4)), na, os, ag, hno rfl⟩
      first
        | exact wpAny_bind (wpAny_pure (wpAny_bind fin))
        | exact wpAny_bind fin
  · cases f with
    | next => obtain ⟨σ', H', J', q⟩ := hsp; exact wpAny_execs_nil ⟨σ', H', J'.ofTry ok, q⟩
    | brk => obtain ⟨σ', H', J', q⟩ := hsp; exact ⟨σ', H', J'.ofTry ok, q⟩
    | cont => obtain ⟨σ', H', J', q⟩ := hsp; exact ⟨σ', H', J'.ofTry ok, q⟩
    | ret u => obtain ⟨v, σ', H', J', r, q⟩ := hsp; exact ⟨v, σ', H', J'.ofTry ok, r, q⟩
end
end L2H
namespace L2
open PySem PySem.Spec PyProof.Rows L2H HotX
section
variable {P : Program} {w : World} {K : PySem.W.Frag} {mg : Str → Option Value} {base : Heap}
/-- as Fun.okX, for a def whose exceptions have no context -/
theorem Fun.okN {x qual : Str} {st : Stmt} {f : Addr} {fd : FuncData} {N ps : List Str} {k : Nat} {sp : Sp} (F : Fun K x qual st f fd) (S : FnScope N ps (defScope st)) (len : ∀ vs H Q E, sp vs H Q E → vs.length = ps.length)
    (hbody : ∀ (cdv : Value) (A : Around) (outer : List Env) (s : Shared) (H : Hp) (vs : List V) (Q : VK) (E : XK), Room k (A.deeper (envOfC qual (defScope st) s.heap.objs.size f cdv)) → sp vs H Q E →
      ∃ t, PSs (cxOf (L2N.CX P w) P w K mg base N qual (defScope st) f cdv A outer s H E) (defBody st) t ∧ t { nx := fun _ H' => Q .non H', rt := Q } (start N vs) H) : FnOk P w K mg base (L2N.CX P w) (k + 1) f fd ps sp := by
  obtain ⟨oc, od, kV, doc, pm, an, cdv, ct, osl, rfl, lk, hcd⟩ := F.ex
  exact fn_of lk hcd S len fun A outer s H vs Q E hr hsp => hbody cdv A outer s H vs Q E hr hsp
theorem FnOk.toX {k : Nat} {f : Addr} {fd : FuncData} {ps : List Str} {sp : Sp} (F : FnOk P w K mg base (L2N.CX P w) k f fd ps sp) : FnOk P w K mg base (L2.CX P w) k f fd ps sp :=
  ⟨F.len, fun A outer s H args us vs Q E hr e b r h => codeAny_mono (F.run A outer s H args us vs Q E hr e b r h) fun r s' q => by
    cases r with
    | error e =>
      obtain ⟨a, B, H', cls, d, e1, fl, hok, ub, na, os, ag, hE⟩ := q
      exact ⟨a, B, H', cls, d, e1, flyingZ_imp (fun o z => z.zc) fl, hok, ub, na, os, ag, hE⟩
    | ok fl => cases fl <;> exact q⟩
theorem _root_.L2H.RoomH.u2 {k : Nat} {A : Around} (r : RoomH k A) : A.units + 2 < cLine := by have := r.un; omega
/-- a def's promise while an exception is handled -/
theorem Fun.okH {x qual : Str} {st : Stmt} {f : Addr} {fd : FuncData} {N ps : List Str} {k : Nat} {sp : Sp} (F : Fun K x qual st f fd) (S : FnScope N ps (defScope st)) (len : ∀ vs H Q E, sp vs H Q E → vs.length = ps.length)
    (hbody : ∀ (cdv : Value) (A : Around) (outer : List Env) (s : Shared) (H : Hp) (vs : List V) (Q : VK) (E : XK) (p : Addr × Obj), Hot1 A p → RoomH k (A.deeper (envOfC qual (defScope st) s.heap.objs.size f cdv)) → sp vs H Q E →
      ∃ t, PSs (cxH CX0 P w K mg base N qual (defScope st) f cdv A outer s H E p).nox (defBody st) t ∧ t { nx := fun _ H' => Q .non H', rt := Q } (start N vs) H) : FnH P w K mg base CX0 (k + 1) f fd ps sp := by
  obtain ⟨oc, od, kV, doc, pm, an, cdv, ct, osl, rfl, lk, hcd⟩ := F.ex
  refine fn_ofH lk hcd S len fun A outer s H vs Q E p hp hr hsp => ?_
  obtain ⟨t, h, q⟩ := hbody cdv A outer s H vs Q E p hp hr hsp
  exact ⟨t, h.nox, q⟩
theorem FunD.okH {x qual : Str} {params : Arguments} {body : List Stmt} {scope : Scope} {dvs : List V} {f : Addr} {fd : FuncData} {N ps : List Str} {k : Nat} {sp : Sp} (F : FunD K x qual params body scope dvs [] f fd) (S : FnScope N ps scope) (len : ∀ vs H Q E, sp vs H Q E → vs.length = ps.length)
    (hbody : ∀ (cdv : Value) (A : Around) (outer : List Env) (s : Shared) (H : Hp) (vs : List V) (Q : VK) (E : XK) (p : Addr × Obj), Hot1 A p → RoomH k (A.deeper (envOfC qual scope s.heap.objs.size f cdv)) → sp vs H Q E →
      ∃ t, PSs (cxH CX0 P w K mg base N qual scope f cdv A outer s H E p).nox body t ∧ t { nx := fun _ H' => Q .non H', rt := Q } (start N vs) H) : FnH P w K mg base CX0 (k + 1) f fd ps sp := by
  obtain ⟨⟨oc, od, dV, kV, doc, pm, an, cdv, ct, osl, rfl, lk, hcd, _⟩, _⟩ := F
  refine fn_ofH lk hcd S len fun A outer s H vs Q E p hp hr hsp => ?_
  obtain ⟨t, h, q⟩ := hbody cdv A outer s H vs Q E p hp hr hsp
  exact ⟨t, h.nox, q⟩
end
theorem hotC_cxH {CX : CXT} {P : Program} {w : World} {K : PySem.W.Frag} {mg : Str → Option Value} {base : Heap} {N : List Str} {qual : Str} {scope : Scope} {f : Addr} {cd : Value} {A : Around} {outer : List Env} {s : Shared} {H : Hp} {E : XK} {p : Addr × Obj} (h : Hot1 A p) :
    HotC (cxH CX P w K mg base N qual scope f cd A outer s H E p).nox := ⟨p, ⟨h.1, h.2⟩, List.mem_cons_self⟩
section
variable {X : Cx}
/-- C.m(e, ..) while an exception is handled -/
theorem pe_clsfH {CX : CXT} {k : Nat} {C f : Addr} {fd : FuncData} {ps : List Str} {mc : Value} {sp : Sp} {E : XK} {o e : Expr} {es : List Expr} {m : Str} {pos apos : Pos} {ta : TE} {t : TA} {pl : Sem Bool} (he : PE X o ta) (r : ClX.CRead X.K C mc) (at_ : PySem.W.findCls X.K (.ref C) mc m = some (.val (.ref f)))
    (F : FnH X.prog X.w X.K X.mg X.base CX k f fd ps sp) (hr : RoomH k X.A) (hc : HotC X) (hk : PySem.W.keepIn X.K (.ref f) = true) (hb : Binds X.K fd ps []) (hx : ∀ σ, PassesAt CX X σ E) (ha : PA X (e :: es) t)
    (hst : starEach (e :: es) X.env = (false, eval e X.env) :: starEach es X.env := by rfl) (hpl : (backTo pos (starEach es X.env)).any (·.1) = false := by rfl)
    (ht : eval (.Call (.Attribute o m apos) (e :: es) [] pos) X.env = (do
      let ov ← eval o X.env
      standAt apos.atName
      let (f, first) ← holding [ov] (getMethod ov m pl)
      callWith pos f first (backTo pos (starEach (e :: es) X.env)) (backToKw pos (keywordEach [] X.env))) := by rfl) :
    PE X (.Call (.Attribute o m apos) (e :: es) [] pos) (tClsF C sp E ta t) := by
  refine ⟨fun pins s σ H Q I h => ?_⟩
  refine PySem.W.methodCall_KW (pl := pl) (thn (he.run pins s σ H _ I h) fun u s1 ⟨x, H1, I1, rx, ex, q⟩ => ?_) ht
  subst ex
  obtain rfl : u = Value.ref C := rx
  refine PySem.W.method_cls I1.kIn r.ga (ClX.getcval_ok (v := .ref f) I1 r ⟨at_, rfl⟩ fun s2 I2 => ?_)
  refine PySem.W.callWith_K (h₀ := X.base) I2.ok.mod.kin hk (thn (ha.run pos pins s2 σ H1 _ I2 q) fun us s3 ⟨vs, H2, I3, rv, q2⟩ => ⟨I3.kIn, ?_⟩) hst hpl
  exact run_fnH (E := fun _ => E) F hr hc hb (hx σ) I3 rv q2
/-- C(e, ..), an exception with no context -/
theorem pmkN_oex {CX : CXT} {x : Str} {e : Expr} {es : List Expr} {ta : TA} {p pos : Pos} {C fI : Addr} {k : Nat} {fd : FuncData} {ps : List Str} {sp : Sp} {ds : List Value} {dvs : List V} (T : OexC X.K C) (iC : PySem.W.findIn X.K (.ref C) "__init__" = some (some (.ref fI))) (tI : PySem.W.typeIn X.K (.ref fI) = some (.type "function"))
    (F1 : FnOk X.prog X.w X.K X.mg X.base CX k fI fd ps sp) (hr : Room (k + 1) X.A) (hb : Binds X.K fd ps ds) (hd : Vals dvs ds) (hx : Passes CX X (fun _ _ _ => False)) (hg : Gl X x) (hm : X.mg x = some (.ref C)) (ha : PA X (e :: es) ta)
    (hdb : (x == ("__debug__" : Str)) = false := by decide) (he : starEach (e :: es) X.env = (false, eval e X.env) :: starEach es X.env := by rfl) (hpl : (backTo pos (starEach es X.env)).any (·.1) = false := by rfl) :
    L2N.PMk X (.Call (.Name x p) (e :: es) [] pos) (tMkO C sp dvs ta) := by
  intro pins s σ H Q I h
  obtain ⟨nm, q, N, bs, bm, sn, sub, ab, col, dd, k0, k1, k2, k3, k5, hC, hbm⟩ := T.cls
  refine wpAny_Call_Name_kw (ld_glob I hg hm ?_ hdb)
  refine PySem.W.callWith_K (h₀ := X.base) I.ok.mod.kin T.kC (thn (ha.run pos pins s σ H _ I h) fun us s1 ⟨vs, H1, I1, r1, hz, q1⟩ => ⟨I1.kIn, ?_⟩) he hpl
  show wpAny _ _ (call (.ref C) us) _ _ _
  obtain ⟨hp, g, dr, tk, os⟩ := s1
  have hsz : hp.objs.size ≤ hp.objs.size + 1 := Nat.le_succ _
  have hn : H1 (hp.objs.size + 1) = none := I1.hok.fresh hsz
  have hq := q1 (hp.objs.size + 1) hn
  have kk : ∀ b o, hp.get? b = some o → ((hp.push (PySem.W.kdv_tup us)).push (PySem.HandSPX.excO C hp.objs.size)).get? b = some o := fun b o e => Heap.get?_push_of_some _ (Heap.get?_push_of_some _ e)
  have hget : ((hp.push (PySem.W.kdv_tup us)).push (PySem.HandSPX.excO C hp.objs.size)).get? (hp.objs.size + 1) = some (PySem.HandSPX.excO C hp.objs.size) := by heap_get
  have I2 : Inv X pins σ (upd H1 (hp.objs.size + 1) (exo (hp.objs.size + 1) C none)) ⟨(hp.push (PySem.W.kdv_tup us)).push (PySem.HandSPX.excO C hp.objs.size), g, dr, tk, os⟩ :=
    I1.laid (t' := tk) (a := hp.objs.size + 1) (o := exo (hp.objs.size + 1) C none) (h' := (hp.push (PySem.W.kdv_tup us)).push (PySem.HandSPX.excO C hp.objs.size)) kk hsz (exo_ok hget)
  have r2 : Vals (V.ref (hp.objs.size + 1) :: (vs ++ dvs)) (Value.ref (hp.objs.size + 1) :: (us ++ ds)) := .cons rfl (r1.append hd)
  have hl : (Value.ref (hp.objs.size + 1) :: us ++ ds).length = ps.length := by
    have e := r2.length
    rw [F1.len _ _ _ _ hq] at e
    exact e.symm
  have hus : us.length ≤ sizeLine := by
    rw [← Paired.length r1, sizeLine_eq]
    omega
  refine wpAny_call (PySem.HandSPX.call_own F.excBase_ValueError (fun Y => PySem.HandSPX.refsVE_contains Y bm hbm) (I1.kIn _ _ hC) (PySem.W.looks_findIn I1.kIn iC) (fun self => PySem.W.bind_fn I1.kIn self tI) hus
    (codeAny_mono (F1.run _ X.stack _ _ ⟨Value.ref (hp.objs.size + 1) :: us, []⟩ (Value.ref (hp.objs.size + 1) :: (us ++ ds)) _ _ (fun _ _ _ => False) (hr.make C us []) (I2.env0.make C us []) (hb _ (Value.ref (hp.objs.size + 1) :: us) I2.kIn hl) r2 hq) fun r s' hq' => ?_))
  cases r with
  | error er => exact hx pins σ _ _ er s' I2 hq'
  | ok fl =>
    cases fl with
    | ret u =>
      obtain ⟨v, H2, os2, bare2, un2, hok2, rv, ev, d, fs, ea, ed, hd1, q2⟩ := hq'
      subst ev
      obtain ⟨h2, g2, d2, t2, os'⟩ := s'
      obtain ⟨t0, G, J, kG, ge, hoe, na⟩ := mk_end0 (d2 := d2) (t2 := t2) I1 hsz kk un2 hok2 os2 bare2 ea ed hd1
      refine ⟨rv, hp.objs.size + 1, _, _, ⟨G, g2, d2, t2, os'⟩, _, .ref C, some d, rfl, J, kG, ge, hoe, ⟨rfl, rfl, fun vs hv => ?_⟩, rfl, rfl, na, rfl, bare2, raises_own T.exC T.tyC, q2⟩
      cases hv
      rfl
    | next => exact False.elim hq'
    | brk => exact False.elim hq'
    | cont => exact False.elim hq'
theorem pass0H {X : Cx} {E : XK} : ∀ σ, PassesAt CX0 X σ E := fun _ _ _ _ _ _ _ h => h.elim
end
end L2
namespace K
open PySem PySem.Spec PyProof.Rows L2
open Sw (T3 Dist at? relax roundOf rounds IsNext Cand IsFar nbr candL WayTo lotOf)
/-- a def whose exceptions have no context, as it can be called -/
structure CalN (P : Program) (w : World) (K : PySem.W.Frag) (mg : Str → Option Value) (base : Heap) (k : Nat) (x : Str) (f : Addr) (fd : FuncData) (ps : List Str) (sp : Sp) : Prop where
  ok : FnOk P w K mg base (L2N.CX P w) k f fd ps sp
  g : mg x = some (.ref f)
  kp : PySem.W.keepIn K (.ref f) = true
  b : Binds K fd ps []
theorem CalN.x {P : Program} {w : World} {K : PySem.W.Frag} {mg : Str → Option Value} {base : Heap} {k : Nat} {x : Str} {f : Addr} {fd : FuncData} {ps : List Str} {sp : Sp} (h : CalN P w K mg base k x f fd ps sp) : CalX P w K mg base k x f fd ps sp := ⟨h.ok.toX, h.g, h.kp, h.b⟩
/-- a refusal's class with the promise of its __init__ while an exception is handled -/
structure ExcH (P : Program) (w : World) (K : PySem.W.Frag) (mg : Str → Option Value) (base : Heap) (k : Nat) (x : Str) (C fI : Addr) (fd : FuncData) (ps : List Str) (sp : Sp) : Prop where
  t : ExcT K mg x C fI
  ok : L2H.FnH P w K mg base CX0 k fI fd ps sp
  b : Binds K fd ps []
/-- C(i, j) of two ints -/
def spIn2 (K : PySem.W.Frag) (f g wd : Str) : Sp := fun vs H Q _ => ∃ (a C : Addr) (i j : Int), vs = [.ref a, .int i, .int j] ∧ i.natAbs.log2 < 1920 ∧ j.natAbs.log2 < 1920 ∧ OexC K C ∧ PySem.W.findIn K (.ref C) "word" = some none ∧ PySem.W.findIn K (.ref C) f = some none ∧ PySem.W.findIn K (.ref C) g = some none ∧ H a = some (exo a C none) ∧
  ∀ (dx : Addr) (H' : Hp), H dx = none → dx ≠ a → (∀ b o, H b = some o → b ≠ a → H' b = some o) → H' a = some (exo a C (some dx)) → H' dx = some (exd dx [(g, .int j), (f, .int i), ("word", .str wd)]) → Q .non H'
def TieX (CT : Addr) (i j : Int) (H : Hp) (E : XK) : Prop := ∀ (d : Addr) (H' : Hp), H d = none → Same H H' → H' d = some (.xd [("other", .int j), ("one", .int i), ("word", .str "notie")]) → E (.ref CT) (some d) H'
/-- the ties but those that join u and v -/
def lft (ts : List T3) (u v : Nat) : List T3 := ts.filter fun e => !((e.1 == u && e.2.1 == v) || (e.2.1 == u && e.1 == v))
theorem lft_sub {ts : List T3} {u v : Nat} : ∀ e ∈ lft ts u v, e ∈ ts := fun e m => (List.mem_filter.mp m).1
theorem lft_len (ts : List T3) (u v : Nat) : (lft ts u v).length ≤ ts.length := List.length_filter_le _ _
theorem lft_fits {n : Nat} {ts : List T3} {u v : Nat} (h : Fits n ts) : Fits n (lft ts u v) := fun e m => h e (lft_sub e m)
theorem lft_good {n : Nat} {ts : List T3} {u v : Nat} (h : Good n ts) : Good n (lft ts u v) := fun e m => h e (lft_sub e m)
def spWithout : Sp := fun vs H Q _ => ∃ (u v : Nat) (t : Addr) (ts : List T3), vs = [.ref t, .int (u : Nat), .int (v : Nat)] ∧ TiesAt H t ts ∧ ts.length ≤ 400 ∧ ∀ p H', H p = none → Same H H' → TiesAt H' p (lft ts u v) → Q (.ref p) H'
def spRoundX (CH CT CL : Addr) : Sp := fun vs H Q E => ∃ (n : Nat) (s g : Int) (t : Addr) (ts : List T3), vs = [.int (n : Nat), .ref t, .int s, .int g] ∧ n ≤ 9 ∧ s.natAbs.log2 < 1920 ∧ g.natAbs.log2 < 1920 ∧ TiesAt H t ts ∧ ts.length ≤ 400 ∧ Fits n ts ∧ (∀ e ∈ ts, 1 ≤ e.2.2 ∧ e.2.2 ≤ 9) ∧
  (¬ (0 ≤ s ∧ s < n) → HouseX CH s H E) ∧ (0 ≤ s ∧ s < n → ¬ (0 ≤ g ∧ g < n) → HouseX CH g H E) ∧ (0 ≤ s ∧ s < n → g = s → TieX CT s g H E) ∧
  (∀ s' g' : Nat, s = s' → g = g' → s' < n → g' < n → s' ≠ g' → at? (farD n (lft ts s' g') g') s' = none → LotX CL "lone" (lotOf n (farD n (lft ts s' g') s')) H E) ∧
  (∀ (s' g' c : Nat) (way : List Nat), s = s' → g = g' → s' < n → g' < n → s' ≠ g' → at? (farD n (lft ts s' g') g') s' = some c → WayTo (both (lft ts s' g')) (farD n (lft ts s' g') g') g' s' way → way.length ≤ 100 → ∀ p H', H p = none → Same H H' → PriceWay H' p c way → Q (.ref p) H')
end K
namespace L2
open PySem PySem.Spec PyProof.Rows
section
variable {X : Cx}
/-- x not in a tuple of data -/
def rNotInDT (K : PySem.W.Frag) : R2 := fun x y H Q => ∃ d ds, Dp K H x d ∧ Dp K H y (.tuple ds) ∧ SeqAt.shaped d = true ∧ SeqAt.shaped (.tuple ds) = true ∧ Q (.bl (!ds.any fun z => PyData.eqv z d)) H
theorem op_notInDT (hu : X.A.units + 65 < cLine) : OpR X (compareOp .NotIn) (rNotInDT X.K) := by
  intro pins s σ H x y v u Q I rx ry h
  obtain ⟨d, ds, hd, he, sd, se, q⟩ := h
  obtain ⟨as, r1⟩ := Dp.reads I d x v hd rx
  obtain ⟨bs, r2⟩ := Dp.reads I (.tuple ds) y u he ry
  exact SeqAt.notIn_tuple_reads r2 r1 (SeqAt.canLay_of_shaped se) (SeqAt.canLay_of_shaped sd) (room_in_shaped sd hu) ⟨.bl _, H, I, rfl, q⟩
end
end L2
namespace K
open PySem PySem.Spec PyProof.Rows L2
def pairD (i j : Int) : PyData := .tuple [.int i, .int j]
theorem pair_shaped (i j : Int) : SeqAt.shaped (pairD i j) = true := by
  unfold SeqAt.shaped pairD
  simp [PyData.canLay0, PyData.canLayAll0, PyData.depth, PyData.depthAll]
theorem pairs_shaped (i j k l : Int) : SeqAt.shaped (.tuple [pairD i j, pairD k l]) = true := by
  unfold SeqAt.shaped pairD
  simp [PyData.canLay0, PyData.canLayAll0, PyData.depth, PyData.depthAll]
theorem pair_eqv (i j k l : Int) : PyData.eqv (pairD i j) (pairD k l) = decide (i = k ∧ j = l) := by
  simp [pairD, PyData.eqv, PyData.eqvAll, Bool.beq_eq_decide_eq]
theorem dp_pair {K : PySem.W.Frag} {H : Hp} {p : Addr} {i j : Int} (h : H p = some (.tup [.int i, .int j])) : Dp K H (.ref p) (pairD i j) := .tup (SqT.of h) (.cons (.int _) (.cons (.int _) .nil))
end K

/-! refusals held as values -/
namespace L2
open PySem PySem.Spec PyProof.Rows
/-- what a class must have for isinstance of its instances -/
structure IsC (K : PySem.W.Frag) (C : Addr) : Prop where
  cl : (PySem.W.clsIn K C).isSome = true
  ha : PySem.W.findIn K (.ref C) "__class__" = some (some (.builtin "object.__class__"))
  hn : PySem.W.specialIn K (.builtin "object.__class__") "__get__" = some (some (.builtin "getset_descriptor.__get__"))
  ht : PySem.W.takesIn K (.builtin "object.__class__") = some true
  hm : PySem.W.mroIn K C (.type "object") = some true
section
variable {X : Cx}
/-- a refusal that stands: its class, its fields -/
def ExAt (H : Hp) (a C : Addr) (fs : List (Str × V)) : Prop := ∃ dx, H a = some (exo a C (some dx)) ∧ H dx = some (exd dx fs)
theorem ExAt.same {H H' : Hp} {a C : Addr} {fs : List (Str × V)} (h : ExAt H a C fs) (s : ∀ b o, H b = some o → H' b = some o) : ExAt H' a C fs := by
  obtain ⟨dx, h1, h2⟩ := h
  exact ⟨dx, s _ _ h1, s _ _ h2⟩
theorem ExAt.put {H : Hp} {a C l : Addr} {fs : List (Str × V)} {xs ys : List V} (h : ExAt H a C fs) (hl : H l = some (.lst xs)) : ExAt (upd H l (.lst ys)) a C fs := by
  obtain ⟨dx, h1, h2⟩ := h
  refine ⟨dx, ?_, ?_⟩
  · rw [upd_ne (ne_of h1 hl (fun z => by cases z))]; exact h1
  · rw [upd_ne (ne_of h2 hl (fun z => by cases z))]; exact h2
/-- C(e, ..) as a value: R tells what is asked of the arguments -/
theorem pe_valG {CX : CXT} {R : List V → Hp → VK → Prop} {x : Str} {e : Expr} {es : List Expr} {ta : TA} {p pos : Pos} {C fI : Addr} {k : Nat} {fd : FuncData} {ps : List Str} {sp : Sp} (T : OexC X.K C) (iC : PySem.W.findIn X.K (.ref C) "__init__" = some (some (.ref fI))) (tI : PySem.W.typeIn X.K (.ref fI) = some (.type "function"))
    (F1 : FnOk X.prog X.w X.K X.mg X.base CX k fI fd ps sp) (hr : Room (k + 1) X.A) (hb : Binds X.K fd ps []) (hx : Passes CX X (fun _ _ _ => False)) (hg : Gl X x) (hm : X.mg x = some (.ref C)) (ha : PA X (e :: es) ta) (hR : ∀ vs H1 Q, R vs H1 Q → vs.length ≤ 1000 ∧ ∀ a, H1 a = none → sp (.ref a :: vs) (upd H1 a (exo a C none)) (fun v H2 => v = .non ∧ Q (.ref a) H2) (fun _ _ _ => False))
    (hdb : (x == ("__debug__" : Str)) = false := by decide) (he : starEach (e :: es) X.env = (false, eval e X.env) :: starEach es X.env := by rfl) (hpl : (backTo pos (starEach es X.env)).any (·.1) = false := by rfl) :
    PE X (.Call (.Name x p) (e :: es) [] pos) (fun σ H Q => ta σ H fun vs H1 => R vs H1 Q) := by
  refine ⟨fun pins s σ H Q I h => ?_⟩
  obtain ⟨nm, q, N, bs, bm, sn, sub, ab, col, dd, k0, k1, k2, k3, k5, hC, hbm⟩ := T.cls
  refine wpAny_Call_Name_kw (ld_glob I hg hm ?_ hdb)
  refine PySem.W.callWith_K (h₀ := X.base) I.ok.mod.kin T.kC (thn (ha.run pos pins s σ H _ I h) fun us s1 ⟨vs, H1, I1, r1, rr⟩ => ⟨I1.kIn, ?_⟩) he hpl
  obtain ⟨hz, q1⟩ := hR _ _ _ rr
  show wpAny _ _ (call (.ref C) us) _ _ _
  obtain ⟨hp, g, dr, tk, os⟩ := s1
  have hsz : hp.objs.size ≤ hp.objs.size + 1 := Nat.le_succ _
  have hn : H1 (hp.objs.size + 1) = none := I1.hok.fresh hsz
  have hq := q1 (hp.objs.size + 1) hn
  have kk : ∀ b o, hp.get? b = some o → ((hp.push (PySem.W.kdv_tup us)).push (PySem.HandSPX.excO C hp.objs.size)).get? b = some o := fun b o e => Heap.get?_push_of_some _ (Heap.get?_push_of_some _ e)
  have hget : ((hp.push (PySem.W.kdv_tup us)).push (PySem.HandSPX.excO C hp.objs.size)).get? (hp.objs.size + 1) = some (PySem.HandSPX.excO C hp.objs.size) := by heap_get
  have I2 : Inv X pins σ (upd H1 (hp.objs.size + 1) (exo (hp.objs.size + 1) C none)) ⟨(hp.push (PySem.W.kdv_tup us)).push (PySem.HandSPX.excO C hp.objs.size), g, dr, tk, os⟩ :=
    I1.laid (t' := tk) (a := hp.objs.size + 1) (o := exo (hp.objs.size + 1) C none) (h' := (hp.push (PySem.W.kdv_tup us)).push (PySem.HandSPX.excO C hp.objs.size)) kk hsz (exo_ok hget)
  have r2 : Vals (V.ref (hp.objs.size + 1) :: vs) (Value.ref (hp.objs.size + 1) :: us) := .cons rfl r1
  have hl : (Value.ref (hp.objs.size + 1) :: us ++ []).length = ps.length := by
    have e := r2.length
    rw [F1.len _ _ _ _ hq] at e
    rw [List.append_nil]
    exact e.symm
  have hus : us.length ≤ sizeLine := by
    rw [← Paired.length r1, sizeLine_eq]
    omega
  have b2 := hb _ (Value.ref (hp.objs.size + 1) :: us) I2.kIn hl
  rw [List.append_nil] at b2
  refine wpAny_call (PySem.HandSPX.call_own F.excBase_ValueError (fun Y => PySem.HandSPX.refsVE_contains Y bm hbm) (I1.kIn _ _ hC) (PySem.W.looks_findIn I1.kIn iC) (fun self => PySem.W.bind_fn I1.kIn self tI) hus
    (codeAny_mono (F1.run _ X.stack _ _ ⟨Value.ref (hp.objs.size + 1) :: us, []⟩ (Value.ref (hp.objs.size + 1) :: us) _ _ (fun _ _ _ => False) (hr.make C us []) (I2.env0.make C us []) b2 r2 hq) fun r s' hq' => ?_))
  cases r with
  | error er => exact hx pins σ _ _ er s' I2 hq'
  | ok fl =>
    cases fl with
    | ret u =>
      obtain ⟨v, H2, J, rv, ev, q2⟩ := I2.after hq'
      subst ev
      exact ⟨rv, .ref (hp.objs.size + 1), H2, J, rfl, q2⟩
    | next => exact False.elim hq'
    | brk => exact False.elim hq'
    | cont => exact False.elim hq'
/-- e.f of such a value -/
def tXv (K : PySem.W.Frag) (f : Str) (te : TE) : TE := fun σ H Q => te σ H fun x H1 => ∃ (a C : Addr) (fs : List (Str × V)) (v : V), x = .ref a ∧ XfC K C ∧ PySem.W.findIn K (.ref C) f = some none ∧ ExAt H1 a C fs ∧ fs.lookup f = some v ∧ Q v H1
theorem inst_exo {P : Program} {w : World} {H : Hp} {h : Heap} {a C dx : Addr} {fs : List (Str × V)} (hok : HOk P w H h) (ha : H a = some (exo a C (some dx))) (hd : H dx = some (exd dx fs)) :
    ∃ (oe od : Obj) (mA : Str → Option Value), PySem.W.InstAt h a oe C (some od) ∧ (∀ name, PySem.W.lookIn name od = some (mA name)) ∧ ∀ f, RelO (fs.lookup f) (mA f) := by
  obtain ⟨t1, he⟩ := exo_at hok ha
  obtain ⟨mA, hns, hr⟩ := exd_at hok hd
  obtain ⟨od, ho, hl⟩ := lookIn_ns hns
  exact ⟨_, od, mA, ⟨he, rfl, rfl, ho⟩, hl, hr⟩
theorem pe_xv {e : Expr} {te : TE} {pos : Pos} {n : Str} (he : PE X e te) (hb : attributeBase e n X.env (eval e X.env) = eval e X.env := by rfl) : PE X (.Attribute e n pos) (tXv X.K n te) := by
  refine ⟨fun pins s σ H Q I h => ?_⟩
  refine attr_of hb (thn (he.run pins s σ H _ I h) fun u s1 hh => ?_)
  obtain ⟨x, H1, I1, rx, a, C, fs, v, ex, T, hno, ⟨dx, ha, hd⟩, l, q⟩ := hh
  subst ex
  obtain rfl : u = Value.ref a := rx
  obtain ⟨oe, od, mA, J, hl, hr⟩ := inst_exo I1.hok ha hd
  obtain ⟨u, hu, ru⟩ := RelO.some_of (v := v) (o := mA n) (by rw [← l]; exact hr n)
  exact HandSPX.exc_get I1.kIn J T.ga T.gg T.exC (PySem.W.findObj_own T.hdC hno rfl (by rw [hl, hu])) (handed_of ru) ⟨v, H1, I1.tok _, ru, q⟩
theorem pe_xvK {K' : PySem.W.Frag} {e : Expr} {te : TE} {pos : Pos} {n : Str} (hK : X.K = K') (he : PE X e te) (hb : attributeBase e n X.env (eval e X.env) = eval e X.env := by rfl) : PE X (.Attribute e n pos) (tXv K' n te) := hK ▸ pe_xv he hb
/-- isinstance(e, c) of such a value -/
def rIsV (K : PySem.W.Frag) : List V → Hp → VK → Prop := fun xs H Q => ∃ (a C : Addr) (fs : List (Str × V)) (c : V) (cv : Value) (b : Bool), xs = [.ref a, c] ∧ XfC K C ∧ IsC K C ∧ ExAt H a C fs ∧ (∀ u, RelV c u → u = cv) ∧ PySem.W.kitOne K (.ref C) cv = some b ∧ Q (.bl b) H
theorem call_isV : CallR X (.builtin "isinstance") (rIsV X.K) := by
  intro pins s σ H xs us Q I r h
  obtain ⟨a, C, fs, c, cv, b, rfl, T, S, ⟨dx, ha, hd⟩, hcv, e, q⟩ := h
  cases r with
  | cons rx rr =>
    cases rr with
    | cons rt rr =>
      cases rr
      cases rx
      have ec := hcv _ rt
      subst ec
      obtain ⟨oe, od, mA, J, hl, hr⟩ := inst_exo I.hok ha hd
      exact PySem.W.kia_one (PySem.W.kitx_exc S.cl T.ga T.gg T.exC S.ha S.hn S.ht S.hm) I.kIn J e (fun z => nomatch z) fun tk => ⟨.bl b, H, I.kept (t' := tk) fun _ _ z => z, rfl, q⟩
end
end L2
namespace K
open PySem PySem.Spec PyProof.Rows L2
def askStr : Hp → V → Prop := fun _ v => ∃ y : Str, v = .str y ∧ y.length ≤ 1000
def spInS (K : PySem.W.Frag) (f g wd : Str) : Sp := fun vs H Q _ => ∃ (a C : Addr) (i : Int) (y : Str), vs = [.ref a, .int i, .str y] ∧ i.natAbs.log2 < 1920 ∧ y.length ≤ 1000 ∧ OexC K C ∧ PySem.W.findIn K (.ref C) "word" = some none ∧ PySem.W.findIn K (.ref C) f = some none ∧ PySem.W.findIn K (.ref C) g = some none ∧ H a = some (exo a C none) ∧
  ∀ (dx : Addr) (H' : Hp), H dx = none → dx ≠ a → (∀ b o, H b = some o → b ≠ a → H' b = some o) → H' a = some (exo a C (some dx)) → H' dx = some (exd dx [(g, .str y), (f, .int i), ("word", .str wd)]) → Q .non H'
theorem free_upd {H : Hp} {a b : Addr} {o : HO} (h : (upd H a o) b = none) : H b = none := by
  by_cases e : b = a
  · subst e
    rw [upd_same] at h
    cases h
  · rwa [upd_ne e] at h
section
variable {X : Cx} {x : Str} {p pos : Pos} {C fI : Addr} {k : Nat} {fd : FuncData}
/-- C(e), one field -/
def rNew1 (C : Addr) (f wd : Str) (ask : Hp → V → Prop) (got : Hp → Hp → V → V → Prop) : List V → Hp → VK → Prop := fun vs H Q => ∃ v, vs = [v] ∧ ask H v ∧ ∀ (a : Addr) (v' : V) (H' : Hp), H a = none → Same H H' → ExAt H' a C [(f, v'), ("word", .str wd)] → got H H' v v' → Q (.ref a) H'
structure Mono (ask : Hp → V → Prop) (got : Hp → Hp → V → V → Prop) : Prop where
  a : ∀ H H' v, Same H H' → ask H v → ask H' v
  g : ∀ H H0 H' v v', (∀ b, H0 b = none → H b = none) → got H0 H' v v' → got H H' v v'
theorem monoI : Mono askInt gotSame := ⟨fun _ _ _ _ h => h, fun _ _ _ _ _ _ h => h⟩
theorem monoS : Mono askStr gotSame := ⟨fun _ _ _ _ h => h, fun _ _ _ _ _ _ h => h⟩
theorem monoL {K : PySem.W.Frag} : Mono (askLot K) gotLot := ⟨fun _ _ _ s ⟨l, ns, e, h, r⟩ => ⟨l, ns, e, s _ _ h, r⟩, fun _ _ _ _ _ hb ⟨l, l', xs, e1, e2, h1, h2, ne, h3⟩ => ⟨l, l', xs, e1, e2, h1, h2, ne, hb _ h3⟩⟩
theorem pe_new1 {f wd : Str} {e : Expr} {ta : TA} {ask : Hp → V → Prop} {got : Hp → Hp → V → V → Prop} (c : ExcC X.prog X.w X.K X.mg X.base k x C fI fd ["self", f] (spIn1 X.K f wd ask got)) (M : Mono ask got) (fl : PySem.W.findIn X.K (.ref C) f = some none) (hr : Room (k + 1) X.A) (hg : Gl X x) (ha : PA X [e] ta)
    (hdb : (x == ("__debug__" : Str)) = false := by decide) (he : starEach [e] X.env = (false, eval e X.env) :: starEach [] X.env := by rfl) (hpl : (backTo pos (starEach [] X.env)).any (·.1) = false := by rfl) :
    PE X (.Call (.Name x p) [e] [] pos) (fun σ H Q => ta σ H fun vs H1 => rNew1 C f wd ask got vs H1 Q) :=
  pe_valG (R := rNew1 C f wd ask got) c.t.oex c.t.iC c.t.tI c.ok hr c.b pass0 hg c.t.g ha (fun vs H1 Q ⟨v, e1, hask, q⟩ => by
    subst e1
    exact ⟨by simp, fun a na => ⟨a, C, v, rfl, M.a _ _ _ (same_upd na) hask, c.t.oex, c.t.word, fl, upd_same, fun dx v' H' ndx ne hk ha hd hgot => ⟨rfl, q a v' H' na (fun b o e => hk b o (by rw [upd_ne (ne_of_none e na)]; exact e) (ne_of_none e na)) ⟨dx, ha, hd⟩ (M.g _ _ _ _ _ (fun b => free_upd) hgot)⟩⟩⟩) hdb he hpl
/-- C(i, j), C(i, y) -/
def rNew2 (C : Addr) (f g wd : Str) : List V → Hp → VK → Prop := fun vs H Q => ∃ i j : Int, vs = [.int i, .int j] ∧ i.natAbs.log2 < 1920 ∧ j.natAbs.log2 < 1920 ∧ ∀ (a : Addr) (H' : Hp), H a = none → Same H H' → ExAt H' a C [(g, .int j), (f, .int i), ("word", .str wd)] → Q (.ref a) H'
def rNewS (C : Addr) (f g wd : Str) : List V → Hp → VK → Prop := fun vs H Q => ∃ (i : Int) (y : Str), vs = [.int i, .str y] ∧ i.natAbs.log2 < 1920 ∧ y.length ≤ 1000 ∧ ∀ (a : Addr) (H' : Hp), H a = none → Same H H' → ExAt H' a C [(g, .str y), (f, .int i), ("word", .str wd)] → Q (.ref a) H'
theorem pe_new2 {f g wd : Str} {e e2 : Expr} {ta : TA} (c : ExcC X.prog X.w X.K X.mg X.base k x C fI fd ["self", f, g] (spIn2 X.K f g wd)) (fl : PySem.W.findIn X.K (.ref C) f = some none) (gl : PySem.W.findIn X.K (.ref C) g = some none) (hr : Room (k + 1) X.A) (hg : Gl X x) (ha : PA X [e, e2] ta)
    (hdb : (x == ("__debug__" : Str)) = false := by decide) (he : starEach [e, e2] X.env = (false, eval e X.env) :: starEach [e2] X.env := by rfl) (hpl : (backTo pos (starEach [e2] X.env)).any (·.1) = false := by rfl) :
    PE X (.Call (.Name x p) [e, e2] [] pos) (fun σ H Q => ta σ H fun vs H1 => rNew2 C f g wd vs H1 Q) :=
  pe_valG (R := rNew2 C f g wd) c.t.oex c.t.iC c.t.tI c.ok hr c.b pass0 hg c.t.g ha (fun vs H1 Q ⟨i, j, e1, hi, hj, q⟩ => by
    subst e1
    exact ⟨by simp, fun a na => ⟨a, C, i, j, rfl, hi, hj, c.t.oex, c.t.word, fl, gl, upd_same, fun dx H' ndx ne hk ha hd => ⟨rfl, q a H' na (fun b o e => hk b o (by rw [upd_ne (ne_of_none e na)]; exact e) (ne_of_none e na)) ⟨dx, ha, hd⟩⟩⟩⟩) hdb he hpl
theorem pe_newS {f g wd : Str} {e e2 : Expr} {ta : TA} (c : ExcC X.prog X.w X.K X.mg X.base k x C fI fd ["self", f, g] (spInS X.K f g wd)) (fl : PySem.W.findIn X.K (.ref C) f = some none) (gl : PySem.W.findIn X.K (.ref C) g = some none) (hr : Room (k + 1) X.A) (hg : Gl X x) (ha : PA X [e, e2] ta)
    (hdb : (x == ("__debug__" : Str)) = false := by decide) (he : starEach [e, e2] X.env = (false, eval e X.env) :: starEach [e2] X.env := by rfl) (hpl : (backTo pos (starEach [e2] X.env)).any (·.1) = false := by rfl) :
    PE X (.Call (.Name x p) [e, e2] [] pos) (fun σ H Q => ta σ H fun vs H1 => rNewS C f g wd vs H1 Q) :=
  pe_valG (R := rNewS C f g wd) c.t.oex c.t.iC c.t.tI c.ok hr c.b pass0 hg c.t.g ha (fun vs H1 Q ⟨i, y, e1, hi, hj, q⟩ => by
    subst e1
    exact ⟨by simp, fun a na => ⟨a, C, i, y, rfl, hi, hj, c.t.oex, c.t.word, fl, gl, upd_same, fun dx H' ndx ne hk ha hd => ⟨rfl, q a H' na (fun b o e => hk b o (by rw [upd_ne (ne_of_none e na)]; exact e) (ne_of_none e na)) ⟨dx, ha, hd⟩⟩⟩⟩) hdb he hpl
end
/-- what all refusals have as values -/
structure ExcG (K : PySem.W.Frag) (CS C : Addr) : Prop where
  xf : XfC K C
  word : PySem.W.findIn K (.ref C) "word" = some none
  is : IsC K C
  k1 : PySem.W.kitOne K (.ref C) (.ref CS) = some true
  k2 : PySem.W.kitOne K (.ref C) (.type "ValueError") = some true
end K

/-! raise C(), a chain of three, methods that raise, sorted(dict) -/
namespace L2
open PySem PySem.Spec PyProof.Rows
section
variable {X : Cx}
theorem pmk_oex0 {CX : CXT} {x : Str} {p pos : Pos} {C fI : Addr} {k : Nat} {fd : FuncData} {ps : List Str} {sp : Sp} (T : OexC X.K C) (iC : PySem.W.findIn X.K (.ref C) "__init__" = some (some (.ref fI))) (tI : PySem.W.typeIn X.K (.ref fI) = some (.type "function"))
    (F1 : FnOk X.prog X.w X.K X.mg X.base CX k fI fd ps sp) (hr : Room (k + 1) X.A) (hb : Binds X.K fd ps []) (hx : Passes CX X (fun _ _ _ => False)) (hg : Gl X x) (hm : X.mg x = some (.ref C))
    (hdb : (x == ("__debug__" : Str)) = false := by decide) :
    PMk X (.Call (.Name x p) [] [] pos) (tMkO C sp [] tNil) := by
  intro pins s σ H1 Q I1 h
  obtain ⟨nm, q, N, bs, bm, sn, sub, ab, col, dd, k0, k1, k2, k3, k5, hC, hbm⟩ := T.cls
  refine wpAny_Call_Name_kw (ld_glob I1 hg hm ?_ hdb)
  refine PySem.W.callWith_K0 I1.kIn T.kC ?_
  obtain ⟨hz, q1⟩ := h
  show wpAny _ _ (call (.ref C) []) _ _ _
  obtain ⟨hp, g, dr, tk, os⟩ := s
  have hsz : hp.objs.size ≤ hp.objs.size + 1 := Nat.le_succ _
  have hn : H1 (hp.objs.size + 1) = none := I1.hok.fresh hsz
  have hq := q1 (hp.objs.size + 1) hn
  have kk : ∀ b o, hp.get? b = some o → ((hp.push (PySem.W.kdv_tup [])).push (PySem.HandSPX.excO C hp.objs.size)).get? b = some o := fun b o e => Heap.get?_push_of_some _ (Heap.get?_push_of_some _ e)
  have hget : ((hp.push (PySem.W.kdv_tup [])).push (PySem.HandSPX.excO C hp.objs.size)).get? (hp.objs.size + 1) = some (PySem.HandSPX.excO C hp.objs.size) := by heap_get
  have I2 : Inv X pins σ (upd H1 (hp.objs.size + 1) (exo (hp.objs.size + 1) C none)) ⟨(hp.push (PySem.W.kdv_tup [])).push (PySem.HandSPX.excO C hp.objs.size), g, dr, tk, os⟩ :=
    I1.laid (t' := tk) (a := hp.objs.size + 1) (o := exo (hp.objs.size + 1) C none) (h' := (hp.push (PySem.W.kdv_tup [])).push (PySem.HandSPX.excO C hp.objs.size)) kk hsz (exo_ok hget)
  have r2 : Vals [V.ref (hp.objs.size + 1)] [Value.ref (hp.objs.size + 1)] := .cons rfl .nil
  have hl : [Value.ref (hp.objs.size + 1)].length = ps.length := by
    have e := F1.len _ _ _ _ hq
    exact e
  have b2 := hb _ [Value.ref (hp.objs.size + 1)] I2.kIn (by rw [List.append_nil]; exact hl)
  rw [List.append_nil] at b2
  refine wpAny_call (PySem.HandSPX.call_own F.excBase_ValueError (fun Y => PySem.HandSPX.refsVE_contains Y bm hbm) (I1.kIn _ _ hC) (PySem.W.looks_findIn I1.kIn iC) (fun self => PySem.W.bind_fn I1.kIn self tI) (rest := []) (Nat.zero_le _)
    (codeAny_mono (F1.run _ X.stack _ _ ⟨[Value.ref (hp.objs.size + 1)], []⟩ [Value.ref (hp.objs.size + 1)] _ _ (fun _ _ _ => False) (hr.make C [] []) (I2.env0.make C [] []) b2 r2 hq) fun r s' hq' => ?_))
  cases r with
  | error er => exact hx pins σ _ _ er s' I2 hq'
  | ok fl =>
    cases fl with
    | ret u =>
      obtain ⟨v, H2, os2, bare2, un2, hok2, rv, ev, d, fs, ea, ed, hd1, q2⟩ := hq'
      subst ev
      obtain ⟨h2, g2, d2, t2, os'⟩ := s'
      exact ⟨rv, mk_end (raises_own T.exC T.tyC) I1 hsz kk un2 hok2 os2 bare2 ea ed hd1 q2⟩
    | next => exact False.elim hq'
    | brk => exact False.elim hq'
    | cont => exact False.elim hq'
theorem PS.nox {st : Stmt} {t : TS} (h : PS X.nox st t) : PS X st t := ⟨fun pins s σ H D I hw =>
  wpAny_mono (h.run pins s σ H D (I.wish _) hw) (fun _ _ q => q.unwish) fun _ _ z => False.elim z⟩
/-- a op b op' c op'' d -/
def tChain3 (r r' r'' : R2) (ta tb tc td : TE) : TE := fun σ H Q => ta σ H fun x H1 => tb σ H1 fun y H2 => r x y H2 fun z H3 => ∃ k, z = .bl k ∧
  (if k = true then tc σ H3 fun w' H4 => r' y w' H4 fun z2 H5 => ∃ k2, z2 = .bl k2 ∧ (if k2 = true then td σ H5 fun w2 H6 => r'' w' w2 H6 Q else Q (.bl false) H5) else Q (.bl false) H3)
theorem pe_chain3 {a b c d : Expr} {pos : Pos} {ta tb tc td : TE} {op op' op'' : CmpOp} {r r' r'' : R2} (ho : OpR X (compareOp op) r) (ho' : OpR X (compareOp op') r') (ho'' : OpR X (compareOp op'') r'') (ha : PE X a ta) (hb : PE X b tb) (hc : PE X c tc) (hd : PE X d td)
    (hm : lastMarks [op, op', op''] [b, c, d] = false := by with_unfolding_all rfl) : PE X (.Compare a [op, op', op''] [b, c, d] pos) (tChain3 r r' r'' ta tb tc td) := by
  refine ⟨fun pins s σ H Q I h => ?_⟩
  refine Compare_chain (thn (ha.run pins s σ H _ I h) fun v s1 ⟨x, H1, I1, r1, q1⟩ => chain_link (thn (hb.run pins s1 σ H1 _ I1 q1) fun u s2 ⟨y, H2, I2, r2, q2⟩ =>
    thn (ho pins s2 σ H2 x y v u _ I2 r1 r2 q2) fun dd s3 ⟨z, H3, I3, r3, k, e, q3⟩ => ?_)) hm
  subst e
  cases r3
  refine wpAny_truthy_bool ?_
  cases k with
  | false => exact ite_ff ⟨.bl false, H3, I3, rfl, q3⟩
  | true =>
    refine ite_tt (chain_link (thn (hc.run pins s3 σ H3 _ I3 q3) fun w' s4 ⟨z', H4, I4, r4, q4⟩ => thn (ho' pins s4 σ H4 y z' u w' _ I4 r2 r4 q4) fun d' s5 ⟨z2, H5, I5, r5, k2, e2, q5⟩ => ?_))
    subst e2
    cases r5
    refine wpAny_truthy_bool ?_
    cases k2 with
    | false => exact ite_ff ⟨.bl false, H5, I5, rfl, q5⟩
    | true => exact ite_tt (chain_last (thn (hd.run pins s5 σ H5 _ I5 q5) fun w2 s6 ⟨z3, H6, I6, r6, q6⟩ => ho'' pins s6 σ H6 z' z3 w' w2 Q I6 r4 r6 q6))
/-- o.m(e, ..), o.m() that may raise, in a try -/
def tMethX (C : Addr) (m : Str) (sp : Sp) (E : St → XK) (ta : TE) (t : TA) : TE := fun σ H Q => ta σ H fun x H1 => ∃ a dx fs, x = .ref a ∧ H1 a = some (.ins C dx fs) ∧ fs.lookup m = none ∧ t σ H1 fun vs H2 => sp (x :: vs) H2 Q (E σ)
variable {CX : CXT} {k : Nat} {f C : Addr} {fd : FuncData} {ps : List Str} {sp : Sp} {E : St → XK} {m : Str} {pos apos : Pos} {e o : Expr} {es : List Expr} {ta : TE} {t : TA}
theorem pe_methX {pl : Sem Bool} (he : PE X o ta) (c : Cls X.K C) (hm : Meth X.K C m f) (F : FnOk X.prog X.w X.K X.mg X.base CX k f fd ps sp) (hr : Room k X.A) (hb : Binds X.K fd ps []) (hx : ∀ σ, PassesAt CX X σ (E σ)) (ha : PA X (e :: es) t)
    (hst : starEach (e :: es) X.env = (false, eval e X.env) :: starEach es X.env := by rfl) (hpl : (backTo pos (starEach es X.env)).any (·.1) = false := by rfl)
    (ht : eval (.Call (.Attribute o m apos) (e :: es) [] pos) X.env = (do
      let ov ← eval o X.env
      standAt apos.atName
      let (f, first) ← holding [ov] (getMethod ov m pl)
      callWith pos f first (backTo pos (starEach (e :: es) X.env)) (backToKw pos (keywordEach [] X.env))) := by rfl) :
    PE X (.Call (.Attribute o m apos) (e :: es) [] pos) (tMethX C m sp E ta t) := by
  refine ⟨fun pins s σ H Q I h => ?_⟩
  refine PySem.W.methodCall_KW (pl := pl) (thn (he.run pins s σ H _ I h) fun u s1 ⟨x, H1, I1, rx, a, dx, fs, ex, ea, l, q⟩ => ?_) ht
  subst ex
  obtain rfl : u = Value.ref a := rx
  refine getmeth_ok I1 ea c hm l ?_
  refine PySem.W.callWith_K (first := [.ref a]) (h₀ := X.base) I.ok.mod.kin hm.kp (thn (ha.run pos pins s1 σ H1 _ I1 q) fun us s2 ⟨vs, H2, I2, r, q2⟩ => ⟨I2.kIn, ?_⟩) hst hpl
  exact run_fnS (us := .ref a :: us) (vs := .ref a :: vs) F hr hb (hx σ) I2 (.cons rfl r) q2
theorem pe_methX0 {pl : Sem Bool} (he : PE X o ta) (c : Cls X.K C) (hm : Meth X.K C m f) (F : FnOk X.prog X.w X.K X.mg X.base CX k f fd ps sp) (hr : Room k X.A) (hb : Binds X.K fd ps []) (hx : ∀ σ, PassesAt CX X σ (E σ))
    (ht : eval (.Call (.Attribute o m apos) [] [] pos) X.env = (do
      let ov ← eval o X.env
      standAt apos.atName
      let (f, first) ← holding [ov] (getMethod ov m pl)
      callWith pos f first (backTo pos (starEach [] X.env)) (backToKw pos (keywordEach [] X.env))) := by rfl) :
    PE X (.Call (.Attribute o m apos) [] [] pos) (tMethX C m sp E ta tNil) := by
  refine ⟨fun pins s σ H Q I h => ?_⟩
  refine PySem.W.methodCall_KW (pl := pl) (thn (he.run pins s σ H _ I h) fun u s1 ⟨x, H1, I1, rx, a, dx, fs, ex, ea, l, q⟩ => ?_) ht
  subst ex
  obtain rfl : u = Value.ref a := rx
  refine getmeth_ok I1 ea c hm l ?_
  exact PySem.W.callWith_K0 (first := [.ref a]) I1.kIn hm.kp (run_fnS (us := [.ref a]) (vs := [.ref a]) F hr hb (hx σ) I1 (.cons rfl .nil) q)
/-- sorted(d), d a dict with int keys, of any length -/
def rSortedDI : List V → Hp → VK → Prop := fun xs H Q => ∃ (a : Addr) (kvs : List (Key × V)) (ks : List Int), xs = [.ref a] ∧ Rd H a (.dK kvs) ∧ kvs.map (·.1) = ks.map Sum.inl ∧ ks.length ≤ sizeLine ∧
    ∀ (ys : List Int) (p : Addr), ys.Perm ks → ys.Pairwise (· ≤ ·) → H p = none → Q (.ref p) (upd H p (.lst (ys.map V.int)))
theorem call_sortedDA (hcalm : X.calm = true) : CallR X (.builtin "sorted") rSortedDI := by
  intro pins s σ H xs us Q I r q
  obtain ⟨a, kvs, ks, ex, hd, hks, h64, q⟩ := q
  subst ex
  obtain ⟨u, eu, rx⟩ := vals1 r
  subst eu
  cases rx
  obtain ⟨z, lo, vs, rel, dd⟩ := dk_rd I.hok hd
  obtain ⟨ep, hat⟩ := dd.dictAt
  have hkeys : vs.map (·.1) = ks.map Sum.inl := rel.keys.symm.trans hks
  have hl : vs.length = ks.length := by
    have e := congrArg List.length hkeys
    rw [List.length_map, List.length_map] at e
    exact e
  have h16 : vs.length ≤ sizeLine := by rw [hl]; exact h64
  refine Calls.call_function_entry PyProof.Rows.kind_sorted PyProof.Rows.plain_sorted PyProof.Rows.entry_sorted (PyProof.Rows.args_sorted1 _) ?_
  unfold Builtin.«sorted»
  refine wpAny_bind (m := checkCount "sorted" 1 1 _) (wpAny_pure ?_)
  refine wpAny_bind (PySem.W.kdu_collect (A := X.A.in1) (PySem.W.kdl_dict (knd := mixKind X.prog X.w) (kvs := vs) (ep := ep) lo) (I.ok.hd hcalm) hat h16 fun h' tk acc hk hacc => ?_)
  have hal : acc.toList.length = ks.length := by rw [Array.length_toList, hacc.1, hl]
  have hS : IntsAre acc.toList ks := ints_each hal fun j v e => by
    obtain ⟨k, x, e1, e2⟩ := hacc.2 j v (by rw [← Array.getElem?_toList]; exact e)
    have e3 : (vs.map (·.1))[j]? = some k := by rw [List.getElem?_map, e1]; rfl
    rw [hkeys, List.getElem?_map] at e3
    cases e4 : ks[j]? with
    | none => rw [e4] at e3; cases e3
    | some y =>
      rw [e4] at e3
      have e5 : Sum.inl y = k := Option.some.inj e3
      subst e5
      rcases keyIs_shape (show keyIs (Sum.inl y) v = true from e2) with ⟨i, t, ek, ev⟩ | ⟨z, t, ek, ev⟩
      · cases ek
        exact ⟨y, t, rfl, ev⟩
      · cases ek
  have I1 : Inv X pins σ H { s with heap := h', toks := tk } := I.kept hk
  refine wpAny_bind (wpAny_newList ?_ (by rw [hal]; exact h64))
  have hoL : (h'.push (seqObj "list" acc.toList.toArray 0)).get? h'.objs.size = some (seqObj "list" acc.toList.toArray 0) := Heap.get?_push_size _ rfl
  show wpAny _ _ _ _ _ { s with heap := h'.push (seqObj "list" acc.toList.toArray 0), toks := tk }
  refine wpAny_bind (wpAny_holding (wpAny_call_entry PyProof.Rows.slot_list_sort ⟨_, hoL, rfl⟩ PyProof.Rows.entry_list_sort
    (SrtO.list_sort_ord (s := { s with heap := h'.push (seqObj "list" acc.toList.toArray 0), toks := tk }) SrtO.swo_int hoL (by rw [hal]; exact h64) (fun h2 => SrtO.ints_sortable hS h2) fun out g1 g2 => ⟨_, rfl, ?_⟩) (PyProof.Rows.args_list_sort _)))
  obtain ⟨k1, k2, k3⟩ := SrtO.ints_out hS g1 g2
  obtain ⟨e', he'⟩ := PyProof.Rows.sortedHeap_at (vs := acc.toList) (out := out.toArray) hoL
  have hlen : ((out.map SrtO.iv).map V.int).length ≤ sizeLine := by
    rw [List.length_map, k2.length_eq]
    exact h64
  refine wpAny_pure ⟨_, rfl, .ref h'.objs.size, upd H h'.objs.size (.lst ((out.map SrtO.iv).map V.int)), I1.laid (t' := tk) (fun b u e => ?_) (Nat.le_refl _)
    (show ObjOk X.prog X.w _ _ _ (.lst ((out.map SrtO.iv).map V.int)) from ⟨hlen, out, e', vals_of_ints k1, he'⟩), rfl, q _ _ k2 k3 (I1.hok.fresh (Nat.le_refl _))⟩
  have hb : b < h'.objs.size := Heap.lt_size e
  rw [PyProof.Rows.sortedHeap_old (Nat.ne_of_lt hb) (by rw [size_push']; exact Nat.lt_succ_of_lt hb)]
  exact Heap.get?_push_of_some _ e
end
end L2

/-! the numbers of one house: what stands, what is promised -/
namespace K
open PySem PySem.Spec PyProof.Rows L2
def heldK (us : List Int) : List (Key × V) := us.map fun i => (Sum.inl i, V.bl true)
theorem held_keys (us : List Int) : (heldK us).map (·.1) = us.map Sum.inl := by
  unfold heldK
  rw [List.map_map]
  rfl
theorem held_val (i : Int) : ∀ us : List Int, valV (heldK us) (Sum.inl i) = if i ∈ us then some (.bl true) else none
  | [] => rfl
  | j :: us => by
    by_cases e : j = i
    · subst e
      rw [if_pos List.mem_cons_self]
      exact valV_pos rfl
    · have e2 : ¬ (Sum.inl j : Key) = Sum.inl i := fun z => e (Sum.inl.inj z)
      rw [show heldK (j :: us) = (Sum.inl j, V.bl true) :: heldK us from rfl, valV_neg e2, held_val i us]
      by_cases h : i ∈ us
      · rw [if_pos h, if_pos (List.mem_cons_of_mem _ h)]
      · rw [if_neg h, if_neg (fun z => by rcases List.mem_cons.mp z with q | q; exact e q.symm; exact h q)]
theorem held_in {i : Int} {us : List Int} (h : i ∈ us) : valV (heldK us) (Sum.inl i) = some (.bl true) := by rw [held_val, if_pos h]
theorem held_no {i : Int} {us : List Int} (h : ¬ i ∈ us) : valV (heldK us) (Sum.inl i) = none := by rw [held_val, if_neg h]
theorem held_put {i : Int} {us : List Int} (h : ¬ i ∈ us) : putK (heldK us) (Sum.inl i) (.bl true) = heldK (us ++ [i]) := by
  rw [putK_new _ (held_no h)]
  unfold heldK
  rw [List.map_append]
  rfl
theorem held_drop (i : Int) : ∀ us : List Int, us.Nodup → dropK (heldK us) (Sum.inl i) = heldK (us.erase i)
  | [], _ => rfl
  | j :: us, nd => by
    obtain ⟨n1, n2⟩ := List.nodup_cons.mp nd
    by_cases e : j = i
    · subst e
      rw [List.erase_cons_head, show heldK (j :: us) = (Sum.inl j, V.bl true) :: heldK us from rfl, dropK_pos rfl, dropK_no]
      rw [held_keys]
      intro z
      obtain ⟨x, hx, ex⟩ := List.mem_map.mp z
      cases ex
      exact n1 hx
    · have e2 : ¬ (Sum.inl j : Key) = Sum.inl i := fun z => e (Sum.inl.inj z)
      have e3 : (j == i) = false := by simpa using e
      rw [List.erase_cons_tail (by rw [e3]; exact Bool.false_ne_true), show heldK (j :: us) = (Sum.inl j, V.bl true) :: heldK us from rfl, dropK_neg e2, held_drop i us n2]
      rfl
/-- the numbers from x on, k of them, that are not among us -/
def spare (us : List Int) : Nat → Int → List Int
  | 0, _ => []
  | k + 1, x => if x ∈ us then spare us k (x + 1) else x :: spare us k (x + 1)
theorem spare_s (us : List Int) (k : Nat) (x : Int) : spare us (k + 1) x = if x ∈ us then spare us k (x + 1) else x :: spare us k (x + 1) := rfl
theorem spare_add (us : List Int) : ∀ (i j : Nat) (x : Int), spare us (i + j) x = spare us i x ++ spare us j (x + i)
  | 0, j, x => by simp [spare]
  | i + 1, j, x => by
    have e : x + 1 + (i : Int) = x + ((i + 1 : Nat) : Int) := by omega
    rw [show i + 1 + j = (i + j) + 1 by omega, spare_s, spare_s]
    by_cases h : x ∈ us
    · rw [if_pos h, if_pos h, spare_add us i j (x + 1), e]
    · rw [if_neg h, if_neg h, spare_add us i j (x + 1), e, List.cons_append]
theorem spare_succ (us : List Int) (i : Nat) (x : Int) : spare us (i + 1) x = spare us i x ++ (if x + i ∈ us then [] else [x + i]) := by
  rw [spare_add us i 1 x]
  rfl
theorem spare_len (us : List Int) : ∀ (i : Nat) (x : Int), (spare us i x).length ≤ i
  | 0, x => by simp [spare]
  | i + 1, x => by
    unfold spare
    have := spare_len us i (x + 1)
    by_cases h : x ∈ us
    · rw [if_pos h]; omega
    · rw [if_neg h, List.length_cons]; omega
theorem spare_mem (us : List Int) : ∀ (i : Nat) (x y : Int), y ∈ spare us i x → ¬ y ∈ us ∧ x ≤ y ∧ y < x + i
  | 0, x, y, h => by simp [spare] at h
  | i + 1, x, y, h => by
    unfold spare at h
    by_cases c : x ∈ us
    · rw [if_pos c] at h
      have := spare_mem us i (x + 1) y h
      exact ⟨this.1, by omega, by omega⟩
    · rw [if_neg c] at h
      rcases List.mem_cons.mp h with q | q
      · subst q; exact ⟨c, by omega, by omega⟩
      · have := spare_mem us i (x + 1) y q
        exact ⟨this.1, by omega, by omega⟩
/-- how many numbers a range has -/
def wide (lo hi : Int) : Nat := (hi + 1 - lo).toNat
def goodR (lo hi : Int) : Prop := 1 ≤ lo ∧ lo ≤ hi ∧ hi ≤ lo + 63 ∧ hi ≤ 9999
def numF (lo hi : Int) (d : Addr) : List (Str × V) := [("low", .int lo), ("high", .int hi), ("held", .ref d)]
def NumAt (H : Hp) (C x dx d : Addr) (lo hi : Int) (us : List Int) : Prop := H x = some (.ins C dx (numF lo hi d)) ∧ H d = some (.dK (heldK us))
theorem NumAt.same {H H' : Hp} {C x dx d : Addr} {lo hi : Int} {us : List Int} (h : NumAt H C x dx d lo hi us) (s : Same H H') : NumAt H' C x dx d lo hi us := ⟨s _ _ h.1, s _ _ h.2⟩
/-- a bare refusal in the air -/
def BareX (C : Addr) (wd : Str) (H : Hp) (E : XK) : Prop := ∀ (d : Addr) (H' : Hp), H d = none → Same H H' → H' d = some (.xd [("word", .str wd)]) → E (.ref C) (some d) H'
def TakenX (C : Addr) (i : Int) (H : Hp) (E : XK) : Prop := ∀ (d : Addr) (H' : Hp), H d = none → Same H H' → H' d = some (.xd [("number", .int i), ("word", .str "nottaken")]) → E (.ref C) (some d) H'
/-- C(): no field but the word -/
def spIn0 (K : PySem.W.Frag) (wd : Str) : Sp := fun vs H Q _ => ∃ (a C : Addr), vs = [.ref a] ∧ OexC K C ∧ PySem.W.findIn K (.ref C) "word" = some none ∧ H a = some (exo a C none) ∧
  ∀ (dx : Addr) (H' : Hp), H dx = none → dx ≠ a → (∀ b o, H b = some o → b ≠ a → H' b = some o) → H' a = some (exo a C (some dx)) → H' dx = some (exd dx [("word", .str wd)]) → Q .non H'
def spIsRange : Sp := fun vs H Q _ => ∃ lo hi : Int, vs = [.int lo, .int hi] ∧ ∀ b : Bool, (b = true ↔ goodR lo hi) → Q (.bl b) H
def spNumI (C : Addr) : Sp := fun vs H Q _ => ∃ (x dx : Addr) (lo hi : Int), vs = [.ref x, .int lo, .int hi] ∧ H x = some (.ins C dx []) ∧ goodR lo hi ∧
  ∀ (d : Addr) (H' : Hp), H d = none → (∀ b o, H b = some o → b ≠ x → H' b = some o) → NumAt H' C x dx d lo hi [] → Q .non H'
def spNTake (C CN : Addr) : Sp := fun vs H Q E => ∃ (x dx d : Addr) (lo hi : Int) (us : List Int), vs = [.ref x] ∧ NumAt H C x dx d lo hi us ∧ goodR lo hi ∧ us.length ≤ 1000 ∧
  (spare us (wide lo hi) lo = [] → BareX CN "nonumber" H E) ∧ (∀ i r, spare us (wide lo hi) lo = i :: r → Q (.int i) (upd H d (.dK (heldK (us ++ [i])))))
def spNGive (C CT : Addr) : Sp := fun vs H Q E => ∃ (x dx d : Addr) (lo hi i : Int) (us : List Int), vs = [.ref x, .int i] ∧ NumAt H C x dx d lo hi us ∧ us.Nodup ∧ i.natAbs.log2 < 1920 ∧
  (¬ i ∈ us → TakenX CT i H E) ∧ (i ∈ us → Q .non (upd H d (.dK (heldK (us.erase i)))))
def spNTaken (C : Addr) : Sp := fun vs H Q _ => ∃ (x dx d : Addr) (lo hi : Int) (us : List Int), vs = [.ref x] ∧ NumAt H C x dx d lo hi us ∧ us.length ≤ 1000 ∧
  ∀ (ys : List Int) (p : Addr), ys.Perm us → ys.Pairwise (· ≤ ·) → H p = none → Q (.ref p) (upd H p (.lst (ys.map V.int)))
def spNLeft (C : Addr) : Sp := fun vs H Q _ => ∃ (x dx d : Addr) (lo hi : Int) (us : List Int), vs = [.ref x] ∧ NumAt H C x dx d lo hi us ∧ Q (.int (hi - lo + 1 - us.length)) H
def spNHas (C : Addr) : Sp := fun vs H Q _ => ∃ (x dx d : Addr) (lo hi i : Int) (us : List Int), vs = [.ref x, .int i] ∧ NumAt H C x dx d lo hi us ∧ Q (.bl (decide (lo ≤ i ∧ i ≤ hi))) H
/-- what the top has written of the class -/
structure NumT (K : PySem.W.Frag) (mg : Str → Option Value) (C fI : Addr) : Prop where
  g : mg "Numbers" = some (.ref C)
  cl : Cls K C
  made : Mk K C fI
  nl : NoAttr K C "low"
  nh : NoAttr K C "high"
  nd : NoAttr K C "held"
/-- two increasing lists of the same numbers are one -/
theorem sorted_one {xs ys : List Int} (p : xs.Perm ys) (hx : xs.Pairwise (· ≤ ·)) (hy : ys.Pairwise (· ≤ ·)) : xs = ys :=
  p.eq_of_pairwise (fun a b _ _ h1 h2 => Int.le_antisymm h1 h2) hx hy
end K

/-! letters: what they are, how they stand in the heap, their texts -/
namespace SwL
open PySem PySem.Spec PyProof.Rows L2
/-- a number as text -/
def nt (n : Nat) : Str := Str.ofString (toString ((n : Nat) : Int))
/-- a way as text -/
def wt (w : List Nat) : Str := Txt.join "." (w.map nt)
inductive Letter where
  | two (w : Str) (n : Nat)
  | four (w : Str) (a b : Nat) (way : List Nat)
def Letter.text : Letter → Str
  | .two w n => w ++ " " ++ nt n
  | .four w a b way => w ++ " " ++ nt a ++ " " ++ nt b ++ " " ++ wt way
/-- its words -/
def Letter.words : Letter → List Str
  | .two w n => [w, nt n]
  | .four w a b way => [w, nt a, nt b, wt way]
def Letter.Good : Letter → Prop
  | .two w n => (w = "void" ∨ w = "back") ∧ n < 1000000
  | .four w a b way => (w = "tell" ∨ w = "lay") ∧ a < 1000000 ∧ b < 1000000 ∧ (∀ h ∈ way, h < 1000000) ∧ way ≠ [] ∧ way.length ≤ 8
def natsV (w : List Nat) : List V := w.map fun h => V.int (h : Nat)
def LetterAt (H : Hp) (p : Addr) : Letter → Prop
  | .two w n => H p = some (.tup [.str w, .int (n : Nat)])
  | .four w a b way => ∃ t, H p = some (.tup [.str w, .int (a : Nat), .int (b : Nat), .ref t]) ∧ H t = some (.tup (natsV way))
theorem LetterAt.same {H H' : Hp} {p : Addr} {l : Letter} (h : LetterAt H p l) (s : ∀ b o, H b = some o → H' b = some o) : LetterAt H' p l := by
  cases l with
  | two w n => exact s _ _ h
  | four w a b way => obtain ⟨t, h1, h2⟩ := h; exact ⟨t, s _ _ h1, s _ _ h2⟩
theorem len_app (a b : Str) : (a ++ b).length = a.length + b.length := by
  have e := congrArg List.length (TL.tl_append a b)
  rw [List.length_append, ← TL.len_tl, ← TL.len_tl, ← TL.len_tl] at e
  exact e
/-- figures of a number below a million -/
theorem numL_six {n : Nat} (h : n < 1000000) : (TL.numL n).length ≤ 6 := by
  have step : ∀ (k m : Nat), m < 10 ^ (k + 1) → (TL.numL m).length ≤ k + 1 := by
    intro k
    induction k with
    | zero => intro m hm; rw [TL.numL_lt (by simpa using hm)]; exact Nat.le_refl _
    | succ k ih =>
      intro m hm
      by_cases c : m < 10
      · rw [TL.numL_lt c]
        show 1 ≤ k + 1 + 1
        omega
      · rw [TL.numL_step (by omega), List.length_append]
        have := ih (m / 10) (by rw [Nat.pow_succ] at hm; omega)
        show (TL.numL (m / 10)).length + 1 ≤ k + 1 + 1
        omega
  exact step 5 n h
theorem nt_len {n : Nat} (h : n < 1000000) : (nt n).length ≤ 6 := by
  rw [TL.len_tl, show TL.tl (nt n) = TL.numL n from TL.tl_num n]
  exact numL_six h
/-- the law's own writing is the joining of the words -/
theorem text_words (l : Letter) : l.text = Txt.join " " l.words := by
  cases l with
  | two w n =>
    rw [TL.join_eq]
    rfl
  | four w a b way =>
    refine TL.ext_tl ?_
    rw [TL.join_eq, TL.tl_join]
    show TL.tl (w ++ " " ++ nt a ++ " " ++ nt b ++ " " ++ wt way) = TL.tl w ++ (TL.tl " " ++ (TL.tl (nt a) ++ (TL.tl " " ++ (TL.tl (nt b) ++ (TL.tl " " ++ TL.tl (wt way))))))
    simp only [TL.tl_append, List.append_assoc]
theorem nt_dig {n c : Nat} (h : c ∈ TL.tl (nt n)) : 48 ≤ c ∧ c ≤ 57 := by
  rw [show TL.tl (nt n) = TL.numL n from TL.tl_num n] at h
  exact TL.numL_digits n c h
theorem joinL_mem {S : List Nat} {c : Nat} : ∀ {ps : List (List Nat)}, c ∈ TL.joinL S ps → c ∈ S ∨ ∃ p ∈ ps, c ∈ p
  | [], h => by cases h
  | [p], h => .inr ⟨p, List.mem_cons_self .., h⟩
  | p :: q :: r, h => by
    rcases List.mem_append.mp h with h | h
    · exact .inr ⟨p, List.mem_cons_self .., h⟩
    · rcases List.mem_append.mp h with h | h
      · exact .inl h
      · rcases joinL_mem h with h | ⟨z, hz, h⟩
        · exact .inl h
        · exact .inr ⟨z, List.mem_cons_of_mem _ hz, h⟩
theorem wt_dig {w : List Nat} {c : Nat} (h : c ∈ TL.tl (wt w)) : c = 46 ∨ (48 ≤ c ∧ c ≤ 57) := by
  unfold wt at h
  rw [TL.join_eq, TL.tl_join] at h
  rcases joinL_mem h with h | ⟨p, hp, h⟩
  · have e : TL.tl "." = [46] := rfl
    rw [e] at h
    exact .inl (List.mem_singleton.mp h)
  · obtain ⟨x, hx, rfl⟩ := List.mem_map.mp hp
    obtain ⟨n, _, rfl⟩ := List.mem_map.mp hx
    exact .inr (nt_dig h)
/-- a text is read back to its words .. -/
theorem split_text {l : Letter} (h : l.Good) : Txt.split l.text " " = l.words := by
  rw [text_words]
  refine TL.split_join (s := 32) (S := []) rfl (by decide +kernel) ?_ ?_
  · cases l <;> simp [Letter.words]
  · have hn : ∀ n, 32 ∉ TL.tl (nt n) := fun n z => by have := nt_dig z; omega
    have hw : ∀ w, 32 ∉ TL.tl (wt w) := fun w z => by have := wt_dig z; omega
    cases l with
    | two w n =>
      intro p hp
      simp only [Letter.words, List.mem_cons, List.not_mem_nil, or_false] at hp
      rcases hp with rfl | rfl
      · rcases h.1 with rfl | rfl <;> decide
      · exact hn _
    | four w a b way =>
      intro p hp
      simp only [Letter.words, List.mem_cons, List.not_mem_nil, or_false] at hp
      rcases hp with rfl | rfl | rfl | rfl
      · rcases h.1 with rfl | rfl <;> decide
      · exact hn _
      · exact hn _
      · exact hw _
/-- .. and a way to its numbers -/
theorem split_wt {w : List Nat} (h : w ≠ []) : Txt.split (wt w) "." = w.map nt := by
  refine TL.split_join (s := 46) (S := []) rfl (by decide +kernel) (fun e => h (List.map_eq_nil_iff.mp e)) fun p hp => ?_
  obtain ⟨n, _, rfl⟩ := List.mem_map.mp hp
  exact fun z => by have := nt_dig z; omega
theorem int_nt {n : Nat} (h : n < 1000000) : intText? (nt n) = some (n : Int) := TL.int_num (Nat.le_trans (numL_six h) (by decide))
theorem len_join (y : Str) : ∀ ps : List Str, (Txt.join y ps).length ≤ (ps.map (·.length)).sum + ps.length * y.length
  | [] => by
    rw [TL.join_eq]
    exact Nat.zero_le _
  | [p] => by
    rw [TL.join_eq]
    show p.length ≤ (p.length + 0) + 1 * y.length
    omega
  | p :: q :: r => by
    have ih := len_join y (q :: r)
    rw [TL.join_eq] at ih ⊢
    show (p ++ y ++ Str.join y (q :: r)).length ≤ (p.length + ((q :: r).map (·.length)).sum) + ((q :: r).length + 1) * y.length
    rw [len_app, len_app, Nat.add_mul]
    omega
theorem sum_nt : ∀ {w : List Nat}, (∀ h ∈ w, h < 1000000) → ((w.map nt).map (·.length)).sum ≤ 6 * w.length
  | [], _ => Nat.zero_le _
  | n :: r, h => by
    have := sum_nt (w := r) fun x hx => h x (List.mem_cons_of_mem _ hx)
    have h1 := nt_len (h n (List.mem_cons_self ..))
    show (nt n).length + ((r.map nt).map (·.length)).sum ≤ 6 * (r.length + 1)
    omega
theorem wt_len {w : List Nat} (h : ∀ x ∈ w, x < 1000000) : (wt w).length ≤ 7 * w.length := by
  have := len_join "." (w.map nt)
  have h2 := sum_nt h
  rw [List.length_map, show (("." : Str)).length = 1 from rfl] at this
  unfold wt
  omega
theorem log_mil {n : Nat} (h : n < 1000000) : (((n : Nat) : Int)).natAbs.log2 < 1920 := by
  rw [Int.natAbs_natCast]
  by_cases c : n = 0
  · subst c; decide
  · exact Nat.lt_of_lt_of_le ((Nat.log2_lt c).mpr (Nat.lt_trans h (by decide : 1000000 < 2 ^ 20))) (by decide)
/-- one rule or the other -/
theorem cr_or {X : Cx} {f : Value} {r1 r2 : List V → Hp → VK → Prop} (h1 : CallR X f r1) (h2 : CallR X f r2) : CallR X f (fun xs H Q => r1 xs H Q ∨ r2 xs H Q) := by
  intro pins s σ H xs us Q I rs h
  rcases h with h | h
  · exact h1 pins s σ H xs us Q I rs h
  · exact h2 pins s σ H xs us Q I rs h
/-- a thing of a letter and its text -/
def ThingAt (H : Hp) (v : V) (x : Str) : Prop := (∃ n : Nat, v = .int (n : Nat) ∧ n < 1000000 ∧ x = nt n) ∨ (∃ t way, v = .ref t ∧ H t = some (.tup (natsV way)) ∧ (∀ h ∈ way, h < 1000000) ∧ way.length ≤ 8 ∧ x = wt way)
theorem ThingAt.len {H : Hp} {v : V} {x : Str} (h : ThingAt H v x) : x.length ≤ 56 := by
  rcases h with ⟨n, _, hn, rfl⟩ | ⟨t, way, _, _, hw, hl, rfl⟩
  · have := nt_len hn
    omega
  · have := wt_len hw
    omega
theorem things {H : Hp} {a : Addr} {l : Letter} (h : LetterAt H a l) (g : l.Good) : ∃ (w : Str) (vs : List V) (xs : List Str), H a = some (.tup (.str w :: vs)) ∧ Paired (ThingAt H) vs xs ∧ w.length ≤ 4 ∧ vs.length ≤ 3 ∧ xs.foldl (fun (s x : Str) => s ++ (" " : Str) ++ x) w = l.text := by
  cases l with
  | two w n =>
    refine ⟨w, _, [nt n], h, .cons (.inl ⟨n, rfl, g.2, rfl⟩) .nil, ?_, (by show 1 ≤ 3; decide), rfl⟩
    rcases g.1 with rfl | rfl <;> decide +kernel
  | four w a b way =>
    obtain ⟨t, h1, h2⟩ := h
    obtain ⟨gw, ga, gb, gh, _, gl⟩ := g
    refine ⟨w, _, [nt a, nt b, wt way], h1, .cons (.inl ⟨a, rfl, ga, rfl⟩) (.cons (.inl ⟨b, rfl, gb, rfl⟩) (.cons (.inr ⟨t, way, rfl, h2, gh, gl, rfl⟩) .nil)), ?_, (by show 3 ≤ 3; decide), rfl⟩
    rcases gw with rfl | rfl <;> decide +kernel
def accT (w : Str) (xs : List Str) (i : Nat) : Str := (xs.take i).foldl (fun (s x : Str) => s ++ (" " : Str) ++ x) w
theorem accT_succ {w x : Str} {xs : List Str} {i : Nat} (h : xs[i]? = some x) : accT w xs (i + 1) = accT w xs i ++ " " ++ x := by
  unfold accT
  rw [List.take_add_one, h, List.foldl_append]
  rfl
theorem accT_all {w : Str} {xs : List Str} {n : Nat} (h : n = xs.length) : accT w xs n = xs.foldl (fun (s x : Str) => s ++ (" " : Str) ++ x) w := by
  unfold accT
  rw [h, List.take_length]
theorem tail_cut (x : V) (r : List V) : cutV (x :: r) (some 1) none = r ∧ HT.sIx (x :: r).length 0 (some 1) = 1 := by
  have e : HT.sIx (x :: r).length 0 (some 1) = 1 := by
    show (if (1 : Int) < 0 then ((1 : Int) + ((x :: r).length : Int)).toNat else min (1 : Int).toNat (x :: r).length) = 1
    rw [if_neg (by decide), List.length_cons]
    show min 1 (r.length + 1) = 1
    omega
  refine ⟨?_, e⟩
  unfold cutV
  rw [e, HT.sIx_none, List.drop_one, List.tail_cons, List.length_cons, Nat.add_sub_cancel, List.take_length]
theorem len_blank : ((" " : Str)).length = 1 := by decide +kernel
end SwL

/-! reading letters: signs of a text walked, numbers in, the letter in -/
namespace SwL
open PySem PySem.Spec PyProof.Rows L2
/-- [.. for sign in text]: by what stands before each sign -/
theorem lc_signs {z : Str} {g : TG} {tt : TT} {te : TE} {own : List Nat} {σ : L2.St} {Ha : Hp} {D : Addr} {Z : Hp → Prop} (B : Nat → Hp → Prop) (hb : B 0 (upd Ha D (.lst [])))
    (step : ∀ j c Hj, z.cps[j]? = some c → B j Hj → g (.str ⟨#[c]⟩) (wipe σ own) Hj fun σ' Hk => wipe σ' own = wipe σ own ∧ tt σ' Hk fun ok Hl =>
      if ok = true then te σ' Hl fun y Hm => ∃ got, Hm D = some (.lst got) ∧ got.length < sizeLine ∧ B (j + 1) (upd Hm D (.lst (got ++ [y]))) else B (j + 1) Hl)
    (out : ∀ Hj, B z.cps.size Hj → Z Hj) :
    ∃ V : Nat → Nat → Hp → Prop, (∃ m, V 0 m (upd Ha D (.lst []))) ∧ ∀ j m Hj, V j m Hj → ((Its z).stop j Hj ∧ Z Hj) ∨ ((Its z).go j Hj ∧ ∃ F : Hp → Prop, (∀ Hk, F Hk → ∃ m', m' < m ∧ V (j + 1) m' Hk) ∧
      ∀ y Hk, (Its z).yld j Hj y Hk → g y (wipe σ own) Hk fun σ' Hl => wipe σ' own = wipe σ own ∧ tt σ' Hl fun ok Hm =>
        if ok = true then te σ' Hm fun u Hn => ∃ got, Hn D = some (.lst got) ∧ got.length < sizeLine ∧ F (upd Hn D (.lst (got ++ [u]))) else F Hm) := by
  refine ⟨fun j m Hj => m + j = z.cps.size ∧ B j Hj, ⟨z.cps.size, rfl, hb⟩, ?_⟩
  rintro j m Hj ⟨em, bj⟩
  rcases Nat.lt_or_ge j z.cps.size with c | c
  · refine .inr ⟨c, B (j + 1), fun Hk bk => ⟨m - 1, by omega, by omega, bk⟩, ?_⟩
    rintro y Hk ⟨rfl, cp, hc, rfl⟩
    exact step j cp Hk hc bj
  · have ej : j = z.cps.size := by omega
    subst ej
    exact .inl ⟨Nat.le_refl _, out Hj bj⟩
/-- the number that a word writes -/
def digs (w : Str) : Bool := w.cps.toList.all fun c => decide (48 ≤ c) && decide (c ≤ 57)
def numOk (w : Str) : Bool := decide (0 < w.length ∧ w.length < 7) && digs w && (decide (w = "0") || decide (w.cps.toList.head? ≠ some 48))
def numIn (w : Str) : Option Nat := if numOk w = true then some (NumText.digitsVal w.cps.toList) else none
theorem mem_figs (c : Nat) : decide (c ∈ ("0123456789" : Str).cps.toList) = (decide (48 ≤ c) && decide (c ≤ 57)) := by
  have e : ("0123456789" : Str).cps.toList = [48, 49, 50, 51, 52, 53, 54, 55, 56, 57] := by decide +kernel
  rw [e]
  by_cases h : 48 ≤ c ∧ c ≤ 57
  · rw [decide_eq_true h.1, decide_eq_true h.2]
    refine decide_eq_true ?_
    have : c = 48 ∨ c = 49 ∨ c = 50 ∨ c = 51 ∨ c = 52 ∨ c = 53 ∨ c = 54 ∨ c = 55 ∨ c = 56 ∨ c = 57 := by omega
    simpa using this
  · have : (decide (48 ≤ c) && decide (c ≤ 57)) = false := by
      cases h1 : decide (48 ≤ c)
      · rfl
      · cases h2 : decide (c ≤ 57)
        · rfl
        · exact absurd ⟨of_decide_eq_true h1, of_decide_eq_true h2⟩ h
    rw [this]
    refine decide_eq_false fun m => h ?_
    have : c = 48 ∨ c = 49 ∨ c = 50 ∨ c = 51 ∨ c = 52 ∨ c = 53 ∨ c = 54 ∨ c = 55 ∨ c = 56 ∨ c = 57 := by simpa using m
    omega
theorem num_int {w : Str} (h1 : 0 < w.length) (h2 : w.length < 7) (h : digs w = true) : intText? w = some ((NumText.digitsVal w.cps.toList : Nat) : Int) := by
  refine intText_digits (fun c hc => ?_) (fun z => ?_) (by omega)
  · have := List.all_eq_true.mp h c hc
    simp only [Bool.and_eq_true, decide_eq_true_eq] at this
    exact this
  · have e : w.length = w.cps.toList.length := TL.len_tl w
    rw [z] at e
    rw [e] at h1
    exact absurd h1 (by decide)
theorem spl1_len {s : Nat} : ∀ (l acc p : List Nat), p ∈ TL.spl [s] 0 acc l → p.length ≤ acc.length + l.length
  | [], acc, p, h => by
    rw [TL.spl_nil] at h
    rw [List.mem_singleton.mp h]
    exact Nat.le_add_right _ _
  | c :: r, acc, p, h => by
    cases e : TL.pre [s] (c :: r) with
    | false =>
      rw [TL.spl_miss e] at h
      have := spl1_len r _ p h
      rw [List.length_append] at this
      show p.length ≤ acc.length + (r.length + 1)
      have e1 : [c].length = 1 := rfl
      omega
    | true =>
      rw [TL.spl_hit e] at h
      show p.length ≤ acc.length + (r.length + 1)
      rcases List.mem_cons.mp h with h | h
      · rw [h]
        omega
      · have := spl1_len r [] p h
        have e1 : ([] : List Nat).length = 0 := rfl
        omega
theorem split_part {y : Str} {s : Nat} (ey : TL.tl y = [s]) (hk : y.cps.all (· < 256) = true) (x : Str) : ∀ p ∈ Txt.split x y, p.length ≤ x.length := fun p hp => by
  have e := TL.split_spl x y (by rw [ey]; simp) (TL.kind_ok hk)
  have m : TL.tl p ∈ (Txt.split x y).map TL.tl := List.mem_map_of_mem hp
  rw [e, ey] at m
  have := spl1_len _ _ _ m
  rw [TL.len_tl p, TL.len_tl x]
  have e1 : ([] : List Nat).length = 0 := rfl
  omega
theorem inV_non : ∀ l : List (Option Nat), inV .non (l.map K.ov) = true ↔ none ∈ l
  | [] => by simp [inV]
  | none :: r => by
    refine ⟨fun _ => List.mem_cons_self .., fun _ => ?_⟩
    show (eqV .non .non || inV .non (r.map K.ov)) = true
    rfl
  | some n :: r => by
    have ih := inV_non r
    have e : inV .non ((some n :: r).map K.ov) = (eqV (.int (n : Nat)) .non || inV .non (r.map K.ov)) := rfl
    rw [e, show eqV (.int (n : Nat)) .non = false from rfl, Bool.false_or, ih]
    simp
theorem flat_ov (l : List (Option Nat)) : (l.map K.ov).all flatV = true := by
  rw [List.all_map]
  refine List.all_eq_true.mpr fun x _ => ?_
  cases x <;> rfl
theorem spl1_ne {s : Nat} : ∀ (l acc : List Nat), TL.spl [s] 0 acc l ≠ []
  | [], acc => by rw [TL.spl_nil]; simp
  | c :: r, acc => by
    cases e : TL.pre [s] (c :: r) with
    | false => rw [TL.spl_miss e]; exact spl1_ne r _
    | true => rw [TL.spl_hit e]; simp
theorem split_ne {y : Str} {s : Nat} (ey : TL.tl y = [s]) (hk : y.cps.all (· < 256) = true) (x : Str) : Txt.split x y ≠ [] := fun z => by
  have e := TL.split_spl x y (by rw [ey]; simp) (TL.kind_ok hk)
  rw [z, ey] at e
  exact spl1_ne _ _ e.symm
theorem spl1_sum {s : Nat} : ∀ (l acc : List Nat), ((TL.spl [s] 0 acc l).map (·.length)).sum + (TL.spl [s] 0 acc l).length = acc.length + l.length + 1
  | [], acc => by
    rw [TL.spl_nil]
    rfl
  | c :: r, acc => by
    cases e : TL.pre [s] (c :: r) with
    | false =>
      rw [TL.spl_miss e]
      have := spl1_sum (s := s) r (acc ++ [c])
      rw [List.length_append] at this
      have e1 : [c].length = 1 := rfl
      rw [List.length_cons]
      omega
    | true =>
      rw [TL.spl_hit e]
      have := spl1_sum (s := s) r []
      have e1 : ([] : List Nat).length = 0 := rfl
      have e2 : TL.spl [s] ([s].length - 1) [] r = TL.spl [s] 0 [] r := rfl
      rw [e2, List.map_cons, List.sum_cons, List.length_cons, List.length_cons]
      omega
theorem split_sum {y : Str} {s : Nat} (ey : TL.tl y = [s]) (hk : y.cps.all (· < 256) = true) (x : Str) : ((Txt.split x y).map (·.length)).sum + (Txt.split x y).length = x.length + 1 := by
  have e := TL.split_spl x y (by rw [ey]; simp) (TL.kind_ok hk)
  rw [ey] at e
  have h := spl1_sum (s := s) (TL.tl x) []
  rw [← e, List.map_map, List.length_map] at h
  rw [TL.len_tl x]
  have e2 : (Txt.split x y).map (·.length) = (Txt.split x y).map ((fun l : List Nat => l.length) ∘ TL.tl) := List.map_congr_left fun a _ => TL.len_tl a
  rw [e2]
  have e1 : ([] : List Nat).length = 0 := rfl
  omega
/-- the room that texts ask for -/
def room (ws : List Str) : Nat := (ws.map (·.length)).sum + ws.length
theorem room_cons (x : Str) (r : List Str) : room (x :: r) = x.length + room r + 1 := by
  unfold room
  rw [List.map_cons, List.sum_cons, List.length_cons]
  omega
theorem room_sub {us ws : List Str} (h : us.Sublist ws) : room us ≤ room ws := by
  induction h with
  | slnil => exact Nat.le_refl _
  | cons a _ ih => rw [room_cons]; omega
  | cons_cons a _ ih => rw [room_cons, room_cons]; omega
theorem room_app (us ws : List Str) : room (us ++ ws) = room us + room ws := by
  induction us with
  | nil => rw [List.nil_append]; show room ws = 0 + room ws; omega
  | cons x r ih => rw [List.cons_append, room_cons, room_cons, ih]; omega
theorem room_set : ∀ (ws : List Str) (j : Nat) (x : Str), room (ws.set j x) ≤ room ws + x.length
  | [], j, x => by rw [List.set_nil]; exact Nat.le_add_right _ _
  | w :: r, 0, x => by rw [List.set_cons_zero, room_cons, room_cons]; omega
  | w :: r, j + 1, x => by
    have := room_set r j x
    rw [List.set_cons_succ, room_cons, room_cons]
    omega
theorem room_mem {x : Str} {ws : List Str} (h : x ∈ ws) : x.length + 1 ≤ room ws := by
  have := room_sub (List.singleton_sublist.mpr h)
  rw [room_cons] at this
  have e : room [] = 0 := rfl
  omega
theorem cut_part (lo hi : Option Int) (ws : List Str) : ∃ us : List Str, cutV (ws.map V.str) lo hi = us.map V.str ∧ us.Sublist ws := by
  unfold cutV
  rw [← List.map_drop, ← List.map_take]
  exact ⟨_, rfl, (List.take_sublist _ _).trans (List.drop_sublist _ _)⟩
theorem join_room (ws : List Str) : (Txt.join " " ws).length ≤ room ws := by
  have := len_join " " ws
  rw [len_blank] at this
  unfold room
  omega
theorem sum_room (ws : List Str) : (ws.map (·.length)).sum + ws.length * (" " : Str).length = room ws := by
  rw [len_blank]
  unfold room
  omega
/-- all there: the list, else none -/
def allIn {α : Type} : List (Option α) → Option (List α)
  | [] => some []
  | x :: r => match x, allIn r with
    | some n, some w => some (n :: w)
    | _, _ => none
/-- the way that a word writes -/
def wayIn (w : Str) : Option (List Nat) := allIn ((Txt.split w ".").map numIn)
theorem allIn_none {α : Type} : ∀ {l : List (Option α)}, allIn l = none ↔ none ∈ l
  | [] => by simp [allIn]
  | none :: r => by simp [allIn]
  | some n :: r => by
    have ih := allIn_none (l := r)
    cases h : allIn r with
    | none => simp [allIn, h, ih.mp h]
    | some w =>
      have : none ∉ r := fun z => by rw [ih.mpr z] at h; cases h
      simp [allIn, h, this]
theorem allIn_some {α : Type} : ∀ {l : List (Option α)} {w : List α}, allIn l = some w → l = w.map some
  | [], w, h => by cases h; rfl
  | none :: r, w, h => by simp [allIn] at h
  | some n :: r, w, h => by
    cases e : allIn r with
    | none => simp [allIn, e] at h
    | some v =>
      have : n :: v = w := by simpa [allIn, e] using h
      rw [← this, List.map_cons, ← allIn_some e]
/-- what a letter tells behind its word -/
inductive Thing where
  | num (n : Nat)
  | way (w : List Nat)
def ThingV (H : Hp) (v : V) : Thing → Prop
  | .num n => v = .int (n : Nat)
  | .way w => ∃ a, v = .ref a ∧ H a = some (.tup (natsV w))
theorem ThingV.same {H H' : Hp} {v : V} {t : Thing} (h : ThingV H v t) (s : ∀ b o, H b = some o → H' b = some o) : ThingV H' v t := by
  cases t with
  | num n => exact h
  | way w => obtain ⟨a, h1, h2⟩ := h; exact ⟨a, h1, s _ _ h2⟩
def thingIn (w so : Str) : Option Thing := if so = "n" then (numIn w).map .num else (wayIn w).map .way
def signs (f : Str) : List Str := f.cps.toList.map fun c => ⟨#[c]⟩
def thingsIn (ws : List Str) (f : Str) : Option (List Thing) := if ws.length = f.length then allIn (List.zipWith thingIn ws (signs f)) else none
def formOf (w : Str) : Option Str := if w = "tell" ∨ w = "lay" then some "nnw" else if w = "void" ∨ w = "back" then some "n" else none
/-- the letter that a text writes: its word and things -/
def letterIn (x : Str) : Option (Str × List Thing) := match Txt.split x " " with
  | [] => none
  | w :: r => match formOf w with
    | none => none
    | some f => (thingsIn r f).map fun ts => (w, ts)
def GotAt (H : Hp) (p : Addr) (l : Str × List Thing) : Prop := ∃ vs, H p = some (.tup (.str l.1 :: vs)) ∧ Paired (ThingV H) vs l.2
/-- a way that is read has at most half as many houses as its word has signs -/
theorem way_small {w : Str} {v : List Nat} (h : wayIn w = some v) : 2 * v.length ≤ w.length + 1 := by
  have hs := split_sum (y := ".") rfl (by decide +kernel) w
  have e := allIn_some h
  have el : (Txt.split w ".").length = v.length := by
    have := congrArg List.length e
    rw [List.length_map, List.length_map] at this
    exact this
  have pos : ∀ x ∈ Txt.split w ".", 1 ≤ x.length := fun x hx => by
    have m : numIn x ∈ (Txt.split w ".").map numIn := List.mem_map_of_mem hx
    rw [e] at m
    obtain ⟨n, _, hn⟩ := List.mem_map.mp m
    unfold numIn at hn
    by_cases c : numOk x = true
    · unfold numOk at c
      simp only [Bool.and_eq_true, decide_eq_true_eq] at c
      exact c.1.1.1
    · rw [if_neg c] at hn
      cases hn
  have sum_ge : ∀ l : List Str, (∀ x ∈ l, 1 ≤ x.length) → l.length ≤ (l.map (·.length)).sum := by
    intro l
    induction l with
    | nil => intro _; exact Nat.le_refl _
    | cons a r ih =>
      intro h
      have h1 := h a (List.mem_cons_self ..)
      have h2 := ih fun x hx => h x (List.mem_cons_of_mem _ hx)
      rw [List.map_cons, List.sum_cons, List.length_cons]
      omega
  have := sum_ge _ pos
  omega
def SmallT (n : Nat) : Thing → Prop
  | .num _ => True
  | .way v => 2 * v.length ≤ n + 1
theorem letter_small {x : Str} {l : Str × List Thing} (h : letterIn x = some l) : l.2.length ≤ 3 ∧ ∀ t ∈ l.2, SmallT x.length t := by
  have hps := split_part (y := " ") rfl (by decide +kernel) x
  unfold letterIn at h
  generalize Txt.split x " " = ws at *
  cases ws with
  | nil => cases h
  | cons w r =>
    cases hf : formOf w with
    | none => simp only [hf] at h; cases h
    | some f =>
      simp only [hf] at h
      cases ht : thingsIn r f with
      | none => rw [ht] at h; cases h
      | some ts =>
        rw [ht] at h
        have el : (w, ts) = l := Option.some.inj h
        subst el
        have hfl : f.length ≤ 3 := by
          unfold formOf at hf
          split at hf
          · cases hf; decide +kernel
          · split at hf
            · cases hf; decide +kernel
            · cases hf
        unfold thingsIn at ht
        split at ht
        · have e := allIn_some ht
          have e1 := congrArg List.length e
          rw [List.length_zipWith, List.length_map] at e1
          have e2 : (signs f).length = f.length := by unfold signs; rw [List.length_map]; exact (TL.len_tl f).symm
          refine ⟨by show ts.length ≤ 3; omega, fun t mt => ?_⟩
          have m : some t ∈ List.zipWith thingIn r (signs f) := by rw [e]; exact List.mem_map_of_mem mt
          obtain ⟨i, hi⟩ := List.mem_iff_getElem?.mp m
          rw [List.getElem?_zipWith] at hi
          cases ha : r[i]? with
          | none => rw [ha] at hi; simp at hi
          | some a =>
            cases hb : (signs f)[i]? with
            | none => rw [ha, hb] at hi; simp at hi
            | some b =>
              rw [ha, hb] at hi
              have hi : thingIn a b = some t := by simpa using hi
              have hal := hps a (List.mem_cons_of_mem _ (List.mem_of_getElem? ha))
              unfold thingIn at hi
              split at hi
              · obtain ⟨n, _, rfl⟩ := Option.map_eq_some_iff.mp hi
                trivial
              · obtain ⟨v, hv, rfl⟩ := Option.map_eq_some_iff.mp hi
                have := way_small hv
                show 2 * v.length ≤ x.length + 1
                omega
        · cases ht
theorem text_len {l : Letter} (g : l.Good) : l.text.length ≤ 175 := by
  have n1 : ∀ n, n < 1000000 → (nt n).length ≤ 6 := fun n h => nt_len h
  cases l with
  | two w n =>
    have hw : w.length ≤ 4 := by rcases g.1 with rfl | rfl <;> decide +kernel
    have := n1 n g.2
    show (w ++ " " ++ nt n).length ≤ 175
    rw [len_app, len_app, len_blank]
    omega
  | four w a b way =>
    obtain ⟨gw, ga, gb, gh, _, gl⟩ := g
    have hw : w.length ≤ 4 := by rcases gw with rfl | rfl <;> decide +kernel
    have h1 := n1 a ga
    have h2 := n1 b gb
    have h3 := wt_len gh
    show (w ++ " " ++ nt a ++ " " ++ nt b ++ " " ++ wt way).length ≤ 175
    rw [len_app, len_app, len_app, len_app, len_app, len_app, len_blank]
    omega
abbrev formK : List (Key × V) := [(.inr "tell", .str "nnw"), (.inr "void", .str "n"), (.inr "back", .str "n"), (.inr "lay", .str "nnw")]
theorem form_val (w : Str) : ((valV formK (.inr w)).getD .non) = (match formOf w with | none => V.non | some f => .str f) := by
  by_cases h1 : w = "tell"
  · subst h1; decide +kernel
  · by_cases h2 : w = "void"
    · subst h2; decide +kernel
    · by_cases h3 : w = "back"
      · subst h3; decide +kernel
      · by_cases h4 : w = "lay"
        · subst h4; decide +kernel
        · unfold formOf
          rw [if_neg (fun z => z.elim h1 h4), if_neg (fun z => z.elim h2 h3)]
          have n : ∀ {s : Str}, ¬ w = s → decide ((Sum.inr s : Key) = .inr w) = false := fun h => decide_eq_false fun z => h (Sum.inr.inj z).symm
          unfold valV formK
          rw [List.find?_cons, n h1, List.find?_cons, n h2, List.find?_cons, n h3, List.find?_cons, n h4]
          rfl
end SwL

/-! x, *rest = a list or a tuple -/
namespace SwSt
open PySem PySem.Spec PyProof.Rows L2
section
variable {prog : Program} {w : World} {A : Around} {E : Value → Shared → Prop} {s : Shared}
/-- what is left of a list or a tuple behind its first thing is a new list -/
def NewRest (s : Shared) (x : Value) (ls : List Value) (Q : List Value → Shared → Prop) : Prop :=
  ∀ (g : Heap) (tk : Nat), (∀ b o, s.heap.get? b = some o → g.get? b = some o) → Q [x, .ref g.objs.size] { s with heap := g.push { cls := .type "list", data := .seq ls.toArray }, toks := tk }
theorem rest_end {x : Value} {ls : List Value} {Q : List Value → Shared → Prop} {o1 : Obj} {g1 g2 : Heap} {tk : Nat} (hz : ls.length ≤ 16000) (k1 : Heap.SameBut s.heap.objs.size (s.heap.push o1) g1) (k2 : ∀ b o, b ≠ s.heap.objs.size → g1.get? b = some o → g2.get? b = some o)
    (h : NewRest s x ls Q) : wpAny (model prog w) A (newList ls >>= fun d => pure [x, d]) Q E { s with heap := g2, toks := tk } := by
  refine wpAny_bind (wpAny_newObj_type (wpAny_pure (h g2 tk fun b o e => ?_)) (by show ls.toArray.size ≤ sizeLine; rw [List.size_toArray, sizeLine_eq]; omega))
  have nb : b ≠ s.heap.objs.size := Nat.ne_of_lt (Heap.lt_size e)
  exact k2 b o nb (k1.extBut b o nb (Heap.get?_push_of_some _ e))
theorem unpack_list {l : Addr} {x : Value} {ls : List Value} {Q : List Value → Shared → Prop} (hh : A.handled = none) (hl : s.heap.IsList l (x :: ls).toArray) (hz : ls.length ≤ 16000) (h : NewRest s x ls Q) : wpAny (model prog w) A (unpackItems (.ref l) 2 (some 1)) Q E s := by
  have ll : l < s.heap.objs.size := by obtain ⟨o, ho, _⟩ := hl; exact Heap.lt_size ho
  have ne : l ≠ s.heap.objs.size := Nat.ne_of_lt ll
  unfold unpackItems notIterableAtAll
  refine wpAny_bind (wpAny_bind (wpAny_specialOf hl.typeIs slot_list_iter.lookup (wpAny_pure ?_)))
  simp only [Bool.false_eq_true, if_false]
  refine wpAny_bind (wpAny_holding (wpAny_pyIter_list hl ?_))
  refine wpAny_bind (wpAny_holding (PySem.W.kun_draw ne 1 0 _ _ ⟨_, Heap.get?_push_size _ rfl, rfl, rfl⟩ (hl.push _) (by rw [List.size_toArray, List.length_cons]; omega) fun g1 it1 k1 => ?_))
  have l1 : g1.IsList l (x :: ls).toArray := (hl.push _).extBut k1.extBut ne
  obtain ⟨oi, ei, _⟩ := id it1
  obtain ⟨ol, el, _⟩ := id l1
  show wpAny _ _ (if ([x] : List Value).length < 1 then _ else _) _ _ _
  rw [if_neg (by show ¬ 1 < 1; omega)]
  refine wpAny_bind (wpAny_holding (PySem.W.kun_collect (s := { s with heap := g1 }) (T := "list_iterator") (.inr (.inr (.inl rfl))) (Walks.list (A := A.in1) hh s.heap.objs.size l ne (x :: ls).toArray) (fun j u st => st.1.typeIs) (k := 1) (by rw [List.size_toArray, List.length_cons]; omega) ⟨it1, l1⟩ (Heap.lt_size ei) (Heap.lt_size el) (fun g2 tk k2 => ?_) (by rw [List.size_toArray, List.length_cons, sizeLine_eq]; omega)))
  show wpAny _ _ (if ls.length < 0 then _ else _) _ _ _
  rw [if_neg (Nat.not_lt_zero _)]
  show wpAny _ _ (newList (ls.take ls.length) >>= fun d => pure ([x] ++ [d] ++ ls.drop ls.length)) _ _ _
  rw [List.take_length, List.drop_length]
  exact rest_end (s := s) hz k1 k2 h
theorem unpack_tup {l : Addr} {x : Value} {ls : List Value} {Q : List Value → Shared → Prop} (hh : A.handled = none) (hl : IsTup s.heap l (x :: ls).toArray) (hz : ls.length ≤ 16000) (h : NewRest s x ls Q) : wpAny (model prog w) A (unpackItems (.ref l) 2 (some 1)) Q E s := by
  have ll : l < s.heap.objs.size := by obtain ⟨o, ho, _⟩ := hl; exact Heap.lt_size ho
  have ne : l ≠ s.heap.objs.size := Nat.ne_of_lt ll
  unfold unpackItems notIterableAtAll
  refine wpAny_bind (wpAny_bind (wpAny_specialOf hl.typeIs slot_tuple_iter.lookup (wpAny_pure ?_)))
  simp only [Bool.false_eq_true, if_false]
  refine wpAny_bind (wpAny_holding (iter_tuple hl ?_))
  refine wpAny_bind (wpAny_holding (draw_tuple ne 1 0 _ _ ⟨_, Heap.get?_push_size _ rfl, rfl, rfl⟩ (hl.push _) (by rw [List.size_toArray, List.length_cons]; omega) fun g1 it1 k1 => ?_))
  have l1 : IsTup g1 l (x :: ls).toArray := (hl.push _).extBut k1.extBut ne
  obtain ⟨oi, ei, _⟩ := id it1
  obtain ⟨ol, el, _⟩ := id l1
  show wpAny _ _ (if ([x] : List Value).length < 1 then _ else _) _ _ _
  rw [if_neg (by show ¬ 1 < 1; omega)]
  refine wpAny_bind (wpAny_holding (PySem.W.kun_collect (s := { s with heap := g1 }) (T := "tuple_iterator") (.inr (.inr (.inr rfl))) (Walks.tuple (A := A.in1) hh s.heap.objs.size l ne (x :: ls).toArray) (fun j u st => st.1.typeIs) (k := 1) (by rw [List.size_toArray, List.length_cons]; omega) ⟨it1, l1⟩ (Heap.lt_size ei) (Heap.lt_size el) (fun g2 tk k2 => ?_) (by rw [List.size_toArray, List.length_cons, sizeLine_eq]; omega)))
  show wpAny _ _ (if ls.length < 0 then _ else _) _ _ _
  rw [if_neg (Nat.not_lt_zero _)]
  show wpAny _ _ (newList (ls.take ls.length) >>= fun d => pure ([x] ++ [d] ++ ls.drop ls.length)) _ _ _
  rw [List.take_length, List.drop_length]
  exact rest_end (s := s) hz k1 k2 h
end
/-- x, *y = ..: t takes the two values -/
def gStar (K : PySem.W.Frag) (t : TGs) : TG := fun v σ H Q => ∃ (a : Addr) (x : V) (xs : List V), v = .ref a ∧ (SqT K H a (x :: xs) ∨ SqL K H a (x :: xs)) ∧ xs.length ≤ 16000 ∧ ∀ p, H p = none → t [x, .ref p] σ (upd H p (.lst xs)) Q
theorem pg_star {X : Cx} {e1 e2 : Expr} {sp pos : Pos} {k : Nat} {t : TGs} (hc : X.calm = true) (h : PGs X [e1, e2] t)
    (hn : (assignEach [e1, .Starred e2 sp] X.env).length = 2 := by rfl) (hst : (assignEach [e1, .Starred e2 sp] X.env).findIdx? (·.1) = some 1 := by rfl)
    (hm : (assignEach [e1, .Starred e2 sp] X.env).map (·.2) = (assignEach [e1, e2] X.env).map (·.2) := by rfl) : PG X (.Tuple [e1, .Starred e2 sp] k pos) (gStar X.K t) := by
  refine ⟨fun pins s σ H v u Q I r hw => ?_⟩
  obtain ⟨a, x, xs, rfl, hq, hz, hw⟩ := hw
  cases r
  have hh := I.ok.hd hc
  rw [assign_Tuple]
  refine wpAny_bind (wpAny_standAt ?_)
  unfold unpack
  rw [hn, hst, hm]
  have go : ∀ {u : Value} {us : List Value}, RelV x u → Vals xs us → NewRest s u us (fun vs s' => wpAny (model X.prog X.w) X.A (assignInOrder ((assignEach [e1, e2] X.env).map (·.2)) vs) (fun _ s' => ∃ σ' H', Inv X pins σ' H' s' ∧ Q σ' H') X.xe s') := by
    intro u us ru rus g tk kp
    have I1 : Inv X pins σ H { s with heap := g, toks := tk } := I.kept kp
    have hf : H g.objs.size = none := I1.hok.fresh (Nat.le_refl _)
    have hx : xs.length ≤ sizeLine := by rw [sizeLine_eq]; omega
    have I2 := I1.laid (t' := tk) (h' := g.push { cls := .type "list", data := .seq us.toArray }) (a := g.objs.size) (o := .lst xs) (fun b u e => Heap.get?_push_of_some _ e) (Nat.le_refl _) ⟨hx, us, 0, rus, Heap.get?_push_size _ rfl⟩
    exact h.run pins _ σ _ [x, .ref g.objs.size] [u, .ref g.objs.size] Q I2 (.cons ru (.cons rfl .nil)) (hw _ hf)
  rcases hq with hq | hq
  · obtain ⟨its, rv, ht, _⟩ := I.tuple hq
    cases rv with
    | cons ru rus =>
      exact wpAny_bind (wpAny_holding (unpack_tup hh ht (by rw [← rus.length]; exact hz) (go ru rus)))
  · obtain ⟨its, rv, pl, _⟩ := I.list hq
    cases rv with
    | cons ru rus =>
      exact wpAny_bind (wpAny_holding (unpack_list hh pl.isList (by rw [← rus.length]; exact hz) (go ru rus)))
end SwSt

/-! list(zip(t, u)), t and u tuples: the pairs are new tuples, all held by the list -/
namespace SwZ
open PySem PySem.Spec PyProof.Rows
section
variable {prog : Program} {w : World} {A : Around} {E : Value → Shared → Prop} {s : Shared} {z TI TO i1 i2 T : Addr} {fp1 fp2 : List Addr} {n1 n2 i : Nat} {P1 P2 : Nat → Value → Prop} {St1 St2 : Nat → Heap → Prop} {f : Bool} {oT : Obj}
theorem item_held {Q : Value → Shared → Prop} (S : ZipSep2 z TI TO i1 i2 fp1 fp2) (D1 : Draws prog w A i1 fp1 n1 P1 St1) (D2 : Draws prog w A i2 fp2 n2 P2 St2)
    (hz : IsZipHeld s.heap z TI TO T f) (hT : s.heap.get? T = some oT) (hTI : IsTupOf2 s.heap TI (.ref i1) (.ref i2)) (st1 : St1 i s.heap) (st2 : St2 i s.heap) (hlt1 : i < n1) (hlt2 : i < n2)
    (hQ : ∀ x1 x2 h' tk, P1 i x1 → P2 i x2 → IsZipHeld h' z TI TO T true → St1 (i + 1) h' → St2 (i + 1) h' → IsTupOf2 h' s.heap.objs.size x1 x2 → h'.objs.size = s.heap.objs.size + 1 →
      (∀ c o, c ≠ z → c ≠ i1 → c ≠ i2 → s.heap.get? c = some o → h'.get? c = some o) → Q (.ref s.heap.objs.size) { s with heap := h', toks := tk }) :
    wpAny (model prog w) A (Builtin.«zip.__next__» ⟨[.ref z], []⟩) (fun fin s' => ∃ v, fin = .done (.ret v) ∧ Q v s') E s := by
  obtain ⟨hp, g, d, tk0, os⟩ := s
  show wpAny _ _ (field (.ref z) 2 >>= _) _ _ _
  refine wpAny_bind (wpAny_field hz rfl (x := .bool false) rfl ?_)
  show wpAny _ _ (field (.ref z) 3 >>= _) _ _ _
  refine wpAny_bind (wpAny_field hz rfl (x := .ref TI) rfl ?_)
  refine wpAny_bind (wpAny_seqItems hTI rfl ?_)
  show wpAny _ _ (Builtin.SmallTypes.ownedTupleIsFree (.ref z) >>= _) _ _ _
  refine wpAny_bind (wpAny_tupleHeld_zip hz hT fun h₁ hz₁ hs₁ => ?_)
  replace hs₁ : Heap.SameBut z hp h₁ := hs₁
  simp only [Bool.false_eq_true, if_false]
  refine wpAny_bind ?_
  rw [← Array.forIn_toList]
  simp only [List.forIn_cons, List.forIn_nil]
  refine wpAny_bind (wpAny_bind (wpAny_holding ?_))
  show wpAny _ _ (Builtin.SmallTypes.nextOf (.ref i1) >>= _) _ _ ⟨h₁, g, d, tk0, os⟩
  refine wpAny_bind (D1.item i _ _ _ hlt1 (D1.over st1 hs₁ S.zf1) fun x1 h₂ tk1 hx1 sn1 hs₂ => wpAny_pure ?_)
  replace hs₂ : Heap.SameBut i1 h₁ h₂ := hs₂
  refine wpAny_pure ?_
  refine wpAny_bind (wpAny_bind (wpAny_holding ?_))
  show wpAny _ _ (Builtin.SmallTypes.nextOf (.ref i2) >>= _) _ _ ⟨h₂, g, d, tk1, os⟩
  refine wpAny_bind (D2.item i _ _ _ hlt2 (D2.over (D2.over st2 hs₁ S.zf2) hs₂ S.sep1_2) fun x2 h₃ tk2 hx2 sn2 hs₃ => wpAny_pure ?_)
  replace hs₃ : Heap.SameBut i2 h₂ h₃ := hs₃
  refine wpAny_pure (wpAny_pure ?_)
  show wpAny _ _ (newTuple [x1, x2] >>= _) _ _ ⟨h₃, g, d, tk2, os⟩
  refine wpAny_bind (wpAny_newTuple ?_)
  have hsz : h₃.objs.size = hp.objs.size := by rw [hs₃.1, hs₂.1, hs₁.1]
  have hz₃ : IsZipHeld h₃ z TI TO T true := hs₃.extBut _ _ S.zi2 (hs₂.extBut _ _ S.zi1 hz₁)
  have hk : ∀ c o, c ≠ z → c ≠ i1 → c ≠ i2 → hp.get? c = some o → h₃.get? c = some o := fun c o c1 c2 c3 e => hs₃.extBut _ _ c3 (hs₂.extBut _ _ c2 (hs₁.extBut _ _ c1 e))
  refine wpAny_pure ⟨_, rfl, ?_⟩
  show Q (.ref h₃.objs.size) _
  have hp2 : IsTupOf2 (h₃.push { cls := .type "tuple", data := .seq #[x1, x2] }) h₃.objs.size x1 x2 := Heap.get?_push_size _ rfl
  have hz4 : (h₃.push { cls := .type "tuple", data := .seq #[x1, x2] }).objs.size = h₃.objs.size + 1 := Heap.size_push ..
  rw [hsz] at hp2 hz4 ⊢
  exact hQ x1 x2 _ tk2 hx1 hx2 (Heap.get?_push_of_some _ hz₃) (D1.frame _ _ _ (D1.over sn1 hs₃ S.sep2_1) fun b _ o e => Heap.get?_push_of_some _ e) (D2.frame _ _ _ sn2 fun b _ o e => Heap.get?_push_of_some _ e) hp2 hz4 fun c o c1 c2 c3 e => Heap.get?_push_of_some _ (hk c o c1 c2 c3 e)
theorem end_held {Q : Fin → Shared → Prop} (S : ZipSep2 z TI TO i1 i2 fp1 fp2) (D1 : Draws prog w A i1 fp1 n1 P1 St1) (D2 : Draws prog w A i2 fp2 n2 P2 St2)
    (hz : IsZipHeld s.heap z TI TO T f) (hT : s.heap.get? T = some oT) (hTI : IsTupOf2 s.heap TI (.ref i1) (.ref i2)) (st1 : St1 i s.heap) (st2 : St2 i s.heap) (hle1 : i ≤ n1) (hle2 : i ≤ n2) (hend : i = n1 ∨ i = n2)
    (hE : ∀ h' tk e, (∀ c o, c ≠ z → c ≠ i1 → c ≠ i2 → s.heap.get? c = some o → h'.get? c = some o) → (∃ o, h'.get? e = some o ∧ o.cls = .type "StopIteration") → E (.ref e) { s with heap := h', toks := tk }) :
    wpAny (model prog w) A (Builtin.«zip.__next__» ⟨[.ref z], []⟩) Q E s := by
  obtain ⟨hp, g, d, tk0, os⟩ := s
  show wpAny _ _ (field (.ref z) 2 >>= _) _ _ _
  refine wpAny_bind (wpAny_field hz rfl (x := .bool false) rfl ?_)
  show wpAny _ _ (field (.ref z) 3 >>= _) _ _ _
  refine wpAny_bind (wpAny_field hz rfl (x := .ref TI) rfl ?_)
  refine wpAny_bind (wpAny_seqItems hTI rfl ?_)
  show wpAny _ _ (Builtin.SmallTypes.ownedTupleIsFree (.ref z) >>= _) _ _ _
  refine wpAny_bind (wpAny_tupleHeld_zip hz hT fun h₁ hz₁ hs₁ => ?_)
  replace hs₁ : Heap.SameBut z hp h₁ := hs₁
  simp only [Bool.false_eq_true, if_false]
  refine wpAny_bind ?_
  rw [← Array.forIn_toList]
  simp only [List.forIn_cons, List.forIn_nil]
  refine wpAny_bind (wpAny_bind (wpAny_holding ?_))
  show wpAny _ _ (Builtin.SmallTypes.nextOf (.ref i1) >>= _) _ _ ⟨h₁, g, d, tk0, os⟩
  by_cases hlt1 : i < n1
  · refine wpAny_bind (D1.item i _ _ _ hlt1 (D1.over st1 hs₁ S.zf1) fun x1 h₂ tk1 hx1 sn1 hs₂ => wpAny_pure ?_)
    replace hs₂ : Heap.SameBut i1 h₁ h₂ := hs₂
    refine wpAny_pure ?_
    have hi2 : i = n2 := by omega
    refine wpAny_bind (wpAny_bind (wpAny_holding ?_))
    show wpAny _ _ (Builtin.SmallTypes.nextOf (.ref i2) >>= _) _ _ ⟨h₂, g, d, tk1, os⟩
    refine wpAny_bind (D2.done ⟨h₂, g, d, tk1, os⟩ _ _ (by rw [← hi2]; exact D2.over (D2.over st2 hs₁ S.zf2) hs₂ S.sep1_2) fun q e hq he => ?_)
    replace hq : Heap.ExtBut i2 h₂ q := hq
    exact hE q tk1 e (fun c o cz c1 c2 x => hq _ _ c2 (hs₂.extBut _ _ c1 (hs₁.extBut _ _ cz x))) he
  · have hi1 : i = n1 := by omega
    refine wpAny_bind (D1.done ⟨h₁, g, d, tk0, os⟩ _ _ (by rw [← hi1]; exact D1.over st1 hs₁ S.zf1) fun q e hq he => ?_)
    replace hq : Heap.ExtBut i1 h₁ q := hq
    exact hE q tk0 e (fun c o cz c1 c2 x => hq _ _ c1 (hs₁.extBut _ _ cz x)) he
theorem next_held {Q : Option Value → Shared → Prop} (S : ZipSep2 z TI TO i1 i2 fp1 fp2) (D1 : Draws prog w A.in1 i1 fp1 n1 P1 St1) (D2 : Draws prog w A.in1 i2 fp2 n2 P2 St2)
    (hz : IsZipHeld s.heap z TI TO T f) (hT : s.heap.get? T = some oT) (hTI : IsTupOf2 s.heap TI (.ref i1) (.ref i2)) (st1 : St1 i s.heap) (st2 : St2 i s.heap) (hlt1 : i < n1) (hlt2 : i < n2)
    (hQ : ∀ x1 x2 h' tk, P1 i x1 → P2 i x2 → IsZipHeld h' z TI TO T true → St1 (i + 1) h' → St2 (i + 1) h' → IsTupOf2 h' s.heap.objs.size x1 x2 → h'.objs.size = s.heap.objs.size + 1 →
      (∀ c o, c ≠ z → c ≠ i1 → c ≠ i2 → s.heap.get? c = some o → h'.get? c = some o) → Q (some (.ref s.heap.objs.size)) { s with heap := h', toks := tk }) :
    wpAny (model prog w) A (pyNext (.ref z)) Q E s := by
  have hTy : s.TypeIs (.ref z) "zip" := ⟨_, hz, rfl⟩
  unfold pyNext
  exact wpAny_bind (wpAny_attempt (wpAny_callSpecial?_slot (name := Str.ofString "__next__") hTy F.slot_zip_next
    (wpAny_call_entry F.slot_zip_next hTy F.entry_zip_next
      (item_held S D1 D2 hz hT hTI st1 st2 hlt1 hlt2 fun x1 x2 h' tk y1 y2 b1 d1 d2 b5 b6 b7 => wpAny_pure (hQ x1 x2 h' tk y1 y2 b1 d1 d2 b5 b6 b7)) (F.args_zip_next_1 _))))
theorem done_held {Q : Option Value → Shared → Prop} (S : ZipSep2 z TI TO i1 i2 fp1 fp2) (D1 : Draws prog w A.in1 i1 fp1 n1 P1 St1) (D2 : Draws prog w A.in1 i2 fp2 n2 P2 St2)
    (hz : IsZipHeld s.heap z TI TO T f) (hT : s.heap.get? T = some oT) (hTI : IsTupOf2 s.heap TI (.ref i1) (.ref i2)) (st1 : St1 i s.heap) (st2 : St2 i s.heap) (hle1 : i ≤ n1) (hle2 : i ≤ n2) (hend : i = n1 ∨ i = n2)
    (hQ : ∀ h' tk, (∀ c o, c ≠ z → c ≠ i1 → c ≠ i2 → s.heap.get? c = some o → h'.get? c = some o) → Q none { s with heap := h', toks := tk }) : wpAny (model prog w) A (pyNext (.ref z)) Q E s := by
  have hTy : s.TypeIs (.ref z) "zip" := ⟨_, hz, rfl⟩
  unfold pyNext
  refine wpAny_bind (wpAny_attempt (wpAny_callSpecial?_slot (name := Str.ofString "__next__") hTy F.slot_zip_next
    (wpAny_call_entry F.slot_zip_next hTy F.entry_zip_next (end_held S D1 D2 hz hT hTI st1 st2 hle1 hle2 hend fun h' tk e hk he => ?_) (F.args_zip_next_1 _))))
  obtain ⟨o, ho, hc⟩ := he
  refine wpAny_bind (wpAny_isInstance (T := "StopIteration") (b := true) ⟨o, ho, hc⟩ isSubtype_stop ?_)
  exact wpAny_pure (hQ _ _ hk)
end
theorem ne_k (N k l : Nat) (h : k ≠ l) : N + k ≠ N + l := by omega
theorem ab_k (N k : Nat) (h : k ≤ 5) : ¬ N + 5 < N + k := by omega
theorem lo_k (N k : Nat) : ¬ N + k < N := by omega
theorem zip_no_len : typeLookup (.type "zip") "__len__" = pure none := by rw [typeLookup_type, builtinLookup_eq_fast]; kernel_rfl
theorem zip_no_hint : typeLookup (.type "zip") "__length_hint__" = pure none := by rw [typeLookup_type, builtinLookup_eq_fast]; kernel_rfl
/-- the zip at N + 4 over the iterators N, N + 1 of the tuples t1, t2; i pairs were given out; all that it gave out lies above S -/
structure ZSt (h : Heap) (N S t1 t2 : Addr) (xs ys : Array Value) (i : Nat) : Prop where
  z : IsZip h (N + 4) (N + 2) (N + 3) .none ∨ ∃ T f oT, IsZipHeld h (N + 4) (N + 2) (N + 3) T f ∧ h.get? T = some oT ∧ S < T
  ti : IsTupOf2 h (N + 2) (.ref N) (.ref (N + 1))
  to : ∃ a1 a2, IsTupOf2 h (N + 3) a1 a2
  s1 : h.IsTupleIter N t1 i ∧ h.IsTuple t1 xs
  s2 : h.IsTupleIter (N + 1) t2 i ∧ h.IsTuple t2 ys
theorem ZSt.keep {h h' : Heap} {N S t1 t2 : Addr} {xs ys : Array Value} {i : Nat} (x : ZSt h N S t1 t2 xs ys i) (hS : S = N + 5) (h1 : t1 < N) (h2 : t2 < N) (hk : ∀ b o, b ≠ S → h.get? b = some o → h'.get? b = some o) : ZSt h' N S t1 t2 xs ys i := by
  subst hS
  have ne : ∀ k : Nat, k < 5 → (N + k : Nat) ≠ N + 5 := fun k hk => ne_k N k 5 (by omega)
  have n1 : (t1 : Nat) ≠ N + 5 := Nat.ne_of_lt (Nat.lt_of_lt_of_le h1 (Nat.le_add_right _ _))
  have n2 : (t2 : Nat) ≠ N + 5 := Nat.ne_of_lt (Nat.lt_of_lt_of_le h2 (Nat.le_add_right _ _))
  have n0 : (N : Nat) ≠ N + 5 := ne 0 (by omega)
  refine ⟨?_, hk _ _ (ne 2 (by omega)) x.ti, ?_, ⟨x.s1.1.at fun o e => hk _ o n0 e, x.s1.2.at fun o e => hk _ o n1 e⟩, ⟨x.s2.1.at fun o e => hk _ o (ne 1 (by omega)) e, x.s2.2.at fun o e => hk _ o n2 e⟩⟩
  · rcases x.z with q | ⟨T, f, oT, q1, q2, q3⟩
    · exact .inl (hk _ _ (ne 4 (by omega)) q)
    · exact .inr ⟨T, f, oT, hk _ _ (ne 4 (by omega)) q1, hk _ _ (Nat.ne_of_gt q3) q2, q3⟩
  · obtain ⟨a1, a2, q⟩ := x.to
    exact ⟨a1, a2, hk _ _ (ne 3 (by omega)) q⟩
section
variable {prog : Program} {w : World} {A : Around} {E : Value → Shared → Prop} {s : Shared} {N S t1 t2 : Addr} {xs ys : Array Value} {i : Nat}
theorem z_item {Q : Option Value → Shared → Prop} (hh : A.handled = none) (hst : ZSt s.heap N S t1 t2 xs ys i) (hS : S = N + 5) (h1 : t1 < N) (h2 : t2 < N) (hSl : S < s.heap.objs.size) (hx : i < xs.size) (hy : i < ys.size)
    (hQ : ∀ h' tk, ZSt h' N S t1 t2 xs ys (i + 1) → h'.get? s.heap.objs.size = some { cls := .type "tuple", data := .seq #[xs[i], ys[i]] } → h'.objs.size = s.heap.objs.size + 1 →
      (∀ b o, b ≠ N + 4 → b ≠ N + 3 → b ≠ N → b ≠ N + 1 → s.heap.get? b = some o → h'.get? b = some o) → Q (some (.ref s.heap.objs.size)) { s with heap := h', toks := tk }) :
    wpAny (model prog w) A (pyNext (.ref (N + 4))) Q E s := by
  have Sp : ZipSep2 (N + 4) (N + 2) (N + 3) N (N + 1) [N, t1] [N + 1, t2] := zip_sep2 (fp1 := [t1]) (fp2 := [t2]) (fun b hb => by simp at hb; subst hb; exact h1) (fun b hb => by simp at hb; subst hb; exact h2)
  have D1 : Draws prog w A.in1 N [N, t1] xs.size (fun i v => xs[i]? = some v) (fun i h => h.IsTupleIter N t1 i ∧ h.IsTuple t1 xs) := Draws.tuple (A := A.in1) hh N t1 (Nat.ne_of_lt h1) xs
  have D2 : Draws prog w A.in1 (N + 1) [N + 1, t2] ys.size (fun i v => ys[i]? = some v) (fun i h => h.IsTupleIter (N + 1) t2 i ∧ h.IsTuple t2 ys) := Draws.tuple (A := A.in1) hh (N + 1) t2 (Nat.ne_of_lt (Nat.lt_succ_of_lt h2)) ys
  have ne : ∀ k l : Nat, k ≠ l → (N + k : Nat) ≠ N + l := fun k l hk => ne_k N k l hk
  have e1 : ∀ {x : Value}, xs[i]? = some x → x = xs[i] := fun {x} e => by rw [Array.getElem?_eq_getElem hx] at e; exact (Option.some.inj e).symm
  have e2 : ∀ {x : Value}, ys[i]? = some x → x = ys[i] := fun {x} e => by rw [Array.getElem?_eq_getElem hy] at e; exact (Option.some.inj e).symm
  rcases hst.z with hz | ⟨T, f, oT, hz, hT, hST⟩
  · obtain ⟨a1, a2, hTO⟩ := hst.to
    refine wpAny_pyNext_zipD2_item Sp D1 D2 hz hst.ti hTO hst.s1 hst.s2 hx hy fun x1 x2 h' tk y1 y2 b1 b2 d1 d2 b5 b6 hk => ?_
    rw [e1 y1, e2 y2] at b5
    exact hQ h' tk ⟨.inr ⟨s.heap.objs.size, false, _, b1, b5, hSl⟩, hk _ _ (ne 2 4 (by omega)) (ne 2 3 (by omega)) (ne 2 0 (by omega)) (ne 2 1 (by omega)) hst.ti, ⟨_, _, b2⟩, d1, d2⟩ b5 b6 fun b o c1 c2 c3 c4 e => hk b o c1 c2 c3 c4 e
  · have nT : ∀ k : Nat, k ≤ 5 → T ≠ N + k := fun k hk e => by
      rw [hS, e] at hST
      exact ab_k N k hk hST
    refine next_held Sp D1 D2 hz hT hst.ti hst.s1 hst.s2 hx hy fun x1 x2 h' tk y1 y2 b1 d1 d2 b5 b6 hk => ?_
    rw [e1 y1, e2 y2] at b5
    obtain ⟨a1, a2, hTO⟩ := hst.to
    exact hQ h' tk ⟨.inr ⟨T, true, oT, b1, hk _ _ (nT 4 (by omega)) (nT 0 (by omega)) (nT 1 (by omega)) hT, hST⟩, hk _ _ (ne 2 4 (by omega)) (ne 2 0 (by omega)) (ne 2 1 (by omega)) hst.ti, ⟨a1, a2, hk _ _ (ne 3 4 (by omega)) (ne 3 0 (by omega)) (ne 3 1 (by omega)) hTO⟩, d1, d2⟩ b5 b6 fun b o c1 c2 c3 c4 e => hk b o c1 c3 c4 e
theorem z_done {Q : Option Value → Shared → Prop} (hh : A.handled = none) (hst : ZSt s.heap N S t1 t2 xs ys i) (h1 : t1 < N) (h2 : t2 < N) (hx : i ≤ xs.size) (hy : i ≤ ys.size) (he : i = xs.size ∨ i = ys.size)
    (hQ : ∀ h' tk, (∀ b o, b ≠ N + 4 → b ≠ N + 3 → b ≠ N → b ≠ N + 1 → s.heap.get? b = some o → h'.get? b = some o) → Q none { s with heap := h', toks := tk }) :
    wpAny (model prog w) A (pyNext (.ref (N + 4))) Q E s := by
  have Sp : ZipSep2 (N + 4) (N + 2) (N + 3) N (N + 1) [N, t1] [N + 1, t2] := zip_sep2 (fp1 := [t1]) (fp2 := [t2]) (fun b hb => by simp at hb; subst hb; exact h1) (fun b hb => by simp at hb; subst hb; exact h2)
  have D1 : Draws prog w A.in1 N [N, t1] xs.size (fun i v => xs[i]? = some v) (fun i h => h.IsTupleIter N t1 i ∧ h.IsTuple t1 xs) := Draws.tuple (A := A.in1) hh N t1 (Nat.ne_of_lt h1) xs
  have D2 : Draws prog w A.in1 (N + 1) [N + 1, t2] ys.size (fun i v => ys[i]? = some v) (fun i h => h.IsTupleIter (N + 1) t2 i ∧ h.IsTuple t2 ys) := Draws.tuple (A := A.in1) hh (N + 1) t2 (Nat.ne_of_lt (Nat.lt_succ_of_lt h2)) ys
  rcases hst.z with hz | ⟨T, f, oT, hz, hT, hST⟩
  · obtain ⟨a1, a2, hTO⟩ := hst.to
    exact wpAny_pyNext_zipD2_end Sp D1 D2 hz hst.ti hTO hst.s1 hst.s2 hx hy he fun h' tk hk => hQ h' tk hk
  · exact done_held Sp D1 D2 hz hT hst.ti hst.s1 hst.s2 hx hy he fun h' tk hk => hQ h' tk fun b o c1 c2 c3 c4 e => hk b o c1 c3 c4 e
end
/-- the pairs of two rows of values, in tuples above lo, rising -/
structure ZG (xs ys : Array Value) (lo : Addr) (h : Heap) (as : List Addr) : Prop where
  rise : as.Pairwise (· < ·)
  above : ∀ a ∈ as, lo < a
  pairs : ∀ (j : Nat) (a : Addr), as[j]? = some a → ∃ (h1 : j < xs.size) (h2 : j < ys.size), h.get? a = some { cls := .type "tuple", data := .seq #[xs[j], ys[j]] }
theorem ZG.there {xs ys : Array Value} {lo : Addr} {h : Heap} {as : List Addr} (g : ZG xs ys lo h as) {a : Addr} (ha : a ∈ as) : a < h.objs.size := by
  obtain ⟨j, hj⟩ := List.mem_iff_getElem?.mp ha
  obtain ⟨_, _, e⟩ := g.pairs j a hj
  exact Heap.lt_size e
section
variable {prog : Program} {w : World} {A : Around} {s : Shared} {R : Result → Shared → Prop} {xs ys : Array Value}
theorem z_loop {N S t1 t2 : Addr} (hh : A.handled = none) (hSN : S = N + 5) (ht1 : t1 < N) (ht2 : t2 < N) (hn : min xs.size ys.size ≤ sizeLine) (res : Value) {h₁ : Heap}
    (hR : ∀ h' tk acc c as, (∀ b o, b < N → h₁.get? b = some o → h'.get? b = some o) → h'.get? S = some { cls := .type "list", dict := none, data := .seq acc c, slots := #[] } → as.length = min xs.size ys.size → ZG xs ys S h' as →
      acc.toList = as.map Value.ref → R (.ok (.ret res)) { s with heap := h', toks := tk }) :
    ∀ (k i : Nat) (h : Heap) (tk c : Nat) (acc : Array Value) (as : List Addr), min xs.size ys.size - i = k → i ≤ min xs.size ys.size → ZSt h N S t1 t2 xs ys i → (∀ b o, b < N → h₁.get? b = some o → h.get? b = some o) →
      h.get? S = some { cls := .type "list", dict := none, data := .seq acc c, slots := #[] } → acc.toList = as.map Value.ref → as.length = i → ZG xs ys S h as →
      codeAny (model prog w) A (.builtin "list.extend.loop" ⟨[.ref S, .ref (N + 4), res], []⟩) R { s with heap := h, toks := tk } := by
  have nS : ∀ k : Nat, k < 5 → (S : Nat) ≠ N + k := fun k hk => by rw [hSN]; exact ne_k N 5 k (by omega)
  have nA : ∀ (a : Addr) (k : Nat), k ≤ 5 → S < a → a ≠ N + k := fun a k hk ha e => by
    rw [hSN, e] at ha
    exact ab_k N k hk ha
  have nB : ∀ (b : Addr) (k : Nat), b < N → b ≠ N + k := fun b k hb e => by
    rw [e] at hb
    exact lo_k N k hb
  have nBS : ∀ b : Addr, b < N → b ≠ S := fun b hb => by rw [hSN]; exact nB b 5 hb
  intro k
  induction k with
  | zero =>
    intro i h tk c acc as hk hi hst hkeep hS hacc hal hG
    refine codeAny_builtin PySem.F.entry_extend_loop ?_
    rw [Around.under_plainId PySem.F.plain_extend_loop _]
    show wpAny _ A.in1 (pyNext (.ref (N + 4)) >>= _) _ _ _
    refine wpAny_bind (z_done (s := { s with heap := h, toks := tk }) (A := A.in1) hh hst ht1 ht2 (by omega) (by omega) (by omega) fun h' tk' he => ?_)
    refine wpAny_pure (hR h' tk' acc c as (fun b o hb e => he b o (nB b 4 hb) (nB b 3 hb) (nB b 0 hb) (nB b 1 hb) (hkeep b o hb e)) (he S _ (nS 4 (by omega)) (nS 3 (by omega)) (nS 0 (by omega)) (nS 1 (by omega)) hS) (by omega) ⟨hG.rise, hG.above, fun j a hj => ?_⟩ hacc)
    obtain ⟨j1, j2, e3⟩ := hG.pairs j a hj
    have ha := hG.above a (List.mem_of_getElem? hj)
    exact ⟨j1, j2, he a _ (nA a 4 (by omega) ha) (nA a 3 (by omega) ha) (nA a 0 (by omega) ha) (nA a 1 (by omega) ha) e3⟩
  | succ k ih =>
    intro i h tk c acc as hk hi hst hkeep hS hacc hal hG
    have hx : i < xs.size := by omega
    have hy : i < ys.size := by omega
    have hsz : acc.size = i := by rw [← Array.length_toList, hacc, List.length_map, hal]
    have hSl : S < h.objs.size := Heap.lt_size hS
    refine codeAny_builtin PySem.F.entry_extend_loop ?_
    rw [Around.under_plainId PySem.F.plain_extend_loop _]
    show wpAny _ A.in1 (pyNext (.ref (N + 4)) >>= _) _ _ _
    refine wpAny_bind (z_item (s := { s with heap := h, toks := tk }) (A := A.in1) hh hst hSN ht1 ht2 hSl hx hy fun h' tk' hst' ht hz hkp => ?_)
    dsimp only at ht hz hkp ⊢
    have hS' := hkp S _ (nS 4 (by omega)) (nS 3 (by omega)) (nS 0 (by omega)) (nS 1 (by omega)) hS
    have up : ∀ b o, b ≠ S → h'.get? b = some o → (h'.update S (Obj.mapSeq (·.push (Value.ref h.objs.size)))).get? b = some o := fun b o hb e => (Heap.get?_update_other _ _ (Ne.symm hb)).trans e
    show wpAny _ A.in1 (updateSeq S (·.push (Value.ref h.objs.size)) >>= _) _ _ _
    refine wpAny_bind ?_
    refine wpAny_updateSeq hS' rfl (wpAny_pure ⟨plainId_quiet PySem.F.plain_extend_loop _, ih (i + 1) _ tk' _ (acc.push (Value.ref h.objs.size)) (as ++ [h.objs.size]) (by omega) (by omega) (hst'.keep hSN ht1 ht2 up)
      (fun b o hb e => up b o (nBS b hb) (hkp b o (nB b 4 hb) (nB b 3 hb) (nB b 0 hb) (nB b 1 hb) (hkeep b o hb e))) (Heap.get?_update_self _ hS' rfl) (by rw [Array.toList_push, hacc, List.map_append]; rfl) (by rw [List.length_append, hal]; rfl) ⟨?_, ?_, ?_⟩⟩) (by rw [hsz]; omega) (by show (acc.push (Value.ref h.objs.size)).size ≤ sizeLine + 1; rw [Array.size_push, hsz]; omega)
    · refine List.pairwise_append.mpr ⟨hG.rise, List.pairwise_singleton _ _, fun a ha b hb => ?_⟩
      rw [List.mem_singleton.mp hb]
      exact hG.there ha
    · intro a ha
      rcases List.mem_append.mp ha with ha | ha
      · exact hG.above a ha
      · rw [List.mem_singleton.mp ha]; exact hSl
    · intro j b hj
      rcases Nat.lt_trichotomy j as.length with h1 | h1 | h1
      · rw [List.getElem?_append_left h1] at hj
        obtain ⟨j1, j2, e3⟩ := hG.pairs j b hj
        have hb := hG.above b (List.mem_of_getElem? hj)
        exact ⟨j1, j2, up b _ (Nat.ne_of_gt hb) (hkp b _ (nA b 4 (by omega) hb) (nA b 3 (by omega) hb) (nA b 0 (by omega) hb) (nA b 1 (by omega) hb) e3)⟩
      · subst h1
        have hb : h.objs.size = b := by simpa using hj
        subst hb
        exact ⟨by omega, by omega, by subst hal; exact up _ _ (Nat.ne_of_gt hSl) ht⟩
      · have hnone : (as ++ [h.objs.size])[j]? = none := List.getElem?_eq_none (by rw [List.length_append, List.length_singleton]; omega)
        rw [hnone] at hj; cases hj
end
end SwZ

/-! zip(a list, a text) walked: for x, y in zip(l, "..") -/
namespace SwLS
open PySem PySem.Spec PyProof.Rows L2 SwZ
def ItLS (K : PySem.W.Frag) (a : Addr) (f : Str) : It :=
  ⟨fun j Hj => ∃ (xs : List V) (x : V) (c : Nat), SqL K Hj a xs ∧ xs[j]? = some x ∧ f.cps[j]? = some c,
   fun j Hj v Hk => ∃ (N : Addr) (x : V) (c : Nat), v = .ref N ∧ Hj N = none ∧ Hk = upd Hj N (.tup [x, .str ⟨#[c]⟩]) ∧ (∀ xs, SqL K Hj a xs → xs[j]? = some x) ∧ f.cps[j]? = some c,
   fun j Hj => ∃ xs : List V, SqL K Hj a xs ∧ j ≤ xs.length ∧ j ≤ f.cps.size ∧ (j = xs.length ∨ j = f.cps.size)⟩
/-- the five objects of such a zip, laid from N on -/
structure ZLS (h : Heap) (N a : Addr) (f : Str) (t : Tok) (j : Nat) : Prop where
  zip : IsZip h (N + 4) (N + 2) (N + 3) .none
  two : IsTupOf2 h (N + 2) (.ref N) (.ref (N + 1))
  out : ∃ u v, IsTupOf2 h (N + 3) u v
  lst : h.IsListIter N a j
  txt : h.IsStrIter (N + 1) (strIterType f) f t j
abbrev five (N : Addr) : List Addr := [N + 4, N + 2, N + 3, N, N + 1]
theorem five_of {N c : Addr} (h : c ∈ five N) : c = N + 4 ∨ c = N + 2 ∨ c = N + 3 ∨ c = N ∨ c = N + 1 := by simpa using h
theorem lt_ne (a N k : Nat) (h : a < N) : a ≠ N + k := by omega
theorem ne_0 (N k : Nat) (h : k ≠ 0) : N + k ≠ N := by omega
theorem sepLS {N a : Addr} (h : a < N) : ZipSep2 (N + 4) (N + 2) (N + 3) N (N + 1) [N, a] [N + 1] where
  TIz := ne_k N 2 4 (by decide)
  TOz := ne_k N 3 4 (by decide)
  TITO := ne_k N 2 3 (by decide)
  TIi1 := ne_0 N 2 (by decide)
  mem1 := List.mem_cons_self ..
  zf1 := fun m => by
    rcases List.mem_cons.mp m with e | m
    · exact ne_0 N 4 (by decide) e
    · exact lt_ne a N 4 h (List.mem_singleton.mp m).symm
  Tf1 := fun m => by
    rcases List.mem_cons.mp m with e | m
    · exact ne_0 N 3 (by decide) e
    · exact lt_ne a N 3 h (List.mem_singleton.mp m).symm
  TIi2 := ne_k N 2 1 (by decide)
  mem2 := List.mem_cons_self ..
  zf2 := fun m => ne_k N 4 1 (by decide) (List.mem_singleton.mp m)
  Tf2 := fun m => ne_k N 3 1 (by decide) (List.mem_singleton.mp m)
  sep1_2 := fun m => ne_0 N 1 (by decide) (List.mem_singleton.mp m).symm
  sep2_1 := fun m => by
    rcases List.mem_cons.mp m with e | m
    · exact ne_0 N 1 (by decide) e
    · exact lt_ne a N 1 h (List.mem_singleton.mp m).symm
theorem turnLS {P : Program} {w : World} {K : PySem.W.Frag} {elts : List Expr} {kk : Nat} {tp : Pos} {a N : Addr} {f : Str} {t : Tok} (ha : a < N) :
    Turn P w K (.Tuple elts kk tp) (ItLS K a f) (five N) (N + 4) (fun j h => ZLS h N a f t j) where
  mem := List.mem_cons_self ..
  obj := fun j h st c hc => by
    obtain ⟨o1, e1, _, d1⟩ := st.lst
    obtain ⟨o2, e2, _, d2⟩ := st.txt
    obtain ⟨u, v, e3⟩ := st.out
    rcases five_of hc with rfl | rfl | rfl | rfl | rfl
    · exact ⟨_, st.zip, fun v q => nomatch q⟩
    · exact ⟨_, st.two, fun v q => nomatch q⟩
    · exact ⟨_, e3, fun v q => nomatch q⟩
    · exact ⟨o1, e1, fun v q => by rw [d1] at q; cases q⟩
    · exact ⟨o2, e2, fun v q => by rw [d2] at q; cases q⟩
  keep := fun j h h' st k => by
    obtain ⟨u, v, e3⟩ := st.out
    obtain ⟨o2, e2, r2⟩ := st.txt
    exact ⟨k _ (by simp) _ st.zip, k _ (by simp) _ st.two, ⟨u, v, k _ (by simp) _ e3⟩, st.lst.at fun o q => k N (by simp) o q, ⟨o2, k _ (by simp) _ e2, r2⟩⟩
  item := by
    intro X hP hw hK hc j pins s σ H E I hf st hg
    subst hP hw hK
    obtain ⟨xs, x, c, hq, hx, hfc⟩ := hg
    obtain ⟨its, rv, pl, _⟩ := I.list hq
    obtain ⟨u, hu, ru⟩ := rv.get hx
    obtain ⟨u0, v0, e3⟩ := st.out
    have hh : X.A.handled = none := I.ok.hd hc
    have hzl : N + 4 < s.heap.objs.size := Heap.lt_size st.zip
    have hj1 : j < its.toArray.size := by
      have := (List.getElem?_eq_some_iff.mp hu).1
      simpa using this
    have hj2 : j < f.cps.size := (Array.getElem?_eq_some_iff.mp hfc).1
    refine wpAny_pyNext_zipD2_item (sepLS ha) (Draws.list (A := X.A.in1) hh N a (fun z => lt_ne a N 0 ha z) its.toArray) (Draws.text (A := X.A.in1) hh (N + 1) f t) st.zip st.two e3 ⟨st.lst, pl.isList⟩ st.txt hj1 hj2 fun y1 y2 h' tk w1 w2 z' T' l' t' hT hsz hk => ?_
    obtain ⟨c', tok, hc', rfl⟩ := w2
    have ec : c' = c := by rw [hfc] at hc'; exact (Option.some.inj hc').symm
    subst ec
    have ey : y1 = u := by
      have w1 : its.toArray[j]? = some y1 := w1
      rw [List.getElem?_toArray, hu] at w1
      exact (Option.some.inj w1).symm
    subst ey
    refine ⟨_, rfl, wpAny_letOwnedTupleGo_zip (s := { s with heap := h', toks := tk }) z' fun h2 z2 sb => ?_⟩
    have off : ∀ b, b ≠ N + 4 → h2.get? b = h'.get? b := fun b hb => sb.2 b hb
    have hT2 : h2.get? s.heap.objs.size = some { cls := .type "tuple", data := .seq #[y1, .str ⟨#[c']⟩ tok] } := (off _ (Nat.ne_of_gt hzl)).trans hT
    have fresh : ObjOk X.prog X.w (upd H s.heap.objs.size (.tup [x, .str ⟨#[c']⟩])) h2 s.heap.objs.size (.tup [x, .str ⟨#[c']⟩]) :=
      ⟨by show 2 ≤ sizeLine; decide, [y1, .str ⟨#[c']⟩ tok], .cons ru (.cons ⟨tok, rfl⟩ .nil), ⟨_, hT2, rfl, _, rfl⟩⟩
    have J : Inv X pins σ (upd H s.heap.objs.size (.tup [x, .str ⟨#[c']⟩])) { s with heap := h2, toks := tk } :=
      I.turnedNew (t' := tk) (ch := five N) (fun b o hb q => (off b (fun e => hb (by simp [e]))).trans (hk b o (fun e => hb (by simp [e])) (fun e => hb (by simp [e])) (fun e => hb (by simp [e])) (fun e => hb (by simp [e])) q)) hf (Nat.le_refl _) fresh
    have k1 := l'.1.at fun o q => (off N (ne_0 N 4 (by decide)).symm).trans q
    obtain ⟨o2, q2, r2⟩ := t'
    refine ⟨.ref s.heap.objs.size, _, J, rfl, ⟨_, x, c', rfl, I.hok.fresh (Nat.le_refl _), rfl, fun l hl => by rw [I.list_inj hl hq]; exact hx, hfc⟩, ⟨z2, ?_, ⟨_, _, (off _ (ne_k N 3 4 (by decide))).trans T'⟩, k1, ⟨o2, (off _ (ne_k N 1 4 (by decide))).trans q2, r2⟩⟩, fun b hb => ?_⟩
    · exact (off _ (ne_k N 2 4 (by decide))).trans (hk _ _ (ne_k N 2 4 (by decide)) (ne_k N 2 3 (by decide)) (ne_0 N 2 (by decide)) (ne_k N 2 1 (by decide)) st.two)
    · have hlt : b < s.heap.objs.size := by
        obtain ⟨o1, q1, _⟩ := st.lst
        obtain ⟨o3, q3, _⟩ := st.txt
        rcases five_of hb with rfl | rfl | rfl | rfl | rfl
        · exact hzl
        · exact Heap.lt_size st.two
        · exact Heap.lt_size e3
        · exact Heap.lt_size q1
        · exact Heap.lt_size q3
      rw [upd_ne (Nat.ne_of_lt hlt)]
      exact (hf b hb).1
  done := by
    intro X hP hw hK hc j pins s σ H E I hf st hg
    subst hP hw hK
    obtain ⟨xs, hq, h1, h2, hend⟩ := hg
    obtain ⟨its, rv, pl, _⟩ := I.list hq
    obtain ⟨u0, v0, e3⟩ := st.out
    have hh : X.A.handled = none := I.ok.hd hc
    have el : its.toArray.size = xs.length := by
      have := rv.length
      simpa using this.symm
    refine wpAny_pyNext_zipD2_end (sepLS ha) (Draws.list (A := X.A.in1) hh N a (fun z => lt_ne a N 0 ha z) its.toArray) (Draws.text (A := X.A.in1) hh (N + 1) f t) st.zip st.two e3 ⟨st.lst, pl.isList⟩ st.txt (by rw [el]; exact h1) h2 (by rw [el]; exact hend) fun h' tk hk => ⟨rfl, ?_⟩
    exact I.turnedL (t' := tk) (ch := five N) (fun c o hb q => hk c o (fun e => hb (by simp [e])) (fun e => hb (by simp [e])) (fun e => hb (by simp [e])) (fun e => hb (by simp [e])) q) hf
  self := fun A j s Q E st h => wpAny_pyIter_zip st.zip h
def iLS (K : PySem.W.Frag) (ta : TA) : TI := fun σ H R => ta σ H fun vs Hj => ∃ (a : Addr) (xs : List V) (f : Str), vs = [.ref a, .str f] ∧ SqL K Hj a xs ∧ R (ItLS K a f) Hj
theorem pi_LS {X : Cx} {e e2 : Expr} {ta : TA} {p pos tp : Pos} {elts : List Expr} {kk : Nat} (hg : Gl X "zip") (hm : X.mg "zip" = none) (ha : PA X [e, e2] ta)
    (h1 : starEach [e, e2] X.env = (false, eval e X.env) :: starEach [e2] X.env := by rfl) (h2 : (backTo pos (starEach [e2] X.env)).any (·.1) = false := by rfl) :
    PI X (.Tuple elts kk tp) (.Call (.Name "zip" p) [e, e2] [] pos) (iLS X.K ta) := by
  refine ⟨fun pins s σ H R I h => Call_ (ld_blt I hg hm PyProof.Rows.boot_zip (PyProof.Rows.callWith_type1 (thn (ha.run pos pins s σ H _ I h) fun us sj ⟨vs, Hj, J, rv, q⟩ => ?_) h1 h2))⟩
  obtain ⟨a, xs, f, ev, hq, r⟩ := q
  subst ev
  obtain ⟨u1, u2, rfl, r1, r2⟩ := vals2 rv
  cases r1
  obtain ⟨tok, rfl⟩ := r2
  obtain ⟨its, _, pl, _⟩ := J.list hq
  refine zip_begins2 (begins_list a its.toArray) (begins_text f tok) pl.isList trivial fun h' z0 z1 z2 z3 z4 z5 k => wpAny_pyIter_zip z0 ?_
  refine ⟨_, five sj.heap.objs.size, _, _, Hj, rfl, J.kept (t' := sj.toks) k, turnLS (t := tok) (f := f) pl.lt, ⟨z0, z1, ⟨_, _, z2⟩, ⟨_, z3, rfl, rfl⟩, ⟨_, z4, rfl, rfl⟩⟩, fun c hc => ?_, r⟩
  have le : sj.heap.objs.size ≤ c := by
    rcases five_of hc with rfl | rfl | rfl | rfl | rfl
    · exact Nat.le_add_right _ _
    · exact Nat.le_add_right _ _
    · exact Nat.le_add_right _ _
    · exact Nat.le_refl _
    · exact Nat.le_add_right _ _
  exact J.fpOk le (J.hok.fresh le)
/-- [.. for x, y in zip(list, text)], both of one length -/
theorem lc_LS {K : PySem.W.Frag} {a : Addr} {f : Str} {xs : List V} {g : TG} {tt : TT} {te : TE} {own : List Nat} {σ : L2.St} {Ha : Hp} {D : Addr} {Z : Hp → Prop} (hl : xs.length = f.cps.size) (B : Nat → Hp → Prop) (hb : B 0 (upd Ha D (.lst []))) (hq : ∀ j Hj, B j Hj → SqL K Hj a xs)
    (step : ∀ j x c N Hj, xs[j]? = some x → f.cps[j]? = some c → B j Hj → Hj N = none → g (.ref N) (wipe σ own) (upd Hj N (.tup [x, .str ⟨#[c]⟩])) fun σ' Hk => wipe σ' own = wipe σ own ∧ tt σ' Hk fun ok Hl =>
      if ok = true then te σ' Hl fun y Hm => ∃ got, Hm D = some (.lst got) ∧ got.length < sizeLine ∧ B (j + 1) (upd Hm D (.lst (got ++ [y]))) else B (j + 1) Hl)
    (out : ∀ Hj, B xs.length Hj → Z Hj) :
    ∃ V : Nat → Nat → Hp → Prop, (∃ m, V 0 m (upd Ha D (.lst []))) ∧ ∀ j m Hj, V j m Hj → ((ItLS K a f).stop j Hj ∧ Z Hj) ∨ ((ItLS K a f).go j Hj ∧ ∃ F : Hp → Prop, (∀ Hk, F Hk → ∃ m', m' < m ∧ V (j + 1) m' Hk) ∧
      ∀ y Hk, (ItLS K a f).yld j Hj y Hk → g y (wipe σ own) Hk fun σ' Hl => wipe σ' own = wipe σ own ∧ tt σ' Hl fun ok Hm =>
        if ok = true then te σ' Hm fun u Hn => ∃ got, Hn D = some (.lst got) ∧ got.length < sizeLine ∧ F (upd Hn D (.lst (got ++ [u]))) else F Hm) := by
  refine ⟨fun j m Hj => m + j = xs.length ∧ B j Hj, ⟨xs.length, rfl, hb⟩, ?_⟩
  rintro j m Hj ⟨em, bj⟩
  have q := hq j Hj bj
  rcases Nat.lt_or_ge j xs.length with c | c
  · have hx : xs[j]? = some xs[j] := List.getElem?_eq_getElem c
    have hf : f.cps[j]? = some (f.cps[j]'(by omega)) := Array.getElem?_eq_getElem (by omega)
    refine .inr ⟨⟨xs, _, _, q, hx, hf⟩, B (j + 1), fun Hk bk => ⟨m - 1, by omega, by omega, bk⟩, ?_⟩
    rintro y Hk ⟨N, x, cp, rfl, hN, rfl, h1, h2⟩
    exact step j x cp N Hj (h1 xs q) h2 bj hN
  · have ej : j = xs.length := by omega
    subst ej
    exact .inl ⟨⟨xs, q, Nat.le_refl _, by omega, .inl rfl⟩, out Hj bj⟩
theorem un65 {k : Nat} {A : Around} (r : Room k A) : A.units + 65 < cLine := by have := r.un; omega
end SwLS

/-! zip(a tuple, a list) walked: for x, y in zip(t, l) -/
namespace SwTL
open PySem PySem.Spec PyProof.Rows L2 SwZ SwLS
def ItTL (K : PySem.W.Frag) (a b : Addr) : It :=
  ⟨fun j Hj => ∃ (xs ys : List V) (x y : V), SqT K Hj a xs ∧ SqL K Hj b ys ∧ xs[j]? = some x ∧ ys[j]? = some y,
   fun j Hj v Hk => ∃ (N : Addr) (x y : V), v = .ref N ∧ Hj N = none ∧ Hk = upd Hj N (.tup [x, y]) ∧ (∀ xs, SqT K Hj a xs → xs[j]? = some x) ∧ (∀ ys, SqL K Hj b ys → ys[j]? = some y),
   fun j Hj => ∃ xs ys : List V, SqT K Hj a xs ∧ SqL K Hj b ys ∧ j ≤ xs.length ∧ j ≤ ys.length ∧ (j = xs.length ∨ j = ys.length)⟩
/-- the five objects of such a zip, laid from N on -/
structure ZTL (h : Heap) (N a b : Addr) (j : Nat) : Prop where
  zip : IsZip h (N + 4) (N + 2) (N + 3) .none
  two : IsTupOf2 h (N + 2) (.ref N) (.ref (N + 1))
  out : ∃ u v, IsTupOf2 h (N + 3) u v
  tup : h.IsTupleIter N a j
  lst : h.IsListIter (N + 1) b j
theorem two_of {c x y : Addr} (m : c ∈ [x, y]) : c = x ∨ c = y := by simpa using m
theorem sepTL {N a b : Addr} (h : a < N) (h' : b < N) : ZipSep2 (N + 4) (N + 2) (N + 3) N (N + 1) [N, a] [N + 1, b] where
  TIz := ne_k N 2 4 (by decide)
  TOz := ne_k N 3 4 (by decide)
  TITO := ne_k N 2 3 (by decide)
  TIi1 := ne_0 N 2 (by decide)
  mem1 := List.mem_cons_self ..
  zf1 := fun m => (two_of m).elim (fun e => ne_0 N 4 (by decide) e) fun e => lt_ne a N 4 h e.symm
  Tf1 := fun m => (two_of m).elim (fun e => ne_0 N 3 (by decide) e) fun e => lt_ne a N 3 h e.symm
  TIi2 := ne_k N 2 1 (by decide)
  mem2 := List.mem_cons_self ..
  zf2 := fun m => (two_of m).elim (fun e => ne_k N 4 1 (by decide) e) fun e => lt_ne b N 4 h' e.symm
  Tf2 := fun m => (two_of m).elim (fun e => ne_k N 3 1 (by decide) e) fun e => lt_ne b N 3 h' e.symm
  sep1_2 := fun m => (two_of m).elim (fun e => ne_0 N 1 (by decide) e.symm) fun e => lt_ne b N 0 h' e.symm
  sep2_1 := fun m => (two_of m).elim (fun e => ne_0 N 1 (by decide) e) fun e => lt_ne a N 1 h e.symm
theorem turnTL {P : Program} {w : World} {K : PySem.W.Frag} {elts : List Expr} {kk : Nat} {tp : Pos} {a b N : Addr} (ha : a < N) (hb : b < N) :
    Turn P w K (.Tuple elts kk tp) (ItTL K a b) (five N) (N + 4) (fun j h => ZTL h N a b j) where
  mem := List.mem_cons_self ..
  obj := fun j h st c hc => by
    obtain ⟨o1, e1, _, d1⟩ := st.tup
    obtain ⟨o2, e2, _, d2⟩ := st.lst
    obtain ⟨u, v, e3⟩ := st.out
    rcases five_of hc with rfl | rfl | rfl | rfl | rfl
    · exact ⟨_, st.zip, fun v q => nomatch q⟩
    · exact ⟨_, st.two, fun v q => nomatch q⟩
    · exact ⟨_, e3, fun v q => nomatch q⟩
    · exact ⟨o1, e1, fun v q => by rw [d1] at q; cases q⟩
    · exact ⟨o2, e2, fun v q => by rw [d2] at q; cases q⟩
  keep := fun j h h' st k => by
    obtain ⟨u, v, e3⟩ := st.out
    exact ⟨k _ (by simp) _ st.zip, k _ (by simp) _ st.two, ⟨u, v, k _ (by simp) _ e3⟩, st.tup.at fun o q => k N (by simp) o q, st.lst.at fun o q => k (N + 1) (by simp) o q⟩
  item := by
    intro X hP hw hK hc j pins s σ H E I hf st hg
    subst hP hw hK
    obtain ⟨xs, ys, x, y, hqt, hql, hx, hy⟩ := hg
    obtain ⟨ts, rt, pt, _⟩ := I.tuple hqt
    obtain ⟨ls, rl, pl, _⟩ := I.list hql
    obtain ⟨u1, hu1, ru1⟩ := rt.get hx
    obtain ⟨u2, hu2, ru2⟩ := rl.get hy
    obtain ⟨u0, v0, e3⟩ := st.out
    have hh : X.A.handled = none := I.ok.hd hc
    have hzl : N + 4 < s.heap.objs.size := Heap.lt_size st.zip
    have hj1 : j < ts.toArray.size := by
      have := (List.getElem?_eq_some_iff.mp hu1).1
      simpa using this
    have hj2 : j < ls.toArray.size := by
      have := (List.getElem?_eq_some_iff.mp hu2).1
      simpa using this
    refine wpAny_pyNext_zipD2_item (sepTL ha hb) (Draws.tuple (A := X.A.in1) hh N a (fun z => lt_ne a N 0 ha z) ts.toArray) (Draws.list (A := X.A.in1) hh (N + 1) b (lt_ne b N 1 hb) ls.toArray) st.zip st.two e3 ⟨st.tup, pt⟩ ⟨st.lst, pl.isList⟩ hj1 hj2 fun y1 y2 h' tk w1 w2 z' T' t' l' hT hsz hk => ?_
    have ey1 : y1 = u1 := by
      have w1 : ts.toArray[j]? = some y1 := w1
      rw [List.getElem?_toArray, hu1] at w1
      exact (Option.some.inj w1).symm
    have ey2 : y2 = u2 := by
      have w2 : ls.toArray[j]? = some y2 := w2
      rw [List.getElem?_toArray, hu2] at w2
      exact (Option.some.inj w2).symm
    subst ey1 ey2
    refine ⟨_, rfl, wpAny_letOwnedTupleGo_zip (s := { s with heap := h', toks := tk }) z' fun h2 z2 sb => ?_⟩
    have off : ∀ b, b ≠ N + 4 → h2.get? b = h'.get? b := fun b hb => sb.2 b hb
    have hT2 : h2.get? s.heap.objs.size = some { cls := .type "tuple", data := .seq #[y1, y2] } := (off _ (Nat.ne_of_gt hzl)).trans hT
    have fresh : ObjOk X.prog X.w (upd H s.heap.objs.size (.tup [x, y])) h2 s.heap.objs.size (.tup [x, y]) :=
      ⟨by show 2 ≤ sizeLine; decide, [y1, y2], .cons ru1 (.cons ru2 .nil), ⟨_, hT2, rfl, _, rfl⟩⟩
    have J : Inv X pins σ (upd H s.heap.objs.size (.tup [x, y])) { s with heap := h2, toks := tk } :=
      I.turnedNew (t' := tk) (ch := five N) (fun b o hb q => (off b (fun e => hb (by simp [e]))).trans (hk b o (fun e => hb (by simp [e])) (fun e => hb (by simp [e])) (fun e => hb (by simp [e])) (fun e => hb (by simp [e])) q)) hf (Nat.le_refl _) fresh
    have k1 := t'.1.at fun o q => (off N (ne_0 N 4 (by decide)).symm).trans q
    have k2 := l'.1.at fun o q => (off (N + 1) (ne_k N 1 4 (by decide))).trans q
    refine ⟨.ref s.heap.objs.size, _, J, rfl, ⟨_, x, y, rfl, I.hok.fresh (Nat.le_refl _), rfl, fun l hl => by rw [I.tuple_inj hl hqt]; exact hx, fun l hl => by rw [I.list_inj hl hql]; exact hy⟩, ⟨z2, ?_, ⟨_, _, (off _ (ne_k N 3 4 (by decide))).trans T'⟩, k1, k2⟩, fun b hb => ?_⟩
    · exact (off _ (ne_k N 2 4 (by decide))).trans (hk _ _ (ne_k N 2 4 (by decide)) (ne_k N 2 3 (by decide)) (ne_0 N 2 (by decide)) (ne_k N 2 1 (by decide)) st.two)
    · have hlt : b < s.heap.objs.size := by
        obtain ⟨o1, q1, _⟩ := st.tup
        obtain ⟨o3, q3, _⟩ := st.lst
        rcases five_of hb with rfl | rfl | rfl | rfl | rfl
        · exact hzl
        · exact Heap.lt_size st.two
        · exact Heap.lt_size e3
        · exact Heap.lt_size q1
        · exact Heap.lt_size q3
      rw [upd_ne (Nat.ne_of_lt hlt)]
      exact (hf b hb).1
  done := by
    intro X hP hw hK hc j pins s σ H E I hf st hg
    subst hP hw hK
    obtain ⟨xs, ys, hqt, hql, h1, h2, hend⟩ := hg
    obtain ⟨ts, rt, pt, _⟩ := I.tuple hqt
    obtain ⟨ls, rl, pl, _⟩ := I.list hql
    obtain ⟨u0, v0, e3⟩ := st.out
    have hh : X.A.handled = none := I.ok.hd hc
    have el1 : ts.toArray.size = xs.length := by
      have := rt.length
      simpa using this.symm
    have el2 : ls.toArray.size = ys.length := by
      have := rl.length
      simpa using this.symm
    refine wpAny_pyNext_zipD2_end (sepTL ha hb) (Draws.tuple (A := X.A.in1) hh N a (fun z => lt_ne a N 0 ha z) ts.toArray) (Draws.list (A := X.A.in1) hh (N + 1) b (lt_ne b N 1 hb) ls.toArray) st.zip st.two e3 ⟨st.tup, pt⟩ ⟨st.lst, pl.isList⟩ (by rw [el1]; exact h1) (by rw [el2]; exact h2) (by rw [el1, el2]; exact hend) fun h' tk hk => ⟨rfl, ?_⟩
    exact I.turnedL (t' := tk) (ch := five N) (fun c o hb q => hk c o (fun e => hb (by simp [e])) (fun e => hb (by simp [e])) (fun e => hb (by simp [e])) (fun e => hb (by simp [e])) q) hf
  self := fun A j s Q E st h => wpAny_pyIter_zip st.zip h
def iTL (K : PySem.W.Frag) (ta : TA) : TI := fun σ H R => ta σ H fun vs Hj => ∃ (a b : Addr) (xs ys : List V), vs = [.ref a, .ref b] ∧ SqT K Hj a xs ∧ SqL K Hj b ys ∧ R (ItTL K a b) Hj
theorem pi_TL {X : Cx} {e e2 : Expr} {ta : TA} {p pos tp : Pos} {elts : List Expr} {kk : Nat} (hg : Gl X "zip") (hm : X.mg "zip" = none) (ha : PA X [e, e2] ta)
    (h1 : starEach [e, e2] X.env = (false, eval e X.env) :: starEach [e2] X.env := by rfl) (h2 : (backTo pos (starEach [e2] X.env)).any (·.1) = false := by rfl) :
    PI X (.Tuple elts kk tp) (.Call (.Name "zip" p) [e, e2] [] pos) (iTL X.K ta) := by
  refine ⟨fun pins s σ H R I h => Call_ (ld_blt I hg hm PyProof.Rows.boot_zip (PyProof.Rows.callWith_type1 (thn (ha.run pos pins s σ H _ I h) fun us sj ⟨vs, Hj, J, rv, q⟩ => ?_) h1 h2))⟩
  obtain ⟨a, b, xs, ys, ev, hqt, hql, r⟩ := q
  subst ev
  obtain ⟨u1, u2, rfl, r1, r2⟩ := vals2 rv
  cases r1
  cases r2
  obtain ⟨ts, _, pt, _⟩ := J.tuple hqt
  obtain ⟨ls, _, pl, _⟩ := J.list hql
  have hal : a < sj.heap.objs.size := by obtain ⟨o, ho, _⟩ := pt; exact Heap.lt_size ho
  refine zip_begins2 (begins_tuple a ts.toArray) (begins_list b ls.toArray) pt pl.isList fun h' z0 z1 z2 z3 z4 z5 k => wpAny_pyIter_zip z0 ?_
  refine ⟨_, five sj.heap.objs.size, _, _, Hj, rfl, J.kept (t' := sj.toks) k, turnTL hal pl.lt, ⟨z0, z1, ⟨_, _, z2⟩, ⟨_, z3, rfl, rfl⟩, ⟨_, z4, rfl, rfl⟩⟩, fun c hc => ?_, r⟩
  have le : sj.heap.objs.size ≤ c := by
    rcases five_of hc with rfl | rfl | rfl | rfl | rfl
    · exact Nat.le_add_right _ _
    · exact Nat.le_add_right _ _
    · exact Nat.le_add_right _ _
    · exact Nat.le_refl _
    · exact Nat.le_add_right _ _
  exact J.fpOk le (J.hok.fresh le)
/-- [.. for x, y in zip(tuple, list)], both of one length -/
theorem lc_TL {K : PySem.W.Frag} {a b : Addr} {xs ys : List V} {g : TG} {tt : TT} {te : TE} {own : List Nat} {σ : L2.St} {Ha : Hp} {D : Addr} {Z : Hp → Prop} (hl : xs.length = ys.length) (B : Nat → Hp → Prop) (hb : B 0 (upd Ha D (.lst []))) (hq : ∀ j Hj, B j Hj → SqT K Hj a xs ∧ SqL K Hj b ys)
    (step : ∀ j x y N Hj, xs[j]? = some x → ys[j]? = some y → B j Hj → Hj N = none → g (.ref N) (wipe σ own) (upd Hj N (.tup [x, y])) fun σ' Hk => wipe σ' own = wipe σ own ∧ tt σ' Hk fun ok Hl =>
      if ok = true then te σ' Hl fun y Hm => ∃ got, Hm D = some (.lst got) ∧ got.length < sizeLine ∧ B (j + 1) (upd Hm D (.lst (got ++ [y]))) else B (j + 1) Hl)
    (out : ∀ Hj, B xs.length Hj → Z Hj) :
    ∃ V : Nat → Nat → Hp → Prop, (∃ m, V 0 m (upd Ha D (.lst []))) ∧ ∀ j m Hj, V j m Hj → ((ItTL K a b).stop j Hj ∧ Z Hj) ∨ ((ItTL K a b).go j Hj ∧ ∃ F : Hp → Prop, (∀ Hk, F Hk → ∃ m', m' < m ∧ V (j + 1) m' Hk) ∧
      ∀ y Hk, (ItTL K a b).yld j Hj y Hk → g y (wipe σ own) Hk fun σ' Hl => wipe σ' own = wipe σ own ∧ tt σ' Hl fun ok Hm =>
        if ok = true then te σ' Hm fun u Hn => ∃ got, Hn D = some (.lst got) ∧ got.length < sizeLine ∧ F (upd Hn D (.lst (got ++ [u]))) else F Hm) := by
  refine ⟨fun j m Hj => m + j = xs.length ∧ B j Hj, ⟨xs.length, rfl, hb⟩, ?_⟩
  rintro j m Hj ⟨em, bj⟩
  obtain ⟨q1, q2⟩ := hq j Hj bj
  rcases Nat.lt_or_ge j xs.length with c | c
  · have hx : xs[j]? = some xs[j] := List.getElem?_eq_getElem c
    have hy : ys[j]? = some (ys[j]'(by omega)) := List.getElem?_eq_getElem (by omega)
    refine .inr ⟨⟨xs, ys, _, _, q1, q2, hx, hy⟩, B (j + 1), fun Hk bk => ⟨m - 1, by omega, by omega, bk⟩, ?_⟩
    rintro y Hk ⟨N, x, z, rfl, hN, rfl, h1, h2⟩
    exact step j x z N Hj (h1 xs q1) (h2 ys q2) bj hN
  · have ej : j = xs.length := by omega
    subst ej
    exact .inl ⟨⟨xs, ys, q1, q2, Nat.le_refl _, by omega, .inl rfl⟩, out Hj bj⟩
end SwTL

/-! the table of forms of swapslip/letters.py; numbers read by isascii, isdigit -/
namespace SwF
open PySem PySem.Spec PyProof.Rows L2 SwL
def rKd (K : PySem.W.Frag) (d : Addr) : R2 := fun x y H Q => ∃ (z : Str) (u0 : Value) (v0 : V), x = .ref d ∧ y = .str z ∧ PySem.W.nsIn K d z = some (some u0) ∧ RelV v0 u0 ∧ Q v0 H
/-- D[z], D a dict of the module -/
theorem ix_kd {X : Cx} {d : Addr} {es : Array DictEntry} {n : Nat} (D : KDict X.K X.w d es n) : IxR X (rKd X.K d) := by
  intro value slice pins s σ H x y v u Q I rx ry h hs
  obtain ⟨z, u0, v0, rfl, rfl, e, r, q⟩ := h
  have ty := kd_type D I
  cases rx
  exact tail_any ty slot_dict_getitem.lookup (op_item_kd D pins s σ H (.ref d) (.str z) (.ref d) u Q I rfl ry ⟨z, u0, v0, rfl, rfl, e, r, q⟩) hs
/-- the table at FD, its tuples at T1 to T4 -/
structure Forms (K : PySem.W.Frag) (w : World) (FD : Addr) : Prop where
  kd : ∃ es n, KDict K w FD es n
  none_ : ∀ z, formOf z = none → PySem.W.nsIn K FD z = some none
  some_ : ∀ z f, formOf z = some f → ∃ T : Addr, PySem.W.nsIn K FD z = some (some (.ref T)) ∧ ∀ H, SqT K H T (if f = "n" then [.str "number"] else [.str "number", .str "number", .str "way"])
theorem forms_mk {K : PySem.W.Frag} {w : World} {FD T1 T2 T3 T4 : Addr} {h1 h2 h3 h4 : Int} {t1 t2 t3 t4 a1 a2 a3 b1 c1 d1 d2 d3 : Tok} {n m1 m2 m3 m4 : Nat} {o1 o2 o3 o4 : Option Addr} {s1 s2 s3 s4 : Array (Option Value)}
    (l : K.lookup FD = some ⟨.type "dict", none, .dict #[⟨h1, .str "tell" t1, .ref T1⟩, ⟨h2, .str "void" t2, .ref T2⟩, ⟨h3, .str "back" t3, .ref T3⟩, ⟨h4, .str "lay" t4, .ref T4⟩] n, #[]⟩)
    (e1 : h1 = PyData.keyHash w.params "tell") (e2 : h2 = PyData.keyHash w.params "void") (e3 : h3 = PyData.keyHash w.params "back") (e4 : h4 = PyData.keyHash w.params "lay") (low : (FD == sysModules) = false)
    (l1 : K.lookup T1 = some ⟨.type "tuple", o1, .seq #[.str "number" a1, .str "number" a2, .str "way" a3] m1, s1⟩) (l2 : K.lookup T2 = some ⟨.type "tuple", o2, .seq #[.str "number" b1] m2, s2⟩)
    (l3 : K.lookup T3 = some ⟨.type "tuple", o3, .seq #[.str "number" c1] m3, s3⟩) (l4 : K.lookup T4 = some ⟨.type "tuple", o4, .seq #[.str "number" d1, .str "number" d2, .str "way" d3] m4, s4⟩) : Forms K w FD := by
  have ns : ∀ z : Str, PySem.W.nsIn K FD z = if z = "tell" then some (some (.ref T1)) else if z = "void" then some (some (.ref T2)) else if z = "back" then some (some (.ref T3)) else if z = "lay" then some (some (.ref T4)) else some none := by
    intro z
    unfold PySem.W.nsIn
    rw [l]
    have be : ∀ y : Str, (y == z) = decide (z = y) := fun y => by
      by_cases c : z = y
      · subst c; simp
      · rw [decide_eq_false c]
        exact beq_eq_false_iff_ne.mpr (Ne.symm c)
    simp only [List.find?_cons, Value.isStr, be, List.find?_nil]
    by_cases c1 : z = "tell"
    · rw [decide_eq_true c1, if_pos c1]
    rw [decide_eq_false c1, if_neg c1]
    by_cases c2 : z = "void"
    · rw [decide_eq_true c2, if_pos c2]
    rw [decide_eq_false c2, if_neg c2]
    by_cases c3 : z = "back"
    · rw [decide_eq_true c3, if_pos c3]
    rw [decide_eq_false c3, if_neg c3]
    by_cases c4 : z = "lay"
    · rw [decide_eq_true c4, if_pos c4]
    rw [decide_eq_false c4, if_neg c4]
    rfl
  have one : ∀ {T : Addr} {o : Option Addr} {t : Tok} {m : Nat} {sl : Array (Option Value)}, K.lookup T = some ⟨.type "tuple", o, .seq #[.str "number" t] m, sl⟩ → ∀ H, SqT K H T [.str "number"] :=
    fun q H => .inr ⟨_, _, _, q, rfl, rfl, (by show 1 ≤ sizeLine; decide), .cons ⟨_, rfl⟩ .nil⟩
  have three : ∀ {T : Addr} {o : Option Addr} {t u v : Tok} {m : Nat} {sl : Array (Option Value)}, K.lookup T = some ⟨.type "tuple", o, .seq #[.str "number" t, .str "number" u, .str "way" v] m, sl⟩ → ∀ H, SqT K H T [.str "number", .str "number", .str "way"] :=
    fun q H => .inr ⟨_, _, _, q, rfl, rfl, (by show 3 ≤ sizeLine; decide), .cons ⟨_, rfl⟩ (.cons ⟨_, rfl⟩ (.cons ⟨_, rfl⟩ .nil))⟩
  refine ⟨⟨_, n, l, ⟨⟨_, _, rfl, e1⟩, ⟨_, _, rfl, e2⟩, ⟨_, _, rfl, e3⟩, ⟨_, _, rfl, e4⟩, trivial⟩, low⟩, fun z hz => ?_, fun z f hz => ?_⟩
  · unfold formOf at hz
    rw [ns]
    by_cases c : z = "tell" ∨ z = "lay"
    · rw [if_pos c] at hz; cases hz
    · rw [if_neg c] at hz
      by_cases c2 : z = "void" ∨ z = "back"
      · rw [if_pos c2] at hz; cases hz
      · rw [if_neg (fun q => c (.inl q)), if_neg (fun q => c2 (.inl q)), if_neg (fun q => c2 (.inr q)), if_neg (fun q => c (.inr q))]
  · unfold formOf at hz
    by_cases c : z = "tell" ∨ z = "lay"
    · rw [if_pos c] at hz
      cases hz
      rw [if_neg (by decide)]
      rcases c with rfl | rfl
      · exact ⟨T1, by rw [ns]; rfl, three l1⟩
      · exact ⟨T4, by rw [ns]; rfl, three l4⟩
    · rw [if_neg c] at hz
      by_cases c2 : z = "void" ∨ z = "back"
      · rw [if_pos c2] at hz
        cases hz
        rw [if_pos rfl]
        rcases c2 with rfl | rfl
        · exact ⟨T2, by rw [ns]; rfl, one l2⟩
        · exact ⟨T3, by rw [ns]; rfl, one l3⟩
      · rw [if_neg c2] at hz; cases hz
/-- ascii figures -/
theorem digit_low : ∀ c : Nat, c < 128 → Unicode.isDigit c = (decide (48 ≤ c) && decide (c ≤ 57)) := by decide +kernel
theorem ascii_digits (x : Str) : (Txt.isascii x && Txt.isdigit x) = (decide (0 < x.length) && digs x) := by
  unfold Txt.isascii Txt.isdigit digs
  rw [← Array.all_toList, ← Array.all_toList]
  generalize x.cps.toList = l
  cases h : decide (0 < x.length) with
  | false => simp
  | true =>
    rw [Bool.true_and, Bool.true_and]
    induction l with
    | nil => rfl
    | cons c r ih =>
      simp only [List.all_cons]
      by_cases hc : c < 128
      · rw [digit_low c hc, decide_eq_true hc, Bool.true_and, ← ih]
        cases (decide (48 ≤ c) && decide (c ≤ 57)) <;> cases r.all (fun x => decide (x < 128)) <;> simp
      · rw [decide_eq_false hc, Bool.false_and, Bool.false_and, show decide (c ≤ 57) = false from decide_eq_false (by omega), Bool.and_false, Bool.false_and]
end SwF

namespace K
open PySem PySem.Spec PyProof.Rows L2
def top (i : Nat) : Stmt := PySem.Challenge.pw_swapslip_k10_letters_written.main.body.getD i (.Pass ⟨0, 0, 0, 0⟩)
abbrev sBox : Stmt := top 16
abbrev sTake : Stmt := top 17
section
variable {P : Program} {w : World} {K : PySem.W.Frag} {mg : Str → Option Value} {base : Heap}
theorem scBox : FnScope ["_law_script"] ["_law_script"] (defScope sBox) := ⟨rfl, rfl, rfl, by decide +kernel, rfl, by decide +kernel, by decide +kernel⟩
theorem ok_box {f : Addr} {fd : FuncData} {k : Nat} (F : Fun K "_law_box" "_law_box" sBox f fd) (ml : mg "list" = none) : FnOk P w K mg base CX0 (k + 1) f fd ["_law_script"] (spBox K) := by
  refine F.ok scBox (fun vs H Q E h => ?_) (fun cdv A outer s H vs Q E hr h => ?_)
  · obtain ⟨a, ns, rfl, _⟩ := h
    rfl
  · obtain ⟨a, ns, rfl, hS, hlen, q⟩ := h
    refine ⟨_, pss_one (ps_ret (pe_lst (pa_cons (pe_callTy call_list_of (by rfl) ml (by decide +kernel) (pa_cons (pe_slice sl_list (pv 0) po_none (po_some pe_int)) pa_nil)) (pa_cons pe_int (pa_cons pe_int (pa_cons pe_int pa_nil)))))), ?_⟩
    refine ⟨.ref a, rfl, 63, rfl, a, _, rfl, hS, fun c nc => ?_⟩
    refine ⟨c, _, rfl, .inl (.inl (.inl upd_same)), fun l nl => ?_⟩
    refine ⟨(by show 4 ≤ sizeLine; decide), fun p np => ?_⟩
    have e : ∃ ms : List Int, cutV (ns.map V.int) none (some 63) = ms.map V.int ∧ ms.length ≤ 63 := by
      refine ⟨(ns.drop (HT.sIx ns.length 0 none)).take (HT.sIx ns.length ns.length (some 63) - HT.sIx ns.length 0 none), ?_, ?_⟩
      · unfold cutV
        rw [List.length_map, ← List.map_drop, ← List.map_take]
      · rw [List.length_take, List.length_drop]; omega
    obtain ⟨ms, em, hm⟩ := e
    rw [em] at nl np ⊢
    have s1 := same_upd (o := .lst (ms.map V.int)) nc
    have s2 := same_upd (o := .lst (ms.map V.int)) nl
    have s3 := same_upd (o := .lst [.ref l, .int 0, .int 0, .int 29]) np
    have nlp : l ≠ p := ne_of_none upd_same np
    refine q p l _ (s1.free (s2.free np)) (s1.free nl) ⟨ms, 0, 0, 29, upd_same, ?_, by omega, by omega, by omega, by omega, hm⟩ (s1.trans (s2.trans s3))
    rw [upd_ne nlp, upd_same]
theorem scTake : FnScope ["_law_box_here", "_law_sides", "_law_tail", "_law_cell", "_law_seed"] ["_law_box_here", "_law_sides"] (defScope sTake) := ⟨rfl, rfl, rfl, by decide +kernel, rfl, by decide +kernel, by decide +kernel⟩
theorem ok_take {f : Addr} {fd : FuncData} {k : Nat} (F : Fun K "_law_take" "_law_take" sTake f fd) (mlen : mg "len" = none) : FnOk P w K mg base CX0 (k + 1) f fd ["_law_box_here", "_law_sides"] spTake := by
  refine F.ok scTake (fun vs H Q E h => ?_) (fun cdv A outer s H vs Q E hr h => ?_)
  · obtain ⟨p, q, n, rfl, _⟩ := h
    rfl
  · obtain ⟨p, q, n, rfl, hB, hn, hn2, kk⟩ := h
    refine ⟨_, pss_cons (ps_if (pt_cmpR op_gt (pe_ix ix_list (pv 0) pe_int (fun _ _ => rfl)) pe_int (nomark _))
        (pss_cons (ps_set (i := 2) scTake.nd rfl (.inl rfl) (pe_ix ix_list (pv 0) pe_int (fun _ _ => rfl)))
        (pss_cons (ps_asg (pe_op op_fdivN (pv 2) (pv 1)) (pg_sub (pv 0) pe_int set_list))
        (pss_one (ps_ret (pe_op op_modN (pv 2) (pv 1)))))) pss_nil)
      (pss_cons (ps_set (i := 3) scTake.nd rfl (.inl rfl) pe_int)
      (pss_cons (ps_if (pt_cmpR op_lt (pe_ix ix_list (pv 0) pe_int (fun _ _ => rfl)) (pe_callB call_len_seq (by rfl) mlen PySem.boot_len (pa_cons (pe_ix ix_list (pv 0) pe_int (fun _ _ => rfl)) pa_nil)) (nomark _))
        (pss_cons (ps_set (i := 3) scTake.nd rfl (.inl rfl) (pe_ix ix_list (pe_ix ix_list (pv 0) pe_int (fun _ _ => rfl)) (pe_ix ix_list (pv 0) pe_int (fun _ _ => rfl)) (fun _ _ => rfl)))
        (pss_one (ps_augS (pv 0) pe_int get_listA pe_int ip_add set_list))) pss_nil)
      (pss_cons (ps_if (pt_cmpR op_ge (pv 3) (pe_op op_pow pe_int pe_int) (nomark _))
        (pss_cons (ps_asg (pe_op op_fdivN (pv 3) (pv 1)) (pg_sub (pv 0) pe_int set_list))
        (pss_one (ps_ret (pe_op op_modN (pv 3) (pv 1))))) pss_nil)
      (pss_cons (ps_set (i := 4) scTake.nd rfl (.inl rfl) (pe_ix ix_list (pv 0) pe_int (fun _ _ => rfl)))
      (pss_cons (ps_asg (pe_op op_modN (pe_op op_add (pe_op op_add (pe_op op_add (pe_op op_pow (pv 4) pe_int) (pe_op op_mul pe_int (pv 4))) (pe_op op_mul pe_int (pe_op op_modN (pv 3) pe_int))) pe_int) pe_int) (pg_sub (pv 0) pe_int set_list))
      (pss_one (ps_ret (pe_op op_modN (pe_op op_fdivN (pe_ix ix_list (pv 0) pe_int (fun _ _ => rfl)) pe_int) (pv 1))))))))), ?_⟩
    obtain ⟨ns, i, t, sd, h1, h2, hi0, hi1, hs0, hs1, hl⟩ := id hB
    have npq := hB.ne
    refine ⟨_, rfl, p, _, 2, _, rfl, rfl, SqL.of h1, rfl, _, _, rfl, rfl, _, rfl, ?_⟩
    refine ite2 (fun c => ?_) (fun c => ?_)
    · refine ⟨_, rfl, p, _, 2, _, rfl, rfl, SqL.of h1, rfl, ?_⟩
      refine ⟨_, rfl, _, rfl, t, n, rfl, rfl, ⟨by omega, by omega⟩, _, rfl, p, _, 2, 2, rfl, rfl, h1, rfl, ?_⟩
      refine ⟨_, rfl, _, rfl, t, n, rfl, rfl, (by show n ≠ 0; omega), ?_⟩
      refine kk _ _ (fmod_le hn).1 (fmod_le hn).2 ⟨ns, i, _, sd, upd_same, by rw [upd_ne npq.symm]; exact h2, hi0, hi1, hs0, hs1, hl⟩ But.put
    · -- the cell: some int, the box with another place
      refine ⟨_, rfl, p, _, 1, _, rfl, rfl, SqL.of h1, rfl, _, rfl, p, _, 0, _, rfl, rfl, SqL.of h1, rfl, q, _, rfl, .inl (SqL.of h2), _, _, rfl, rfl, _, rfl, ?_⟩
      rw [List.length_map]
      refine ite2 (fun c => ?_) (fun c => ?_)
      · have hlt : i.toNat < ns.length := by have := of_decide_eq_true c; omega
        have hat : (ns.map V.int)[i.toNat]? = some (.int ns[i.toNat]) := by rw [List.getElem?_map, List.getElem?_eq_getElem hlt]; rfl
        refine ⟨_, rfl, p, _, 0, _, rfl, rfl, SqL.of h1, rfl, _, rfl, p, _, 1, _, rfl, rfl, SqL.of h1, rfl, q, _, i, _, rfl, rfl, SqL.of h2, atI0 hi0 hat, ?_⟩
        refine ⟨_, rfl, p, _, 1, _, rfl, rfl, SqL.of h1, by omega, rfl, i, 1, rfl, rfl, p, _, 1, 1, rfl, rfl, h1, rfl, ?_⟩
        generalize ns[i.toNat] = cell
        have g1 : (upd H p (.lst [.ref q, .int (i + 1), .int t, .int sd])) p = some (.lst [.ref q, .int (i + 1), .int t, .int sd]) := upd_same
        have g2 : (upd H p (.lst [.ref q, .int (i + 1), .int t, .int sd])) q = some (.lst (ns.map V.int)) := by rw [upd_ne npq.symm]; exact h2
        have gi0 : 0 ≤ i + 1 := by omega
        have gi1 : i + 1 ≤ ns.length := by omega
        have gb : But p H (upd H p (.lst [.ref q, .int (i + 1), .int t, .int sd])) := But.put
        show tSeq _ _ _ _ (upd H p (.lst [.ref q, .int (i + 1), .int t, .int sd]))
        generalize upd H p (.lst [.ref q, .int (i + 1), .int t, .int sd]) = H2 at g1 g2 gb ⊢
        generalize i + 1 = i2 at g1 gi0 gi1
        refine ⟨_, rfl, 10, 18, rfl, rfl, ⟨by decide, by decide, by decide⟩, _, _, rfl, rfl, _, rfl, ?_⟩
        refine ite2 (fun c2 => ?_) (fun c2 => ?_)
        · refine ⟨_, rfl, _, rfl, _, n, rfl, rfl, ⟨by omega, by omega⟩, _, rfl, p, _, 2, 2, rfl, rfl, g1, rfl, ?_⟩
          refine ⟨_, rfl, _, rfl, _, n, rfl, rfl, (by show n ≠ 0; omega), ?_⟩
          exact kk _ _ (fmod_le hn).1 (fmod_le hn).2 ⟨ns, _, _, sd, upd_same, by rw [upd_ne npq.symm]; exact g2, gi0, gi1, hs0, hs1, hl⟩ (gb.trans But.put)
        · refine ⟨_, rfl, p, _, 3, _, rfl, rfl, SqL.of g1, rfl, ?_⟩
          refine ⟨_, rfl, sd, 3, rfl, rfl, ⟨by decide, by decide, by omega⟩, _, rfl, 69621, sd, rfl, rfl, .inl ⟨by decide, by decide⟩, _, _, rfl, rfl, _, rfl, _, 2147483549, rfl, rfl, (by decide : (2147483549 : Int) ≠ 0),
            48271, _, rfl, rfl, .inl ⟨by decide, by decide⟩, _, _, rfl, rfl, _, _, rfl, rfl, _, 2147483549, rfl, rfl, (by decide : (2147483549 : Int) ≠ 0), _, rfl, p, _, 3, 3, rfl, rfl, g1, rfl, ?_⟩
          refine ⟨_, rfl, p, _, 3, _, rfl, rfl, SqL.of upd_same, rfl, _, 64, rfl, rfl, ⟨by decide, by decide⟩, _, rfl, _, n, rfl, rfl, (by show n ≠ 0; omega), ?_⟩
          exact kk _ _ (fmod_le hn).1 (fmod_le hn).2 ⟨ns, _, _, _, upd_same, by rw [upd_ne npq.symm]; exact g2, gi0, gi1, (fmod_le (by decide)).1, (fmod_le (by decide)).2, hl⟩ (gb.trans But.put)
      · have g1 := h1
        have g2 := h2
        have gi0 := hi0
        have gi1 := hi1
        have gb := But.refl p H
        refine ⟨_, rfl, 10, 18, rfl, rfl, ⟨by decide, by decide, by decide⟩, _, _, rfl, rfl, _, rfl, ?_⟩
        refine ite2 (fun c2 => ?_) (fun c2 => ?_)
        · refine ⟨_, rfl, _, rfl, _, n, rfl, rfl, ⟨by omega, by omega⟩, _, rfl, p, _, 2, 2, rfl, rfl, g1, rfl, ?_⟩
          refine ⟨_, rfl, _, rfl, _, n, rfl, rfl, (by show n ≠ 0; omega), ?_⟩
          exact kk _ _ (fmod_le hn).1 (fmod_le hn).2 ⟨ns, _, _, sd, upd_same, by rw [upd_ne npq.symm]; exact g2, gi0, gi1, hs0, hs1, hl⟩ (gb.trans But.put)
        · refine ⟨_, rfl, p, _, 3, _, rfl, rfl, SqL.of g1, rfl, ?_⟩
          refine ⟨_, rfl, sd, 3, rfl, rfl, ⟨by decide, by decide, by omega⟩, _, rfl, 69621, sd, rfl, rfl, .inl ⟨by decide, by decide⟩, _, _, rfl, rfl, _, rfl, _, 2147483549, rfl, rfl, (by decide : (2147483549 : Int) ≠ 0),
            48271, _, rfl, rfl, .inl ⟨by decide, by decide⟩, _, _, rfl, rfl, _, _, rfl, rfl, _, 2147483549, rfl, rfl, (by decide : (2147483549 : Int) ≠ 0), _, rfl, p, _, 3, 3, rfl, rfl, g1, rfl, ?_⟩
          refine ⟨_, rfl, p, _, 3, _, rfl, rfl, SqL.of upd_same, rfl, _, 64, rfl, rfl, ⟨by decide, by decide⟩, _, rfl, _, n, rfl, rfl, (by show n ≠ 0; omega), ?_⟩
          exact kk _ _ (fmod_le hn).1 (fmod_le hn).2 ⟨ns, _, _, _, upd_same, by rw [upd_ne npq.symm]; exact g2, gi0, gi1, (fmod_le (by decide)).1, (fmod_le (by decide)).2, hl⟩ (gb.trans But.put)
end
end K

namespace K
open PySem PySem.Spec PyProof.Rows L2
abbrev sSame : Stmt := top 18
section
variable {P : Program} {w : World} {K : PySem.W.Frag} {mg : Str → Option Value} {base : Heap}
theorem scSame : FnScope ["_law_found", "_law_due", "_law_x", "_law_y"] ["_law_found", "_law_due"] (defScope sSame) := ⟨rfl, rfl, rfl, by decide +kernel, rfl, by decide +kernel, by decide +kernel⟩
structure SameTxt (mg : Str → Option Value) : Prop where
  isi : mg "isinstance" = none
  lst : mg "list" = none
  tup : mg "tuple" = none
  bool : mg "bool" = none
  int : mg "int" = none
  str : mg "str" = none
  len : mg "len" = none
  all : mg "all" = none
  zip : mg "zip" = none
theorem ok_same {f : Addr} {fd : FuncData} (F : Fun K "_law_same" "_law_same" sSame f fd) (T : SameTxt mg) (gf : mg "_law_same" = some (.ref f)) (b : Binds K fd ["_law_found", "_law_due"] []) : ∀ n : Nat, FnOk P w K mg base CX0 n f fd ["_law_found", "_law_due"] (spSame n)
  | 0 => fnok_never fun vs H Q E ⟨x, y, _, h, _⟩ => h
  | n + 1 => by
    have G := ok_same F T gf b n
    refine F.ok scSame (fun vs H Q E h => ?_) (fun cdv A outer s H vs Q E hr h => ?_)
    · obtain ⟨x, y, rfl, _⟩ := h
      rfl
    · obtain ⟨x, y, rfl, hE, kk⟩ := h
      refine ⟨_, pss_cons (ps_if (pt_val (pe_callB call_isiT (by rfl) T.isi (by decide +kernel) (pa_cons (pv 1) (pa_cons (pe_tup (pa_cons (pe_bltn (v := .ty "list") (by rfl) T.lst (by decide +kernel) rfl) (pa_cons (pe_bltn (v := .ty "tuple") (by rfl) T.tup (by decide +kernel) rfl) pa_nil))) pa_nil))))
          (pss_cons (ps_if (PW.pt (pw_or (pt_cmpR op_ne (pe_callB call_isi (by rfl) T.isi (by decide +kernel) (pa_cons (pv 0) (pa_cons (pe_bltn (v := .ty "list") (by rfl) T.lst (by decide +kernel) rfl) pa_nil)))
                (pe_callB call_isi (by rfl) T.isi (by decide +kernel) (pa_cons (pv 1) (pa_cons (pe_bltn (v := .ty "list") (by rfl) T.lst (by decide +kernel) rfl) pa_nil))) (nomark _))
              (pw_or1 (pt_cmpR op_ne (pe_callB call_isi (by rfl) T.isi (by decide +kernel) (pa_cons (pv 0) (pa_cons (pe_bltn (v := .ty "tuple") (by rfl) T.tup (by decide +kernel) rfl) pa_nil)))
                (pe_callB call_isi (by rfl) T.isi (by decide +kernel) (pa_cons (pv 1) (pa_cons (pe_bltn (v := .ty "tuple") (by rfl) T.tup (by decide +kernel) rfl) pa_nil))) (nomark _))))) (pss_one (ps_ret pe_bl)) pss_nil)
          (pss_one (ps_ret (pe_and (pe_cmpR op_eq (pe_callB call_len_seq (by rfl) T.len PySem.boot_len (pa_cons (pv 0) pa_nil)) (pe_callB call_len_seq (by rfl) T.len PySem.boot_len (pa_cons (pv 1) pa_nil)) (nomark _))
            (pe_one (pe_callB (cr_all rfl) (by rfl) T.all (by decide +kernel) (pa_cons (pe_lc (own := [("_law_x", 2), ("_law_y", 3)]) (g := gTup K 2 (gCons (gName 2) (gCons (gName 3) gNil))) (tt := tYes) rfl scSame.nd (RZ.pi_zipA (by rfl) T.zip (pa_cons (pv 0) (pa_cons (pv 1) pa_nil)))
                (blkOk_by (own := [("_law_x", 2), ("_law_y", 3)]) (N := ["_law_found", "_law_due", "_law_x", "_law_y"]) (sc := defScope sSame) (by decide +kernel))
                (fun _ _ _ _ _ => by exact (pg_tup rfl (pgs_cons (pg_name (i := 2) scSame.nd rfl (Or.inl rfl)) (pgs_cons (pg_name (i := 3) scSame.nd rfl (Or.inl rfl)) pgs_nil)))) (fun _ _ _ _ _ => pts_nil)
                (fun _ _ _ _ _ => pe_call G hr (by rfl) gf F.kp b .nil pass0 (pa_cons (pv 2) (pa_cons (pv 3) pa_nil)))) pa_nil))))))) pss_nil)
        (pss_cons (ps_if (PW.pt (pw_or (pt_cmpR op_ne (pe_cmpR op_isN (pv 0) pe_non (nomark _)) (pe_cmpR op_isN (pv 1) pe_non (nomark _)) (nomark _))
            (pw_or1 (pt_cmpR op_ne (pe_callB call_isi (by rfl) T.isi (by decide +kernel) (pa_cons (pv 0) (pa_cons (pe_bltn (v := .ty "bool") (by rfl) T.bool (by decide +kernel) rfl) pa_nil)))
                (pe_callB call_isi (by rfl) T.isi (by decide +kernel) (pa_cons (pv 1) (pa_cons (pe_bltn (v := .ty "bool") (by rfl) T.bool (by decide +kernel) rfl) pa_nil))) (nomark _))))) (pss_one (ps_ret pe_bl)) pss_nil)
        (pss_cons (ps_if (pt_cmpR op_ne (pe_callB call_isi (by rfl) T.isi (by decide +kernel) (pa_cons (pv 0) (pa_cons (pe_bltn (v := .ty "int") (by rfl) T.int (by decide +kernel) rfl) pa_nil)))
                (pe_callB call_isi (by rfl) T.isi (by decide +kernel) (pa_cons (pv 1) (pa_cons (pe_bltn (v := .ty "int") (by rfl) T.int (by decide +kernel) rfl) pa_nil))) (nomark _)) (pss_one (ps_ret pe_bl)) pss_nil)
        (pss_one (ps_ret (pe_and (pe_cmpR op_eq (pe_callB call_isi (by rfl) T.isi (by decide +kernel) (pa_cons (pv 0) (pa_cons (pe_bltn (v := .ty "str") (by rfl) T.str (by decide +kernel) rfl) pa_nil)))
                (pe_callB call_isi (by rfl) T.isi (by decide +kernel) (pa_cons (pv 1) (pa_cons (pe_bltn (v := .ty "str") (by rfl) T.str (by decide +kernel) rfl) pa_nil))) (nomark _)) (pe_one (pe_cmpR op_eq (pv 0) (pv 1) (nomark _)))))))), ?_⟩
      refine ⟨_, rfl, (by show 2 ≤ sizeLine; decide), fun t nt => ?_⟩
      have s0 : Same H (upd H t (.tup [.ty "list", .ty "tuple"])) := same_upd nt
      have hE1 := Eqv.same s0 hE
      have ht : (upd H t (.tup [.ty "list", .ty "tuple"])) t = some (.tup [.ty "list", .ty "tuple"]) := upd_same
      rcases hE1 with ⟨e, hf⟩ | ⟨a1, a2, xs, ys, rfl, rfl, hab, hl, hz, hi⟩
      · -- flat
        subst e
        cases x with
        | non =>
          refine ⟨_, t, [.ty "list", .ty "tuple"], _, [.type "list", .type "tuple"], false, rfl, ht, .cons (.ty _) (.cons (.ty _) .nil), (.base .non), kit2 (b := false) (c := false) (by decide +kernel) (by decide +kernel), ?_⟩
          refine ⟨_, rfl, iteF ?_⟩
          refine ⟨_, rfl, rfl, _, rfl, rfl, rfl, _, rfl, iteNS rfl ?_⟩
          refine ⟨_, rfl, _, _, _, _, false, rfl, .ty _, (.base .non), kit_ty (by decide +kernel), ?_⟩
          refine ⟨_, rfl, _, _, _, _, false, rfl, .ty _, (.base .non), kit_ty (by decide +kernel), ?_⟩
          refine ⟨rfl, _, rfl, iteNS rfl ?_⟩
          refine ⟨_, rfl, _, _, _, _, false, rfl, .ty _, (.base .non), kit_ty (by decide +kernel), ?_⟩
          refine ⟨_, rfl, _, _, _, _, false, rfl, .ty _, (.base .non), kit_ty (by decide +kernel), ?_⟩
          refine ⟨rfl, _, rfl, iteNS rfl ?_⟩
          refine ⟨_, rfl, _, _, _, _, false, rfl, .ty _, (.base .non), kit_ty (by decide +kernel), ?_⟩
          refine ⟨_, rfl, _, _, _, _, false, rfl, .ty _, (.base .non), kit_ty (by decide +kernel), ?_⟩
          refine ⟨rfl, _, rfl, ?_⟩
          rw [decide_eq_true rfl]
          refine iteT ⟨_, rfl, _, rfl, rfl, ?_⟩
          rw [decide_eq_true rfl]
          exact kk _ s0
        | bl v =>
          refine ⟨_, t, [.ty "list", .ty "tuple"], _, [.type "list", .type "tuple"], false, rfl, ht, .cons (.ty _) (.cons (.ty _) .nil), (.base (.bl v)), kit2 (b := false) (c := false) (by decide +kernel) (by decide +kernel), ?_⟩
          refine ⟨_, rfl, iteF ?_⟩
          refine ⟨_, rfl, rfl, _, rfl, rfl, rfl, _, rfl, iteNS rfl ?_⟩
          refine ⟨_, rfl, _, _, _, _, true, rfl, .ty _, (.base (.bl v)), kit_ty (by decide +kernel), ?_⟩
          refine ⟨_, rfl, _, _, _, _, true, rfl, .ty _, (.base (.bl v)), kit_ty (by decide +kernel), ?_⟩
          refine ⟨rfl, _, rfl, iteNS rfl ?_⟩
          refine ⟨_, rfl, _, _, _, _, true, rfl, .ty _, (.base (.bl v)), kit_ty (by decide +kernel), ?_⟩
          refine ⟨_, rfl, _, _, _, _, true, rfl, .ty _, (.base (.bl v)), kit_ty (by decide +kernel), ?_⟩
          refine ⟨rfl, _, rfl, iteNS rfl ?_⟩
          refine ⟨_, rfl, _, _, _, _, false, rfl, .ty _, (.base (.bl v)), kit_ty (by decide +kernel), ?_⟩
          refine ⟨_, rfl, _, _, _, _, false, rfl, .ty _, (.base (.bl v)), kit_ty (by decide +kernel), ?_⟩
          refine ⟨rfl, _, rfl, ?_⟩
          rw [decide_eq_true rfl]
          refine iteT ⟨_, rfl, _, rfl, rfl, ?_⟩
          rw [decide_eq_true rfl]
          exact kk _ s0
        | int v =>
          refine ⟨_, t, [.ty "list", .ty "tuple"], _, [.type "list", .type "tuple"], false, rfl, ht, .cons (.ty _) (.cons (.ty _) .nil), (.base (.int v)), kit2 (b := false) (c := false) (by decide +kernel) (by decide +kernel), ?_⟩
          refine ⟨_, rfl, iteF ?_⟩
          refine ⟨_, rfl, rfl, _, rfl, rfl, rfl, _, rfl, iteNS rfl ?_⟩
          refine ⟨_, rfl, _, _, _, _, false, rfl, .ty _, (.base (.int v)), kit_ty (by decide +kernel), ?_⟩
          refine ⟨_, rfl, _, _, _, _, false, rfl, .ty _, (.base (.int v)), kit_ty (by decide +kernel), ?_⟩
          refine ⟨rfl, _, rfl, iteNS rfl ?_⟩
          refine ⟨_, rfl, _, _, _, _, true, rfl, .ty _, (.base (.int v)), kit_ty (by decide +kernel), ?_⟩
          refine ⟨_, rfl, _, _, _, _, true, rfl, .ty _, (.base (.int v)), kit_ty (by decide +kernel), ?_⟩
          refine ⟨rfl, _, rfl, iteNS rfl ?_⟩
          refine ⟨_, rfl, _, _, _, _, false, rfl, .ty _, (.base (.int v)), kit_ty (by decide +kernel), ?_⟩
          refine ⟨_, rfl, _, _, _, _, false, rfl, .ty _, (.base (.int v)), kit_ty (by decide +kernel), ?_⟩
          refine ⟨rfl, _, rfl, ?_⟩
          rw [decide_eq_true rfl]
          refine iteT ⟨_, rfl, _, rfl, rfl, ?_⟩
          rw [decide_eq_true rfl]
          exact kk _ s0
        | str v =>
          refine ⟨_, t, [.ty "list", .ty "tuple"], _, [.type "list", .type "tuple"], false, rfl, ht, .cons (.ty _) (.cons (.ty _) .nil), (.base (.str v)), kit2 (b := false) (c := false) (by decide +kernel) (by decide +kernel), ?_⟩
          refine ⟨_, rfl, iteF ?_⟩
          refine ⟨_, rfl, rfl, _, rfl, rfl, rfl, _, rfl, iteNS rfl ?_⟩
          refine ⟨_, rfl, _, _, _, _, false, rfl, .ty _, (.base (.str v)), kit_ty (by decide +kernel), ?_⟩
          refine ⟨_, rfl, _, _, _, _, false, rfl, .ty _, (.base (.str v)), kit_ty (by decide +kernel), ?_⟩
          refine ⟨rfl, _, rfl, iteNS rfl ?_⟩
          refine ⟨_, rfl, _, _, _, _, false, rfl, .ty _, (.base (.str v)), kit_ty (by decide +kernel), ?_⟩
          refine ⟨_, rfl, _, _, _, _, false, rfl, .ty _, (.base (.str v)), kit_ty (by decide +kernel), ?_⟩
          refine ⟨rfl, _, rfl, iteNS rfl ?_⟩
          refine ⟨_, rfl, _, _, _, _, true, rfl, .ty _, (.base (.str v)), kit_ty (by decide +kernel), ?_⟩
          refine ⟨_, rfl, _, _, _, _, true, rfl, .ty _, (.base (.str v)), kit_ty (by decide +kernel), ?_⟩
          refine ⟨rfl, _, rfl, ?_⟩
          rw [decide_eq_true rfl]
          refine iteT ⟨_, rfl, _, rfl, rfl, ?_⟩
          rw [decide_eq_true rfl]
          exact kk _ s0
        | byt v => cases hf
        | flt v => cases hf
        | ref v => cases hf
        | ty v => cases hf
      · rcases hab with ⟨h1, h2⟩ | ⟨h1, h2⟩
        · refine ⟨_, t, [.ty "list", .ty "tuple"], _, [.type "list", .type "tuple"], true, rfl, ht, .cons (.ty _) (.cons (.ty _) .nil), .base (.lst h2), kit2 (b := true) (c := false) (by decide +kernel) (by decide +kernel), ?_⟩
          refine ⟨_, rfl, iteT ?_⟩
          refine ⟨_, rfl, _, _, _, _, true, rfl, .ty _, .base (.lst h1), kit_ty (by decide +kernel), ?_⟩
          refine ⟨_, rfl, _, _, _, _, true, rfl, .ty _, .base (.lst h2), kit_ty (by decide +kernel), ?_⟩
          refine ⟨rfl, _, rfl, iteNS rfl ?_⟩
          refine ⟨_, rfl, _, _, _, _, false, rfl, .ty _, .base (.lst h1), kit_ty (by decide +kernel), ?_⟩
          refine ⟨_, rfl, _, _, _, _, false, rfl, .ty _, .base (.lst h2), kit_ty (by decide +kernel), ?_⟩
          refine ⟨rfl, _, rfl, iteNS rfl ?_⟩
          refine ⟨_, rfl, a1, xs, rfl, .inl (SqL.of h1), _, rfl, a2, ys, rfl, .inl (SqL.of h2), rfl, _, rfl, ?_⟩
          rw [hl, decide_eq_true rfl]
          refine iteT ?_
          refine ⟨_, rfl, _, rfl, a1, a2, xs, ys, rfl, .inl ⟨SqL.of h1, SqL.of h2, fun D nD => ?_⟩⟩
          refine lc_it (walk_zip (xs := xs) (ys := ys) (n := xs.length) (by rw [hl]; simp)) (fun i H' => Same (upd H t (.tup [.ty "list", .ty "tuple"])) H' ∧ H' D = some (.lst ((List.replicate i true).map V.bl)))
            ⟨same_upd nD, upd_same⟩ (fun i H' _ ⟨s1, _⟩ => ⟨SqL.of (s1 _ _ h1), SqL.of (s1 _ _ h2)⟩) ?_ ?_
          · rintro i x H' H2 hi1 ⟨s1, hD⟩ ⟨T2, x', y', rfl, hT, rfl, f1, f2⟩
            have s2 := same_upd (o := .tup [x', y']) hT
            refine ⟨T2, [x', y'], rfl, .inl (.inl upd_same), rfl, x', [y'], rfl, y', [], rfl, rfl, rfl, ?_⟩
            refine ⟨_, rfl, _, rfl, x', y', rfl, (hi i x' y' f1 f2).same (s1.trans s2), fun H3 s3 => ?_⟩
            refine ⟨_, s3 _ _ (s2 _ _ hD), ?_, ?_, ?_⟩
            · rw [List.length_map, List.length_replicate]; exact small1000 (by omega)
            · intro b o e
              rw [upd_ne (ne_of_none e nD)]
              exact s3 _ _ (s2 _ _ (s1 _ _ e))
            · rw [upd_same, List.replicate_succ', List.map_append]
              rfl
          · rintro H' ⟨s1, hD⟩
            refine ⟨D, List.replicate xs.length true, rfl, .inl (.inl hD), ?_⟩
            have e : (List.replicate xs.length true).all id = true := by simp
            rw [e]
            exact kk _ (s0.trans s1)
        · refine ⟨_, t, [.ty "list", .ty "tuple"], _, [.type "list", .type "tuple"], true, rfl, ht, .cons (.ty _) (.cons (.ty _) .nil), .base (.tup h2), kit2 (b := false) (c := true) (by decide +kernel) (by decide +kernel), ?_⟩
          refine ⟨_, rfl, iteT ?_⟩
          refine ⟨_, rfl, _, _, _, _, false, rfl, .ty _, .base (.tup h1), kit_ty (by decide +kernel), ?_⟩
          refine ⟨_, rfl, _, _, _, _, false, rfl, .ty _, .base (.tup h2), kit_ty (by decide +kernel), ?_⟩
          refine ⟨rfl, _, rfl, iteNS rfl ?_⟩
          refine ⟨_, rfl, _, _, _, _, true, rfl, .ty _, .base (.tup h1), kit_ty (by decide +kernel), ?_⟩
          refine ⟨_, rfl, _, _, _, _, true, rfl, .ty _, .base (.tup h2), kit_ty (by decide +kernel), ?_⟩
          refine ⟨rfl, _, rfl, iteNS rfl ?_⟩
          refine ⟨_, rfl, a1, xs, rfl, .inr (SqT.of h1), _, rfl, a2, ys, rfl, .inr (SqT.of h2), rfl, _, rfl, ?_⟩
          rw [hl, decide_eq_true rfl]
          refine iteT ?_
          refine ⟨_, rfl, _, rfl, a1, a2, xs, ys, rfl, .inr ⟨SqT.of h1, SqT.of h2, fun D nD => ?_⟩⟩
          refine lc_it (walk_zipTT (xs := xs) (ys := ys) (n := xs.length) (by rw [hl]; simp)) (fun i H' => Same (upd H t (.tup [.ty "list", .ty "tuple"])) H' ∧ H' D = some (.lst ((List.replicate i true).map V.bl)))
            ⟨same_upd nD, upd_same⟩ (fun i H' _ ⟨s1, _⟩ => ⟨SqT.of (s1 _ _ h1), SqT.of (s1 _ _ h2)⟩) ?_ ?_
          · rintro i x H' H2 hi1 ⟨s1, hD⟩ ⟨T2, x', y', rfl, hT, rfl, f1, f2⟩
            have s2 := same_upd (o := .tup [x', y']) hT
            refine ⟨T2, [x', y'], rfl, .inl (.inl upd_same), rfl, x', [y'], rfl, y', [], rfl, rfl, rfl, ?_⟩
            refine ⟨_, rfl, _, rfl, x', y', rfl, (hi i x' y' f1 f2).same (s1.trans s2), fun H3 s3 => ?_⟩
            refine ⟨_, s3 _ _ (s2 _ _ hD), ?_, ?_, ?_⟩
            · rw [List.length_map, List.length_replicate]; exact small1000 (by omega)
            · intro b o e
              rw [upd_ne (ne_of_none e nD)]
              exact s3 _ _ (s2 _ _ (s1 _ _ e))
            · rw [upd_same, List.replicate_succ', List.map_append]
              rfl
          · rintro H' ⟨s1, hD⟩
            refine ⟨D, List.replicate xs.length true, rfl, .inl (.inl hD), ?_⟩
            have e : (List.replicate xs.length true).all id = true := by simp
            rw [e]
            exact kk _ (s0.trans s1)
end
end K

namespace K
open PySem PySem.Spec PyProof.Rows L2 SwL
abbrev sFigure : Stmt := top 19
abbrev sLetter : Stmt := top 20
abbrev sLetText : Stmt := top 21
def spFigure : Sp := fun vs H Q _ => ∃ (p q : Addr), vs = [.ref p] ∧ BoxAt H p q ∧ ∀ (n : Nat) (H' : Hp), n < 1000000 → BoxAt H' p q → But p H H' → Q (.int (n : Nat)) H'
def spLetter : Sp := fun vs H Q _ => ∃ (p q : Addr), vs = [.ref p] ∧ BoxAt H p q ∧ ∀ (a : Addr) (l : Letter) (H' : Hp), l.Good → LetterAt H' a l → BoxAt H' p q → But p H H' → Q (.ref a) H'
def spLetText : Sp := fun vs H Q _ => ∃ (a : Addr) (l : Letter), vs = [.ref a] ∧ LetterAt H a l ∧ l.Good ∧ ∀ H', Same H H' → Q (.str l.text) H'
theorem ifT0 {c : Bool} {A B : Prop} (hc : c = true) (h : A) : if c = true then A else B := by rw [if_pos hc]; exact h
theorem ifF0 {c : Bool} {A B : Prop} (hc : c = false) (h : B) : if c = true then A else B := by rw [hc, if_neg Bool.false_ne_true]; exact h
section
variable {P : Program} {w : World} {K : PySem.W.Frag} {mg : Str → Option Value} {base : Heap}
theorem scFigure : FnScope ["_law_box_here"] ["_law_box_here"] (defScope sFigure) := ⟨rfl, rfl, rfl, by decide +kernel, rfl, by decide +kernel, by decide +kernel⟩
theorem ok_figure {f fT : Addr} {fd fdT : FuncData} {k : Nat} (F : Fun K "_law_figure" "_law_figure" sFigure f fd) (c_law_take : Cal P w K mg base (k + 1) "_law_take" fT fdT ["_law_box_here", "_law_sides"] spTake) : FnOk P w K mg base CX0 (k + 2) f fd ["_law_box_here"] spFigure := by
  refine F.ok scFigure (fun vs H Q E h => ?_) (fun cdv A outer s H vs Q E hr h => ?_)
  · obtain ⟨p, q, rfl, _⟩ := h
    rfl
  · obtain ⟨p, q, rfl, hB, kk⟩ := h
    refine ⟨_, (pss_one (ps_ret (pe_call c_law_take.ok hr (by rfl) c_law_take.g c_law_take.kp c_law_take.b .nil pass0 (pa_cons (pv 0) (pa_cons (pe_ix (r := rIxL K) ix_list (pe_lst (pa_cons pe_int (pa_cons pe_int (pa_cons pe_int pa_nil)))) (pe_call c_law_take.ok hr (by rfl) c_law_take.g c_law_take.kp c_law_take.b .nil pass0 (pa_cons (pv 0) (pa_cons pe_int pa_nil))) (fun _ _ => rfl)) pa_nil))))), ?_⟩
    refine ⟨_, rfl, (by show 3 ≤ sizeLine; decide), fun l nl => ?_⟩
    have s1 := same_upd (o := .lst [.int 10, .int 300, .int 1000000]) nl
    obtain ⟨op, ep⟩ := hB.p_some
    have nlp : l ≠ p := Ne.symm (ne_of_none ep nl)
    refine ⟨_, rfl, p, q, 3, rfl, hB.same s1, by omega, by omega, fun z H2 hz0 hz1 B2 b2 => ?_⟩
    have hl2 : H2 l = some (.lst [.int 10, .int 300, .int 1000000]) := b2 _ _ upd_same nlp
    have b : But p H H2 := (But.of_same s1).trans b2
    have fin : ∀ m : Int, 0 < m → m ≤ 1000000 → spTake [.ref p, .int m] H2 Q E := fun m h0 h1 => ⟨p, q, m, rfl, B2, h0, by omega, fun r H3 hr0 hr1 B3 b3 => by
      obtain ⟨n, rfl⟩ : ∃ n : Nat, r = (n : Nat) := ⟨r.toNat, by omega⟩
      exact kk n H3 (by omega) B3 (b.trans b3)⟩
    have : z = 0 ∨ z = 1 ∨ z = 2 := by omega
    rcases this with e | e | e
    · subst e; exact ⟨l, _, 0, _, rfl, rfl, SqL.of hl2, rfl, fin _ (by decide) (by decide)⟩
    · subst e; exact ⟨l, _, 1, _, rfl, rfl, SqL.of hl2, rfl, fin _ (by decide) (by decide)⟩
    · subst e; exact ⟨l, _, 2, _, rfl, rfl, SqL.of hl2, rfl, fin _ (by decide) (by decide)⟩
theorem scLetter : FnScope ["_law_box_here", "_law_word", "_law_way", "_law_k"] ["_law_box_here"] (defScope sLetter) := ⟨rfl, rfl, rfl, by decide +kernel, rfl, by decide +kernel, by decide +kernel⟩
theorem ok_letter {f fT fF : Addr} {fd fdT fdF : FuncData} {k : Nat} (F : Fun K "_law_letter" "_law_letter" sLetter f fd) (T : BT mg) (c_law_take : Cal P w K mg base (k + 2) "_law_take" fT fdT ["_law_box_here", "_law_sides"] spTake)
    (c_law_figure : Cal P w K mg base (k + 2) "_law_figure" fF fdF ["_law_box_here"] spFigure) : FnOk P w K mg base CX0 (k + 3) f fd ["_law_box_here"] spLetter := by
  refine F.ok scLetter (fun vs H Q E h => ?_) (fun cdv A outer s H vs Q E hr h => ?_)
  · obtain ⟨p, q, rfl, _⟩ := h
    rfl
  · obtain ⟨p, q, rfl, hB, kk⟩ := h
    refine ⟨_, (pss_cons (ps_set (i := 1) scLetter.nd rfl (.inl rfl) (pe_ix (r := rIxL K) ix_list (pe_lst (pa_cons pe_str (pa_cons pe_str (pa_cons pe_str (pa_cons pe_str pa_nil))))) (pe_call c_law_take.ok hr (by rfl) c_law_take.g c_law_take.kp c_law_take.b .nil pass0 (pa_cons (pv 0) (pa_cons pe_int pa_nil))) (fun _ _ => rfl)))
      (pss_cons (ps_if (pt_cmpR op_in_seq (pv 1) (pe_tup (pa_cons pe_str (pa_cons pe_str pa_nil))) (by rfl))
        (pss_one (ps_ret (pe_tup (pa_cons (pv 1) (pa_cons (pe_call c_law_figure.ok hr (by rfl) c_law_figure.g c_law_figure.kp c_law_figure.b .nil pass0 (pa_cons (pv 0) pa_nil)) pa_nil)))))
        pss_nil)
      (pss_cons (ps_set (i := 2) scLetter.nd rfl (.inl rfl) (pe_lst pa_nil))
      (pss_cons (ps_for PassesOwn.never rfl (pi_range1 (by rfl) T.range (pa_cons (pe_op op_add pe_int (pe_call c_law_take.ok hr (by rfl) c_law_take.g c_law_take.kp c_law_take.b .nil pass0 (pa_cons (pv 0) (pa_cons pe_int pa_nil)))) pa_nil)) (pg_name (i := 3) scLetter.nd rfl (Or.inl rfl))
        (pss_one (ps_expr (pe_bm PySem.F.plainAttrs_list PySem.F.slot_list_append PySem.F.type_list_append mt_append (pv 2) (pa_cons (pe_ifExp (pt_cmpR op_gt (pe_call c_law_take.ok hr (by rfl) c_law_take.g c_law_take.kp c_law_take.b .nil pass0 (pa_cons (pv 0) (pa_cons pe_int pa_nil))) pe_int (nomark _)) (pe_call c_law_take.ok hr (by rfl) c_law_take.g c_law_take.kp c_law_take.b .nil pass0 (pa_cons (pv 0) (pa_cons pe_int pa_nil))) (pe_call c_law_figure.ok hr (by rfl) c_law_figure.g c_law_figure.kp c_law_figure.b .nil pass0 (pa_cons (pv 0) pa_nil))) pa_nil)))))
      (pss_one (ps_ret (pe_tup (pa_cons (pv 1) (pa_cons (pe_call c_law_figure.ok hr (by rfl) c_law_figure.g c_law_figure.kp c_law_figure.b .nil pass0 (pa_cons (pv 0) pa_nil)) (pa_cons (pe_call c_law_figure.ok hr (by rfl) c_law_figure.g c_law_figure.kp c_law_figure.b .nil pass0 (pa_cons (pv 0) pa_nil)) (pa_cons (pe_callTy call_tuple_of (by rfl) T.tuple (by decide +kernel) (pa_cons (pv 2) pa_nil)) pa_nil))))))))))), ?_⟩
    refine ⟨(by show 4 ≤ sizeLine; decide), fun l nl => ?_⟩
    have s1 := same_upd (o := .lst [.str "tell", .str "void", .str "back", .str "lay"]) nl
    obtain ⟨op, ep⟩ := hB.p_some
    have nlp : l ≠ p := Ne.symm (ne_of_none ep nl)
    refine ⟨_, rfl, p, q, 4, rfl, hB.same s1, by omega, by omega, fun z H2 hz0 hz1 B2 b2 => ?_⟩
    have hl2 : H2 l = some (.lst [.str "tell", .str "void", .str "back", .str "lay"]) := b2 _ _ upd_same nlp
    have b : But p H H2 := (But.of_same s1).trans b2
    have hw : ∃ wd : Str, atI [V.str "tell", V.str "void", V.str "back", V.str "lay"] z = some (.str wd) ∧ ((wd = "void" ∨ wd = "back") ∨ (wd = "tell" ∨ wd = "lay")) := by
      have : z = 0 ∨ z = 1 ∨ z = 2 ∨ z = 3 := by omega
      rcases this with e | e | e | e
      · subst e; exact ⟨_, rfl, .inr (.inl rfl)⟩
      · subst e; exact ⟨_, rfl, .inl (.inl rfl)⟩
      · subst e; exact ⟨_, rfl, .inl (.inr rfl)⟩
      · subst e; exact ⟨_, rfl, .inr (.inr rfl)⟩
    obtain ⟨wd, hw1, hw2⟩ := hw
    refine ⟨l, _, z, _, rfl, rfl, SqL.of hl2, hw1, ?_⟩
    refine ⟨_, rfl, (by show 2 ≤ sizeLine; decide), fun t nt => ?_⟩
    have s3 := same_upd (o := .tup [.str "void", .str "back"]) nt
    have B3 := B2.same s3
    have b3 : But p H _ := b.trans (But.of_same s3)
    refine ⟨t, _, rfl, .inr (SqT.of upd_same), rfl, rfl, _, rfl, ?_⟩
    generalize upd H2 t (.tup [.str "void", .str "back"]) = H3 at *
    rcases hw2 with hw2 | hw2
    · refine ifT0 (by rcases hw2 with rfl | rfl <;> decide +kernel) ?_
      refine ⟨_, rfl, _, rfl, p, q, rfl, B3, fun n H4 hn B4 b4 => ?_⟩
      refine ⟨(by show 2 ≤ sizeLine; decide), fun a na => ?_⟩
      have s5 := same_upd (o := .tup [.str wd, .int (n : Nat)]) na
      exact kk a (.two wd n) _ ⟨hw2, hn⟩ upd_same (B4.same s5) ((b3.trans b4).trans (But.of_same s5))
    · refine ifF0 (by rcases hw2 with rfl | rfl <;> decide +kernel) ?_
      refine ⟨Nat.zero_le _, fun r nr => ?_⟩
      have s5 := same_upd (o := .lst []) nr
      obtain ⟨op3, ep3⟩ := B3.p_some
      obtain ⟨oq3, eq3⟩ := B3.q_some
      have nrp : r ≠ p := Ne.symm (ne_of_none ep3 nr)
      have nrq : r ≠ q := Ne.symm (ne_of_none eq3 nr)
      refine ⟨_, rfl, p, q, 8, rfl, B3.same s5, by omega, by omega, fun z5 H5 hz50 hz51 B5 b5 => ?_⟩
      obtain ⟨m, rfl⟩ : ∃ m : Nat, z5 = (m : Nat) := ⟨z5.toNat, by omega⟩
      have hr5 : H5 r = some (.lst []) := b5 _ _ upd_same nrp
      have hbr : ∀ b o, H b = some o → b ≠ p → b ≠ r := fun b o e hb => ne_of_none (b3 _ _ e hb) nr
      have b5' : But p H H5 := (b3.trans (But.of_same s5)).trans b5
      refine ⟨_, _, rfl, rfl, _, rfl, by omega, by omega, for_range (fun i σ H' => ∃ y3 ws, σ = [some (.ref p), some (.str wd), some (.ref r), y3] ∧ BoxAt H' p q ∧ But p H H' ∧ H' r = some (.lst (natsV ws)) ∧ ws.length = i ∧ ∀ h ∈ ws, h < 1000000)
        ⟨none, [], rfl, B5, b5', hr5, rfl, fun h z => by cases z⟩ ?_ ?_⟩
      · rintro i σ H6 hi ⟨y3, ws, rfl, B6, b6, hr6, hwl, hws⟩
        have put : ∀ (n : Nat) (H7 : Hp), n < 1000000 → BoxAt H7 p q → But p H6 H7 → ∃ y4 ws', [some (V.ref p), some (.str wd), some (.ref r), some (.int (0 + (i : Int)))] = [some (.ref p), some (.str wd), some (.ref r), y4] ∧ BoxAt (upd H7 r (.lst (natsV ws ++ [.int (n : Nat)]))) p q ∧ But p H (upd H7 r (.lst (natsV ws ++ [.int (n : Nat)]))) ∧
            upd H7 r (.lst (natsV ws ++ [.int (n : Nat)])) r = some (.lst (natsV ws')) ∧ ws'.length = i + 1 ∧ ∀ h ∈ ws', h < 1000000 := fun n H7 hn B7 b7 => by
          refine ⟨_, ws ++ [n], rfl, B7.put nrp nrq, fun b o e hb => ?_, ?_, by rw [List.length_append, hwl]; rfl, fun h z => ?_⟩
          · rw [upd_ne (hbr b o e hb)]
            exact b7 _ _ (b6 _ _ e hb) hb
          · rw [upd_same]
            unfold natsV
            rw [List.map_append] <;> rfl
          · rcases List.mem_append.mp z with z | z
            · exact hws h z
            · rw [List.mem_singleton.mp z]
              exact hn
        have hnl : (natsV ws).length < sizeLine := by
          unfold natsV
          rw [List.length_map]
          exact small1000 (by omega)
        refine ⟨_, rfl, .inl ⟨rfl, _, SqL.of hr6⟩, ?_⟩
        refine ⟨_, rfl, p, q, 6, rfl, B6, by omega, by omega, fun z7 H7 hz70 hz71 B7 b7 => ?_⟩
        refine ⟨_, _, rfl, rfl, _, rfl, ite2 (fun c => ?_) (fun c => ?_)⟩
        · refine ⟨_, rfl, p, q, 8, rfl, B7, by omega, by omega, fun z8 H8 hz80 hz81 B8 b8 => ?_⟩
          obtain ⟨n, rfl⟩ : ∃ n : Nat, z8 = (n : Nat) := ⟨z8.toNat, by omega⟩
          exact ⟨r, _, _, rfl, rfl, b8 _ _ (b7 _ _ hr6 nrp) nrp, hnl, put n H8 (by omega) B8 (b7.trans b8)⟩
        · refine ⟨_, rfl, p, q, rfl, B7, fun n H8 hn B8 b8 => ?_⟩
          exact ⟨r, _, _, rfl, rfl, b8 _ _ (b7 _ _ hr6 nrp) nrp, hnl, put n H8 hn B8 (b7.trans b8)⟩
      · rintro σ H6 ⟨y3, ws, rfl, B6, b6, hr6, hwl, hws⟩
        refine ⟨_, rfl, _, rfl, p, q, rfl, B6, fun n1 H7 hn1 B7 b7 => ?_⟩
        refine ⟨_, rfl, p, q, rfl, B7, fun n2 H8 hn2 B8 b8 => ?_⟩
        have hr8 : H8 r = some (.lst (natsV ws)) := b8 _ _ (b7 _ _ hr6 nrp) nrp
        refine ⟨_, rfl, r, _, rfl, .inl ⟨SqL.of hr8, fun t2 nt2 => ?_⟩⟩
        have s9 := same_upd (o := .tup (natsV ws)) nt2
        refine ⟨(by show 4 ≤ sizeLine; decide), fun a na => ?_⟩
        have s10 := same_upd (o := .tup [.str wd, .int (n1 : Nat), .int (n2 : Nat), .ref t2]) na
        refine kk a (.four wd n1 n2 ws) _ ⟨hw2, hn1, hn2, hws, fun z => ?_, by omega⟩ ⟨t2, upd_same, s10 _ _ upd_same⟩ ((B8.same s9).same s10) (((b6.trans b7).trans b8).trans ((But.of_same s9).trans (But.of_same s10)))
        subst z
        simp at hwl
        omega
theorem scLetText : FnScope ["_law_letter_here", "_law_found", "_law_thing", "_law_one"] ["_law_letter_here"] (defScope sLetText) := ⟨rfl, rfl, rfl, by decide +kernel, rfl, by decide +kernel, by decide +kernel⟩
theorem ok_letText {f : Addr} {fd : FuncData} {k : Nat} (F : Fun K "_law_letter_text" "_law_letter_text" sLetText f fd) (T : BT mg) : FnOk P w K mg base CX0 (k + 1) f fd ["_law_letter_here"] spLetText := by
  refine F.ok scLetText (fun vs H Q E h => ?_) (fun cdv A outer s H vs Q E hr h => ?_)
  · obtain ⟨a, l, rfl, _⟩ := h
    rfl
  · obtain ⟨a, l, rfl, hL, hG, kk⟩ := h
    refine ⟨_, (pss_cons (ps_set (i := 1) scLetText.nd rfl (.inl rfl) (pe_ix (r := rIxT K) ix_tup (pv 0) pe_int (fun _ _ => rfl)))
      (pss_cons (ps_for PassesOwn.never rfl (pi_tup (pe_slice (r := rSlT K) sl_tup (pv 0) (po_some pe_int) po_none)) (pg_name (i := 2) scLetText.nd rfl (Or.inl rfl))
        (pss_cons (ps_if (pt_val (pe_callB call_isi (by rfl) T.isinstance (by decide +kernel) (pa_cons (pv 2) (pa_cons (pe_bltn (v := .ty "tuple") (by rfl) T.tuple (by decide +kernel) rfl) pa_nil))))
          (pss_one (ps_set (i := 2) scLetText.nd rfl (.inl rfl) (pe_join pe_str (pe_lc (own := [("_law_one", 3)]) (g := (gName 3)) (tt := tYes) rfl scLetText.nd (by exact (pi_tup (pv 2))) (blkOk_by (own := [("_law_one", 3)]) (N := ["_law_letter_here", "_law_found", "_law_thing", "_law_one"]) (sc := (defScope sLetText)) (by decide +kernel)) (fun _ _ _ _ _ => by exact (pg_name (i := 3) scLetText.nd rfl (Or.inl rfl))) (fun _ _ _ _ _ => by exact pts_nil) (fun _ _ _ _ _ => by exact (pe_callTy call_str_int (by rfl) T.str (by decide +kernel) (pa_cons (pv 3) pa_nil)))))))
          pss_nil)
        (pss_one (ps_set (i := 1) scLetText.nd rfl (.inl rfl) (pe_op op_add_str (pe_op op_add_str (pv 1) pe_str) (pe_callTy (cr_or call_str_int SkE.call_str_str) (by rfl) T.str (by decide +kernel) (pa_cons (pv 2) pa_nil)))))))
      (pss_one (ps_ret (pv 1))))), ?_⟩
    obtain ⟨wd, vs, xs, ha, hp, hwl, hvl, ht⟩ := things hL hG
    refine ⟨_, rfl, a, _, 0, _, rfl, rfl, SqT.of ha, atI0 (Int.le_refl 0) rfl, ?_⟩
    obtain ⟨ec, es⟩ := tail_cut (.str wd) vs
    refine ⟨_, rfl, 1, rfl, a, _, rfl, SqT.of ha, (fun z => by rw [es] at z; cases z.1), fun sl nsl => ?_⟩
    rw [ec]
    have s1 := same_upd (o := .tup vs) nsl
    have hxl : vs.length = xs.length := paired_len hp
    refine ⟨sl, rfl, ⟨_, SqT.of upd_same⟩, for_tup (K := K) (a := sl) (xs := vs) (fun i σ H' => ∃ fd y2 y3, σ = [some (.ref a), some (.str fd), y2, y3] ∧ fd = accT wd xs i ∧ fd.length ≤ 4 + 57 * i ∧ Same (upd H sl (.tup vs)) H')
      ⟨wd, none, none, rfl, rfl, by omega, fun b o e => e⟩ (fun i σ H' _ ⟨_, _, _, _, _, _, s2⟩ => SqT.of (s2 _ _ upd_same)) ?_ ?_⟩
    · rintro i v σ H2 hi ⟨fd, y2, y3, rfl, efd, hfl, s2⟩
      obtain ⟨x, ex, hx⟩ := paired_at hp i v hi
      have hi3 : i < 3 := by have := List.getElem?_eq_some_iff.mp hi; obtain ⟨z, _⟩ := this; omega
      have hxl2 := hx.len
      have z2 : ∀ n : Nat, n ≤ 1000 → n ≤ sizeLine := fun n h => Nat.le_of_lt (small1000 (by omega))
      have next : ∀ (y : V) (y3' : Option V) (H3 : Hp), Same (upd H sl (.tup vs)) H3 → ∃ fd' y2 y3, [some (V.ref a), some (.str (fd ++ " " ++ x)), some y, y3'] = [some (.ref a), some (.str fd'), y2, y3] ∧ fd' = accT wd xs (i + 1) ∧ fd'.length ≤ 4 + 57 * (i + 1) ∧ Same (upd H sl (.tup vs)) H3 := fun y y3' H3 s3 => by
        refine ⟨_, _, _, rfl, by rw [accT_succ ex, efd], ?_, s3⟩
        rw [len_app, len_app, len_blank]
        omega
      have hl1 : fd.length + (" " : Str).length ≤ sizeLine := z2 _ (by rw [len_blank]; omega)
      have hl2 : (fd ++ " ").length + x.length ≤ sizeLine := z2 _ (by rw [len_app, len_blank]; omega)
      rcases hx with ⟨n, rfl, hn, rfl⟩ | ⟨t, way, rfl, htw, hwy, hwl8, rfl⟩
      · refine ⟨_, rfl, _, _, _, _, false, rfl, .ty _, (.base (.int _)), kit_ty (by decide +kernel), ?_⟩
        refine ⟨_, rfl, iteF ?_⟩
        exact ⟨_, rfl, _, _, rfl, rfl, hl1, _, rfl, .inl ⟨_, rfl, log_mil hn, _, _, rfl, rfl, hl2, next _ _ _ s2⟩⟩
      · have ht2 : H2 t = some (.tup (natsV way)) := s2 _ _ (s1 _ _ htw)
        refine ⟨_, rfl, _, _, _, _, true, rfl, .ty _, (.base (.tup ht2)), kit_ty (by decide +kernel), ?_⟩
        refine ⟨_, rfl, iteT ?_⟩
        refine ⟨⟨_, rfl⟩, _, rfl, t, rfl, ⟨_, SqT.of ht2⟩, fun D nD => ?_⟩
        refine lc_tup (K := K) (a := t) (xs := natsV way) (fun j H3 => Same H2 H3 ∧ H3 D = some (.lst (((way.map nt).take j).map V.str))) ⟨same_upd nD, upd_same⟩ (fun j H3 _ ⟨s3, _⟩ => SqT.of (s3 _ _ ht2)) ?_ ?_
        · rintro j y H3 hj ⟨s3, hD⟩
          unfold natsV at hj
          rw [List.getElem?_map] at hj
          obtain ⟨h, eh, rfl⟩ := Option.map_eq_some_iff.mp hj
          have hjl : j < way.length := by have := List.getElem?_eq_some_iff.mp eh; obtain ⟨z, _⟩ := this; exact z
          refine ⟨rfl, ?_⟩
          refine ⟨_, rfl, _, rfl, log_mil (hwy h (List.mem_of_getElem? eh)), _, hD, ?_, fun b o e => ?_, ?_⟩
          · rw [List.length_map, List.length_take]
            exact small1000 (by omega)
          · rw [upd_ne (ne_of_none e nD)]
            exact s3 _ _ e
          · rw [upd_same, List.take_add_one, List.getElem?_map, eh, List.map_append]
            rfl
        · rintro H3 ⟨s3, hD⟩
          have eD : (way.map nt).take (natsV way).length = way.map nt := by
            unfold natsV
            rw [List.length_map, show way.length = (way.map nt).length from (List.length_map _).symm, List.take_length]
          rw [eD] at hD
          have hsum := sum_nt hwy
          refine ⟨_, D, way.map nt, rfl, rfl, .inl (SqL.of hD), ?_, ?_⟩
          · rw [List.length_map, show ("." : Str).length = 1 from by decide +kernel]
            omega
          · exact ⟨_, rfl, _, _, rfl, rfl, hl1, _, rfl, .inr ⟨_, rfl, _, _, rfl, rfl, hl2, next _ _ _ (fun b o e => s3 _ _ (s2 _ _ e))⟩⟩
    · rintro σ H2 ⟨fd, y2, y3, rfl, efd, hfl, s2⟩
      rw [accT_all hxl, ht] at efd
      subst efd
      exact ⟨_, rfl, kk H2 (fun b o e => s2 _ _ (s1 _ _ e))⟩
end
end K

namespace K
open PySem PySem.Spec PyProof.Rows L2 SwL SwF
abbrev sThingT : Stmt := top 9
abbrev sLineT : Stmt := top 10
abbrev sTextP : Stmt := top 13
def spThingT : Sp := fun vs H Q _ => ∃ (v : V) (x : Str), vs = [v] ∧ ThingAt H v x ∧ ∀ H', Same H H' → Q (.str x) H'
theorem ThingAt.same {H H' : Hp} {v : V} {x : Str} (h : ThingAt H v x) (s : Same H H') : ThingAt H' v x := by
  rcases h with ⟨n, h1, h2, h3⟩ | ⟨t, way, h1, h2, h3⟩
  · exact .inl ⟨n, h1, h2, h3⟩
  · exact .inr ⟨t, way, h1, s _ _ h2, h3⟩
theorem foldl_join (w : Str) : ∀ xs : List Str, xs.foldl (fun (s x : Str) => s ++ (" " : Str) ++ x) w = Txt.join " " (w :: xs)
  | [] => by rw [TL.join_eq]; rfl
  | x :: r => by
    rw [List.foldl_cons, foldl_join (w ++ " " ++ x) r]
    refine TL.ext_tl ?_
    rw [TL.join_eq, TL.join_eq, TL.tl_join, TL.tl_join]
    cases r with
    | nil =>
      show TL.tl (w ++ " " ++ x) = TL.tl w ++ (TL.tl " " ++ TL.tl x)
      simp only [TL.tl_append, List.append_assoc]
    | cons y r =>
      show TL.tl (w ++ " " ++ x) ++ (TL.tl " " ++ TL.joinL (TL.tl " ") (TL.tl y :: r.map TL.tl)) = TL.tl w ++ (TL.tl " " ++ (TL.tl x ++ (TL.tl " " ++ TL.joinL (TL.tl " ") (TL.tl y :: r.map TL.tl))))
      simp only [TL.tl_append, List.append_assoc]
section
variable {P : Program} {w : World} {K : PySem.W.Frag} {mg : Str → Option Value} {base : Heap}
theorem scThingT : FnScope ["thing", "house"] ["thing"] (defScope sThingT) := ⟨rfl, rfl, rfl, by decide +kernel, rfl, by decide +kernel, by decide +kernel⟩
theorem ok_thingT {f : Addr} {fd : FuncData} {k : Nat} (F : Fun K "thing_text" "thing_text" sThingT f fd) (T : BT mg) : FnOk P w K mg base CX0 (k + 1) f fd ["thing"] spThingT := by
  refine F.ok scThingT (fun vs H Q E h => ?_) (fun cdv A outer s H vs Q E hr h => ?_)
  · obtain ⟨v, x, rfl, _⟩ := h
    rfl
  · obtain ⟨v, x, rfl, hT, kk⟩ := h
    refine ⟨_, (pss_cons (ps_if (pt_val (pe_callB call_isi (by rfl) T.isinstance (by decide +kernel) (pa_cons (pv 0) (pa_cons (pe_bltn (v := .ty "int") (by rfl) T.int (by decide +kernel) rfl) pa_nil))))
        (pss_one (ps_ret (pe_callTy call_str_int (by rfl) T.str (by decide +kernel) (pa_cons (pv 0) pa_nil))))
        pss_nil)
      (pss_one (ps_ret (pe_join pe_str (pe_lc (own := [("house", 1)]) (g := (gName 1)) (tt := tYes) rfl scThingT.nd (by exact (pi_tup (pv 0))) (blkOk_by (own := [("house", 1)]) (N := ["thing", "house"]) (sc := (defScope sThingT)) (by decide +kernel)) (fun _ _ _ _ _ => by exact (pg_name (i := 1) scThingT.nd rfl (Or.inl rfl))) (fun _ _ _ _ _ => by exact pts_nil) (fun _ _ _ _ _ => by exact (pe_callTy call_str_int (by rfl) T.str (by decide +kernel) (pa_cons (pv 1) pa_nil)))))))), ?_⟩
    rcases hT with ⟨n, rfl, hn, rfl⟩ | ⟨t, way, rfl, htw, hwy, hwl8, rfl⟩
    · refine ⟨_, rfl, _, _, _, _, true, rfl, .ty _, (.base (.int _)), kit_ty (by decide +kernel), ?_⟩
      exact ⟨_, rfl, iteT ⟨_, rfl, _, rfl, log_mil hn, kk H (fun b o e => e)⟩⟩
    · refine ⟨_, rfl, _, _, _, _, false, rfl, .ty _, (.base (.tup htw)), kit_ty (by decide +kernel), ?_⟩
      refine ⟨_, rfl, iteF ?_⟩
      refine ⟨⟨_, rfl⟩, _, rfl, t, rfl, ⟨_, SqT.of htw⟩, fun D nD => ?_⟩
      refine lc_tup (K := K) (a := t) (xs := natsV way) (fun j Hj => Same H Hj ∧ Hj D = some (.lst (((way.map nt).take j).map V.str))) ⟨same_upd nD, upd_same⟩ (fun j Hj _ ⟨sj, _⟩ => SqT.of (sj _ _ htw)) ?_ ?_
      · rintro j y Hj hj ⟨sj, hD⟩
        unfold natsV at hj
        rw [List.getElem?_map] at hj
        obtain ⟨h, eh, rfl⟩ := Option.map_eq_some_iff.mp hj
        have hjl : j < way.length := by have := List.getElem?_eq_some_iff.mp eh; obtain ⟨z, _⟩ := this; exact z
        refine ⟨rfl, ?_⟩
        refine ⟨_, rfl, _, rfl, log_mil (hwy h (List.mem_of_getElem? eh)), _, hD, ?_, fun b o e => ?_, ?_⟩
        · rw [List.length_map, List.length_take]
          exact small1000 (by omega)
        · rw [upd_ne (ne_of_none e nD)]
          exact sj _ _ e
        · rw [upd_same, List.take_add_one, List.getElem?_map, eh, List.map_append]
          rfl
      · rintro Hj ⟨sj, hD⟩
        have eD : (way.map nt).take (natsV way).length = way.map nt := by
          unfold natsV
          rw [List.length_map, show way.length = (way.map nt).length from (List.length_map _).symm, List.take_length]
        rw [eD] at hD
        have hsum := sum_nt hwy
        refine ⟨_, D, way.map nt, rfl, rfl, .inl (SqL.of hD), ?_, ?_⟩
        · rw [List.length_map, show ("." : Str).length = 1 from by decide +kernel]
          omega
        · exact kk Hj sj
theorem scLineT : FnScope ["parts", "word", "things", "thing"] ["parts"] (defScope sLineT) := ⟨rfl, rfl, rfl, by decide +kernel, rfl, by decide +kernel, by decide +kernel⟩
theorem ok_lineT {f fT : Addr} {fd fdT : FuncData} {k : Nat} (F : Fun K "line_text" "line_text" sLineT f fd) (T : BT mg) (cthing_text : Cal P w K mg base (k + 1) "thing_text" fT fdT ["thing"] spThingT) : FnOk P w K mg base CX0 (k + 2) f fd ["parts"] spLetText := by
  refine F.ok scLineT (fun vs H Q E h => ?_) (fun cdv A outer s H vs Q E hr h => ?_)
  · obtain ⟨a, l, rfl, _⟩ := h
    rfl
  · obtain ⟨a, l, rfl, hL, hG, kk⟩ := h
    refine ⟨_, (pss_cons (ps_asg (pv 0) (SwSt.pg_star rfl (pgs_cons (pg_name (i := 1) scLineT.nd rfl (Or.inl rfl)) (pgs_cons (pg_name (i := 2) scLineT.nd rfl (Or.inl rfl)) pgs_nil))))
      (pss_one (ps_ret (pe_join pe_str (pe_op op_cat (pe_lst (pa_cons (pv 1) pa_nil)) (pe_lc (own := [("thing", 3)]) (g := (gName 3)) (tt := tYes) rfl scLineT.nd (by exact (pi_list (pv 2))) (blkOk_by (own := [("thing", 3)]) (N := ["parts", "word", "things", "thing"]) (sc := (defScope sLineT)) (by decide +kernel)) (fun _ _ _ _ _ => by exact (pg_name (i := 3) scLineT.nd rfl (Or.inl rfl))) (fun _ _ _ _ _ => by exact pts_nil) (fun _ _ _ _ _ => by exact (pe_call cthing_text.ok hr (by rfl) cthing_text.g cthing_text.kp cthing_text.b .nil pass0 (pa_cons (pv 3) pa_nil))))))))), ?_⟩
    obtain ⟨wd, vs, xs, ha, hp, hwl, hvl, ht⟩ := things hL hG
    have hxl : vs.length = xs.length := paired_len hp
    refine ⟨_, rfl, a, _, vs, rfl, .inl (SqT.of ha), by omega, fun p np => ⟨_, _, rfl, _, _, rfl, rfl, ?_⟩⟩
    have s1 := same_upd (o := .lst vs) np
    refine ⟨⟨_, rfl⟩, _, rfl, (by show 1 ≤ sizeLine; decide), fun q nq => ?_⟩
    have s2 := same_upd (o := .lst [.str wd]) nq
    have hp2 : upd (upd H p (.lst vs)) q (.lst [.str wd]) p = some (.lst vs) := s2 _ _ upd_same
    refine ⟨_, rfl, p, rfl, ⟨_, SqL.of hp2⟩, fun D nD => ?_⟩
    refine lc_list (K := K) (a := p) (xs := vs) (fun j Hj => Same (upd (upd H p (.lst vs)) q (.lst [.str wd])) Hj ∧ Hj D = some (.lst ((xs.take j).map V.str)))
      ⟨same_upd nD, upd_same⟩ (fun j Hj _ ⟨sj, _⟩ => SqL.of (sj _ _ hp2)) ?_ ?_
    · rintro j y Hj hj ⟨sj, hD⟩
      obtain ⟨x, ex, hx⟩ := paired_at hp j y hj
      have hj3 : j < 3 := by have := List.getElem?_eq_some_iff.mp hj; obtain ⟨z, _⟩ := this; omega
      refine ⟨rfl, ?_⟩
      refine ⟨_, rfl, y, x, rfl, ThingAt.same hx (fun b o e => sj _ _ (s2 _ _ (s1 _ _ e))), fun H' sm => ⟨_, sm _ _ hD, ?_, fun b o e => ?_, ?_⟩⟩
      · rw [List.length_map, List.length_take]
        exact small1000 (by omega)
      · rw [upd_ne (ne_of_none e nD)]
        exact sm _ _ (sj _ _ e)
      · rw [upd_same, List.take_add_one, ex, List.map_append]
        rfl
    · rintro Hj ⟨sj, hD⟩
      rw [hxl, List.take_length] at hD
      have hq : Hj q = some (.lst [.str wd]) := sj _ _ upd_same
      refine ⟨q, D, _, _, rfl, rfl, hq, hD, ?_, fun v nv => ?_⟩
      · rw [List.length_map]
        exact Nat.le_of_lt (small1000 (by show 1 + xs.length ≤ 1000; omega))
      have s3 := same_upd (o := .lst ([.str wd] ++ xs.map V.str)) nv
      have hsum : (xs.map (·.length)).sum ≤ 56 * xs.length := by
        have all : ∀ x ∈ xs, x.length ≤ 56 := fun x hx => by
          obtain ⟨j, hj⟩ := List.mem_iff_getElem?.mp hx
          obtain ⟨v, hv⟩ : ∃ v, vs[j]? = some v := by
            have := List.getElem?_eq_some_iff.mp hj
            obtain ⟨z, _⟩ := this
            exact ⟨_, List.getElem?_eq_getElem (by omega)⟩
          obtain ⟨x', ex', hx'⟩ := paired_at hp j v hv
          rw [hj] at ex'
          cases ex'
          exact hx'.len
        clear hD ht hp hxl s3
        induction xs with
        | nil => exact Nat.zero_le _
        | cons x r ih =>
          have h1 := all x (List.mem_cons_self ..)
          have h2 := ih fun y hy => all y (List.mem_cons_of_mem _ hy)
          show x.length + (r.map (·.length)).sum ≤ 56 * (r.length + 1)
          omega
      refine ⟨_, v, wd :: xs, rfl, rfl, .inl (SqL.of upd_same), ?_, ?_⟩
      · show (wd.length + (xs.map (·.length)).sum) + (xs.length + 1) * (" " : Str).length ≤ 16777216
        rw [len_blank]
        omega
      · rw [← foldl_join, ht]
        exact kk _ (fun b o e => s3 _ _ (sj _ _ (s2 _ _ (s1 _ _ e))))
theorem scTextP : FnScope ["letter"] ["letter"] (defScope sTextP) := ⟨rfl, rfl, rfl, by decide +kernel, rfl, by decide +kernel, by decide +kernel⟩
theorem ok_textP {f fT : Addr} {fd fdT : FuncData} {k : Nat} (F : Fun K "letter_text" "letter_text" sTextP f fd) (cline_text : Cal P w K mg base (k + 2) "line_text" fT fdT ["parts"] spLetText) : FnOk P w K mg base CX0 (k + 3) f fd ["letter"] spLetText := by
  refine F.ok scTextP (fun vs H Q E h => ?_) (fun cdv A outer s H vs Q E hr h => ?_)
  · obtain ⟨a, l, rfl, _⟩ := h
    rfl
  · obtain ⟨a, l, rfl, hL, hG, kk⟩ := h
    refine ⟨_, (pss_one (ps_ret (pe_call cline_text.ok hr (by rfl) cline_text.g cline_text.kp cline_text.b .nil pass0 (pa_cons (pv 0) pa_nil)))), ?_⟩
    exact ⟨_, rfl, a, l, rfl, hL, hG, kk⟩
end
end K


namespace K
open PySem PySem.Spec PyProof.Rows L2 SwL
abbrev sLaw : Stmt := top 22
def spReadGood : Sp := fun vs H Q _ => ∃ l : Letter, vs = [.str l.text] ∧ l.Good ∧ ∀ (p : Addr) (H' : Hp), Same H H' → LetterAt H' p l → Q (.ref p) H'
theorem eqv_nats {H : Hp} {a b : Addr} {m : Nat} {way : List Nat} (h1 : H a = some (.tup (natsV way))) (h2 : H b = some (.tup (natsV way))) (hl : way.length ≤ 8) : Eqv (m + 2) H (.ref a) (.ref b) := by
  refine .inr ⟨a, b, _, _, rfl, rfl, .inr ⟨h1, h2⟩, rfl, by unfold natsV; rw [List.length_map]; omega, fun i u v hu hv => .inl ?_⟩
  rw [hu] at hv
  cases hv
  unfold natsV at hu
  rw [List.getElem?_map] at hu
  obtain ⟨h, _, rfl⟩ := Option.map_eq_some_iff.mp hu
  exact ⟨rfl, rfl⟩
theorem eqv_letter {H : Hp} {a b : Addr} {m : Nat} {l : Letter} (h1 : LetterAt H a l) (h2 : LetterAt H b l) (g : l.Good) : Eqv (m + 3) H (.ref a) (.ref b) := by
  cases l with
  | two w n =>
    refine .inr ⟨a, b, _, _, rfl, rfl, .inr ⟨h1, h2⟩, rfl, (by show 2 ≤ 1000; decide), fun i u v hu hv => .inl ?_⟩
    rw [hu] at hv
    cases hv
    match i, hu with
    | 0, hu => cases hu; exact ⟨rfl, rfl⟩
    | 1, hu => cases hu; exact ⟨rfl, rfl⟩
    | i + 2, hu => cases hu
  | four w x y way =>
    obtain ⟨t1, a1, c1⟩ := h1
    obtain ⟨t2, a2, c2⟩ := h2
    refine .inr ⟨a, b, _, _, rfl, rfl, .inr ⟨a1, a2⟩, rfl, (by show 4 ≤ 1000; decide), fun i u v hu hv => ?_⟩
    match i, hu, hv with
    | 0, hu, hv => cases hu; cases hv; exact .inl ⟨rfl, rfl⟩
    | 1, hu, hv => cases hu; cases hv; exact .inl ⟨rfl, rfl⟩
    | 2, hu, hv => cases hu; cases hv; exact .inl ⟨rfl, rfl⟩
    | 3, hu, hv => cases hu; cases hv; exact eqv_nats c1 c2 g.2.2.2.2.2
    | i + 4, hu, hv => cases hu
section
variable {P : Program} {w : World} {K : PySem.W.Frag} {mg : Str → Option Value} {base : Heap}
theorem scLaw : FnScope ["_law_script", "_law_box_here", "_law_turn", "_law_letter_here", "_law_text"] ["_law_script"] (defScope sLaw) := ⟨rfl, rfl, rfl, by decide +kernel, rfl, by decide +kernel, by decide +kernel⟩
theorem ok_law {f fB fT fS fL fX fR : Addr} {fd fdB fdT fdS fdL fdX fdR : FuncData} (F : Fun K "law" "law" sLaw f fd) (T : BT mg)
    (c_law_box : Cal P w K mg base 11 "_law_box" fB fdB ["_law_script"] (spBox K)) (c_law_same : Cal P w K mg base 11 "_law_same" fS fdS ["_law_found", "_law_due"] (spSame 11))
    (c_law_letter : Cal P w K mg base 11 "_law_letter" fT fdT ["_law_box_here"] spLetter) (c_law_letter_text : Cal P w K mg base 11 "_law_letter_text" fL fdL ["_law_letter_here"] spLetText)
    (cletter_text : Cal P w K mg base 11 "letter_text" fX fdX ["letter"] spLetText) (cread_letter : Cal P w K mg base 11 "read_letter" fR fdR ["text"] spReadGood) : FnOk P w K mg base CX0 12 f fd ["_law_script"] (spLaw K) := by
  refine F.ok scLaw (fun vs H Q E h => ?_) (fun cdv A outer s H vs Q E hr h => ?_)
  · obtain ⟨a, ns, rfl, _⟩ := h
    rfl
  · obtain ⟨a, ns, rfl, hS, hlen, kk⟩ := h
    refine ⟨_, (pss_cons (ps_set (i := 1) scLaw.nd rfl (.inl rfl) (pe_call c_law_box.ok hr (by rfl) c_law_box.g c_law_box.kp c_law_box.b .nil pass0 (pa_cons (pv 0) pa_nil)))
      (pss_cons (ps_for PassesOwn.never rfl (pi_range1 (by rfl) T.range (pa_cons pe_int pa_nil)) (pg_name (i := 2) scLaw.nd rfl (Or.inl rfl))
        (pss_cons (ps_set (i := 3) scLaw.nd rfl (.inl rfl) (pe_call c_law_letter.ok hr (by rfl) c_law_letter.g c_law_letter.kp c_law_letter.b .nil pass0 (pa_cons (pv 1) pa_nil)))
        (pss_cons (ps_set (i := 4) scLaw.nd rfl (.inl rfl) (pe_call c_law_letter_text.ok hr (by rfl) c_law_letter_text.g c_law_letter_text.kp c_law_letter_text.b .nil pass0 (pa_cons (pv 3) pa_nil)))
        (pss_one (ps_if (pt_not (pt_val (pe_call c_law_same.ok hr (by rfl) c_law_same.g c_law_same.kp c_law_same.b .nil pass0 (pa_cons (pe_lst (pa_cons (pe_call cletter_text.ok hr (by rfl) cletter_text.g cletter_text.kp cletter_text.b .nil pass0 (pa_cons (pv 3) pa_nil)) (pa_cons (pe_call cread_letter.ok hr (by rfl) cread_letter.g cread_letter.kp cread_letter.b .nil pass0 (pa_cons (pv 4) pa_nil)) pa_nil))) (pa_cons (pe_lst (pa_cons (pv 4) (pa_cons (pv 3) pa_nil))) pa_nil)))))
          (pss_one (ps_ret pe_bl))
          pss_nil)))))
      (pss_one (ps_ret pe_bl)))), ?_⟩
    refine ⟨_, rfl, a, ns, rfl, hS, hlen, fun p q H1 np nq B1 s1 => ?_⟩
    refine ⟨12, rfl, by decide, by decide, for_range (n := 12) (fun i σ H' => ∃ y2 y3 y4, σ = [some (.ref a), some (.ref p), y2, y3, y4] ∧ BoxAt H' p q) ⟨none, none, none, rfl, B1⟩ ?_ ?_⟩
    · rintro i σ H2 hi ⟨y2, y3, y4, rfl, B2⟩
      refine ⟨_, rfl, p, q, rfl, B2, fun la l H3 hG hL B3 b3 => ?_⟩
      refine ⟨_, rfl, la, l, rfl, hL, hG, fun H4 s4 => ?_⟩
      refine ⟨_, rfl, la, l, rfl, hL.same s4, hG, fun H5 s5 => ?_⟩
      refine ⟨_, rfl, l, rfl, hG, fun r H6 s6 hR => ?_⟩
      refine ⟨(by show 2 ≤ sizeLine; decide), fun f1 nf1 => ?_⟩
      have s7 := same_upd (o := .lst [.str l.text, .ref r]) nf1
      refine ⟨_, rfl, _, rfl, (by show 2 ≤ sizeLine; decide), fun f2 nf2 => ?_⟩
      have s8 := same_upd (o := .lst [.str l.text, .ref la]) nf2
      have hf1 := s8 _ _ (upd_same (H := H6) (a := f1) (o := .lst [.str l.text, .ref r]))
      have hR8 := (hR.same s7).same s8
      have hL8 := ((((hL.same s4).same s5).same s6).same s7).same s8
      refine ⟨_, _, rfl, .inr ⟨f1, f2, _, _, rfl, rfl, .inl ⟨hf1, upd_same⟩, rfl, (by show 2 ≤ 1000; decide), fun i u v hu hv => ?_⟩, fun H9 s9 => ?_⟩
      · match i, hu, hv with
        | 0, hu, hv => cases hu; cases hv; exact .inl ⟨rfl, rfl⟩
        | 1, hu, hv => cases hu; cases hv; exact eqv_letter hR8 hL8 hG
        | i + 2, hu, hv => cases hu
      · refine ⟨_, rfl, iteF ?_⟩
        exact ⟨_, _, _, rfl, (((((B3.same s4).same s5).same s6).same s7).same s8).same s9⟩
    · rintro σ H2 ⟨y2, y3, y4, rfl, B2⟩
      exact kk H2
end
end K

/-! dict(D), D a dict of the module; the copy is asked -/
namespace SwF
open PySem PySem.Spec PyProof.Rows L2 SwL
def KdOf (K : PySem.W.Frag) (w : World) (d : Addr) (kvs : List (Key × V)) : Prop :=
  ∃ es n vs, KDict K w d es n ∧ (∀ P, Pairs (mixKind P w) es.toList vs) ∧ (vs.map (·.1)).Nodup ∧ KV kvs vs ∧ kvs.length ≤ sizeLine
theorem call_dict_kd {X : Cx} {d : Addr} {kvs : List (Key × V)} (C : KdOf X.K X.w d kvs) : CallR X (.type "dict") (fun xs H Q => xs = [.ref d] ∧ ∀ p, H p = none → Q (.ref p) (upd H p (.dK kvs))) := by
  intro pins s σ H xs us Q I r q
  obtain ⟨ex, q⟩ := q
  subst ex
  obtain ⟨u, eu, rx⟩ := vals1 r
  subst eu
  cases rx
  obtain ⟨es, n, vs, D, hp, nd, rel, z⟩ := C
  have dd : s.heap.DictOf (mixKind X.prog X.w) d vs := ⟨_, es, n, I.kIn _ _ D.at_, ⟨rfl, rfl, rfl⟩, rfl, fun e he => by
    obtain ⟨x, t, e1, e2⟩ := D.lit.all e (Array.mem_toList_iff.mpr he)
    exact ⟨.inr x, by rw [e1]; exact mixKind_str X.prog X.w x t, e2⟩, hp _, nd⟩
  refine kt_call_dict D.low dd (by rw [← rel.length]; exact z) fun h' d' hs => ?_
  have hm : (s.heap.objs.size == sysModules) = false := beq_eq_false_iff_ne.mpr (Nat.ne_of_gt I.big)
  exact ⟨.ref s.heap.objs.size, upd H s.heap.objs.size (.dK kvs), I.laid (t' := s.toks) (fun b u e => (hs.2 b (Nat.ne_of_lt (Heap.lt_size e))).trans (Heap.get?_push_of_some _ e)) (Nat.le_refl _)
    (show ObjOk X.prog X.w _ _ _ (.dK kvs) from ⟨z, hm, vs, rel, d'⟩), rfl, q _ (I.hok.fresh (Nat.le_refl _))⟩
/-- z not in d, d a dict with text keys -/
def rDN : R2 := fun x y H Q => ∃ (z : Str) (a : Addr) (kvs : List (Key × V)), x = .str z ∧ y = .ref a ∧ H a = some (.dK kvs) ∧ Q (.bl (!(valV kvs (.inr z)).isSome)) H
theorem op_notIn_dk {X : Cx} (hu : X.A.units + 1 < cLine) : OpR X (compareOp .NotIn) rDN := by
  intro pins s σ H x y v u Q I rx ry h
  obtain ⟨z, a, kvs, rfl, rfl, e, q⟩ := h
  cases ry
  exact d_notIn (y := .str z) hu I (DGet.k (k := .inr z) e) rx (fun s' I' => ⟨.bl _, H, I', rfl, q⟩)
/-- the table, as a copy tells it -/
structure FormsK (K : PySem.W.Frag) (kvs : List (Key × V)) : Prop where
  none_ : ∀ z, formOf z = none → valV kvs (.inr z) = none
  some_ : ∀ z f, formOf z = some f → ∃ T : Addr, valV kvs (.inr z) = some (.ref T) ∧ ∀ H, SqT K H T (if f = "n" then [.str "number"] else [.str "number", .str "number", .str "way"])
def fkvs (T1 T2 T3 T4 : Addr) : List (Key × V) := [(.inr "tell", .ref T1), (.inr "void", .ref T2), (.inr "back", .ref T3), (.inr "lay", .ref T4)]
theorem valV_f (T1 T2 T3 T4 : Addr) (z : Str) : valV (fkvs T1 T2 T3 T4) (.inr z) = if z = "tell" then some (.ref T1) else if z = "void" then some (.ref T2) else if z = "back" then some (.ref T3) else if z = "lay" then some (.ref T4) else none := by
  have be : ∀ y : Str, decide ((Sum.inr y : Key) = Sum.inr z) = decide (z = y) := fun y => by
    by_cases c : z = y
    · rw [c, decide_eq_true rfl, decide_eq_true rfl]
    · rw [decide_eq_false c, decide_eq_false (fun q => c (Sum.inr.inj q).symm)]
  unfold valV fkvs
  simp only [List.find?_cons, be, List.find?_nil]
  by_cases c1 : z = "tell"
  · rw [decide_eq_true c1, if_pos c1]; rfl
  rw [decide_eq_false c1, if_neg c1]
  by_cases c2 : z = "void"
  · rw [decide_eq_true c2, if_pos c2]; rfl
  rw [decide_eq_false c2, if_neg c2]
  by_cases c3 : z = "back"
  · rw [decide_eq_true c3, if_pos c3]; rfl
  rw [decide_eq_false c3, if_neg c3]
  by_cases c4 : z = "lay"
  · rw [decide_eq_true c4, if_pos c4]; rfl
  rw [decide_eq_false c4, if_neg c4]; rfl
theorem formsK_mk {K : PySem.W.Frag} {w : World} {FD T1 T2 T3 T4 : Addr} {h1 h2 h3 h4 : Int} {t1 t2 t3 t4 a1 a2 a3 b1 c1 d1 d2 d3 : Tok} {n m1 m2 m3 m4 : Nat} {o1 o2 o3 o4 : Option Addr} {s1 s2 s3 s4 : Array (Option Value)}
    (l : K.lookup FD = some ⟨.type "dict", none, .dict #[⟨h1, .str "tell" t1, .ref T1⟩, ⟨h2, .str "void" t2, .ref T2⟩, ⟨h3, .str "back" t3, .ref T3⟩, ⟨h4, .str "lay" t4, .ref T4⟩] n, #[]⟩)
    (e1 : h1 = PyData.keyHash w.params "tell") (e2 : h2 = PyData.keyHash w.params "void") (e3 : h3 = PyData.keyHash w.params "back") (e4 : h4 = PyData.keyHash w.params "lay") (low : (FD == sysModules) = false)
    (l1 : K.lookup T1 = some ⟨.type "tuple", o1, .seq #[.str "number" a1, .str "number" a2, .str "way" a3] m1, s1⟩) (l2 : K.lookup T2 = some ⟨.type "tuple", o2, .seq #[.str "number" b1] m2, s2⟩)
    (l3 : K.lookup T3 = some ⟨.type "tuple", o3, .seq #[.str "number" c1] m3, s3⟩) (l4 : K.lookup T4 = some ⟨.type "tuple", o4, .seq #[.str "number" d1, .str "number" d2, .str "way" d3] m4, s4⟩) :
    KdOf K w FD (fkvs T1 T2 T3 T4) ∧ FormsK K (fkvs T1 T2 T3 T4) := by
  have one : ∀ {T : Addr} {o : Option Addr} {t : Tok} {m : Nat} {sl : Array (Option Value)}, K.lookup T = some ⟨.type "tuple", o, .seq #[.str "number" t] m, sl⟩ → ∀ H, SqT K H T [.str "number"] :=
    fun q H => .inr ⟨_, _, _, q, rfl, rfl, (by show 1 ≤ sizeLine; decide), .cons ⟨_, rfl⟩ .nil⟩
  have three : ∀ {T : Addr} {o : Option Addr} {t u v : Tok} {m : Nat} {sl : Array (Option Value)}, K.lookup T = some ⟨.type "tuple", o, .seq #[.str "number" t, .str "number" u, .str "way" v] m, sl⟩ → ∀ H, SqT K H T [.str "number", .str "number", .str "way"] :=
    fun q H => .inr ⟨_, _, _, q, rfl, rfl, (by show 3 ≤ sizeLine; decide), .cons ⟨_, rfl⟩ (.cons ⟨_, rfl⟩ (.cons ⟨_, rfl⟩ .nil))⟩
  refine ⟨⟨_, n, [(.inr "tell", .ref T1), (.inr "void", .ref T2), (.inr "back", .ref T3), (.inr "lay", .ref T4)], ⟨l, ⟨⟨_, _, rfl, e1⟩, ⟨_, _, rfl, e2⟩, ⟨_, _, rfl, e3⟩, ⟨_, _, rfl, e4⟩, trivial⟩, low⟩, fun P => ?_, (by show ([.inr "tell", .inr "void", .inr "back", .inr "lay"] : List Key).Nodup; decide +kernel),
    .cons ⟨rfl, rfl⟩ (.cons ⟨rfl, rfl⟩ (.cons ⟨rfl, rfl⟩ (.cons ⟨rfl, rfl⟩ .nil))), by show 4 ≤ sizeLine; decide⟩, fun z hz => ?_, fun z f hz => ?_⟩
  · exact .cons (mixKind_str P w "tell" t1) rfl (.cons (mixKind_str P w "void" t2) rfl (.cons (mixKind_str P w "back" t3) rfl (.cons (mixKind_str P w "lay" t4) rfl .nil)))
  · unfold formOf at hz
    rw [valV_f]
    by_cases c : z = "tell" ∨ z = "lay"
    · rw [if_pos c] at hz; cases hz
    · rw [if_neg c] at hz
      by_cases c2 : z = "void" ∨ z = "back"
      · rw [if_pos c2] at hz; cases hz
      · rw [if_neg (fun q => c (.inl q)), if_neg (fun q => c2 (.inl q)), if_neg (fun q => c2 (.inr q)), if_neg (fun q => c (.inr q))]
  · unfold formOf at hz
    by_cases c : z = "tell" ∨ z = "lay"
    · rw [if_pos c] at hz
      cases hz
      rw [if_neg (by decide)]
      rcases c with rfl | rfl
      · exact ⟨T1, by rw [valV_f]; rfl, three l1⟩
      · exact ⟨T4, by rw [valV_f]; rfl, three l4⟩
    · rw [if_neg c] at hz
      by_cases c2 : z = "void" ∨ z = "back"
      · rw [if_pos c2] at hz
        cases hz
        rw [if_pos rfl]
        rcases c2 with rfl | rfl
        · exact ⟨T2, by rw [valV_f]; rfl, one l2⟩
        · exact ⟨T3, by rw [valV_f]; rfl, one l3⟩
      · rw [if_neg c2] at hz; cases hz
end SwF

/-! things of a letter, some of them none -/
namespace K
open PySem PySem.Spec PyProof.Rows L2 SwL
def OThingV (H : Hp) (v : V) : Option Thing → Prop
  | none => v = .non
  | some t => ThingV H v t
def otD : Option Thing → PyData
  | none => .none
  | some (.num n) => .int (n : Nat)
  | some (.way w) => .tuple (w.map fun h => PyData.int (h : Nat))
theorem OThingV.same {H H' : Hp} {v : V} {o : Option Thing} (h : OThingV H v o) (s : Same H H') : OThingV H' v o := by
  cases o with
  | none => exact h
  | some t => exact ThingV.same (t := t) h s
theorem OThingV.put {H : Hp} {v : V} {o : Option Thing} {D : Addr} {us us' : List V} (h : OThingV H v o) (hD : H D = some (.lst us)) : OThingV (upd H D (.lst us')) v o := by
  cases o with
  | none => exact h
  | some t =>
    cases t with
    | num n => exact h
    | way w =>
      obtain ⟨a, h1, h2⟩ := h
      exact ⟨a, h1, by rw [upd_ne (ne_of h2 hD (fun z => by cases z))]; exact h2⟩
theorem dp_nats {K : PySem.W.Frag} {H : Hp} : ∀ w : List Nat, DpAll K H (natsV w) (w.map fun h => PyData.int (h : Nat))
  | [] => .nil
  | h :: w => .cons (.int _) (dp_nats w)
theorem dp_ot {K : PySem.W.Frag} {H : Hp} {v : V} {o : Option Thing} (h : OThingV H v o) : Dp K H v (otD o) := by
  cases o with
  | none =>
    have h : v = .non := h
    subst h
    exact .non
  | some t =>
    cases t with
    | num n =>
      have h : v = .int (n : Nat) := h
      subst h
      exact .int _
    | way w =>
      obtain ⟨a, rfl, h2⟩ := h
      exact .tup (SqT.of h2) (dp_nats w)
theorem dp_ots {K : PySem.W.Frag} {H : Hp} : ∀ {us : List V} {os : List (Option Thing)}, Paired (OThingV H) us os → DpAll K H us (os.map otD)
  | _, _, .nil => .nil
  | _, _, .cons h r => .cons (dp_ot h) (dp_ots r)
theorem lay_nats : ∀ w : List Nat, PyData.canLayAll0 (w.map fun h => PyData.int (h : Nat)) = true
  | [] => by simp [PyData.canLayAll0]
  | e :: w => by simp [PyData.canLayAll0, PyData.canLay0, lay_nats w]
theorem depth_nats : ∀ w : List Nat, PyData.depthAll (w.map fun h => PyData.int (h : Nat)) ≤ 1
  | [] => by simp [PyData.depthAll]
  | e :: w => by
    have ih := depth_nats w
    have h1 : (PyData.int (e : Nat)).depth ≤ 1 := by simp [PyData.depth]
    simp only [List.map_cons, PyData.depthAll]
    omega
theorem lay_ot (o : Option Thing) : (otD o).canLay0 = true ∧ (otD o).depth ≤ 2 := by
  cases o with
  | none => simp [otD, PyData.canLay0, PyData.depth]
  | some t =>
    cases t with
    | num n => simp [otD, PyData.canLay0, PyData.depth]
    | way w =>
      have h1 := lay_nats w
      have h2 := depth_nats w
      have e : (otD (some (.way w))).depth = PyData.depthAll (w.map fun h => PyData.int (h : Nat)) + 1 := by simp [otD, PyData.depth, Nat.add_comm]
      exact ⟨by simpa [otD, PyData.canLay0] using h1, by omega⟩
theorem lay_ots : ∀ os : List (Option Thing), PyData.canLayAll0 (os.map otD) = true ∧ PyData.depthAll (os.map otD) ≤ 2
  | [] => by simp [PyData.canLayAll0, PyData.depthAll]
  | o :: os => by
    obtain ⟨h1, h2⟩ := lay_ots os
    obtain ⟨h3, h4⟩ := lay_ot o
    simp only [List.map_cons, PyData.canLayAll0, PyData.depthAll, h1, h3]
    exact ⟨rfl, by omega⟩
theorem shaped_ots (os : List (Option Thing)) : SeqAt.shaped (.list (os.map otD)) = true := by
  obtain ⟨h1, h2⟩ := lay_ots os
  unfold SeqAt.shaped
  have h3 : (PyData.list (os.map otD)).canLay0 = true := by simpa [PyData.canLay0] using h1
  have h4 : (PyData.list (os.map otD)).depth ≤ 64 := by
    have e : (PyData.list (os.map otD)).depth = PyData.depthAll (os.map otD) + 1 := by simp [PyData.depth, Nat.add_comm]
    omega
  rw [h3, decide_eq_true h4]
  rfl
theorem any_none : ∀ os : List (Option Thing), ((os.map otD).any fun z => PyData.eqv z .none) = true ↔ none ∈ os
  | [] => by simp
  | none :: os => by simp [otD, PyData.eqv]
  | some (.num n) :: os => by
    have ih := any_none os
    simp only [List.map_cons, List.any_cons, otD, PyData.eqv, Bool.false_or]
    rw [ih]
    simp
  | some (.way w) :: os => by
    have ih := any_none os
    simp only [List.map_cons, List.any_cons, otD, PyData.eqv, Bool.false_or]
    rw [ih]
    simp
theorem unsome {H : Hp} : ∀ {us : List V} {ts : List Thing}, Paired (OThingV H) us (ts.map some) → Paired (ThingV H) us ts
  | _, [], .nil => .nil
  | _, t :: ts, .cons h r => .cons h (unsome r)
end K

namespace K
open PySem PySem.Spec PyProof.Rows L2 SwL SwF
abbrev sNumP : Stmt := top 5
abbrev sWayP : Stmt := top 6
abbrev sThingP : Stmt := top 7
abbrev sLineP : Stmt := top 8
abbrev sReadP : Stmt := top 14
def spReadOk : Sp := fun vs H Q _ => ∃ x : Str, vs = [.str x] ∧ x.length ≤ 9000 ∧ letterIn x ≠ none ∧ ∀ l, letterIn x = some l → ∀ p H', Same H H' → GotAt H' p l → Q (.ref p) H'
def spNumP : Sp := fun vs H Q _ => ∃ wd : Str, vs = [.str wd] ∧ wd.length ≤ 9000 ∧ Q (ov (numIn wd)) H
def spWayP : Sp := fun vs H Q _ => ∃ wd : Str, vs = [.str wd] ∧ wd.length ≤ 9000 ∧ (wayIn wd = none → ∀ H', Same H H' → Q .non H') ∧ ∀ way, wayIn wd = some way → ∀ p H', Same H H' → H' p = some (.tup (natsV way)) → Q (.ref p) H'
def sortOf (fm : Str) : Str := if fm = "way" then "w" else "n"
def spThingP : Sp := fun vs H Q _ => ∃ fm wd : Str, vs = [.str fm, .str wd] ∧ wd.length ≤ 9000 ∧ ∀ v H', Same H H' → OThingV H' v (thingIn wd (sortOf fm)) → Q v H'
section
variable {P : Program} {w : World} {K : PySem.W.Frag} {mg : Str → Option Value} {base : Heap}
theorem scNumP : FnScope ["word"] ["word"] (defScope sNumP) := ⟨rfl, rfl, rfl, by decide +kernel, rfl, by decide +kernel, by decide +kernel⟩
theorem ok_numP {f : Addr} {fd : FuncData} {k : Nat} {tk : Tok} (F : Fun K "read_number" "read_number" sNumP f fd) (T : BT mg) (gM : mg "MOST_FIGURES" = some (.int 6 tk)) : FnOk P w K mg base CX0 (k + 1) f fd ["word"] spNumP := by
  refine F.ok scNumP (fun vs H Q E h => ?_) (fun cdv A outer s H vs Q E hr h => ?_)
  · obtain ⟨wd, rfl, _⟩ := h
    rfl
  · obtain ⟨wd, rfl, hl, kk⟩ := h
    refine ⟨_, (pss_cons (ps_if (PW.pt (pw_or (pt_not (PW.pt (pw_and (pt_val (pe_m0 PySem.F.slot_str_isascii PySem.F.type_str_isascii mt_isascii (pv 0))) (pw_and1 (pt_val (pe_m0 PySem.F.slot_str_isdigit PySem.F.type_str_isdigit mt_isdigit (pv 0))))))) (pw_or1 (pt_cmpR op_gt (pe_callB call_len_str (by rfl) T.len PySem.boot_len (pa_cons (pv 0) pa_nil)) (pe_glob (v := .int 6) (by rfl) gM ⟨_, rfl⟩) (nomark _)))))
        (pss_one (ps_ret pe_non))
        pss_nil)
      (pss_cons (ps_if (PW.pt (pw_and (pt_cmpR op_eq (pe_ix (r := rIxS) ix_str (pv 0) pe_int (fun _ _ => rfl)) pe_str (nomark _)) (pw_and1 (pt_cmpR op_ne (pv 0) pe_str (nomark _)))))
        (pss_one (ps_ret pe_non))
        pss_nil)
      (pss_one (ps_ret (pe_callTy call_int_str (by rfl) T.int (by decide +kernel) (pa_cons (pv 0) pa_nil)))))), ?_⟩
    have hz : wd.length ≤ sizeLine := Nat.le_trans hl (by decide)
    have hAD := ascii_digits wd
    have none_ : numOk wd = false → Q .non H := fun no => by
      have := kk
      unfold numIn at this
      rw [no, if_neg Bool.false_ne_true] at this
      exact this
    have bad : (decide (0 < wd.length) && digs wd) = false → Q .non H := fun z => none_ (by
      unfold numOk
      cases h1 : digs wd
      · rw [Bool.and_false]; rfl
      · rw [h1, Bool.and_true] at z
        have z := of_decide_eq_false z
        rw [decide_eq_false (fun q : 0 < wd.length ∧ wd.length < 7 => z q.1)]
        rfl)
    refine ⟨_, rfl, ⟨_, rfl⟩, wd, rfl, rfl, trivial, _, rfl, ?_⟩
    rw [← hAD] at bad
    cases ha : Txt.isascii wd with
    | false =>
      rw [ha] at bad
      exact iteF (iteT (bad rfl))
    | true =>
      rw [ha, Bool.true_and] at bad
      rw [ha, Bool.true_and] at hAD
      refine iteT ⟨_, rfl, ⟨_, rfl⟩, wd, rfl, rfl, trivial, _, rfl, ?_⟩
      cases hd : Txt.isdigit wd with
      | false => exact bad hd
      | true =>
        rw [hd] at hAD
        obtain ⟨g1, g2⟩ := Bool.and_eq_true_iff.mp hAD.symm
        have h1 := of_decide_eq_true g1
        refine ⟨_, rfl, wd, rfl, hz, _, _, rfl, rfl, _, rfl, ite2 (fun c => ?_) (fun c => ?_)⟩
        · have c := of_decide_eq_true c
          refine none_ ?_
          unfold numOk
          rw [decide_eq_false (fun q : 0 < wd.length ∧ wd.length < 7 => by omega)]
          rfl
        · have h2 : wd.length < 7 := by
            have c : ¬ ((6 : Int) < wd.length) := fun z => c (decide_eq_true z)
            omega
          have hg : (decide (0 < wd.length ∧ wd.length < 7) && digs wd) = true := by rw [decide_eq_true ⟨h1, h2⟩, g2]; rfl
          have hlen : wd.length = wd.cps.toList.length := TL.len_tl wd
          obtain ⟨cp, r, er⟩ : ∃ cp r, wd.cps.toList = cp :: r := by
            cases e : wd.cps.toList with
            | nil => rw [e] at hlen; rw [hlen] at h1; exact absurd h1 (by decide)
            | cons cp r => exact ⟨cp, r, rfl⟩
          have fin : numOk wd = true → ∃ a n, [V.str wd] = [V.str a] ∧ intText? a = some n ∧ a.length ≤ 640 ∧ Q (V.int n) H := fun ok => by
            refine ⟨wd, _, rfl, num_int h1 h2 g2, by omega, ?_⟩
            have := kk
            unfold numIn at this
            rw [if_pos ok] at this
            exact this
          have ez : (("0" : Str)) = ⟨#[48]⟩ := by decide +kernel
          refine ⟨_, rfl, wd, 0, cp, rfl, rfl, hz, by rw [er]; exact atI0 (Int.le_refl 0) rfl, rfl, _, rfl, ?_⟩
          by_cases c8 : cp = 48
          · subst c8
            refine ifT0 (by rw [ez]; decide) ⟨_, rfl, rfl, _, rfl, ?_⟩
            by_cases c0 : wd = "0"
            · refine ifF0 (by rw [c0]; decide +kernel) ⟨_, rfl, fin ?_⟩
              unfold numOk
              rw [hg, decide_eq_true c0]
              rfl
            · refine ifT0 ?_ (none_ ?_)
              · rw [decide_eq_false (fun z => c0 (V.str.inj z))]
                rfl
              · unfold numOk
                rw [hg, decide_eq_false c0, er]
                rfl
          · refine ifF0 ?_ ⟨_, rfl, fin ?_⟩
            · refine decide_eq_false (fun z => c8 ?_)
              rw [ez] at z
              have := congrArg (fun s : Str => s.cps.toList) (V.str.inj z)
              simpa using this
            · have c0 : ¬ wd = "0" := fun z => c8 (by
                rw [z, ez] at er
                injection er with q _
                exact q.symm)
              unfold numOk
              rw [hg, decide_eq_false c0, er]
              simp [c8]
theorem scWayP : FnScope ["word", "houses", "part"] ["word"] (defScope sWayP) := ⟨rfl, rfl, rfl, by decide +kernel, rfl, by decide +kernel, by decide +kernel⟩
theorem ok_wayP {f fN : Addr} {fd fdN : FuncData} {k : Nat} (F : Fun K "read_way" "read_way" sWayP f fd) (T : BT mg) (cread_number : Cal P w K mg base (k + 1) "read_number" fN fdN ["word"] spNumP) : FnOk P w K mg base CX0 (k + 2) f fd ["word"] spWayP := by
  refine F.ok scWayP (fun vs H Q E h => ?_) (fun cdv A outer s H vs Q E hr h => ?_)
  · obtain ⟨wd, rfl, _⟩ := h
    rfl
  · obtain ⟨wd, rfl, hl, kw0, kw1⟩ := h
    refine ⟨_, (pss_cons (ps_setLc (i := 1) (own := [("part", 2)]) (g := (gName 2)) (tt := tYes) rfl scWayP.nd rfl rfl (sw_true rfl rfl rfl (by decide +kernel)) (by exact (pi_list (pe_split (pv 0) pe_str))) (blkOk_by (own := [("part", 2)]) (N := ["word", "houses", "part"]) (sc := (defScope sWayP)) (by decide +kernel)) (fun _ _ _ _ _ => by exact (pg_name (i := 2) scWayP.nd rfl (Or.inl rfl))) (fun _ _ _ _ _ => by exact pts_nil) (fun _ _ _ _ _ => by exact (pe_call cread_number.ok hr (by rfl) cread_number.g cread_number.kp cread_number.b .nil pass0 (pa_cons (pv 2) pa_nil))))
      (pss_one (ps_ret (pe_ifExp (pt_cmpR op_in_seq pe_non (pv 1) (by rfl)) pe_non (pe_callTy call_tuple_of (by rfl) T.tuple (by decide +kernel) (pa_cons (pv 1) pa_nil)))))), ?_⟩
    have hps : ∀ p ∈ Txt.split wd ".", p.length ≤ wd.length := split_part rfl (by decide +kernel) wd
    have hsl : (Txt.split wd ".").length ≤ wd.length + 2 := PyProof.Rows.split_le wd "."
    refine ⟨_, rfl, ⟨_, rfl⟩, wd, _, rfl, rfl, rfl, Nat.le_trans (Nat.add_le_add_right hl 2) (by decide), fun l nl => ?_⟩
    have s1 := same_upd (o := .lst ((Txt.split wd ".").map V.str)) nl
    refine ⟨l, rfl, ⟨_, SqL.of upd_same⟩, fun D nD => ?_⟩
    refine lc_list (K := K) (a := l) (xs := (Txt.split wd ".").map V.str) (fun j Hj => Same (upd H l (.lst ((Txt.split wd ".").map V.str))) Hj ∧ Hj D = some (.lst (((((Txt.split wd ".")).take j).map numIn).map ov)))
      ⟨same_upd nD, upd_same⟩ (fun j Hj _ ⟨sj, _⟩ => SqL.of (sj _ _ upd_same)) ?_ ?_
    · rintro j y Hj hj ⟨sj, hD⟩
      rw [List.getElem?_map] at hj
      obtain ⟨p, ep, rfl⟩ := Option.map_eq_some_iff.mp hj
      have hp := hps p (List.mem_of_getElem? ep)
      refine ⟨rfl, ?_⟩
      refine ⟨_, rfl, p, rfl, by omega, _, hD, ?_, fun b o e => ?_, ?_⟩
      · rw [List.length_map, List.length_map, List.length_take]
        have : 9003 < sizeLine := by decide
        omega
      · rw [upd_ne (ne_of_none e nD)]
        exact sj _ _ e
      · rw [upd_same, List.take_add_one, ep, List.map_append, List.map_append]
        rfl
    · rintro Hj ⟨sj, hD⟩
      rw [List.length_map, List.take_length] at hD
      refine ⟨_, rfl, D, _, rfl, .inl (SqL.of hD), rfl, flat_ov _, _, rfl, ?_⟩
      cases hw : wayIn wd with
      | none =>
        refine ifT0 ((inV_non _).mpr (allIn_none.mp hw)) ?_
        exact kw0 hw _ (fun b o e => sj _ _ (s1 _ _ e))
      | some way =>
        have e : (Txt.split wd ".").map numIn = way.map some := allIn_some hw
        refine ifF0 ?_ ?_
        · refine Bool.eq_false_iff.mpr fun z => ?_
          have := allIn_none.mpr ((inV_non _).mp z)
          unfold wayIn at hw
          rw [this] at hw
          cases hw
        · refine ⟨_, rfl, D, _, rfl, .inl ⟨SqL.of hD, fun t nt => ?_⟩⟩
          have s3 := same_upd (o := .tup (((Txt.split wd ".").map numIn).map ov)) nt
          refine kw1 way hw t _ (fun b o e => s3 _ _ (sj _ _ (s1 _ _ e))) ?_
          rw [upd_same, e, List.map_map]
          rfl
theorem scThingP : FnScope ["form", "part"] ["form", "part"] (defScope sThingP) := ⟨rfl, rfl, rfl, by decide +kernel, rfl, by decide +kernel, by decide +kernel⟩
theorem ok_thingP {f fN fW : Addr} {fd fdN fdW : FuncData} {k : Nat} (F : Fun K "read_thing" "read_thing" sThingP f fd) (cread_number : Cal P w K mg base (k + 2) "read_number" fN fdN ["word"] spNumP) (cread_way : Cal P w K mg base (k + 2) "read_way" fW fdW ["word"] spWayP) :
    FnOk P w K mg base CX0 (k + 3) f fd ["form", "part"] spThingP := by
  refine F.ok scThingP (fun vs H Q E h => ?_) (fun cdv A outer s H vs Q E hr h => ?_)
  · obtain ⟨fm, wd, rfl, _⟩ := h
    rfl
  · obtain ⟨fm, wd, rfl, hl, kk⟩ := h
    refine ⟨_, (pss_one (ps_ret (pe_ifExp (pt_cmpR op_eq (pv 0) pe_str (nomark _)) (pe_call cread_way.ok hr (by rfl) cread_way.g cread_way.kp cread_way.b .nil pass0 (pa_cons (pv 1) pa_nil)) (pe_call cread_number.ok hr (by rfl) cread_number.g cread_number.kp cread_number.b .nil pass0 (pa_cons (pv 1) pa_nil))))), ?_⟩
    refine ⟨_, rfl, rfl, _, rfl, ite2 (fun c => ?_) (fun c => ?_)⟩
    · have c : fm = "way" := V.str.inj (of_decide_eq_true c)
      have es : sortOf fm = "w" := if_pos c
      rw [es] at kk
      refine ⟨_, rfl, wd, rfl, hl, fun hw H' sm => kk _ H' sm ?_, fun way hw p H' sm hp => kk _ H' sm ?_⟩
      · unfold thingIn
        rw [if_neg (by decide), hw]
        rfl
      · unfold thingIn
        rw [if_neg (by decide), hw]
        exact ⟨p, rfl, hp⟩
    · have c : fm ≠ "way" := fun z => c (decide_eq_true (by rw [z]))
      have es : sortOf fm = "n" := if_neg c
      rw [es] at kk
      refine ⟨_, rfl, wd, rfl, hl, kk _ H (fun b o e => e) ?_⟩
      unfold thingIn
      rw [if_pos rfl]
      cases numIn wd <;> rfl
theorem forms_of {f : Str} (h : f = "n" ∨ f = "nnw") : ∃ fs : List Str, (if f = "n" then [V.str "number"] else [V.str "number", V.str "number", V.str "way"]) = fs.map V.str ∧ fs.length = f.length ∧ fs.map sortOf = SwL.signs f ∧ fs.length ≤ 3 := by
  rcases h with rfl | rfl
  · exact ⟨["number"], by rw [if_pos rfl]; rfl, by decide +kernel, by decide +kernel, by decide⟩
  · exact ⟨["number", "number", "way"], by rw [if_neg (by decide)]; rfl, by decide +kernel, by decide +kernel, by decide⟩
theorem form_two {wd f : Str} (h : formOf wd = some f) : f = "n" ∨ f = "nnw" := by
  unfold formOf at h
  by_cases c1 : wd = "tell" ∨ wd = "lay"
  · rw [if_pos c1] at h
    exact .inr (Option.some.inj h).symm
  · rw [if_neg c1] at h
    by_cases c2 : wd = "void" ∨ wd = "back"
    · rw [if_pos c2] at h
      exact .inl (Option.some.inj h).symm
    · rw [if_neg c2] at h
      cases h
theorem scLineP : FnScope ["forms", "line", "word", "parts", "things", "form", "part"] ["forms", "line"] (defScope sLineP) := ⟨rfl, rfl, rfl, by decide +kernel, rfl, by decide +kernel, by decide +kernel⟩
def spLineP (K : PySem.W.Frag) : Sp := fun vs H Q _ => ∃ (d : Addr) (kvs : List (Key × V)) (x : Str), vs = [.ref d, .str x] ∧ H d = some (.dK kvs) ∧ FormsK K kvs ∧ x.length ≤ 9000 ∧ (letterIn x = none → ∀ H', Same H H' → Q .non H') ∧ ∀ l, letterIn x = some l → ∀ p H', Same H H' → GotAt H' p l → Q (.ref p) H'
theorem ok_lineP {f fT : Addr} {fd fdT : FuncData} {k : Nat} (F : Fun K "read_line" "read_line" sLineP f fd) (T : BT mg) (cread_thing : Cal P w K mg base (k + 3) "read_thing" fT fdT ["form", "part"] spThingP) :
    FnOk P w K mg base CX0 (k + 4) f fd ["forms", "line"] (spLineP K) := by
  refine F.ok scLineP (fun vs H Q E h => ?_) (fun cdv A outer s H vs Q E hr h => ?_)
  · obtain ⟨d, kvs, x, rfl, _⟩ := h
    rfl
  · obtain ⟨d, kvs, x, rfl, hd, hF, hl, kn, ks⟩ := h
    have hu := SwLS.un65 hr
    have hu : _ + 1 < cLine := Nat.lt_of_le_of_lt (Nat.add_le_add_left (by decide) _) hu
    refine ⟨_, (pss_cons (ps_asg (pe_split (pv 1) pe_str) (SwSt.pg_star rfl (pgs_cons (pg_name (i := 2) scLineP.nd rfl (Or.inl rfl)) (pgs_cons (pg_name (i := 3) scLineP.nd rfl (Or.inl rfl)) pgs_nil))))
      (pss_cons (ps_if (PW.pt (pw_or (pt_cmpR (r := rDN) (op_notIn_dk hu) (pv 2) (pv 0) (by rfl)) (pw_or1 (pt_cmpR op_ne (pe_callB call_len_seq (by rfl) T.len PySem.boot_len (pa_cons (pv 3) pa_nil)) (pe_callB call_len_seq (by rfl) T.len PySem.boot_len (pa_cons (pe_dget hu (pv 0) (pv 2) (fun _ _ => rfl)) pa_nil)) (nomark _)))))
        (pss_one (ps_ret pe_non))
        pss_nil)
      (pss_cons (ps_setLc (i := 4) (own := [("form", 5), ("part", 6)]) (g := (gTup K 2 (gCons (gName 5) (gCons (gName 6) gNil)))) (tt := tYes) rfl scLineP.nd rfl rfl (sw_true rfl rfl rfl (by decide +kernel)) (by exact (SwTL.pi_TL (by rfl) T.zip (pa_cons (pe_dget hu (pv 0) (pv 2) (fun _ _ => rfl)) (pa_cons (pv 3) pa_nil)))) (blkOk_by (own := [("form", 5), ("part", 6)]) (N := ["forms", "line", "word", "parts", "things", "form", "part"]) (sc := (defScope sLineP)) (by decide +kernel)) (fun _ _ _ _ _ => by exact (pg_tup rfl (pgs_cons (pg_name (i := 5) scLineP.nd rfl (Or.inl rfl)) (pgs_cons (pg_name (i := 6) scLineP.nd rfl (Or.inl rfl)) pgs_nil)))) (fun _ _ _ _ _ => by exact pts_nil) (fun _ _ _ _ _ => by exact (pe_call cread_thing.ok hr (by rfl) cread_thing.g cread_thing.kp cread_thing.b .nil pass0 (pa_cons (pv 5) (pa_cons (pv 6) pa_nil)))))
      (pss_one (ps_ret (pe_ifExp (pt_cmpR (r := rInD K) (op_inD (SwLS.un65 hr)) pe_non (pv 4) (by rfl)) pe_non (pe_tup (pa_cons (pv 2) (StX.pa_star (pv 4) pa_nil))))))))), ?_⟩
    have hps : ∀ p ∈ Txt.split x " ", p.length ≤ x.length := split_part rfl (by decide +kernel) x
    have hsl : (Txt.split x " ").length ≤ x.length + 2 := PyProof.Rows.split_le x " "
    have hne := split_ne (y := " ") rfl (by decide +kernel) x
    refine ⟨_, rfl, ⟨_, rfl⟩, x, _, rfl, rfl, rfl, Nat.le_trans (Nat.add_le_add_right hl 2) (by decide), fun l nl => ?_⟩
    have hL : letterIn x = (match Txt.split x " " with
      | [] => none
      | w :: r => match formOf w with
        | none => none
        | some f => (thingsIn r f).map fun ts => (w, ts)) := rfl
    generalize Txt.split x " " = ws at *
    cases ws with
    | nil => exact absurd rfl hne
    | cons wd r =>
    have s1 := same_upd (o := .lst ((wd :: r).map V.str)) nl
    have hrl : r.length ≤ 9002 := by
      have : (wd :: r).length = r.length + 1 := rfl
      omega
    refine ⟨l, .str wd, r.map V.str, rfl, .inr (SqL.of upd_same), by rw [List.length_map]; omega, fun p np => ⟨_, _, rfl, _, _, rfl, rfl, ?_⟩⟩
    have s2 := same_upd (o := .lst (r.map V.str)) np
    have s12 : Same H _ := fun b o e => s2 _ _ (s1 _ _ e)
    have hp : upd (upd H l (.lst ((wd :: r).map V.str))) p (.lst (r.map V.str)) p = some (.lst (r.map V.str)) := upd_same
    generalize upd (upd H l (.lst ((wd :: r).map V.str))) p (.lst (r.map V.str)) = H1 at *
    have hd1 : H1 d = some (.dK kvs) := s12 _ _ hd
    cases hf : formOf wd with
    | none =>
      have hLn : letterIn x = none := by rw [hL]; simp only [hf]
      refine ⟨_, rfl, _, rfl, wd, d, kvs, rfl, rfl, hd1, _, rfl, ?_⟩
      rw [hF.none_ wd hf]
      refine iteT ?_
      exact kn hLn _ s12
    | some fm =>
      obtain ⟨TA, hns, hTA⟩ := hF.some_ wd fm hf
      obtain ⟨fs, efs, lfs, sfs, lfs3⟩ := forms_of (form_two hf)
      rw [efs] at hTA
      have hLs : letterIn x = (thingsIn r fm).map fun ts => (wd, ts) := by rw [hL]; simp only [hf]
      refine ⟨_, rfl, _, rfl, wd, d, kvs, rfl, rfl, hd1, _, rfl, ?_⟩
      rw [hns]
      refine iteF ?_
      refine ⟨_, rfl, p, _, rfl, .inl (SqL.of hp), _, rfl, _, rfl, d, .ref TA, rfl, .inl ⟨kvs, .inr wd, .inl hd1, rfl, hns.symm⟩, TA, _, rfl, .inr (hTA _), rfl, _, rfl, ?_⟩
      rw [List.length_map, List.length_map]
      by_cases c : r.length = fm.length
      · refine ifF0 (by rw [lfs, c, decide_eq_true rfl]; rfl) ?_
        refine ⟨_, rfl, _, rfl, d, .ref TA, rfl, .inl ⟨kvs, .inr wd, .inl hd1, rfl, hns.symm⟩, _, rfl, TA, p, _, _, rfl, hTA _, SqL.of hp, fun D nD => ?_⟩
        refine SwTL.lc_TL (K := K) (xs := fs.map V.str) (ys := r.map V.str) (by rw [List.length_map, List.length_map]; omega) (fun j Hj => Same H1 Hj ∧ ∃ us, Hj D = some (.lst us) ∧ us.length = j ∧ Paired (OThingV Hj) us ((List.zipWith thingIn r (SwL.signs fm)).take j)) ⟨same_upd nD, [], upd_same, rfl, .nil⟩ (fun j Hj ⟨sj, _⟩ => ⟨hTA _, SqL.of (sj _ _ hp)⟩) ?_ ?_
        · rintro j vx vy N Hj hx hy ⟨sj, us, hD, hul, hpp⟩ hN
          rw [List.getElem?_map] at hx hy
          obtain ⟨fo, ef, rfl⟩ := Option.map_eq_some_iff.mp hx
          obtain ⟨pt, ep, rfl⟩ := Option.map_eq_some_iff.mp hy
          have es : (SwL.signs fm)[j]? = some (sortOf fo) := by rw [← sfs, List.getElem?_map, ef]; rfl
          have ez : (List.zipWith thingIn r (SwL.signs fm))[j]? = some (thingIn pt (sortOf fo)) := by rw [List.getElem?_zipWith, ep, es]
          have hj3 : j < 3 := by
            have := (List.getElem?_eq_some_iff.mp ef).1
            omega
          have sN := same_upd (o := .tup [.str fo, .str pt]) hN
          refine ⟨N, _, rfl, SqT.of upd_same, rfl, _, _, rfl, _, _, rfl, rfl, ?_⟩
          refine ⟨rfl, ?_⟩
          refine ⟨_, rfl, _, rfl, fo, pt, rfl, Nat.le_trans (hps pt (List.mem_cons_of_mem _ (List.mem_of_getElem? ep))) hl, fun v H' sm hv => ?_⟩
          have hD' : H' D = some (.lst us) := sm _ _ (sN _ _ hD)
          refine ⟨us, hD', small1000 (by omega), fun b o e => ?_, us ++ [v], upd_same, by rw [List.length_append, hul]; rfl, ?_⟩
          · rw [upd_ne (ne_of_none e nD)]
            exact sm _ _ (sN _ _ (sj _ _ e))
          · rw [List.take_add_one, ez]
            exact paired_append (paired_mono (fun a b q => (q.same (fun b o e => sm _ _ (sN _ _ e))).put hD') hpp) (.cons (hv.put hD') .nil)
        · rintro Hj ⟨sj, us, hD, hul, hpp⟩
          have et : (List.zipWith thingIn r (SwL.signs fm)).take (fs.map V.str).length = List.zipWith thingIn r (SwL.signs fm) := by
            refine List.take_of_length_le ?_
            rw [List.length_zipWith, List.length_map]
            omega
          rw [et] at hpp
          have eT : thingsIn r fm = allIn (List.zipWith thingIn r (SwL.signs fm)) := by
            unfold thingsIn
            rw [if_pos c]
          generalize List.zipWith thingIn r (SwL.signs fm) = os at *
          have sJ : Same H Hj := fun b o e => sj _ _ (s12 _ _ e)
          refine ⟨_, rfl, .none, os.map otD, .non, .lst (SqL.of hD) (dp_ots hpp), (by decide), shaped_ots os, _, rfl, ?_⟩
          cases hT : allIn os with
          | none =>
            have hLn : letterIn x = none := by rw [hLs, eT, hT]; rfl
            refine ifT0 ((any_none os).mpr (allIn_none.mp hT)) ?_
            exact kn hLn _ sJ
          | some ts =>
            have hLt : letterIn x = some (wd, ts) := by rw [hLs, eT, hT]; rfl
            refine ifF0 ?_ ?_
            · refine Bool.eq_false_iff.mpr fun z => ?_
              rw [allIn_none.mpr ((any_none os).mp z)] at hT
              cases hT
            · have hul3 : us.length ≤ 3 := by rw [hul, List.length_map]; exact lfs3
              rw [allIn_some hT] at hpp
              refine ⟨_, rfl, _, rfl, D, us, rfl, .inr (SqL.of hD), ?_, fun z nz => ?_⟩
              · show (us ++ []).length + 1 ≤ sizeLine
                rw [List.append_nil]
                exact Nat.le_of_lt (small1000 (by omega))
              · have s7 := same_upd (o := .tup (.str wd :: (us ++ []))) nz
                refine ks _ hLt z _ (fun b o e => s7 _ _ (sJ _ _ e)) ⟨us, ?_, paired_mono (fun a b q => q.same s7) (unsome hpp)⟩
                rw [upd_same, List.append_nil]
      · have hLn : letterIn x = none := by
          rw [hLs]
          unfold thingsIn
          rw [if_neg c]
          rfl
        refine ifT0 (by rw [lfs, decide_eq_false (fun z => c (by have := V.int.inj z; omega))]; rfl) ?_
        exact kn hLn _ s12
theorem scReadP : FnScope ["text", "letter"] ["text"] (defScope sReadP) := ⟨rfl, rfl, rfl, by decide +kernel, rfl, by decide +kernel, by decide +kernel⟩
theorem ok_readP {f FD fL  : Addr} {fd fdL  : FuncData} {k : Nat} {kvs : List (Key × V)} (F : Fun K "read_letter" "read_letter" sReadP f fd) (T : BT mg) (tD : mg "dict" = none) (gF : mg "FORMS" = some (.ref FD)) (hK : KdOf K w FD kvs) (hF : FormsK K kvs) (cread_line : Cal P w K mg base (k + 4) "read_line" fL fdL ["forms", "line"] (spLineP K)) :
    FnOk P w K mg base CX0 (k + 5) f fd ["text"] spReadOk := by
  refine F.ok scReadP (fun vs H Q E h => ?_) (fun cdv A outer s H vs Q E hr h => ?_)
  · obtain ⟨x, rfl, _⟩ := h
    rfl
  · obtain ⟨x, rfl, hl, kn, ks⟩ := h
    refine ⟨_, (pss_cons (ps_set (i := 1) scReadP.nd rfl (.inl rfl) (pe_call cread_line.ok hr (by rfl) cread_line.g cread_line.kp cread_line.b .nil pass0 (pa_cons (pe_callTy (call_dict_kd hK) (by rfl) tD (by decide +kernel) (pa_cons (pe_glob (v := .ref FD) (by rfl) gF rfl) pa_nil)) (pa_cons (pv 0) pa_nil))))
      (pss_cons (ps_if (pt_cmpR op_isN (pv 1) pe_non (nomark _))
        (pss_one ps_never)
        pss_nil)
      (pss_one (ps_ret (pv 1))))), ?_⟩
    refine ⟨rfl, fun d nd => ?_⟩
    have s1 := same_upd (o := .dK kvs) nd
    refine ⟨_, rfl, d, kvs, x, rfl, upd_same, hF, hl, fun hLn H1 s2 => ?_, fun l hLs p H1 s2 hp => ?_⟩
    · have s12 : Same H H1 := fun b o e => s2 _ _ (s1 _ _ e)
      refine ⟨_, rfl, rfl, _, rfl, ifT0 rfl ?_⟩
      exact absurd hLn kn
    · refine ⟨_, rfl, rfl, _, rfl, ifF0 rfl ?_⟩
      exact ⟨_, rfl, ks l hLs p H1 (fun b o e => s2 _ _ (s1 _ _ e)) hp⟩
end
end K


/-! a good letter's text is read back to it -/
namespace SwL
open PySem PySem.Spec PyProof.Rows L2
theorem numL_head : ∀ (n : Nat), 0 < n → ∃ c r, TL.numL n = c :: r ∧ c ≠ 48 := by
  intro n
  induction n using Nat.strongRecOn with
  | _ n ih =>
    intro h
    by_cases c : n < 10
    · rw [TL.numL_lt c]
      exact ⟨_, _, rfl, by omega⟩
    · obtain ⟨a, r, e, ha⟩ := ih (n / 10) (by omega) (by omega)
      rw [TL.numL_step (by omega), e]
      exact ⟨a, _, rfl, ha⟩
theorem nt_cps (n : Nat) : (nt n).cps.toList = TL.numL n := TL.tl_num n
theorem nt_pos (n : Nat) : 0 < (nt n).length := by
  rw [TL.len_tl, show TL.tl (nt n) = TL.numL n from TL.tl_num n]
  by_cases h : 0 < n
  · obtain ⟨c, r, e, _⟩ := numL_head n h
    rw [e]
    exact Nat.succ_pos _
  · have : n = 0 := by omega
    subst this
    rw [TL.numL_lt (by decide)]
    exact Nat.succ_pos _
theorem nt_digs (n : Nat) : digs (nt n) = true := by
  unfold digs
  refine List.all_eq_true.mpr fun c hc => ?_
  have := nt_dig (n := n) (c := c) hc
  rw [decide_eq_true this.1, decide_eq_true this.2]
  rfl
theorem num_nt {n : Nat} (h : n < 1000000) : numIn (nt n) = some n := by
  have l1 := nt_pos n
  have l2 : (nt n).length < 7 := by have := nt_len h; omega
  have ok : numOk (nt n) = true := by
    unfold numOk
    rw [decide_eq_true ⟨l1, l2⟩, nt_digs, Bool.true_and, Bool.true_and]
    by_cases c : n = 0
    · subst c
      have : nt 0 = "0" := by decide +kernel
      rw [decide_eq_true this]
      rfl
    · obtain ⟨a, r, e, ha⟩ := numL_head n (by omega)
      rw [nt_cps, e]
      simp [ha]
  unfold numIn
  rw [if_pos ok]
  have h1 := num_int l1 l2 (nt_digs n)
  rw [int_nt h] at h1
  have := Option.some.inj h1
  exact congrArg some (by omega)
theorem way_wt {w : List Nat} (h : w ≠ []) (hw : ∀ x ∈ w, x < 1000000) : wayIn (wt w) = some w := by
  unfold wayIn
  rw [split_wt h, List.map_map]
  clear h
  induction w with
  | nil => rfl
  | cons n r ih =>
    have h1 : allIn (r.map (numIn ∘ nt)) = some r := ih fun x hx => hw x (List.mem_cons_of_mem _ hx)
    have h2 : (numIn ∘ nt) n = some n := num_nt (hw n (List.mem_cons_self ..))
    rw [List.map_cons, h2]
    simp only [allIn, h1]
def Letter.got : Letter → Str × List Thing
  | .two w n => (w, [.num n])
  | .four w a b way => (w, [.num a, .num b, .way way])
theorem letter_in {l : Letter} (g : l.Good) : letterIn l.text = some l.got := by
  unfold letterIn
  rw [split_text g]
  cases l with
  | two w n =>
    have hf : formOf w = some ("n" : Str) := by rcases g.1 with rfl | rfl <;> decide +kernel
    simp only [Letter.words, hf]
    have : thingsIn [nt n] "n" = some [.num n] := by
      unfold thingsIn
      rw [if_pos (show [nt n].length = ("n" : Str).length from (by decide +kernel : 1 = ("n" : Str).length))]
      have es : SwL.signs "n" = [("n" : Str)] := by decide +kernel
      rw [es]
      show allIn [thingIn (nt n) "n"] = _
      unfold thingIn
      rw [if_pos rfl, num_nt g.2]
      rfl
    rw [this]
    rfl
  | four w a b way =>
    obtain ⟨gw, ga, gb, gh, gn, _⟩ := g
    have hf : formOf w = some ("nnw" : Str) := by rcases gw with rfl | rfl <;> decide +kernel
    simp only [Letter.words, hf]
    have : thingsIn [nt a, nt b, wt way] "nnw" = some [.num a, .num b, .way way] := by
      unfold thingsIn
      rw [if_pos (show [nt a, nt b, wt way].length = ("nnw" : Str).length from (by decide +kernel : 3 = ("nnw" : Str).length))]
      have es : SwL.signs "nnw" = [("n" : Str), ("n" : Str), ("w" : Str)] := by decide +kernel
      rw [es]
      show allIn [thingIn (nt a) "n", thingIn (nt b) "n", thingIn (wt way) "w"] = _
      unfold thingIn
      rw [if_pos rfl, if_pos rfl, if_neg (by decide), num_nt ga, num_nt gb, way_wt gn gh]
      rfl
    rw [this]
    rfl
theorem got_letter {H : Hp} {p : Addr} {l : Letter} (h : GotAt H p l.got) : LetterAt H p l := by
  obtain ⟨vs, h1, h2⟩ := h
  cases l with
  | two w n =>
    cases h2 with
    | cons a r =>
      cases r
      have a : _ = V.int (n : Nat) := a
      subst a
      exact h1
  | four w a b way =>
    cases h2 with
    | cons x r =>
      cases r with
      | cons y r =>
        cases r with
        | cons z r =>
          cases r
          have x : _ = V.int (a : Nat) := x
          have y : _ = V.int (b : Nat) := y
          obtain ⟨t, rfl, ht⟩ := z
          subst x y
          exact ⟨t, h1, ht⟩
end SwL

namespace K
open PySem PySem.Spec PyProof.Rows L2 SwL
theorem ok_readGood {P : Program} {w : World} {K : PySem.W.Frag} {mg : Str → Option Value} {base : Heap} {k : Nat} {f : Addr} {fd : FuncData} (F : FnOk P w K mg base CX0 k f fd ["text"] spReadOk) : FnOk P w K mg base CX0 k f fd ["text"] spReadGood :=
  F.imp fun vs H Q E ⟨l, ev, g, kk⟩ => ⟨l.text, ev, by have := text_len g; omega, (by rw [letter_in g]; simp), fun l' h' p H' sm hg => by
    rw [letter_in g] at h'
    cases h'
    exact kk p H' sm (got_letter hg)⟩
theorem all_mk {l : PySem.W.OpenLaw} {w : World} {K : PySem.W.Frag} {h : Heap} {mg : Str → Option Value} {fa f0 f1 f2 f3 f4 f5 f6 f7 f8 f9 f10 f11 f12 f13 f14 : Addr} (X : K.In h) (G : h.Ns mainGlobals mg) (hfa : mg "law" = some (.ref fa))
    {od0 an0 od1 an1 od2 an2 od3 an3 od4 an4 od5 an5 od6 an6 od7 an7 od8 an8 od9 an9 od10 an10 od11 an11 od12 an12 od13 an13 od14 an14 : Option Addr} {sl0 sl1 sl2 sl3 sl4 sl5 sl6 sl7 sl8 sl9 sl10 sl11 sl12 sl13 sl14 : Array (Option Value)} {oc0 kV0 dc0 pm0 cd0 ct0 oc1 kV1 dc1 pm1 cd1 ct1 oc2 kV2 dc2 pm2 cd2 ct2 oc3 kV3 dc3 pm3 cd3 ct3 oc4 kV4 dc4 pm4 cd4 ct4 oc5 kV5 dc5 pm5 cd5 ct5 oc6 kV6 dc6 pm6 cd6 ct6 oc7 kV7 dc7 pm7 cd7 ct7 oc8 kV8 dc8 pm8 cd8 ct8 oc9 kV9 dc9 pm9 cd9 ct9 oc10 kV10 dc10 pm10 cd10 ct10 oc11 kV11 dc11 pm11 cd11 ct11 oc12 kV12 dc12 pm12 cd12 ct12 oc13 kV13 dc13 pm13 cd13 ct13 oc14 kV14 dc14 pm14 cd14 ct14 : Value} {FD TA1 TB1 TC1 TD1 : Addr} {hs1 hs2 hs3 hs4 : Int} {tf1 tf2 tf3 tf4 ta1 ta2 ta3 tb1 tc1 td1 td2 td3 tkMF : Tok} {nF ma mb mc md : Nat} {oa ob oc_ od_ : Option Addr} {sa_ sb_ sc_ sd_ : Array (Option Value)}
    (a0 : PySem.W.nsIn K mainGlobals "_law_box" = some (some (.ref f0))) (l0 : K.lookup f0 = some ⟨oc0, od0, .func (PySem.W.fnOf "_law_box" "_law_box" (defArgs sBox) (defBody sBox) (defScope sBox) .none kV0 dc0 pm0 an0 cd0 ct0), sl0⟩) (c0 : PySem.W.codeIn K cd0 "_law_box" = true) (k0 : PySem.W.keepIn K (.ref f0) = true)
    (a1 : PySem.W.nsIn K mainGlobals "_law_take" = some (some (.ref f1))) (l1 : K.lookup f1 = some ⟨oc1, od1, .func (PySem.W.fnOf "_law_take" "_law_take" (defArgs sTake) (defBody sTake) (defScope sTake) .none kV1 dc1 pm1 an1 cd1 ct1), sl1⟩) (c1 : PySem.W.codeIn K cd1 "_law_take" = true) (k1 : PySem.W.keepIn K (.ref f1) = true)
    (a2 : PySem.W.nsIn K mainGlobals "_law_same" = some (some (.ref f2))) (l2 : K.lookup f2 = some ⟨oc2, od2, .func (PySem.W.fnOf "_law_same" "_law_same" (defArgs sSame) (defBody sSame) (defScope sSame) .none kV2 dc2 pm2 an2 cd2 ct2), sl2⟩) (c2 : PySem.W.codeIn K cd2 "_law_same" = true) (k2 : PySem.W.keepIn K (.ref f2) = true)
    (a3 : PySem.W.nsIn K mainGlobals "_law_figure" = some (some (.ref f3))) (l3 : K.lookup f3 = some ⟨oc3, od3, .func (PySem.W.fnOf "_law_figure" "_law_figure" (defArgs sFigure) (defBody sFigure) (defScope sFigure) .none kV3 dc3 pm3 an3 cd3 ct3), sl3⟩) (c3 : PySem.W.codeIn K cd3 "_law_figure" = true) (k3 : PySem.W.keepIn K (.ref f3) = true)
    (a4 : PySem.W.nsIn K mainGlobals "_law_letter" = some (some (.ref f4))) (l4 : K.lookup f4 = some ⟨oc4, od4, .func (PySem.W.fnOf "_law_letter" "_law_letter" (defArgs sLetter) (defBody sLetter) (defScope sLetter) .none kV4 dc4 pm4 an4 cd4 ct4), sl4⟩) (c4 : PySem.W.codeIn K cd4 "_law_letter" = true) (k4 : PySem.W.keepIn K (.ref f4) = true)
    (a5 : PySem.W.nsIn K mainGlobals "_law_letter_text" = some (some (.ref f5))) (l5 : K.lookup f5 = some ⟨oc5, od5, .func (PySem.W.fnOf "_law_letter_text" "_law_letter_text" (defArgs sLetText) (defBody sLetText) (defScope sLetText) .none kV5 dc5 pm5 an5 cd5 ct5), sl5⟩) (c5 : PySem.W.codeIn K cd5 "_law_letter_text" = true) (k5 : PySem.W.keepIn K (.ref f5) = true)
    (a6 : PySem.W.nsIn K mainGlobals "thing_text" = some (some (.ref f6))) (l6 : K.lookup f6 = some ⟨oc6, od6, .func (PySem.W.fnOf "thing_text" "thing_text" (defArgs sThingT) (defBody sThingT) (defScope sThingT) .none kV6 dc6 pm6 an6 cd6 ct6), sl6⟩) (c6 : PySem.W.codeIn K cd6 "thing_text" = true) (k6 : PySem.W.keepIn K (.ref f6) = true)
    (a7 : PySem.W.nsIn K mainGlobals "line_text" = some (some (.ref f7))) (l7 : K.lookup f7 = some ⟨oc7, od7, .func (PySem.W.fnOf "line_text" "line_text" (defArgs sLineT) (defBody sLineT) (defScope sLineT) .none kV7 dc7 pm7 an7 cd7 ct7), sl7⟩) (c7 : PySem.W.codeIn K cd7 "line_text" = true) (k7 : PySem.W.keepIn K (.ref f7) = true)
    (a8 : PySem.W.nsIn K mainGlobals "letter_text" = some (some (.ref f8))) (l8 : K.lookup f8 = some ⟨oc8, od8, .func (PySem.W.fnOf "letter_text" "letter_text" (defArgs sTextP) (defBody sTextP) (defScope sTextP) .none kV8 dc8 pm8 an8 cd8 ct8), sl8⟩) (c8 : PySem.W.codeIn K cd8 "letter_text" = true) (k8 : PySem.W.keepIn K (.ref f8) = true)
    (a9 : PySem.W.nsIn K mainGlobals "read_number" = some (some (.ref f9))) (l9 : K.lookup f9 = some ⟨oc9, od9, .func (PySem.W.fnOf "read_number" "read_number" (defArgs sNumP) (defBody sNumP) (defScope sNumP) .none kV9 dc9 pm9 an9 cd9 ct9), sl9⟩) (c9 : PySem.W.codeIn K cd9 "read_number" = true) (k9 : PySem.W.keepIn K (.ref f9) = true)
    (a10 : PySem.W.nsIn K mainGlobals "read_way" = some (some (.ref f10))) (l10 : K.lookup f10 = some ⟨oc10, od10, .func (PySem.W.fnOf "read_way" "read_way" (defArgs sWayP) (defBody sWayP) (defScope sWayP) .none kV10 dc10 pm10 an10 cd10 ct10), sl10⟩) (c10 : PySem.W.codeIn K cd10 "read_way" = true) (k10 : PySem.W.keepIn K (.ref f10) = true)
    (a11 : PySem.W.nsIn K mainGlobals "read_thing" = some (some (.ref f11))) (l11 : K.lookup f11 = some ⟨oc11, od11, .func (PySem.W.fnOf "read_thing" "read_thing" (defArgs sThingP) (defBody sThingP) (defScope sThingP) .none kV11 dc11 pm11 an11 cd11 ct11), sl11⟩) (c11 : PySem.W.codeIn K cd11 "read_thing" = true) (k11 : PySem.W.keepIn K (.ref f11) = true)
    (a12 : PySem.W.nsIn K mainGlobals "read_line" = some (some (.ref f12))) (l12 : K.lookup f12 = some ⟨oc12, od12, .func (PySem.W.fnOf "read_line" "read_line" (defArgs sLineP) (defBody sLineP) (defScope sLineP) .none kV12 dc12 pm12 an12 cd12 ct12), sl12⟩) (c12 : PySem.W.codeIn K cd12 "read_line" = true) (k12 : PySem.W.keepIn K (.ref f12) = true)
    (a13 : PySem.W.nsIn K mainGlobals "read_letter" = some (some (.ref f13))) (l13 : K.lookup f13 = some ⟨oc13, od13, .func (PySem.W.fnOf "read_letter" "read_letter" (defArgs sReadP) (defBody sReadP) (defScope sReadP) .none kV13 dc13 pm13 an13 cd13 ct13), sl13⟩) (c13 : PySem.W.codeIn K cd13 "read_letter" = true) (k13 : PySem.W.keepIn K (.ref f13) = true)
    (a14 : PySem.W.nsIn K mainGlobals "law" = some (some (.ref f14))) (l14 : K.lookup f14 = some ⟨oc14, od14, .func (PySem.W.fnOf "law" "law" (defArgs sLaw) (defBody sLaw) (defScope sLaw) .none kV14 dc14 pm14 an14 cd14 ct14), sl14⟩) (c14 : PySem.W.codeIn K cd14 "law" = true) (k14 : PySem.W.keepIn K (.ref f14) = true)
    (aF : PySem.W.nsIn K mainGlobals "FORMS" = some (some (.ref FD)))
    (lF : K.lookup FD = some ⟨.type "dict", none, .dict #[⟨hs1, .str "tell" tf1, .ref TA1⟩, ⟨hs2, .str "void" tf2, .ref TB1⟩, ⟨hs3, .str "back" tf3, .ref TC1⟩, ⟨hs4, .str "lay" tf4, .ref TD1⟩] nF, #[]⟩)
    (eh1 : hs1 = PyData.keyHash w.params "tell")
    (eh2 : hs2 = PyData.keyHash w.params "void")
    (eh3 : hs3 = PyData.keyHash w.params "back")
    (eh4 : hs4 = PyData.keyHash w.params "lay")
    (lowF : (FD == sysModules) = false)
    (lTA : K.lookup TA1 = some ⟨.type "tuple", oa, .seq #[.str "number" ta1, .str "number" ta2, .str "way" ta3] ma, sa_⟩)
    (lTB : K.lookup TB1 = some ⟨.type "tuple", ob, .seq #[.str "number" tb1] mb, sb_⟩)
    (lTC : K.lookup TC1 = some ⟨.type "tuple", oc_, .seq #[.str "number" tc1] mc, sc_⟩)
    (lTD : K.lookup TD1 = some ⟨.type "tuple", od_, .seq #[.str "number" td1, .str "number" td2, .str "way" td3] md, sd_⟩)
    (zDict : PySem.W.nsIn K mainGlobals "dict" = some none)
    (coMF : PySem.W.nsIn K mainGlobals "MOST_FIGURES" = some (some (.int 6 tkMF)))
    (zlen : PySem.W.nsIn K mainGlobals "len" = some none)
    (zrange : PySem.W.nsIn K mainGlobals "range" = some none)
    (zlist : PySem.W.nsIn K mainGlobals "list" = some none)
    (ztuple : PySem.W.nsIn K mainGlobals "tuple" = some none)
    (zisinstance : PySem.W.nsIn K mainGlobals "isinstance" = some none)
    (zbool : PySem.W.nsIn K mainGlobals "bool" = some none)
    (zint : PySem.W.nsIn K mainGlobals "int" = some none)
    (zstr : PySem.W.nsIn K mainGlobals "str" = some none)
    (zall : PySem.W.nsIn K mainGlobals "all" = some none)
    (zzip : PySem.W.nsIn K mainGlobals "zip" = some none)
    (zsum : PySem.W.nsIn K mainGlobals "sum" = some none)
    (zmin : PySem.W.nsIn K mainGlobals "min" = some none)
    (zsorted : PySem.W.nsIn K mainGlobals "sorted" = some none)
    (zabs : PySem.W.nsIn K mainGlobals "abs" = some none)
    (zenumerate : PySem.W.nsIn K mainGlobals "enumerate" = some none)
    : ∃ fd : FuncData, (∀ (s : Shared) (v : Value), BindsTo s fd ⟨[v], []⟩ [("_law_script", v)]) ∧ ∀ base : Heap, K.In base → base.Ns mainGlobals mg → FnOk l.prog w K mg base CX0 12 fa fd ["_law_script"] (spLaw K) := by
  have e := hfa.symm.trans (PySem.W.mg_of X G a14)
  cases e
  have T : BT mg := ⟨PySem.W.mg_none_of X G zlen, PySem.W.mg_none_of X G zrange, PySem.W.mg_none_of X G zlist, PySem.W.mg_none_of X G ztuple, PySem.W.mg_none_of X G zisinstance, PySem.W.mg_none_of X G zbool, PySem.W.mg_none_of X G zint, PySem.W.mg_none_of X G zstr, PySem.W.mg_none_of X G zall, PySem.W.mg_none_of X G zzip, PySem.W.mg_none_of X G zsum, PySem.W.mg_none_of X G zmin, PySem.W.mg_none_of X G zsorted, PySem.W.mg_none_of X G zabs, PySem.W.mg_none_of X G zenumerate⟩
  have F_law_box := fun_mk (st := sBox) l0 c0 k0
  have g_law_box := PySem.W.mg_of X G a0
  have b_law_box := F_law_box.binds (ps := ["_law_script"]) fun _ _ _ _ _ _ us hl => match us, hl with | [_], _ => rfl
  have F_law_take := fun_mk (st := sTake) l1 c1 k1
  have g_law_take := PySem.W.mg_of X G a1
  have b_law_take := F_law_take.binds (ps := ["_law_box_here", "_law_sides"]) fun _ _ _ _ _ _ us hl => match us, hl with | [_, _], _ => rfl
  have F_law_same := fun_mk (st := sSame) l2 c2 k2
  have g_law_same := PySem.W.mg_of X G a2
  have b_law_same := F_law_same.binds (ps := ["_law_found", "_law_due"]) fun _ _ _ _ _ _ us hl => match us, hl with | [_, _], _ => rfl
  have F_law_figure := fun_mk (st := sFigure) l3 c3 k3
  have g_law_figure := PySem.W.mg_of X G a3
  have b_law_figure := F_law_figure.binds (ps := ["_law_box_here"]) fun _ _ _ _ _ _ us hl => match us, hl with | [_], _ => rfl
  have F_law_letter := fun_mk (st := sLetter) l4 c4 k4
  have g_law_letter := PySem.W.mg_of X G a4
  have b_law_letter := F_law_letter.binds (ps := ["_law_box_here"]) fun _ _ _ _ _ _ us hl => match us, hl with | [_], _ => rfl
  have F_law_letter_text := fun_mk (st := sLetText) l5 c5 k5
  have g_law_letter_text := PySem.W.mg_of X G a5
  have b_law_letter_text := F_law_letter_text.binds (ps := ["_law_letter_here"]) fun _ _ _ _ _ _ us hl => match us, hl with | [_], _ => rfl
  have Fthing_text := fun_mk (st := sThingT) l6 c6 k6
  have gthing_text := PySem.W.mg_of X G a6
  have bthing_text := Fthing_text.binds (ps := ["thing"]) fun _ _ _ _ _ _ us hl => match us, hl with | [_], _ => rfl
  have Fline_text := fun_mk (st := sLineT) l7 c7 k7
  have gline_text := PySem.W.mg_of X G a7
  have bline_text := Fline_text.binds (ps := ["parts"]) fun _ _ _ _ _ _ us hl => match us, hl with | [_], _ => rfl
  have Fletter_text := fun_mk (st := sTextP) l8 c8 k8
  have gletter_text := PySem.W.mg_of X G a8
  have bletter_text := Fletter_text.binds (ps := ["letter"]) fun _ _ _ _ _ _ us hl => match us, hl with | [_], _ => rfl
  have Fread_number := fun_mk (st := sNumP) l9 c9 k9
  have gread_number := PySem.W.mg_of X G a9
  have bread_number := Fread_number.binds (ps := ["word"]) fun _ _ _ _ _ _ us hl => match us, hl with | [_], _ => rfl
  have Fread_way := fun_mk (st := sWayP) l10 c10 k10
  have gread_way := PySem.W.mg_of X G a10
  have bread_way := Fread_way.binds (ps := ["word"]) fun _ _ _ _ _ _ us hl => match us, hl with | [_], _ => rfl
  have Fread_thing := fun_mk (st := sThingP) l11 c11 k11
  have gread_thing := PySem.W.mg_of X G a11
  have bread_thing := Fread_thing.binds (ps := ["form", "part"]) fun _ _ _ _ _ _ us hl => match us, hl with | [_, _], _ => rfl
  have Fread_line := fun_mk (st := sLineP) l12 c12 k12
  have gread_line := PySem.W.mg_of X G a12
  have bread_line := Fread_line.binds (ps := ["forms", "line"]) fun _ _ _ _ _ _ us hl => match us, hl with | [_, _], _ => rfl
  have Fread_letter := fun_mk (st := sReadP) l13 c13 k13
  have gread_letter := PySem.W.mg_of X G a13
  have bread_letter := Fread_letter.binds (ps := ["text"]) fun _ _ _ _ _ _ us hl => match us, hl with | [_], _ => rfl
  have Flaw := fun_mk (st := sLaw) l14 c14 k14
  have glaw := PySem.W.mg_of X G a14
  have blaw := Flaw.binds (ps := ["_law_script"]) fun _ _ _ _ _ _ us hl => match us, hl with | [_], _ => rfl
  refine ⟨PySem.W.fnOf "law" "law" (defArgs sLaw) (defBody sLaw) (defScope sLaw) .none kV14 dc14 pm14 an14 cd14 ct14, fun s v => .of_eq rfl, fun base _ _ => ?_⟩
  have gF := PySem.W.mg_of X G aF
  have gMF := PySem.W.mg_of X G coMF
  have gDict := PySem.W.mg_none_of X G zDict
  obtain ⟨hKd, hForms⟩ := SwF.formsK_mk lF eh1 eh2 eh3 eh4 lowF lTA lTB lTC lTD
  exact ok_law Flaw T ⟨ok_box (k := 10) F_law_box T.list, g_law_box, k0, b_law_box⟩ ⟨ok_same F_law_same ⟨T.isinstance, T.list, T.tuple, T.bool, T.int, T.str, T.len, T.all, T.zip⟩ g_law_same b_law_same 11, g_law_same, k2, b_law_same⟩ ⟨ok_letter (k := 8) F_law_letter T ⟨ok_take (k := 9) F_law_take T.len, g_law_take, k1, b_law_take⟩ ⟨ok_figure (k := 8) F_law_figure ⟨ok_take (k := 8) F_law_take T.len, g_law_take, k1, b_law_take⟩, g_law_figure, k3, b_law_figure⟩, g_law_letter, k4, b_law_letter⟩ ⟨ok_letText (k := 10) F_law_letter_text T, g_law_letter_text, k5, b_law_letter_text⟩ ⟨ok_textP (k := 8) Fletter_text ⟨ok_lineT (k := 8) Fline_text T ⟨ok_thingT (k := 8) Fthing_text T, gthing_text, k6, bthing_text⟩, gline_text, k7, bline_text⟩, gletter_text, k8, bletter_text⟩ ⟨ok_readGood (ok_readP (k := 6) Fread_letter T gDict gF hKd hForms ⟨ok_lineP (k := 6) Fread_line T ⟨ok_thingP (k := 6) Fread_thing ⟨ok_numP (k := 7) Fread_number T gMF, gread_number, k9, bread_number⟩ ⟨ok_wayP (k := 6) Fread_way T ⟨ok_numP (k := 6) Fread_number T gMF, gread_number, k9, bread_number⟩, gread_way, k10, bread_way⟩, gread_thing, k11, bread_thing⟩, gread_line, k12, bread_line⟩), gread_letter, k13, bread_letter⟩
theorem walk {l : PySem.W.OpenLaw} {q : Program} {loose : List Str} {XP : (Str → Option Value) → Heap → Prop} {YP : World → Heap → Prop} {d : DefRec} {K : Params → PySem.W.Frag} (hn : l.most = some 63) (hdf : d.params.defaults = [])
    (hY : ∀ (w : World) (h : Heap), YP w h → (K w.params).In h)
    (F : ∀ (w : World) (mg : Str → Option Value) (fa : Addr) (h : Heap), (K w.params).In h → h.Ns mainGlobals mg → mg d.name = some (.ref fa) →
      ∃ fd : FuncData, (∀ (s : Shared) (u : Value), BindsTo s fd ⟨[u], []⟩ [("_law_script", u)]) ∧ ∀ base : Heap, (K w.params).In base → base.Ns mainGlobals mg → FnOk l.prog w (K w.params) mg base CX0 12 fa fd ["_law_script"] (spLaw (K w.params))) :
    PySem.W.WalkO q loose XP YP l.row.toRowW d [] (fun f vs => PySem.call f vs) :=
  L2.walk_of (n := 63) (k := 12) (x := "_law_script") (CX := fun _ => CX0) (sp := fun w => spLaw (K w.params)) hn (by decide) hdf ⟨rfl, by decide, by decide⟩ hY F (fun _ _ a ns hl _ hS => ⟨a, ns, rfl, hS, hl, fun _ => rfl⟩) fun _ _ _ _ _ z => z
end K
open PySem PySem.W PyProof.Rows
set_option maxRecDepth 100000 in
set_option maxHeartbeats 0 in
theorem PySem.Challenge.cw_swapslip_k10_letters_written_holds : PySem.Challenge.rw_swapslip_k10_letters_written.Holds := by
  w_on; o_law; k_head; (case hw => w_witness2)
  k_fill
  refine K.walk (l := PySem.Challenge.rw_swapslip_k10_letters_written) rfl rfl (fun w h Y => PySem.W.kIn_of Y) ?F
  case F =>
    intro w mg fa h KX G hmg
    refine' K.all_mk KX G hmg ?a0 ?l0 ?c0 ?k0 ?a1 ?l1 ?c1 ?k1 ?a2 ?l2 ?c2 ?k2 ?a3 ?l3 ?c3 ?k3 ?a4 ?l4 ?c4 ?k4 ?a5 ?l5 ?c5 ?k5 ?a6 ?l6 ?c6 ?k6 ?a7 ?l7 ?c7 ?k7 ?a8 ?l8 ?c8 ?k8 ?a9 ?l9 ?c9 ?k9 ?a10 ?l10 ?c10 ?k10 ?a11 ?l11 ?c11 ?k11 ?a12 ?l12 ?c12 ?k12 ?a13 ?l13 ?c13 ?k13 ?a14 ?l14 ?c14 ?k14 ?aF ?lF ?eh1 ?eh2 ?eh3 ?eh4 ?lowF ?lTA ?lTB ?lTC ?lTD ?zDict ?coMF ?zlen ?zrange ?zlist ?ztuple ?zisinstance ?zbool ?zint ?zstr ?zall ?zzip ?zsum ?zmin ?zsorted ?zabs ?zenumerate
    (case a0 => k_is)
    (case l0 => k_is)
    (case c0 => k_is)
    (case k0 => k_is)
    (case a1 => k_is)
    (case l1 => k_is)
    (case c1 => k_is)
    (case k1 => k_is)
    (case a2 => k_is)
    (case l2 => k_is)
    (case c2 => k_is)
    (case k2 => k_is)
    (case a3 => k_is)
    (case l3 => k_is)
    (case c3 => k_is)
    (case k3 => k_is)
    (case a4 => k_is)
    (case l4 => k_is)
    (case c4 => k_is)
    (case k4 => k_is)
    (case a5 => k_is)
    (case l5 => k_is)
    (case c5 => k_is)
    (case k5 => k_is)
    (case a6 => k_is)
    (case l6 => k_is)
    (case c6 => k_is)
    (case k6 => k_is)
    (case a7 => k_is)
    (case l7 => k_is)
    (case c7 => k_is)
    (case k7 => k_is)
    (case a8 => k_is)
    (case l8 => k_is)
    (case c8 => k_is)
    (case k8 => k_is)
    (case a9 => k_is)
    (case l9 => k_is)
    (case c9 => k_is)
    (case k9 => k_is)
    (case a10 => k_is)
    (case l10 => k_is)
    (case c10 => k_is)
    (case k10 => k_is)
    (case a11 => k_is)
    (case l11 => k_is)
    (case c11 => k_is)
    (case k11 => k_is)
    (case a12 => k_is)
    (case l12 => k_is)
    (case c12 => k_is)
    (case k12 => k_is)
    (case a13 => k_is)
    (case l13 => k_is)
    (case c13 => k_is)
    (case k13 => k_is)
    (case a14 => k_is)
    (case l14 => k_is)
    (case c14 => k_is)
    (case k14 => k_is)
    (case aF => k_is)
    (case lF => k_is)
    (case eh1 => first | rfl | k_is)
    (case eh2 => first | rfl | k_is)
    (case eh3 => first | rfl | k_is)
    (case eh4 => first | rfl | k_is)
    (case lowF => first | rfl | decide | k_is)
    (case lTA => k_is)
    (case lTB => k_is)
    (case lTC => k_is)
    (case lTD => k_is)
    (case zDict => k_is)
    (case coMF => k_is)
    (case zlen => k_is)
    (case zrange => k_is)
    (case zlist => k_is)
    (case ztuple => k_is)
    (case zisinstance => k_is)
    (case zbool => k_is)
    (case zint => k_is)
    (case zstr => k_is)
    (case zall => k_is)
    (case zzip => k_is)
    (case zsum => k_is)
    (case zmin => k_is)
    (case zsorted => k_is)
    (case zabs => k_is)
    (case zenumerate => k_is)
