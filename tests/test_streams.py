"""Streams: points 0.2 and 7.1 to 7.3."""

import unittest
from itertools import product

from tickrings.errors import StreamFull, TickringsError
from tickrings.streams import ReadStream, WriteStream


def lost(many):
    return ("lost", many)


def count_bytes(items):
    return len([item for item in items if not isinstance(item, tuple)])


def merged(items):
    """The items with adjacent marks as one, by the words of point 7.1."""
    found = []
    for item in items:
        if isinstance(item, tuple) and found and isinstance(found[-1], tuple):
            found.append(lost(found.pop()[1] + item[1]))
        else:
            found.append(item)
    return found


class ReadStreamCase(unittest.TestCase):
    def seen(self, stream):
        return [stream.contents(), stream.space(), stream.room]

    def stream(self, items, room=16):
        stream = ReadStream(room)
        self.assertIsNone(stream.append(items))
        return stream

    def refused(self, space, stream, items):
        before, given = self.seen(stream), list(items)
        with self.assertRaises(StreamFull) as caught:
            stream.append(items)
        self.assertEqual(caught.exception.space, space)
        self.assertEqual([self.seen(stream), items], [before, given])


class AppendTest(ReadStreamCase):
    def test_a_new_stream_is_empty(self):
        for room in (16, 40, 64):
            self.assertEqual(self.seen(ReadStream(room)), [[], room, room])

    def test_an_empty_list_changes_nothing(self):
        for items in ([], [1, 2], [lost(3)], list(range(16))):
            stream = self.stream(items)
            stream.append([])
            self.assertEqual(self.seen(stream), [items, 16 - count_bytes(items), 16])

    def test_items_are_appended_in_order(self):
        stream = self.stream([0, lost(1), 255])
        stream.append([7])
        stream.append([lost(2), 8, lost(3)])
        self.assertEqual(self.seen(stream), [[0, lost(1), 255, 7, lost(2), 8, lost(3)], 12, 16])

    def test_adjacent_marks_within_a_list_become_one(self):
        stream = self.stream([lost(1), lost(2), lost(3), 5, lost(4), lost(6)])
        self.assertEqual(self.seen(stream), [[lost(6), 5, lost(10)], 15, 16])

    def test_adjacent_marks_across_two_lists_become_one(self):
        stream = self.stream([5, lost(1)])
        stream.append([lost(2), lost(3), 6])
        stream.append([lost(4)])
        stream.append([lost(5)])
        self.assertEqual(stream.contents(), [5, lost(6), 6, lost(9)])

    def test_a_byte_keeps_marks_apart(self):
        stream = self.stream([lost(1), 0, lost(2)])
        stream.append([0])
        stream.append([lost(3)])
        self.assertEqual(stream.contents(), [lost(1), 0, lost(2), 0, lost(3)])

    def test_an_empty_list_does_not_keep_marks_apart(self):
        stream = self.stream([lost(1)])
        stream.append([])
        stream.append([lost(2)])
        self.assertEqual(stream.contents(), [lost(3)])

    def test_marks_around_bytes_that_were_read_become_one(self):
        stream = self.stream([4, lost(1), 5])
        self.assertEqual(stream.read(2), [4, lost(1), 5])
        stream.append([lost(2)])
        stream.append([lost(1), 6])
        self.assertEqual(stream.contents(), [lost(3), 6])

    def test_every_short_run_of_lists_agrees_with_the_document(self):
        lists = [[], [1], [lost(2)], [lost(1), lost(1)], [3, lost(4)], [lost(5), 6]]
        for chosen in product(lists, repeat=4):
            stream, wanted = ReadStream(16), []
            for items in chosen:
                stream.append(items)
                wanted = merged(wanted + items)
                self.assertEqual(self.seen(stream), [wanted, 16 - count_bytes(wanted), 16])

    def test_only_bytes_count(self):
        stream = self.stream([lost(1000), 1, lost(9), 2])
        self.assertEqual(stream.space(), 14)
        stream = self.stream([item for at in range(16) for item in (lost(at + 1), at)])
        self.assertEqual([len(stream.contents()), stream.space()], [32, 0])
        stream.append([lost(50)])
        self.assertEqual([len(stream.contents()), stream.space()], [33, 0])

    def test_a_list_that_just_fits(self):
        for room in (16, 17, 64):
            data = list(range(room))
            self.assertEqual(self.seen(self.stream(data, room)), [data, 0, room])
            stream = self.stream(data[:3], room)
            stream.append(data[3:] + [lost(1)])
            self.assertEqual(self.seen(stream), [data + [lost(1)], 0, room])

    def test_a_list_with_one_byte_more_is_refused(self):
        for room in (16, 17, 64):
            for held in (0, 1, room - 1, room):
                stream = self.stream(list(range(held)), room)
                self.refused(room - held, stream, [9] * (room - held + 1))
                self.refused(room - held, stream, [9] * (room + 5))
                stream.append([9] * (room - held))
                self.assertEqual(stream.space(), 0)

    def test_a_refused_list_with_marks_leaves_the_stream_as_it_was(self):
        stream = self.stream([1] * 14 + [lost(2)])
        self.refused(2, stream, [lost(5), 3, lost(1), 4, 5])
        self.refused(2, stream, [lost(5), lost(5), 3, 4, 5, lost(1)])
        stream.append([lost(5), 3, lost(1), 4, lost(7)])
        self.assertEqual(stream.contents(), [1] * 14 + [lost(7), 3, lost(1), 4, lost(7)])
        self.refused(0, stream, [8])

    def test_the_error_is_one_of_the_program(self):
        with self.assertRaises(TickringsError):
            ReadStream(16).append([0] * 17)

    def test_space_grows_again_with_reads(self):
        stream = self.stream(list(range(16)) + [lost(2)])
        for many in range(1, 17):
            stream.read(1)
            self.assertEqual(stream.space(), many)
        self.refused(16, stream, [1] * 17)
        self.assertEqual(stream.contents(), [lost(2)])


class ReadTest(ReadStreamCase):
    def test_a_read_of_0_takes_nothing(self):
        for items in ([], [1], [lost(2)], [lost(2), 1]):
            stream = self.stream(items)
            self.assertEqual(stream.read(0), [])
            self.assertEqual(stream.contents(), items)

    def test_reads_of_fewer_of_just_as_many_and_of_more_bytes_than_are_held(self):
        for n in range(1, 9):
            stream = self.stream([1, 2, 3, 4])
            self.assertEqual(stream.read(n), [1, 2, 3, 4][:n])
            self.assertEqual(self.seen(stream), [[1, 2, 3, 4][n:], 12 + min(n, 4), 16])

    def test_an_empty_stream_gives_an_empty_list(self):
        stream = ReadStream(16)
        for n in (0, 1, 64, 1000):
            self.assertEqual(stream.read(n), [])

    def test_a_mark_in_front_is_taken_along(self):
        stream = self.stream([lost(3), 1, 2])
        self.assertEqual(stream.read(1), [lost(3), 1])
        self.assertEqual(self.seen(stream), [[2], 15, 16])

    def test_a_mark_between_is_taken_along(self):
        stream = self.stream([1, lost(3), 2, 4])
        self.assertEqual(stream.read(2), [1, lost(3), 2])
        self.assertEqual(stream.contents(), [4])

    def test_a_mark_behind_the_last_byte_stays(self):
        stream = self.stream([1, 2, lost(3), 4])
        self.assertEqual(stream.read(2), [1, 2])
        self.assertEqual(stream.contents(), [lost(3), 4])
        self.assertEqual(stream.read(1), [lost(3), 4])

    def test_a_mark_behind_all_bytes_is_taken_only_if_more_are_asked_for(self):
        for n, wanted in ((1, [1]), (2, [1, 2]), (3, [1, 2, lost(3)]), (9, [1, 2, lost(3)])):
            stream = self.stream([1, 2, lost(3)])
            self.assertEqual(stream.read(n), wanted)

    def test_a_stream_that_holds_marks_alone(self):
        for n in (1, 5, 64):
            stream = self.stream([lost(2), lost(3)])
            self.assertEqual([stream.space(), stream.read(n), stream.contents()], [16, [lost(5)], []])

    def test_the_byte_0_counts(self):
        stream = self.stream([0, 0, 0])
        self.assertEqual([stream.read(2), stream.contents()], [[0, 0], [0]])

    def test_every_read_of_every_short_stream_agrees_with_the_document(self):
        for items in product((7, lost(1)), repeat=5):
            items = merged(items)
            for n in range(8):
                stream, wanted, rest = self.stream(items), [], list(items)
                while count_bytes(wanted) < n and rest:
                    wanted.append(rest.pop(0))
                self.assertEqual(stream.read(n), wanted)
                self.assertEqual(stream.contents(), rest)


class ReadListsTest(ReadStreamCase):
    def test_the_given_list_is_neither_changed_nor_kept(self):
        items = [lost(1), lost(2), 3]
        stream = self.stream(items)
        self.assertEqual(items, [lost(1), lost(2), 3])
        items.append(4)
        items[0] = 9
        self.assertEqual(stream.contents(), [lost(3), 3])
        stream.read(9)
        self.assertEqual(items, [9, lost(2), 3, 4])

    def test_changing_a_returned_list_changes_nothing(self):
        stream = self.stream([1, lost(2), 3, 4])
        stream.contents().clear()
        taken = stream.read(1)
        taken.append(9)
        self.assertEqual(self.seen(stream), [[lost(2), 3, 4], 14, 16])

    def test_contents_may_be_appended_again(self):
        stream = self.stream([1, lost(2)])
        stream.append(stream.contents())
        self.assertEqual(stream.contents(), [1, lost(2), 1, lost(2)])

    def test_streams_do_not_share_their_items(self):
        first, second = ReadStream(16), ReadStream(16)
        first.append([1])
        self.assertEqual(self.seen(second), [[], 16, 16])


class WriteStreamTest(unittest.TestCase):
    def seen(self, stream):
        return [stream.contents(), stream.held(), stream.room]

    def test_a_new_stream_is_empty(self):
        for room in (16, 64):
            self.assertEqual(self.seen(WriteStream(room)), [[], 0, room])

    def test_a_list_that_fits(self):
        for room in (16, 64):
            for many in (1, room - 1, room):
                stream, data = WriteStream(room), list(range(many))
                self.assertEqual(stream.write(data), many)
                self.assertEqual(self.seen(stream), [data, many, room])

    def test_a_list_that_fits_in_part(self):
        for held in range(16):
            stream = WriteStream(16)
            stream.write([0] * held)
            data = list(range(100, 117))
            self.assertEqual(stream.write(data), 16 - held)
            self.assertEqual(self.seen(stream), [[0] * held + data[:16 - held], 16, 16])

    def test_a_list_that_does_not_fit_at_all(self):
        stream = WriteStream(16)
        stream.write(list(range(16)))
        for data in ([9], [9] * 64):
            self.assertEqual(stream.write(data), 0)
            self.assertEqual(self.seen(stream), [list(range(16)), 16, 16])

    def test_the_empty_list(self):
        for many in (0, 3, 16):
            stream = WriteStream(16)
            stream.write([5] * many)
            self.assertEqual(stream.write([]), 0)
            self.assertEqual(self.seen(stream), [[5] * many, many, 16])

    def test_a_refused_byte_is_not_kept(self):
        stream = WriteStream(16)
        stream.write(list(range(20)))
        self.assertEqual(stream.take(16), list(range(16)))
        self.assertEqual(self.seen(stream), [[], 0, 16])
        self.assertEqual(stream.write([50]), 1)
        self.assertEqual(stream.contents(), [50])

    def test_take_of_0_of_some_and_of_more_than_are_held(self):
        for n in range(8):
            stream = WriteStream(16)
            stream.write([1, 2, 3, 4])
            self.assertEqual(stream.take(n), [1, 2, 3, 4][:n])
            self.assertEqual(self.seen(stream), [[1, 2, 3, 4][n:], max(0, 4 - n), 16])
            self.assertEqual(stream.take(0), [])

    def test_an_empty_stream_gives_an_empty_list(self):
        stream = WriteStream(16)
        self.assertEqual([stream.take(n) for n in (0, 1, 100)], [[], [], []])

    def test_bytes_are_taken_in_order_while_others_come(self):
        stream, found, wanted = WriteStream(16), [], []
        for at in range(40):
            data = [at, at + 100]
            wanted += data[:stream.write(data)]
            found += stream.take(at % 4)
            self.assertEqual(found + stream.contents(), wanted)
            self.assertLessEqual(stream.held(), 16)

    def test_the_given_list_is_neither_changed_nor_kept(self):
        data = list(range(18))
        stream = WriteStream(16)
        stream.write(data)
        self.assertEqual(data, list(range(18)))
        data.clear()
        self.assertEqual(stream.contents(), list(range(16)))
        data = [1]
        stream = WriteStream(16)
        stream.write(data)
        stream.write([2])
        stream.take(1)
        self.assertEqual([data, stream.contents()], [[1], [2]])

    def test_changing_a_returned_list_changes_nothing(self):
        stream = WriteStream(16)
        stream.write([1, 2, 3])
        stream.contents().append(9)
        stream.take(1).append(9)
        self.assertEqual(self.seen(stream), [[2, 3], 2, 16])

    def test_streams_do_not_share_their_bytes(self):
        first, second = WriteStream(16), WriteStream(16)
        first.write([1])
        self.assertEqual(self.seen(second), [[], 0, 16])


class ExampleTest(unittest.TestCase):
    def test_the_examples_of_the_document(self):
        stream = ReadStream(16)
        stream.append([1, ("lost", 2)])
        stream.append([("lost", 3), 4])
        self.assertEqual(stream.read(1), [1])
        self.assertEqual(stream.read(1), [("lost", 5), 4])
        writer = WriteStream(2)
        self.assertEqual([writer.write([5, 6, 7]), writer.take(1), writer.write([8]), writer.contents()],
                         [2, [5], 1, [6, 8]])


if __name__ == "__main__":
    unittest.main()
